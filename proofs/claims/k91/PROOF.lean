import PyProof.Rows.All
import Wide.All
import OpenK.AllK
import Wide.FinOn
import Lean
import PyProof.EqAt
import PyProof.EqKinds
import PyProof.TupleCall
import PyProof.NeKinds
import PySem.Challenge.RW_cascade_k91_whole_each_move_is_of_its_ki
set_option maxHeartbeats 2000000
set_option Elab.async false
set_option linter.all false
set_option maxRecDepth 100000
abbrev ck:=@List.getElem?_eq_getElem
abbrev cA:=@List.getElem?_eq_some_iff
abbrev cj:=@List.length_map
abbrev ci:=@PySem.wpAny_bind
abbrev cK:=@List.mem_of_getElem?
abbrev cF:=@List.getElem?_map
abbrev dj:=@PySem.Heap.get?_push_of_some
abbrev cW:=@List.mem_singleton
abbrev dI:=@List.getD_eq_getElem?_getD
abbrev cu:=@PySem.wpAny_pure
abbrev cD:=@Nat.le_refl
abbrev dz:=@List.length_append
abbrev cO:=@List.mem_map
abbrev dR:=@Option.map_eq_some_iff
abbrev dC:=@List.mem_cons_self
abbrev eU:=@List.getElem?_append_right
abbrev di:=@List.mem_append
abbrev dJ:=@Array.length_toList
abbrev eV:=@List.getElem?_append_left
abbrev dq:=@List.mem_filter
abbrev cU:=@PySem.Heap.lt_size
abbrev dZ:=@PySem.Heap.get?_push_size
abbrev eO:=@List.mem_cons_of_mem
abbrev dW:=@List.size_toArray
abbrev dD:=@decide_eq_true
abbrev cI:=@PyProof.Rows.wpS_bind
abbrev db:=@PySem.sizeLine_eq
abbrev dt:=@Nat.le_trans
abbrev fi:=@List.mem_iff_getElem?
abbrev dE:=@List.mem_cons
abbrev fE:=@List.mem_append_right
abbrev dP:=@List.map_append
abbrev d9:=@decide_eq_false
abbrev eF:=@List.length_take
abbrev e9:=@Bool.false_ne_true
abbrev eX:=@List.append_assoc
abbrev cN:=@PyProof.Rows.wpS_pure
abbrev dH:=@Nat.ne_of_lt
abbrev fT:=@List.contains_iff_mem
abbrev eE:=@List.mem_range
abbrev fN:=@Nat.lt_of_lt_of_le
abbrev iJ:=@Array.getElem?_eq_getElem
abbrev fV:=@List.length_range
abbrev gX:=@List.length_filter_le
abbrev hG:=@List.getElem?_eq_none
abbrev gS:=@List.pairwise_append
abbrev fH:=@Option.some.inj
abbrev gb:=@Int.toNat_natCast
abbrev dn:=@congrArg
abbrev gE:=@of_decide_eq_true
abbrev iF:=@PySem.F.plainAttrs_list
abbrev iM:=@PySem.Heap.get?_update_other
abbrev mL:=@Nat.exists_eq_add_one_of_ne_zero
abbrev iC:=@Array.getElem?_toList
abbrev gI:=@List.take_length
abbrev fj:=@Nat.le_of_lt
abbrev fM:=@List.map_cons
abbrev g7:=@List.getElem?_inj
abbrev kq:=@Array.perm_iff_toList_perm
abbrev h9:=@List.take_add_one
abbrev gO:=@List.append_nil
abbrev gT:=@PySem.PassesOwn.never
abbrev lA:=@PySem.F.slot_list_append
abbrev ku:=@PySem.F.type_list_append
abbrev mB:=@List.pairwise_iff_getElem
abbrev nW:=@Array.getD_eq_getD_getElem?
abbrev je:=@Array.toList_append
abbrev iK:=@PySem.wpAny_call_entry
abbrev gQ:=@PySem.wpAny_holding
abbrev iw:=@Bool.eq_iff_iff
abbrev lF:=@List.take_append_drop
abbrev pz:=@PySem.F.slot_dict_keyiterator_next
abbrev i4:=@Bool.and_eq_true
abbrev iZ:=@List.getElem_mem
abbrev iT:=@List.nodup_cons
abbrev pS:=@List.Nodup.length_le_of_subset
abbrev mR:=@List.Pairwise.sublist
abbrev m7:=@List.length_eq_zero_iff
abbrev lK:=@List.map_congr_left
abbrev i9:=@List.length_cons
abbrev mq:=@List.mem_append_left
abbrev hI:=@List.map_map
abbrev hA:=@PyProof.Rows.wpS_forRange
abbrev gN:=@Nat.zero_le
abbrev lB:=@PySem.wpAny_setField_rec
abbrev oG:=@List.getElem?_take_of_lt
abbrev mz:=@beq_eq_false_iff_ne
abbrev mE:=@PySem.mem_of_lookup
abbrev mj:=@List.getElem?_range
abbrev ie:=@PySem.F.called_set
abbrev mJ:=@Nat.add_sub_cancel'
abbrev jt:=@List.mem_reverse
abbrev j5:=@Nat.le_add_right
abbrev gq:=@PySem.wpAny_mono
abbrev oo:=@PySem.wpAny_callSpecial?_slot
abbrev pC:=@List.pairwise_singleton
abbrev lJ:=@List.ext_getElem?
abbrev fc:=@PySem.boot_len
abbrev eC:=@Ne.symm
abbrev nR:=@PySem.Around.under_plainId
abbrev iq:=@PySem.W.mg_none_of
abbrev j4:=@PySem.W.kia_one
abbrev i5:=@Nat.lt_irrefl
abbrev uO:=@PySem.F.slot_dict_itemiterator_next
abbrev mX:=@PySem.wpAny_truthy_bool
abbrev mh:=@PySem.wpAny_newObj_type
abbrev oF:=@Classical.choose_spec
abbrev lM:=@PySem.codeAny_builtin
abbrev kS:=@PySem.wpAny_loadPart'
abbrev pE:=@PyProof.Rows.F.plain_set_update_loop
abbrev oI:=@List.mem_of_mem_take
abbrev mH:=@Nat.lt_succ_self
abbrev l6:=@List.lookup_cons
abbrev sI:=@Array.getElem?_eq_some_iff
abbrev oz:=@List.replicate_succ
abbrev nJ:=@List.pairwise_map
abbrev nP:=@List.foldl_append
abbrev oQ:=@List.filter_sublist
abbrev ux:=@Nat.sub_lt_left_of_lt_add
abbrev pX:=@PySem.Heap.get?_update_self
abbrev xJ:=@PySem.wpAny_typeNameOfWhole_itemiter
abbrev mM:=@Array.size_push
abbrev pA:=@PySem.wpAny_Call_Name_kw
abbrev sO:=@List.idxOf_lt_length_iff
abbrev vh:=@PySem.wpAny_typeNameOfWhole_keyiter
abbrev ro:=@PySem.lookup_relabel_local
abbrev qr:=@List.getElem?_of_mem
abbrev xO:=@PySem.F.slot_dict_keyiterator_iter
abbrev uH:=@Nat.add_sub_cancel_left
abbrev j6:=@Nat.ne_of_gt
abbrev jq:=@PySem.codeAny_mono
abbrev oT:=@PySem.wpAny_dictEntries
abbrev n9:=@PySem.wpAny_setState_of
abbrev vH:=@PyProof.Rows.callWith_type1
abbrev oj:=@List.length_drop
abbrev lV:=@PySem.Paired.length
abbrev rY:=@List.length_singleton
abbrev pT:=@List.filter_append
abbrev sm:=@List.Perm.append_left
abbrev pG:=@List.pairwise_cons
abbrev vI:=@List.drop_eq_getElem_cons
abbrev vd:=@Classical.byContradiction
abbrev wK:=@List.extract_eq_take_drop
abbrev oW:=@PySem.wpAny_passesOwn
abbrev pQ:=@List.take_sublist
abbrev pi:=@List.length_set
abbrev qi:=@Array.toList_push
abbrev pR:=@PySem.wpAny_pyIter_slot
abbrev py:=@Nat.not_lt_zero
abbrev pe:=@Nat.min_eq_left
abbrev pW:=@List.filter_congr
abbrev xt:=@List.Pairwise.imp_of_mem
abbrev mF:=@Nat.sub_self
abbrev ul:=@Nat.add_le_add_left
abbrev u5:=@PyProof.Rows.F.entry_set_update_loop
abbrev nM:=@PySem.wpAny_attempt
abbrev rX:=@PySem.F.plain_extend_loop
abbrev hX:=@PyProof.Rows.wpS_mono
abbrev v5:=@PySem.F.slot_list_index
abbrev vZ:=@PySem.F.type_list_index
abbrev pY:=@List.all_eq_true
abbrev qe:=@List.cons_append
abbrev qw:=@List.getElem_map
abbrev oi:=@PySem.Heap.size_push
abbrev jz:=@PyProof.Rows.boot_tuple
abbrev xg:=@List.take_of_length_le
abbrev wQ:=@List.length_pos_of_mem
abbrev xp:=@List.Perm.append_right
abbrev uI:=@Nat.lt_of_le_of_lt
abbrev sV:=@Nat.lt_of_le_of_ne
abbrev uB:=@List.getElem?_drop
abbrev um:=@decide_eq_true_iff
abbrev zn:=@List.countP_eq_length_filter
abbrev vV:=@List.length_replicate
abbrev qk:=@PySem.wpAny_dictEpoch
abbrev wk:=@List.perm_append_comm
abbrev nI:=@Int.zero_add
abbrev lN:=@beq_iff_eq
abbrev sf:=@Nat.lt_succ_of_lt
abbrev oY:=@PySem.plainId_quiet
abbrev kg:=@PyProof.Rows.wpS_modify
abbrev uc:=@Bool.eq_false_iff
abbrev vy:=@Array.toList_extract
abbrev v0:=@Array.toList_reverse
abbrev vJ:=@List.mem_erase_of_ne
abbrev Ag:=@PySem.Calls.call_function_entry
abbrev qx:=@PySem.wpAny_fieldsOf
abbrev t9:=@beq_self_eq_true
abbrev tj:=@PySem.wpAny_askSetting
abbrev vB:=@List.toList_toArray
abbrev vO:=@Nat.add_lt_add_left
abbrev om:=@Nat.le_of_eq
abbrev mQ:=@PySem.call_meets
abbrev lZ:=@PySem.wpAny_rule
abbrev yW:=@List.length_erase_of_mem
abbrev xM:=@PySem.W.callWith_K
abbrev pF:=@List.any_cons
abbrev ub:=@List.nil_append
abbrev ww:=@PySem.tupleKind_room_in1
abbrev sR:=@PyProof.Rows.get?_update_seq
abbrev qd:=@PyProof.Rows.listUpdate_at
abbrev wM:=@List.getElem_idxOf
abbrev Cd:=@List.flatten_replicate_singleton
abbrev yu:=@PySem.Calls.callWith_builtin
abbrev y4:=@PySem.wpAny_isOneOf_itemiter
abbrev BB:=@Array.getElem?_eq_none
abbrev xE:=@PySem.wpAny_pyIter_list
abbrev vl:=@List.any_eq_false
abbrev oA:=@Nat.le_succ
abbrev vW:=@List.flatten_cons
abbrev xC:=@List.nodup_append
abbrev BC:=@PySem.F.args_dict_itemiterator_next_1
abbrev wN:=@Nat.le_of_lt_succ
abbrev u9:=@Array.size_append
abbrev Fl:=@PySem.F.entry_dict_itemiterator_next
abbrev B0:=@PySem.F.args_dict_keyiterator_next_1
abbrev Ca:=@PySem.F.args_dict_keyiterator_iter_1
abbrev zd:=@Array.mem_of_getElem?
abbrev qv:=@Nat.zero_add
abbrev Bz:=@PyProof.Rows.boot_set
abbrev vD:=@Nat.le_of_not_lt
abbrev xv:=@List.any_eq_true
abbrev E8:=@PySem.F.entry_dict_keyiterator_next
abbrev Dc:=@PySem.F.entry_dict_keyiterator_iter
abbrev xD:=@Array.toList_map
abbrev vr:=@List.countP_cons
abbrev xq:=@List.nodup_range
abbrev AF:=@Array.mem_toList_iff
abbrev yl:=@Nat.le_sub_of_add_le
abbrev AR:=@List.mem_of_mem_drop
abbrev ti:=@Int.ofNat.inj
abbrev uR:=@PySem.wpAny_newList
abbrev Dv:=@List.dropLast_concat_getLast
abbrev sN:=@Bool.true_and
abbrev wg:=@PySem.wpAny_execs_nil
abbrev yI:=@PySem.W.plainGet_of
abbrev xf:=@List.of_mem_zip
abbrev wq:=@PySem.F.slot_int_rmul
abbrev vx:=@PySem.size_of_entries
abbrev Ae:=@PySem.wpAny_raiseNew_none
abbrev pI:=@PySem.wpAny_field
abbrev xh:=@PySem.wpAny_updateSeq
abbrev jj:=@PyProof.Rows.wpS_get
abbrev zB:=@List.map_eq_nil_iff
abbrev C3:=@PySem.Calls.Name_function_global
abbrev ET:=@Array.toList_setIfInBounds
abbrev Dr:=@List.nodup_iff_pairwise_ne
abbrev yB:=@PySem.wpAny_pyIter_tuple
abbrev uQ:=@Nat.lt_trans
abbrev uC:=@Nat.add_zero
abbrev AJ:=@Array.Perm.mem_iff
abbrev tm:=@Int.lt_trans
abbrev yD:=@List.getElem?_take
abbrev Bp:=@List.map_replicate
abbrev Aa:=@of_decide_eq_false
abbrev wm:=@Bool.false_and
abbrev uV:=@List.drop_zero
abbrev pH:=@PySem.wpAny_call
abbrev Bk:=@Option.isSome_map
abbrev qf:=@PySem.intKind_is
abbrev vC:=@PySem.wpAny_standAt
abbrev Bd:=@PySem.noFill_tuple_add
abbrev An:=@List.ext_getElem
abbrev vp:=@PySem.concat_meets
abbrev xG:=@List.map_nil
abbrev zj:=@List.foldl_cons
abbrev wP:=@Nat.add_comm
abbrev ye:=@PySem.wpAny_ite_false
abbrev Ak:=@PySem.codeAny_of_tree
abbrev Bs:=@PySem.wpAny_ite_split
abbrev AS:=@PyProof.Rows.entry_list_sort
abbrev v9:=@List.any_map
abbrev pZ:=@ite_congr
abbrev zr:=@Array.Perm.refl
abbrev yX:=@List.range_succ
abbrev Bu:=@PyProof.Rows.boot_isinstance
abbrev tT:=@PySem.typeIs_int
abbrev og:=@PyProof.Rows.wpS_lift
abbrev vf:=@PySem.wpAny_of_eq
abbrev wG:=@PyProof.Rows.seqEpoch_at
abbrev vS:=@List.map_id
section
open PySem
abbrev gi:=List (List (List Nat))
abbrev LN:=List (List Nat)
abbrev cf:=List Nat
abbrev VP:=Value -> Shared -> Prop
abbrev AO:=List (Addr × Obj)
abbrev SV:=Str -> Option Value
abbrev As:=List Addr
abbrev Vs:=List Value
abbrev AV:=Array Value
abbrev Zs:=List Int
abbrev Ss:=List Str
abbrev Sh:=Shared
abbrev Vl:=Value
abbrev Pg:=Program
abbrev Fd:=FuncData
abbrev Ar:=Around
end
abbrev wA:=@if_neg
abbrev wB:=@if_pos
abbrev wC:=@absurd
abbrev wE:=@False.elim
open PySem in
abbrev Ad:=Addr
namespace L2
open PySem PySem.Spec PyProof.Rows
abbrev cZ:=Sum Int Str
def rm:cZ->Vl->Bool
 | .inl k,v=>Value.isInt k v
 | .inr x,v=>Value.isStrOf x v
def yL(w:World):cZ->Int
 | .inl k=>hashInt k
 | .inr x=>hashStr w x
theorem mN: ∀{k:cZ} {v:Vl},rm k v=true->(∃i t,k=Sum.inl i/\v=Value.int i t)∨(∃x t,k=Sum.inr x/\v=Value.str x t)
 | .inl i,v,h=>by
  obtain⟨t,e⟩:=Value.isInt_shape (k:=i) (v:=v) h;exact .inl ⟨i,t,rfl,e⟩
 | .inr x,v,h=>by
  obtain⟨t,e⟩:=Value.isStrOf_shape (x:=x) (v:=v) h;exact .inr ⟨x,t,rfl,e⟩
def Jx(i:Int)(t:Tok):rm (.inl i) (.int i t)=true:=by simp[rm,Value.isInt]
def FU(x:Str)(t:Tok):rm (.inr x) (.str x t)=true:=by simp[rm,Value.isStrOf]
def II(a b:Int):decide ((Sum.inl a:cZ)=Sum.inl b)=(a==b):=by
 by_cases e:a=b
 .subst e;simp
 .have h: ¬(Sum.inl a:cZ)=Sum.inl b:=λq=>e (Sum.inl.inj q);rw[d9 h];exact(mz.mpr e).symm
def Jv(a b:Str):decide ((Sum.inr a:cZ)=Sum.inr b)=decide (a=b):=by
 by_cases e:a=b
 .subst e;simp
 .have h: ¬(Sum.inr a:cZ)=Sum.inr b:=λq=>e (Sum.inr.inj q);rw[d9 h,d9 e]
def L8(a:Int)(b:Str):decide ((Sum.inl a:cZ)=Sum.inr b)=false:=d9 (λq=>nomatch q)
def MD(a:Str)(b:Int):decide ((Sum.inr a:cZ)=Sum.inl b)=false:=d9 (λq=>nomatch q)
def iV(c:Pg)(w:World):PySem.KeyKind c w cZ where
 is:=rm
 hash:=yL w
 inj:=λv a b l g=>by
  rcases mN l with⟨i,t,rfl,rfl⟩|⟨x,t,rfl,rfl⟩
  .rcases mN g with⟨j,u,rfl,e⟩|⟨y,u,rfl,e⟩
   .injection e with d _;rw[d]
   .exact nomatch e
  .rcases mN g with⟨j,u,rfl,e⟩|⟨y,u,rfl,e⟩
   .exact nomatch e
   .injection e with d _;rw[d]
 byValue:=λk v h=>by
  rcases mN h with⟨i,t,rfl,rfl⟩|⟨x,t,rfl,rfl⟩<;>rfl
 pyHash:=λf h=>by
  rcases mN f with⟨i,t,rfl,rfl⟩|⟨x,t,rfl,rfl⟩
  .exact wpAny_pyHash_int h
  .exact wpAny_pyHash_str h
 eqBool:=λm f h=>by
  rcases mN m with⟨i,t,rfl,rfl⟩|⟨x,t,rfl,rfl⟩
  .rcases mN f with⟨j,u,rfl,rfl⟩|⟨y,u,rfl,rfl⟩
   .rw[II]at h;exact wpAny_eqBool_int h
   .rw[L8]at h;exact SeqAt.EqAt.int_str i t y u _ _ _ _ h
  .rcases mN f with⟨j,u,rfl,rfl⟩|⟨y,u,rfl,rfl⟩
   .rw[MD]at h;exact SeqAt.EqAt.str_int x t j u _ _ _ _ h
   .rw[Jv]at h;exact wpAny_eqBool_str h
 «strs»:=λk x t v h=>by
  rcases mN h with⟨i,u,rfl,e⟩|⟨y,u,rfl,e⟩
  .exact nomatch e
  .injection e with d _
   subst d;cases v<;>rfl
def La(a:Pg)(w:World)(i:Int)(t:Tok):(iV a w).is (.inl i) (.int i t)=true:=Jx i t
def KJ(a:Pg)(w:World)(x:Str)(t:Tok):(iV a w).is (.inr x) (.str x t)=true:=FU x t
inductive V where
 |non|bl (b:Bool)|int (i:Int)|str (x:Str)|byt (b:Array UInt8)|flt (b:UInt64)|ref (a:Ad)|ty (n:String)
 deriving DecidableEq
def RelV:V->Vl->Prop
 | .non,u=>u=Value.none
 | .bl b,u=>u=Value.bool b
 | .int i,u=> ∃t,u=Value.int i t
 | .str x,u=> ∃t,u=Value.str x t
 | .byt b,u=> ∃t,u=Value.bytes b t
 | .flt b,u=> ∃t,u=Value.float b t
 | .ref a,u=>u=Value.ref a
 | .ty n,u=>u=Value.type n
abbrev Vals:List V->List Vl->Prop:=Paired RelV
def Vals.length{xs:List V}{a:Vs}(r:Vals xs a):xs.length=a.length:=lV r
theorem Vals.get: ∀{a:List V} {b:Vs} {i:Nat} {x:V},Vals a b->a[i]? =some x-> ∃u,b[i]? =some u/\RelV x u
 |_,_,_,_,.nil,e=>by simp at e
 |_,_,0,_,.cons r _,e=>by simp at e;subst e;exact⟨_,rfl,r⟩
 |_,_,i+1,x,.cons _ t,e=>by
  obtain⟨u,c,d⟩:=Vals.get (i:=i) (x:=x) t (by simpa using e);exact⟨u,by simpa using c,d⟩
theorem Vals.set{x:V}{u:Vl}(r:RelV x u): ∀{xs:List V} {a:Vs} (i:Nat),Vals xs a->Vals (xs.set i x) (a.set i u)
 |_,_,_,.nil=> .nil
 |_,_,0,.cons _ t=> .cons r t
 |_,_,i+1,.cons q t=> .cons q (Vals.set r i t)
theorem Vals.append: ∀{a b:List V} {c d:Vs},Vals a c->Vals b d->Vals (a++b) (c++d)
 |_,_,_,_,.nil,s=>s
 |_,_,_,_,.cons r t,s=> .cons r (Vals.append t s)
theorem Vals.take: ∀{a:List V} {b:Vs} (n:Nat),Vals a b->Vals (a.take n) (b.take n)
 |_,_,0,_=> .nil
 |_,_,_+1,.nil=> .nil
 |_,_,n+1,.cons r t=> .cons r (Vals.take n t)
theorem Vals.drop: ∀{a:List V} {b:Vs} (n:Nat),Vals a b->Vals (a.drop n) (b.drop n)
 |_,_,0,r=>r
 |_,_,_+1,.nil=> .nil
 |_,_,n+1,.cons _ t=>Vals.drop n t
def RelO:Option V->Option Vl->Prop
 |some v,some u=>RelV v u
 |none,none=>True
 |_,_=>False
def KV{a:Type}:List (a×V)->List (a×Vl)->Prop:=Paired λ(p:a×V) (q:a×Vl)=>p.1=q.1/\RelV p.2 q.2
def kV:cZ->V
 | .inl i=> .int i
 | .inr x=> .str x
inductive HO where
 |lst (xs:List V)
 |tup (xs:List V)
 |dK (kvs:List (cZ×V))|dT (kvs:List (List cZ×V))
 |set (S:Int->Bool) (n:Nat)
 |ins (C dx:Ad) (fs:List (Str×V))
 |own (x:Ad)
 |xd (fs:List (Str×V))
 |met (f x:Ad)
 |rng (lo hi:Int)
 |frz (o:Obj) (u:HO)
 |tbl (ps:AV)
 |ext (φ:Heap->Prop)
abbrev Hp:=Ad->Option HO
def cg(H:Hp)(a:Ad)(o:HO):Hp:=λb=>if b=a then some o else H b
def cn{H:Hp}{a:Ad}{o:HO}:cg H a o a=some o:=by unfold cg;rw[wB rfl]
def cw{H:Hp}{a b:Ad}{o:HO}(h:b≠a):cg H a o b=H b:=by unfold cg;rw[wA h]
def IA{H:Hp}{a:Ad}{o u:HO}:cg (cg H a o) a u=cg H a u:=by
 funext b;unfold cg;split<;>rfl
def i7{H:Hp}{a b:Ad}{o u:HO}(h:H a=some o)(c:H b=some u)(d:o≠u):a≠b:=by
 intro e;subst e;rw[h]at c;exact d (fH c)
def Ep:HO->Nat
 | .lst _=>0
 | .tup _=>1
 | .dK _=>2
 | .dT _=>3
 | .tbl _=>4
 | .ext _=>5
 | .rng _ _=>6
 | .frz _ _=>7
 |_=>8
def nE{H:Hp}{a b:Ad}{o u:HO}(h:H a=some o)(k:H b=some u)(d:(Ep o==Ep u)=false:=by rfl):a≠b:=i7 h k λe=>by rw[e,t9]at d;cases d
def dG{H:Hp}{a b:Ad}{o:HO}(h:H a=some o)(c:H b=none):a≠b:=by
 intro e;subst e;rw[h]at c;cases c
def TupD(h:Heap)(a:Ad)(b:AV):Prop:= ∃o,h.get? a=some o/\o.cls= .type "tuple"/\ ∃n,o.data= .seq b n/\o.dict=none
def TupD.is{h:Heap}{a:Ad}{b:AV}(p:TupD h a b):IsTup h a b:=let⟨o,e,c,n,d,_⟩:=p;⟨o,e,c,n,d⟩
def TupD.new(h:Heap)(a:AV):TupD (h.push {cls:= .type "tuple",data:= .seq a}) h.objs.size a:=⟨_,dZ _ rfl,rfl,_,rfl,rfl⟩
section
variable(P:Pg)(w:World)
def ObjOk(H:Hp)(h:Heap)(a:Ad):HO->Prop
 | .lst d=>d.length<=sizeLine/\ ∃(b:Vs) (n:Nat),Vals d b/\h.get? a=some {cls:= .type "list",data:= .seq b.toArray n}
 | .tup d=>d.length<=sizeLine/\ ∃b:Vs,Vals d b/\TupD h a b.toArray
 | .dK c=>c.length<=sizeLine/\(a==sysModules)=false/\ ∃j,KV c j/\h.DictOf (iV P w) a j
 | .dT c=>c.length<=sizeLine/\(a==sysModules)=false/\ ∃d:List (List cZ×Ad×Vl),
   Paired (λ(p:List cZ×V) (q:List cZ×Ad×Vl)=>p.1=q.1/\H q.2.1=some (.tup (p.1.map kV))/\RelV p.2 q.2.2) c d/\
   ∃o k r,h.get? a=some o/\o.ExactDict/\o.data= .dict k r/\k.toList=d.map (entryOfKey (tupleKind (iV P w)))/\(d.map (·.1)).Nodup
 | .set S n=>h.SetOf (intKind P w) a S n
 | .ins C g fs=>H g=some (.own a)/\fs.length<=1000/\g≠a/\h.get? a=some (PySem.W.instObj C g)/\
   ∃e,h.Ns1 g e/\(∀f,RelO (fs.lookup f) (e f))/\PySem.Within e (fs.map (·.1))
 | .own _=> ∃o,h.get? a=some o
 | .xd fs=> ∃e,h.Ns1 a e/\ ∀f,RelO (fs.lookup f) (e f)
 | .rng lo s=> ∃t u v,h.get? a=some {cls:= .type "range",data:= .fields #[.int lo t,.int s u,.int 1 v]}
 | .frz o u=>h.get? a=some o/\ObjOk H h a u
 | .tbl y=>h.get? a=some {cls:= .none,data:= .fields y}
 | .met f x=>h.get? a=some (PySem.W.methodObj (.ref f) (.ref x))
 | .ext i=>i h/\(∃o,h.get? a=some o)/\ ∀l m:Heap,i l->(∀o,l.get? a=some o->m.get? a=some o)->i m
def HOk(H:Hp)(h:Heap):Prop:= ∀a o,H a=some o->ObjOk P w H h a o
end
section
variable{P:Pg}{w:World}{H H':Hp}{h h':Heap}{a:Ad}{o:HO}
def ObjOk.lt(x:ObjOk P w H h a o):a<h.objs.size:=by
 cases o with
 |lst xs=>obtain⟨_,_,_,_,e⟩:=x;exact cU e
 |tup xs=>obtain⟨_,_,_,p⟩:=x;exact p.is.lt
 |dK b=>obtain⟨_,_,_,_,o,_,_,e,_⟩:=x;exact cU e
 |dT b=>obtain⟨_,_,_,_,o,_,_,e,_⟩:=x;exact cU e
 |set S n=>obtain⟨o,_,_,_,e,_⟩:=x;exact cU e
 |ins C c fs=>obtain⟨_,_,_,e,_⟩:=x;exact cU e
 |own y=>obtain⟨_,e⟩:=x;exact cU e
 |xd fs=>obtain⟨_,⟨_,_,_,e,_⟩,_⟩:=x;exact cU e
 |rng lo d=>obtain⟨_,_,_,e⟩:=x;exact cU e
 |frz g u=>obtain⟨e,_⟩:=x;exact cU e
 |tbl i=>exact cU (show h.get? a=some _ from x)
 |met f y=>exact cU (show h.get? a=some _ from x)
 |ext j=>obtain⟨_,⟨_,e⟩,_⟩:=x;exact cU e
theorem Paired.mapP{e g:Type}{F G:e->g->Prop}: ∀{c:List e} {d:List g},Paired F c d->(∀a b,F a b->G a b)->Paired G c d
 |_,_,.nil,_=> .nil
 |_,_,.cons r t,f=> .cons (f _ _ r) (Paired.mapP t f)
def ObjOk.stay(x:ObjOk P w H h a o)(k: ∀b u,(b=a∨H b=some (.own a))->h.get? b=some u->h'.get? b=some u)
  (E: ∀b,H b=some (.own a)->H' b=some (.own a)) (ht: ∀b m,H b=some (.tup m)->H' b=some (.tup m)):ObjOk P w H' h' a o:=by
 induction o with
 |lst m=>obtain⟨z,l,n,r,e⟩:=x;exact⟨z,l,n,r,k _ _ (.inl rfl) e⟩
 |tup m=>obtain⟨z,l,r,g,e,c⟩:=x;exact⟨z,l,r,g,k _ _ (.inl rfl) e,c⟩
 |dK s=>obtain⟨z,y,G,r,g,i,j,e,c⟩:=x;exact⟨z,y,G,r,g,i,j,k _ _ (.inl rfl) e,c⟩
 |dT s=>
  obtain⟨z,y,m,r,g,i,j,e,c⟩:=x;exact⟨z,y,m,Paired.mapP r λp q z=>⟨z.1,ht _ _ z.2.1,z.2.2⟩,g,i,j,k _ _ (.inl rfl) e,c⟩
 |set S n=>obtain⟨g,i,j,t,e,c⟩:=x;exact⟨g,i,j,t,k _ _ (.inl rfl) e,c⟩
 |ins C M fs=>
  obtain⟨d,z,I,e,A,⟨B,i,j,J,c⟩,r⟩:=x;exact⟨E _ d,z,I,k _ _ (.inl rfl) e,A,⟨B,i,j,k _ _ (.inr d) J,c⟩,r⟩
 |own y=>obtain⟨g,e⟩:=x;exact⟨g,k _ _ (.inl rfl) e⟩
 |xd fs=>obtain⟨A,⟨B,i,j,e,c⟩,r⟩:=x;exact⟨A,⟨B,i,j,k _ _ (.inl rfl) e,c⟩,r⟩
 |rng lo N=>obtain⟨t,u,v,e⟩:=x;exact⟨t,u,v,k _ _ (.inl rfl) e⟩
 |frz g u L=>obtain⟨e,q⟩:=x;exact⟨k _ _ (.inl rfl) e,L q⟩
 |tbl D=>
  have e:h.get? a=some {cls:= .none,data:= .fields D}:=x;show h'.get? a=some {cls:= .none,data:= .fields D};exact k a _ (.inl rfl) e
 |met f y=>
  have e:h.get? a=some (PySem.W.methodObj (.ref f) (.ref y)):=x;show h'.get? a=some (PySem.W.methodObj (.ref f) (.ref y));exact k a _ (.inl rfl) e
 |ext O=>obtain⟨p,⟨o,e⟩,st⟩:=x;exact⟨st _ _ p λo q=>k _ _ (.inl rfl) q,⟨o,k _ _ (.inl rfl) e⟩,st⟩
def HOk.lt(x:HOk P w H h)(e:H a=some o):a<h.objs.size:=(x a o e).lt
def HOk.fresh(x:HOk P w H h)(e:h.objs.size<=a):H a=none:=by
 cases q:H a with
 |none=>rfl
 |some u=>exact wC (fN (x.lt q) e) (i5 _)
def HOk.kept(x:HOk P w H h)(k: ∀b u,h.get? b=some u->h'.get? b=some u):HOk P w H h':=λa o e=>
 (x a o e).stay (λb u _ q=>k b u q) (λ_ q=>q) λ_ _ q=>q
def HOk.laid(x:HOk P w H h)(k: ∀b u,h.get? b=some u->h'.get? b=some u)(g:h.objs.size<=a)(new:ObjOk P w (cg H a o) h' a o):HOk P w (cg H a o) h':=λb u e=>by
 have d:=x.fresh g;by_cases f:b=a
 .subst f;rw[cn]at e;cases e;exact new
 .rw[cw f]at e;exact(x b u e).stay (λc v _ q=>k c v q) (λc q=>by rw[cw (dG q d)];exact q) λc i q=>by rw[cw (dG q d)];exact q
end
def Rd(H:Hp)(a:Ad)(u:HO):Prop:=H a=some u∨ ∃o,H a=some (.frz o u)
def Rd.ok{P:Pg}{w:World}{H:Hp}{h:Heap}{a:Ad}{u:HO}(r:Rd H a u)(x:HOk P w H h):ObjOk P w H h a u:=by
 rcases r with r|⟨o,r⟩
 .exact x a u r
 .obtain⟨_,q⟩:=x a _ r;exact q
def ug:Option HO->Prop
 |some (.lst _)=>True
 |some (.dK _)=>True
 |some (.dT _)=>True
 |some (.set _ _)=>True
 |some (.ins _ _ _)=>True
 |some (.ext _)=>True
 |_=>False
section
variable{P:Pg}{w:World}{H:Hp}{h h':Heap}{x e:Ad}{o':HO}
def HOk.write(ok:HOk P w H h)(g:ug (H x))(m:e=x∨H e=some (.own x))(k: ∀b u,b≠e->h.get? b=some u->h'.get? b=some u)(l: ∃u,h'.get? e=some u)
  (new:ObjOk P w (cg H x o') h' x o'):HOk P w (cg H x o') h':=λb u q=>by
 have d: ∀c y,H c=some (.own y)->c≠x:=λc y r z=>by subst z;rw[r]at g;exact g
 have f: ∀c i,H c=some (.tup i)->c≠x:=λc i r z=>by subst z;rw[r]at g;exact g
 by_cases j:b=x
 .subst j;rw[cn]at q;cases q;exact new
 .rw[cw j]at q;by_cases a:b=e
  .have n:H b=some (.own x):=by
    rcases m with z|z
    .exact wC (a.trans z) j
    .rw[a];exact z
   rw[q]at n;cases n;obtain⟨v,o⟩:=l;exact⟨v,by rw[a];exact o⟩
  .refine(ok b u q).stay (λc v hc r=>k c v ?_ r) (λc r=>by rw[cw (d c b r)];exact r) λc i r=>by rw[cw (f c i r)];exact r
   rcases hc with rfl|hc
   .exact a
   .rintro rfl
    rcases m with z|z
    .exact d c b hc z
    .rw[hc]at z;cases z;exact j rfl
end
structure Un(fs ex:As)(H H':Hp)(h h':Heap):Prop where
 keep: ∀b o,h.get? b=some o->H b=none->b∉fs->b∉ex->h'.get? b=some o
 slot: ∀b o,h.get? b=some o->H b=none->b∈fs->b∉ex-> ∃sl,h'.get? b=some {o with slots:=sl}
 free: ∀b o,h.get? b=some o->H b=none->b∉ex->H' b=none
 there: ∀b o,h.get? b=some o->b∉ex-> ∃o',h'.get? b=some o'
 tups: ∀b xs,H b=some (.tup xs)->H' b=some (.tup xs)
 frzs: ∀b o u,H b=some (.frz o u)->H' b=some (.frz o u)
 tbls: ∀b ps,H b=some (.tbl ps)-> ∃more,H' b=some (.tbl (ps++more))
section
variable{fs fs' ex ex':As}{H H1 H2:Hp}{h h1 h2 h':Heap}{a x e:Ad}{o:HO}
def Un.any(u:Un fs ex H H1 h h1){b:Ad}{ob:Obj}(q:h.get? b=some ob)(n:H b=none)(c:b∉ex): ∃sl,h1.get? b=some {ob with slots:=sl}:=by
 by_cases d:b∈fs
 .exact u.slot b ob q n d c
 .exact⟨ob.slots,u.keep b ob q n d c⟩
def Un.kept(k: ∀b u,h.get? b=some u->h'.get? b=some u):Un fs ex H H h h':=
 ⟨λb c q _ _ _=>k b c q,λb c q _ _ _=>⟨c.slots,k b c q⟩,λ_ _ _ n _=>n,λb c q _=>⟨c,k b c q⟩,λ_ _ q=>q,λ_ _ _ q=>q,λ_ d q=>⟨#[],by rw[q];simp⟩⟩
def Un.refl:Un fs ex H H h h:=Un.kept λ_ _ q=>q
def Un.laid(k: ∀b u,h.get? b=some u->h'.get? b=some u)(d:h.objs.size<=a)(c:H a=none):Un fs ex H (cg H a o) h h' where
 keep:=λb u q _ _ _=>k b u q
 slot:=λb u q _ _ _=>⟨u.slots,k b u q⟩
 free:=λb u q n _=>by rw[cw (dH (fN (cU q) d))];exact n
 there:=λb u q _=>⟨u,k b u q⟩
 tups:=λb f q=>by rw[cw (dG q c)];exact q
 frzs:=λb u f q=>by rw[cw (dG q c)];exact q
 tbls:=λb g q=>⟨#[],by rw[cw (dG q c),q];simp⟩
def Un.write(d:ug (H x))(l:e=x∨H e=some (.own x))(k: ∀b u,b≠e->h.get? b=some u->h'.get? b=some u)(f: ∃u,h'.get? e=some u):Un fs ex H (cg H x o) h h':=by
 have i: ∀b,H b=none->b≠x:=λb n z=>by subst z;rw[n]at d;exact d
 have j: ∀b,H b=none->b≠e:=λb n z=>by
  subst z
  rcases l with r|r
  .exact i b n r
  .rw[n]at r;cases r
 have g: ∀b u,H b=some u-> ¬ug (some u)->b≠x:=λb u q m z=>by subst z;rw[q]at d;exact m d
 refine⟨λb u q n _ _=>k b u (j b n) q,λb u q n _ _=>⟨u.slots,k b u (j b n) q⟩,λb u q n _=>by rw[cw (i b n)];exact n,λb u q _=>?_,
  λb p q=>by rw[cw (g b _ q λz=>z)];exact q,λb u p q=>by rw[cw (g b _ q λz=>z)];exact q,λb s q=>⟨#[],by rw[cw (g b _ q λz=>z),q];simp⟩⟩
 by_cases c:b=e
 .subst c;exact f
 .exact⟨u,k b u c q⟩
end
def vw(h:Heap)(H:Hp):As:=(List.range h.objs.size).filter λa=>(H a).isSome
def md(h:Heap)(H:Hp):Heap:=PySem.W.hideAll h (vw h H)
def Il(h:Heap)(H:Hp):(md h H).objs.size=h.objs.size:=PySem.W.hideAll_size _ _
def A0{h:Heap}{H:Hp}{b:Ad}{o:Obj}(e:h.get? b=some o)(n:H b=none):(md h H).get? b=some o:=
 PySem.W.hideAll_get _ e λa=>by
  have q:(H b).isSome=true:=(dq.mp a).2;rw[n]at q;simp at q
def Iw{h:Heap}{H:Hp}{b:Ad}{o:Obj}(e:(md h H).get? b=some o):h.get? b=some o/\H b=none:=by
 have a:h.get? b=some o:=PySem.W.of_hideAll (vw h H) e;refine⟨a,?_⟩;cases q:H b with
 |none=>rfl
 |some x=>
  have c:b∈vw h H:=dq.mpr ⟨eE.mpr (cU a),by simp[q]⟩;have z:(md h H).get? b=none:=PySem.W.hideAll_none (vw h H) c;rw[z]at e;cases e
def Ln(g h:Heap)(L:Ad):AO:=(List.range h.objs.size).filterMap λa=>if a=L∨(g.get? a).isSome=true then none else(h.get? a).map λo=>(a,o)
def rest(g h:Heap)(L d:Ad):AO:=(Ln g h L).filter λp=>decide (p.1≠d)
structure Mod(K:W.Frag)(mg:SV)(base:Heap):Prop where
 kin:K.In base
 glob:base.Ns mainGlobals mg
 blt: ∃mb,base.Ns builtinsNs mb/\ ∀x:Str,x≠"__name__"->mb x=bootBuiltins x
 nolimit:base.NoLimit
structure Cx where
 prog:Pg
 w:World
 K:W.Frag
 mg:SV
 base:Heap
 A:Ar
 N:Ss
 s₀:Sh
 H₀:Hp
 env:Env
 outer:List Env
 stack:List Env
 ex:As
 fn:Str->Bool
 calm:Bool
 pn:AO
 xe:VP
def iQ(l:List Env):As:=l.filterMap (·.frame)
abbrev Cx.fs(X:Cx):As:=iQ X.outer
def wO(a:Scope)(x:Str):Prop:=a.names.lookup x=some .local∨a.names.lookup x=some .cell∨a.names.lookup x=some .free
def tq(a:Scope)(x:Str):Prop:=a.names.lookup x=some .local∨a.names.lookup x=some .cell
def yc(a:Env)(h:Heap)(m:SV)(x:Str)(u:Vl):Prop:=
 (a.kindOf x=some .local/\m x=some u)∨((a.kindOf x=some .cell∨a.kindOf x=some .free)/\ ∃c,a.cells.lookup x=some c/\h.IsCell c (some u))
structure Cx.Ok(X:Cx):Prop where
 mod:Mod X.K X.mg X.base
 kind:X.env.scope.kind= .function
 glob:X.env.globals=mainGlobals
 blt:X.env.builtins=builtinsNs
 above:X.s₀.heap.objs.size<=X.env.locals
 inj: ∀x y c,X.env.cells.lookup x=some c->X.env.cells.lookup y=some c->x=y
 has: ∀x,(X.env.kindOf x=some .cell∨X.env.kindOf x=some .free)-> ∃c,X.env.cells.lookup x=some c
 cab: ∀x c,X.fn x=true->X.env.cells.lookup x=some c->X.s₀.heap.objs.size<=c
 hd:X.calm=true->X.A.handled=none
 frames:X.A.frames=some X.stack
 stk:X.stack=X.outer∨(X.stack=X.env::X.outer/\X.env.frame=some X.env.locals)
 exf: ∀b∈X.ex,b≠X.env.locals/\ ∀x c,X.env.cells.lookup x=some c->c≠b
 bs: ∀b o,X.base.get? b=some o->X.s₀.heap.get? b=some o/\X.H₀ b=none
 bsz:X.base.objs.size<=X.s₀.heap.objs.size
 noex: ∀b o,X.base.get? b=some o->b∉X.ex
 exfs: ∀b∈X.ex,b∉X.fs
 funs:X.s₀.heap.FunFrames X.base X.outer
 frf: ∀b∈X.fs,X.H₀ b=none
structure Inv(X:Cx)(za:AO)(σ:List (Option V))(H:Hp)(s:Sh):Prop where
 ok:X.Ok
 os:s.os=X.s₀.os
 bare:AllBare s.gens
 base:Un X.fs X.ex X.H₀ H X.s₀.heap s.heap
 loc: ∃m,s.heap.Ns X.env.locals m/\ ∀(i:Nat) (x:Str) (v:V),X.N[i]? =some x->σ[i]? =some (some v)->wO X.env.scope x-> ∃u,RelV v u/\yc X.env s.heap m x u
 cell: ∀x c,X.env.cells.lookup x=some c-> ∃v,s.heap.IsCell c v
 free:H X.env.locals=none
 freeC: ∀x c,X.env.cells.lookup x=some c->H c=none
 pin: ∀p∈X.pn++za,s.heap.get? p.1=some p.2/\H p.1=none/\p.1≠X.env.locals/\p.1∉X.fs/\ ∀v,p.2.data≠ .cell v
 hok:HOk X.prog X.w H s.heap
 len:σ.length=X.N.length
section
variable{X:Cx}{za:AO}{σ:List (Option V)}{H H':Hp}{s:Sh}{h':Heap}
def Cx.Ok.nofr(ok:X.Ok){b:Ad}{o:Obj}(e:X.base.get? b=some o):b∉X.fs:=λa=>by
 have:=(ok.funs.mem a).1;rw[e]at this;cases this
def Inv.bs(I:Inv X za σ H s): ∀b o,X.base.get? b=some o->s.heap.get? b=some o/\H b=none:=λb o e=>
 ⟨I.base.keep b o (I.ok.bs b o e).1 (I.ok.bs b o e).2 (I.ok.nofr e) (I.ok.noex b o e),I.base.free b o (I.ok.bs b o e).1 (I.ok.bs b o e).2 (I.ok.noex b o e)⟩
def Inv.bk(I:Inv X za σ H s): ∀b o,X.base.get? b=some o->s.heap.get? b=some o:=λb o e=>(I.bs b o e).1
def Inv.mod(I:Inv X za σ H s):Mod X.K X.mg X.base:=I.ok.mod
def Inv.kIn(I:Inv X za σ H s):X.K.In s.heap:=I.ok.mod.kin.keeps I.bk
def Inv.lt(I:Inv X za σ H s):X.env.locals<s.heap.objs.size:=let⟨_,a,_⟩:=I.loc;a.lt
def Inv.sz(I:Inv X za σ H s):X.s₀.heap.objs.size<=s.heap.objs.size:=dt I.ok.above (fj I.lt)
def Inv.nofs(I:Inv X za σ H s){a:Ad}(h:s.heap.objs.size<=a):a∉X.fs:=λb=>by
 obtain⟨_,o,c,_⟩:=I.ok.funs.mem b;exact wC (fN (cU c) (dt I.sz h)) (i5 _)
def Inv.cne(I:Inv X za σ H s): ∀x c,X.env.cells.lookup x=some c->c≠X.env.locals:=λx c e z=>by
 obtain⟨v,o,d,f⟩:=I.cell x c e;obtain⟨m,⟨g,h,i,a,b,_⟩,_⟩:=I.loc;rw[z,a]at d;cases d;rw[b]at f;cases f
def Inv.funs(I:Inv X za σ H s):s.heap.FunFrames X.base X.outer:=by
 have all: ∀(l:List Env),(∀b∈iQ l,b∈X.fs)->X.s₀.heap.FunFrames X.base l->s.heap.FunFrames X.base l:=by
  intro l
  induction l with
  |nil=>intro _ _;trivial
  |cons g r h=>
   intro f i;obtain⟨j,⟨L,o,a,k,m,n⟩,p⟩:=i;have c:L∈X.fs:=f L (by unfold iQ;rw[List.filterMap_cons,a];exact List.mem_cons_self);obtain⟨sl,e⟩:=I.base.slot L o m (I.ok.frf L c) c λz=>I.ok.exfs L z c
   exact⟨j,⟨L,_,a,k,e,n⟩,h (λb d=>f b (by unfold iQ;rw[List.filterMap_cons,a];exact List.mem_cons_of_mem _ d)) p⟩
 exact all X.outer (λ_ d=>d) I.ok.funs
def Inv.stack(I:Inv X za σ H s):s.heap.FunFrames X.base X.stack:=by
 rcases I.ok.stk with e|⟨e,a⟩
 .rw[e];exact I.funs
 .rw[e];obtain⟨m,b,_⟩:=I.loc;refine .cons (by rw[I.ok.kind];decide) a b ?_ I.funs;exact Heap.get?_none_of_le (dt I.ok.bsz I.ok.above)
def Inv.stkSub(I:Inv X za σ H s): ∀b∈iQ X.stack,b∈X.env.locals::X.fs:=λb a=>by
 rcases I.ok.stk with e|⟨e,c⟩
 .rw[e]at a;exact eO _ a
 .rw[e]at a;unfold iQ at a;rw[List.filterMap_cons,c]at a;exact a
def Inv.stkFree(I:Inv X za σ H s): ∀b∈iQ X.stack,H b=none:=λb hb=>by
 rcases dE.mp (I.stkSub b hb)with e|hb
 .rw[e];exact I.free
 .obtain⟨_,o,a,_⟩:=I.ok.funs.mem hb;exact I.base.free b o a (I.ok.frf b hb) λz=>I.ok.exfs b z hb
def Inv.step{g':Array GenState}{t':Nat}{d':Drawn}{ch:As}(I:Inv X za σ H s)
  (f: ∀b∈ch,(b∈X.ex∨X.s₀.heap.objs.size<=b)/\b≠X.env.locals/\(∀x c,X.env.cells.lookup x=some c->c≠b)/\ ∀p∈X.pn++za,p.1≠b)
  (keep: ∀b o,b≠X.env.locals->b∉X.fs->b∉ch->s.heap.get? b=some o->H b=none->h'.get? b=some o)
  (w: ∀b o,b≠X.env.locals->b∈X.fs->b∉ch->s.heap.get? b=some o->H b=none-> ∃sl,h'.get? b=some {o with slots:=sl}) (free: ∀b o,b∉ch->s.heap.get? b=some o->H b=none->H' b=none)
  (A: ∀b o,b∉ch->s.heap.get? b=some o-> ∃D,h'.get? b=some D)
  (tups: ∀b y,H b=some (.tup y)->H' b=some (.tup y)) (E: ∀b o u,H b=some (.frz o u)->H' b=some (.frz o u)) (G: ∀b M,H b=some (.tbl M)-> ∃more,H' b=some (.tbl (M++more)))
  (ns: ∀m,s.heap.Ns X.env.locals m->h'.Ns X.env.locals m) (N:HOk X.prog X.w H' h') (hg:AllBare g'):
  Inv X za σ H' {s with heap:=h',gens:=g',drawn:=d',toks:=t'}:=by
 have J: ∀b o,X.s₀.heap.get? b=some o->b≠X.env.locals:=λb o e=>dH (fN (cU e) I.ok.above);have j: ∀b o,X.s₀.heap.get? b=some o->b∉X.ex->b∉ch:=λb o e a B=>by
  rcases (f b B).1 with z|z
  .exact a z
  .exact wC (fN (cU e) z) (i5 _)
 have g: ∀x c,X.env.cells.lookup x=some c-> ∀v,s.heap.IsCell c v->h'.IsCell c v:=λx c e v ⟨o,C,O⟩=>by
  have h:c∉ch:=λz=>(f c z).2.2.1 x c e rfl;by_cases T:c∈X.fs
  .obtain⟨sl,q⟩:=w c o (I.cne x c e) T h C (I.freeC x c e);exact⟨_,q,O⟩
  .exact⟨o,keep c o (I.cne x c e) T h C (I.freeC x c e),O⟩
 refine⟨I.ok,I.os,hg,⟨λb o e n B a=>?_,λb o e n B a=>?_,λb o e n a=>?_,λb o e a=>?_,λb y e=>tups b y (I.base.tups b y e),λb o y e=>E b o y (I.base.frzs b o y e),λb M e=>?_⟩,?_,λx c e=>?_,?_,λx c e=>?_,λp U=>?_,N,I.len⟩
 .exact keep b o (J b o e) B (j b o e a) (I.base.keep b o e n B a) (I.base.free b o e n a)
 .obtain⟨sl,t⟩:=I.base.slot b o e n B a;obtain⟨Q,L⟩:=w b _ (J b o e) B (j b o e a) t (I.base.free b o e n a);exact⟨Q,L⟩
 .obtain⟨D,t⟩:=I.base.there b o e a;exact free b D (j b o e a) t (I.base.free b o e n a)
 .obtain⟨D,t⟩:=I.base.there b o e a;exact A b D (j b o e a) t
 .obtain⟨m1,t⟩:=I.base.tbls b M e;obtain⟨m2,L⟩:=G b _ t;exact⟨m1++m2,by rw[L,Array.append_assoc]⟩
 .obtain⟨m,hn,hl⟩:=I.loc;refine⟨m,ns m hn,λi x v t L e3=>?_⟩;obtain⟨u,r,l⟩:=hl i x v t L e3;refine⟨u,r,?_⟩
  rcases l with l|⟨k,c,e,z⟩
  .exact .inl l
  .exact .inr ⟨k,c,e,g x c e _ z⟩
 .obtain⟨v,z⟩:=I.cell x c e;exact⟨v,g x c e v z⟩
 .obtain⟨m,⟨o,_,_,C,_⟩,_⟩:=I.loc;exact free _ o (λz=>(f _ z).2.1 rfl) C I.free
 .obtain⟨v,o,C,O⟩:=I.cell x c e;exact free c o (λz=>(f c z).2.2.1 x c e rfl) C (I.freeC x c e)
 .obtain⟨e,n,Y,nf,d⟩:=I.pin p U;have h:p.1∉ch:=λz=>(f p.1 z).2.2.2 p U rfl;exact⟨keep p.1 p.2 Y nf h e n,free p.1 p.2 h e n,Y,nf,d⟩
def Inv.un{t':Nat}(I:Inv X za σ H s)(u:Un X.fs [] H H' s.heap h')(c:HOk X.prog X.w H' h'):Inv X za σ H' {s with heap:=h',toks:=t'}:=by
 obtain⟨m,⟨o,l,p,h,r⟩,_⟩:=id I.loc;obtain⟨sl,i⟩:=u.any h I.free (by simp);exact I.step (g':=s.gens) (d':=s.drawn) (ch:=[]) (λ_ z=>nomatch z) (λb o _ d _ e n=>u.keep b o e n d (by simp)) (λb o _ d _ e n=>u.slot b o e n d (by simp)) (λb o _ e n=>u.free b o e n (by simp)) (λb o _ e=>u.there b o e (by simp)) u.tups u.frzs u.tbls (λq j=>by
  obtain⟨t,f,g,a,k⟩:=j;rw[h]at a;cases a;exact⟨_,f,g,i,k⟩) c I.bare
def Inv.call{g':Array GenState}{t':Nat}{d':Drawn}{ch:As}(I:Inv X za σ H s)(u:Un (iQ X.stack) ch H H' s.heap h')(g:HOk X.prog X.w H' h')(l:AllBare g')
  (d: ∀b∈ch,(b∈X.ex∨X.s₀.heap.objs.size<=b)/\b≠X.env.locals/\(∀x c,X.env.cells.lookup x=some c->c≠b)/\ ∀p∈X.pn++za,p.1≠b):
  Inv X za σ H' {s with heap:=h',gens:=g',drawn:=d',toks:=t'}:=by
 obtain⟨m,⟨o,w,y,k,r⟩,_⟩:=id I.loc;obtain⟨sl,h⟩:=u.any k I.free λz=>(d _ z).2.1 rfl;exact I.step (ch:=ch) d (λb o h q a e n=>u.keep b o e n (λz=>(dE.mp (I.stkSub b z)).elim h q) a) (λb o _ _ a e n=>u.any e n a) (λb o a e n=>u.free b o e n a) (λb o a e=>u.there b o e a) u.tups u.frzs u.tbls (λA t=>by
  obtain⟨B,i,j,f,v⟩:=t;rw[k]at f;cases f;exact⟨_,i,j,h,v⟩) g l
def Inv.turned{t':Nat}{it:Ad}(I:Inv X za σ H s)(k: ∀b o,b≠it->s.heap.get? b=some o->h'.get? b=some o)(g:H it=none)(f:it≠X.env.locals)
  (h:it∈X.ex∨X.s₀.heap.objs.size<=it) (i: ∀x c,X.env.cells.lookup x=some c->c≠it) (j: ∀p∈X.pn++za,p.1≠it):Inv X za σ H {s with heap:=h',toks:=t'}:=by
 have d: ∀b u,H b=some u->b≠it:=λb u e z=>by rw[z,g]at e;cases e
 refine I.step (g':=s.gens) (d':=s.drawn) (ch:=[it]) (λb l=>?_) (λb o _ _ a e _=>k b o (λz=>a (by simp[z])) e) (λb o _ _ a e _=>⟨o.slots,k b o (λz=>a (by simp[z])) e⟩) (λ_ _ _ _ n=>n)
  (λb o a e=>⟨o,k b o (λz=>a (by simp[z])) e⟩) (λ_ _ e=>e) (λ_ _ _ e=>e) (λb B e=>⟨#[],by rw[e];simp⟩) (λm t=>?_) (λb u e=>?_) I.bare
 .have e:b=it:=by simpa using l
  subst e;exact⟨h,f,i,j⟩
 .obtain⟨o,w,y,A,r⟩:=t;exact⟨o,w,y,k _ o (eC f) A,r⟩
 .refine(I.hok b u e).stay (λc v a q=>k c v ?_ q) (λ_ q=>q) λ_ _ q=>q
  rcases a with z|z
  .rw[z];exact d b u e
  .exact d c _ z
def Inv.tok(I:Inv X za σ H s)(t:Nat):Inv X za σ H {s with toks:=t}:=I.un (h':=s.heap) (t':=t) Un.refl I.hok
def Inv.kept{t':Nat}(I:Inv X za σ H s)(k: ∀b u,s.heap.get? b=some u->h'.get? b=some u):Inv X za σ H {s with heap:=h',toks:=t'}:=I.un (Un.kept k) (I.hok.kept k)
def Inv.laid{a:Ad}{o:HO}{t':Nat}(I:Inv X za σ H s)(k: ∀b u,s.heap.get? b=some u->h'.get? b=some u)(c:s.heap.objs.size<=a)(new:ObjOk X.prog X.w (cg H a o) h' a o):
  Inv X za σ (cg H a o) {s with heap:=h',toks:=t'}:=I.un (Un.laid k c (I.hok.fresh c)) (I.hok.laid k c new)
def Inv.write{x e:Ad}{o:HO}{t':Nat}(I:Inv X za σ H s)(c:ug (H x))(d:e=x∨H e=some (.own x))(k: ∀b u,b≠e->s.heap.get? b=some u->h'.get? b=some u)(a: ∃u,h'.get? e=some u)
  (new:ObjOk X.prog X.w (cg H x o) h' x o):Inv X za σ (cg H x o) {s with heap:=h',toks:=t'}:=I.un (Un.write c d k a) (I.hok.write c d k a new)
def Inv.weak{a:List (Option V)}(I:Inv X za σ H s)(c:a.length=σ.length)(w: ∀(i:Nat) v,a[i]? =some (some v)->σ[i]? =some (some v)):Inv X za a H s:=
 ⟨I.ok,I.os,I.bare,I.base,let⟨m,d,b⟩:=I.loc;⟨m,d,λi x v e f g=>b i x v e (w i v f) g⟩,I.cell,I.free,I.freeC,I.pin,I.hok,c.trans I.len⟩
def Inv.pins_of{a:AO}(I:Inv X za σ H s)(h: ∀p∈a,s.heap.get? p.1=some p.2/\H p.1=none/\p.1≠X.env.locals/\p.1∉X.fs/\ ∀v,p.2.data≠ .cell v):Inv X a σ H s:=
 ⟨I.ok,I.os,I.bare,I.base,I.loc,I.cell,I.free,I.freeC,λp b=>(di.mp b).elim (λz=>I.pin p (mq _ z)) (h p),I.hok,I.len⟩
def Dq{N:Ss}(c:N.Nodup){i j:Nat}{x:Str}(a:N[i]? =some x)(b:N[j]? =some x):i=j:=by
 obtain⟨f,d⟩:=cA.mp a;obtain⟨g,e⟩:=cA.mp b;exact(List.getElem_inj c).mp (d.trans e.symm)
def C7{M:Model}{A:Ar}{E:VP}{i:Nat}{x:Str}{v:V}{u:Vl}{Q:Unit->Sh->Prop}(I:Inv X za σ H s)(hN:X.N.Nodup)(L:X.N[i]? =some x)(t:tq X.env.scope x)(r:RelV v u)
  (h: ∀s',Inv X za (σ.set i (some v)) H s'->(∃a,Heap.SameBut a s.heap s'.heap/\(a=X.env.locals∨X.env.cells.lookup x=some a))->Q () s') (hf:X.fn x=true∨X.env.scope.names.lookup x=some .local:=by first|exact .inl rfl|exact .inr rfl|assumption):wpAny M A (storeName X.env x u) Q E s:=by
 obtain⟨m,hn,hl⟩:=id I.loc;have N:(X.env.scope.kind== .class || (X.env.scope.kind== .module&&X.env.locals != X.env.globals))=false:=by rw[I.ok.kind];rfl
 have C:i<σ.length:=by rw[I.len];exact(cA.mp L).1
 have cne:=I.cne;have g: ∀{a:Ad} {h':Heap},(∃o,s.heap.get? a=some o/\H a=none)->Heap.SameBut a s.heap h'->HOk X.prog X.w H h':=λ{a h'} ha f b ob e=>by
  obtain⟨_,_,w⟩:=ha;refine(I.hok b ob e).stay (λc w' hc q=>(f.2 c ?_).trans q) (λ_ q=>q) λ_ _ q=>q;rintro rfl
  rcases hc with rfl|hc
  .rw[w]at e;cases e
  .rw[w]at hc;cases hc
 rcases t with hk|hk
 .refine wpAny_storeName_local hk hn (λh' aa f=>?_) N;obtain⟨oL,_,_,ab,_⟩:=id hn;refine h _ ⟨I.ok,I.os,I.bare,⟨λb o e n D t=>?_,λb o e n D t=>?_,I.base.free,λb o e t=>?_,I.base.tups,I.base.frzs,I.base.tbls⟩,⟨_,aa,λj y v' l B e3=>?_⟩,λy c e=>?_,I.free,I.freeC,λp hp=>?_,g ⟨oL,ab,I.free⟩ f,by simpa using I.len⟩ ⟨_,f,.inl rfl⟩
  .exact(f.2 b (dH (fN (cU e) I.ok.above))).trans (I.base.keep b o e n D t)
  .obtain⟨sl,l⟩:=I.base.slot b o e n D t;exact⟨sl,(f.2 b (dH (fN (cU e) I.ok.above))).trans l⟩
  .obtain⟨o',l⟩:=I.base.there b o e t;exact⟨o',(f.2 b (dH (fN (cU e) I.ok.above))).trans l⟩
  .by_cases G:j=i
   .subst G;rw[L]at l;cases l;rw[List.getElem?_set_self C]at B;cases B;exact⟨u,r,.inl ⟨hk,by simp⟩⟩
   .rw[List.getElem?_set_ne (eC G)]at B;obtain⟨u',r',q⟩:=hl j y v' l B e3;refine⟨u',r',?_⟩
    rcases q with⟨k,e⟩|⟨k,c,e,z⟩
    .refine .inl ⟨k,?_⟩;have:y≠x:=λe=>G (Dq hN l (e▸L));simp[this,e]
    .exact .inr ⟨k,c,e,z.sameBut f (cne y c e)⟩
  .obtain⟨w',z⟩:=I.cell y c e;exact⟨w',z.sameBut f (cne y c e)⟩
  .obtain⟨e,n,ne,nf,d⟩:=I.pin p hp;exact⟨(f.2 p.1 ne).trans e,n,ne,nf,d⟩
 .have J:X.fn x=true:=by
   rcases hf with z|z
   .exact z
   .rw[z]at hk;cases hk
  obtain⟨c,hc⟩:=I.ok.has x (.inl hk);obtain⟨w',z⟩:=I.cell x c hc;refine wpAny_storeName_cell I.ok.kind hk hc z (λh' O f=>?_);obtain⟨oc,T,U⟩:=id z;refine h {s with heap:=h'} ⟨I.ok,I.os,I.bare,⟨λb o e n D t=>?_,λb o e n D t=>?_,I.base.free,λb o e t=>?_,I.base.tups,I.base.frzs,I.base.tbls⟩,⟨m,hn.sameBut f (eC (cne x c hc)),λj y v' l B e3=>?_⟩,λy c' e=>?_,I.free,I.freeC,λp hp=>?_,g ⟨oc,T,I.freeC x c hc⟩ f,by simpa using I.len⟩ ⟨c,f,.inr hc⟩
  .exact(f.2 b (dH (fN (cU e) (I.ok.cab x c J hc)))).trans (I.base.keep b o e n D t)
  .obtain⟨sl,l⟩:=I.base.slot b o e n D t;exact⟨sl,(f.2 b (dH (fN (cU e) (I.ok.cab x c J hc)))).trans l⟩
  .obtain⟨o',l⟩:=I.base.there b o e t;exact⟨o',(f.2 b (dH (fN (cU e) (I.ok.cab x c J hc)))).trans l⟩
  .by_cases G:j=i
   .subst G;rw[L]at l;cases l;rw[List.getElem?_set_self C]at B;cases B;exact⟨u,r,.inr ⟨.inl hk,c,hc,O⟩⟩
   .rw[List.getElem?_set_ne (eC G)]at B;obtain⟨u',r',q⟩:=hl j y v' l B e3;refine⟨u',r',?_⟩
    rcases q with q|⟨k,c',e,z'⟩
    .exact .inl q
    .refine .inr ⟨k,c',e,z'.sameBut f ?_⟩;rintro rfl;exact G (Dq hN l (I.ok.inj _ _ _ e hc▸L))
  .by_cases Y:c'=c
   .subst Y;exact⟨_,O⟩
   .obtain⟨w2,z2⟩:=I.cell y c' e;exact⟨w2,z2.sameBut f Y⟩
  .obtain⟨e,n,ne,nf,d⟩:=I.pin p hp;refine⟨(f.2 p.1 ?_).trans e,n,ne,nf,d⟩;intro q;rw[q,T]at e;have q':oc=p.2:=fH e;exact d w' (by rw[<-q'];exact U)
def AQ{M:Model}{A:Ar}{E:VP}{i:Nat}{x:Str}{v:V}{u:Vl}{Q:Unit->Sh->Prop}(I:Inv X za σ H s)(b:X.N.Nodup)(c:X.N[i]? =some x)(d:tq X.env.scope x)(r:RelV v u)
  (h: ∀a,Inv X za (σ.set i (some v)) H a->Q () a) (e:X.fn x=true∨X.env.scope.names.lookup x=some .local:=by first|exact .inl rfl|exact .inr rfl|assumption):wpAny M A (storeName X.env x u) Q E s:=
 C7 I b c d r (λa f _=>h a f) e
def Inv.call'{a:Sh}{ch:As}(I:Inv X za σ H s)(g:a.os=s.os)(u:Un (iQ X.stack) ch H H' s.heap a.heap)(d:HOk X.prog X.w H' a.heap)(h:AllBare a.gens)
  (f: ∀b∈ch,(b∈X.ex∨X.s₀.heap.objs.size<=b)/\b≠X.env.locals/\(∀x c,X.env.cells.lookup x=some c->c≠b)/\ ∀p∈X.pn++za,p.1≠b):Inv X za σ H' a:=by
 obtain⟨h',g',d',t',i⟩:=a;have e:i=s.os:=g;subst e;exact I.call (g':=g') (t':=t') (d':=d') u d h f
end
abbrev XK:=Vl->Option Ad->Hp->Prop
abbrev St:=List (Option V)
abbrev VK:=V->Hp->Prop
abbrev TE:=St->Hp->VK->Prop
abbrev TT:=St->Hp->(Bool->Hp->Prop)->Prop
abbrev TA:=St->Hp->(List V->Hp->Prop)->Prop
structure Ends where
 nx:St->Hp->Prop
 rt:VK
 bk:St->Hp->Prop:=λ_ _=>False
 ct:St->Hp->Prop:=λ_ _=>False
abbrev TS:=Ends->St->Hp->Prop
def EP(X:Cx)(b:AO)(c:St)(Q:VK)(u:Vl)(d:Sh):Prop:= ∃v a,Inv X b c a d/\RelV v u/\Q v a
def TP(X:Cx)(c:AO)(d:St)(Q:Bool->Hp->Prop)(b:Bool)(e:Sh):Prop:= ∃a,Inv X c d a e/\Q b a
def AP(X:Cx)(c:AO)(d:St)(Q:List V->Hp->Prop)(e:Vs)(f:Sh):Prop:= ∃a b,Inv X c d b f/\Vals a e/\Q a b
def SP(X:Cx)(c:AO)(D:Ends)(f:Flow)(d:Sh):Prop:=
 match f with
 | .next=> ∃a b,Inv X c a b d/\D.nx a b
 | .brk=> ∃a b,Inv X c a b d/\D.bk a b
 | .cont=> ∃a b,Inv X c a b d/\D.ct a b
 | .ret u=> ∃v a b,Inv X c a b d/\RelV v u/\D.rt v b
def PE(X:Cx)(e:Expr)(t:TE):Prop:=
 ∀(b:AO) (s:Sh) (a:St) (H:Hp) (Q:VK),Inv X b a H s->t a H Q->wpAny (model X.prog X.w) X.A (eval e X.env) (EP X b a Q) X.xe s
def PT(X:Cx)(e:Expr)(t:TT):Prop:=
 ∀(b:AO) (s:Sh) (a:St) (H:Hp) (Q:Bool->Hp->Prop),Inv X b a H s->t a H Q->wpAny (model X.prog X.w) X.A (isTrue e X.env (eval e X.env)) (TP X b a Q) X.xe s
def PW(X:Cx)(e:Expr)(t:TT):Prop:=
 ∀(a:Sem Vl) (c:AO) (s:Sh) (b:St) (H:Hp) (Q:Bool->Hp->Prop),Inv X c b H s->t b H Q->wpAny (model X.prog X.w) X.A (isTrue e X.env a) (TP X c b Q) X.xe s
def PW.pt{X:Cx}{e:Expr}{t:TT}(h:PW X e t):PT X e t:=h _
def PA(X:Cx)(c:List Expr)(t:TA):Prop:=
 ∀(pos:Pos) (b:AO) (s:Sh) (a:St) (H:Hp) (Q:List V->Hp->Prop),Inv X b a H s->t a H Q->wpAny (model X.prog X.w) X.A (spliced (backTo pos (starEach c X.env))) (AP X b a Q) X.xe s
def PS(X:Cx)(st:Stmt)(t:TS):Prop:=
 ∀(a:AO) (s:Sh) (b:St) (H:Hp) (D:Ends),Inv X a b H s->t D b H->wpAny (model X.prog X.w) X.A (exec st X.env) (SP X a D) X.xe s
def PSs(X:Cx)(st:List Stmt)(t:TS):Prop:=
 ∀(a:AO) (s:Sh) (b:St) (H:Hp) (D:Ends),Inv X a b H s->t D b H->wpAny (model X.prog X.w) X.A (execs st X.env) (SP X a D) X.xe s
def cG{b:Type}{t:Sem b}{Q c:b->Sh->Prop}{M:Model}{A:Ar}{E:VP}{s:Sh}(h:wpAny M A t Q E s)(d: ∀a s,Q a s->c a s):wpAny M A t c E s:=gq h d λ_ _ x=>x
section
variable{X:Cx}
def fy(i:Nat):TE:=λa H Q=> ∃v,a[i]? =some (some v)/\Q v H
def tC(v:V):TE:=λ_ H Q=>Q v H
def G0{i:Nat}{x:Str}{pos:Pos}(g:X.N[i]? =some x)(j:wO X.env.scope x)(b:(x==("__debug__":Str))=false:=by decide)(d:(x==("__classdict__":Str))=false:=by decide):PE X (.Name x pos) (fy i):=by
 intro k s n H Q I h;obtain⟨v,e,h⟩:=h;obtain⟨m,o,p⟩:=I.loc;obtain⟨u,r,l⟩:=p i x v g e j;have fin:EP X k n Q u s:=⟨v,H,I,r,h⟩
 rcases l with⟨hk,q⟩|⟨hk,c,f,a⟩
 .exact wpAny_Name (wpAny_loadName_local I.ok.kind hk o q fin) b
 .rcases hk with hk|hk
  .exact wpAny_Name (wpAny_loadName_cell I.ok.kind hk f a fin) b
  .exact wpAny_Name (wpAny_loadName_free I.ok.kind hk f a fin d) b
def cS{i j pos}:PE X (.Constant (.int i) j pos) (tC (.int i)):=λ_ _ _ H _ I h=>wpAny_Constant_int ⟨.int i,H,I.tok _,⟨_,rfl⟩,h⟩
def pU{b j pos}:PE X (.Constant (.bool b) j pos) (tC (.bl b)):=λ_ _ _ H _ I h=>Constant_bool ⟨.bl b,H,I,rfl,h⟩
def pO{j pos}:PE X (.Constant .none j pos) (tC .non):=λ_ _ _ H _ I h=>Constant_none ⟨.non,H,I,rfl,h⟩
def rb{x j pos}:PE X (.Constant (.str x) j pos) (tC (.str x)):=λ_ _ _ H _ I h=>Calls.Constant_str ⟨.str x,H,I.tok _,⟨_,rfl⟩,h⟩
def Gl(X:Cx)(x:Str):Prop:=X.env.kindOf x=some .globalImplicit
def we{E:VP}{a:AO}{s:Sh}{b:St}{H:Hp}{x:Str}{u:Vl}{pos:Pos}{Q:VP}(I:Inv X a b H s)(c:Gl X x)(d:X.mg x=some u)(h:Q u s)
  (e:(x==("__debug__":Str))=false:=by decide):wpAny (model X.prog X.w) X.A (eval (.Name x pos) X.env) Q E s:=
 C3 I.ok.kind c (Calls.loadGlobal_global (by rw[I.ok.glob];exact I.mod.glob.keeps I.bk) d h) e
def oZ{E:VP}{a:AO}{s:Sh}{b:St}{H:Hp}{x:Str}{u:Vl}{pos:Pos}{Q:VP}(I:Inv X a b H s)(c:Gl X x)(d:X.mg x=none)(e:bootBuiltins x=some u)(h:Q u s)
  (f:x≠"__name__":=by decide) (g:(x==("__debug__":Str))=false:=by decide):wpAny (model X.prog X.w) X.A (eval (.Name x pos) X.env) Q E s:=by
 obtain⟨k,i,j⟩:=I.mod.blt;exact C3 I.ok.kind c (Calls.loadGlobal_builtin (by rw[I.ok.glob];exact I.mod.glob.keeps I.bk) d (by rw[I.ok.blt];exact i.keeps I.bk) ((j x f).trans e) h) g
def IE{x:Str}{v:V}{u:Vl}{pos:Pos}(a:Gl X x)(b:X.mg x=none)(c:bootBuiltins x=some u)(r:RelV v u)(d:x≠"__name__":=by decide)(e:(x==("__debug__":Str))=false:=by decide):PE X (.Name x pos) (tC v):=
 λ_ _ _ H _ I h=>oZ I a b c ⟨v,H,I,r,h⟩ d e
variable{a b:Expr}{ta tb:TE}{pos:Pos}
def PC(X:Cx)(g:CmpOp)(a b:Expr)(t:TE):Prop:=
 ∀(f:AO) (s:Sh) (e:St) (H:Hp) (Q:VK),Inv X f e H s->t e H Q->
  wpAny (model X.prog X.w) X.A (eval a X.env) (λv c=>wpAny (model X.prog X.w) X.A (eval b X.env) (λu d=>wpAny (model X.prog X.w) X.A (compareOp g v u) (EP X f e Q) X.xe d) X.xe c) X.xe s
def Eo(b:Expr){c:CmpOp}(h:c≠ .In)(d:c≠ .NotIn):behindInMarks c b=false:=by
 have e:(c==CmpOp.In)=false:=by cases c<;>first|rfl|exact wC rfl h
 have f:(c==CmpOp.NotIn)=false:=by cases c<;>first|rfl|exact wC rfl d
 cases b<;>simp[behindInMarks,e,f]
def tB(t:TE):TT:=λd H Q=>t d H λx e=> ∃c,x= .bl c/\Q c e
def LJ{c:CmpOp}{t:TE}(h:PC X c a b t)(d:behindInMarks c b=false:=by first|exact Eo _ (by decide) (by decide)|rfl):PE X (.Compare a [c] [b] pos) t:=λe s f H Q I hw=>wpAny_Compare1 (h e s f H Q I hw) d
def qq{e:CmpOp}{t:TE}(h:PC X e a b t)(f:behindInMarks e b=false:=by first|exact Eo _ (by decide) (by decide)|rfl):PT X (.Compare a [e] [b] pos) (tB t):=by
 intro g s i H Q I hw;refine wpAny_isTrue_Compare1 (cG (h g s i H _ I hw) λv o f=>cG f λu p j=>cG j λc r ⟨x,k,l,m,n⟩=>?_) f;obtain⟨d,rfl,q⟩:=n;cases m;exact mX ⟨k,l,q⟩
def l7{e:Expr}{t:TE}(h:PE X e t)(f: ∀c,isTrue e X.env c=(do let v <-c;standAt e.pos;holding [v] (truthy v)):=by intro _;rfl):PT X e (tB t):=by
 intro g s i H Q I hw;refine isTrue_plain (cG (h g s i H _ I hw) λv n ⟨x,j,k,l,m⟩=>?_) (f _);obtain⟨d,rfl,q⟩:=m;cases l;exact mX ⟨j,k,q⟩
variable{tA tB':TT}{rest:List Expr}
def yw(t u:TT):TT:=λd H Q=>t d H λc e=>if c=true then u d e Q else Q false e
def Hg(t u:TT):TT:=λd H Q=>t d H λc e=>if c=true then Q true e else u d e Q
def z6(t:TT):TT:=λd H Q=>t d H λc e=>Q (!c) e
def nr(d:PT X a tA):PW X (.BoolOp .And [a] pos) tA:=by
 intro i f s g H Q I h;refine isTrue_and (cG (d f s g H Q I h) λc j e=>?_);cases c with
 |true=>exact isTrue_and_nil e
 |false=>exact e
def DI(d:PT X a tA):PW X (.BoolOp .Or [a] pos) tA:=by
 intro i f s g H Q I h;refine isTrue_or (cG (d f s g H Q I h) λc j e=>?_);cases c with
 |false=>exact isTrue_or_nil e
 |true=>exact e
def m9(j:PT X a tA)(k:PW X (.BoolOp .And (b::rest) pos) tB'):PW X (.BoolOp .And (a::b::rest) pos) (yw tA tB'):=by
 intro l d s e H Q I h;refine isTrue_and (cG (j d s e H _ I h) λc m ⟨f,g,i⟩=>?_);cases c with
 |true=>exact k l d m e f Q g i
 |false=>exact⟨f,g,i⟩
def xo(j:PT X a tA)(k:PW X (.BoolOp .Or (b::rest) pos) tB'):PW X (.BoolOp .Or (a::b::rest) pos) (Hg tA tB'):=by
 intro l d s e H Q I h;refine isTrue_or (cG (j d s e H _ I h) λc m ⟨f,g,i⟩=>?_);cases c with
 |true=>exact⟨f,g,i⟩
 |false=>exact k l d m e f Q g i
def re(d:PT X a tA):PT X (.UnaryOp .Not a pos) (z6 tA):=by
 intro e s f H Q I h;exact isTrue_not (d e s f H (λc g=>Q (!c) g) I h)
def uj(ta tb:TE):TE:=λd H Q=>ta d H λx e=> ∃c,x= .bl c/\if c=true then tb d e Q else Q (.bl false) e
def A5(ta tb:TE):TE:=λd H Q=>ta d H λx e=> ∃c,x= .bl c/\if c=true then Q (.bl true) e else tb d e Q
def sr(ta:TE):TE:=λd H Q=>ta d H λx e=> ∃c,x= .bl c/\Q (.bl (!c)) e
def uN{c}{t:TE}(h:PE X a t):PE X (.BoolOp c [a] pos) t:=λd s e H Q I hw=>BoolOp_one (h d s e H Q I hw)
def xx(j:PE X a ta)(k:PE X (.BoolOp .And (b::rest) pos) tb):PE X (.BoolOp .And (a::b::rest) pos) (uj ta tb):=by
 intro e s f H Q I h;refine BoolOp_and (cG (j e s f H _ I h) λv l ⟨x,g,i,m,d⟩=>?_);obtain⟨c,rfl,d⟩:=d;cases m;refine mX ?_;cases c with
 |true=>exact k e l f g Q i d
 |false=>exact⟨.bl false,g,i,rfl,d⟩
def sS(j:PE X a ta)(k:PE X (.BoolOp .Or (b::rest) pos) tb):PE X (.BoolOp .Or (a::b::rest) pos) (A5 ta tb):=by
 intro e s f H Q I h;refine BoolOp_or (cG (j e s f H _ I h) λv l ⟨x,g,i,m,d⟩=>?_);obtain⟨c,rfl,d⟩:=d;cases m;refine mX ?_;cases c with
 |false=>exact k e l f g Q i d
 |true=>exact⟨.bl true,g,i,rfl,d⟩
def Kt(e:PE X a ta):PE X (.UnaryOp .Not a pos) (sr ta):=by
 intro f s g H Q I h;refine UnaryOp_ (cG (e f s g H _ I h) λv l ⟨x,i,j,k,d⟩=>?_);obtain⟨c,rfl,d⟩:=d;cases k;exact not_of (mX ⟨.bl (!c),i,j,rfl,d⟩)
end
def SqL(K:W.Frag)(H:Hp)(a:Ad)(xs:List V):Prop:=
 Rd H a (.lst xs)∨
  ∃(o:Obj) (b:AV) (n:Nat),K.lookup a=some o/\o.cls= .type "list"/\o.dict=none/\o.data= .seq b n/\b.size<=sizeLine/\Vals xs b.toList
def SqT(K:W.Frag)(H:Hp)(a:Ad)(xs:List V):Prop:=
 Rd H a (.tup xs)∨
  ∃(o:Obj) (b:AV) (n:Nat),K.lookup a=some o/\o.cls= .type "tuple"/\o.data= .seq b n/\b.size<=sizeLine/\Vals xs b.toList
def zC:Vl->Option V
 | .none=>some .non
 | .bool b=>some (.bl b)
 | .int i _=>some (.int i)
 | .str x _=>some (.str x)
 | .bytes b _=>some (.byt b)
 | .float b _=>some (.flt b)
 | .ref a=>some (.ref a)
 | .type n=>some (.ty n)
 |_=>none
def RelV.abs{x:V}{u:Vl}(r:RelV x u):zC u=some x:=by
 cases x with
 |non=>cases r;rfl
 |bl _=>cases r;rfl
 |int _=>obtain⟨t,rfl⟩:=r;rfl
 |str _=>obtain⟨t,rfl⟩:=r;rfl
 |byt _=>obtain⟨t,rfl⟩:=r;rfl
 |flt _=>obtain⟨t,rfl⟩:=r;rfl
 |ref _=>cases r;rfl
 |ty _=>cases r;rfl
def RelV.inj{x y:V}{u:Vl}(r:RelV x u)(q:RelV y u):x=y:=fH (r.abs.symm.trans q.abs)
theorem Vals.inj: ∀{a b:List V} {c:Vs},Vals a c->Vals b c->a=b
 |_,_,_,.nil,.nil=>rfl
 |_,_,_,.cons r t,.cons d t'=>by rw[r.inj d,Vals.inj t t']
section
variable{X:Cx}{za:AO}{σ:St}{H:Hp}{s:Sh}{a:Ad}{xs ys:List V}
def SqL.of{K:W.Frag}(h:H a=some (.lst xs)):SqL K H a xs:= .inl (.inl h)
def SqT.of{K:W.Frag}(h:H a=some (.tup xs)):SqT K H a xs:= .inl (.inl h)
def Inv.list(I:Inv X za σ H s)(h:SqL X.K H a xs): ∃its:Vs,Vals xs its/\PlainL s.heap a its.toArray/\xs.length<=sizeLine:=by
 rcases h with h|⟨o,its,n,b,c,d,f,g,r⟩
 .obtain⟨z,its,n,r,e⟩:=h.ok I.hok;exact⟨its,r,⟨_,n,e,rfl,rfl,rfl⟩,z⟩
 .refine⟨its.toList,r,⟨o,n,I.kIn a o b,c,d,by simpa using f⟩,?_⟩;have e:=r.length;simp only[Array.length_toList]at e;lia
def Inv.tuple(I:Inv X za σ H s)(h:SqT X.K H a xs): ∃its:Vs,Vals xs its/\IsTup s.heap a its.toArray/\xs.length<=sizeLine:=by
 rcases h with h|⟨o,its,n,b,c,d,f,r⟩
 .obtain⟨z,its,r,p⟩:=h.ok I.hok;exact⟨its,r,p.is,z⟩
 .refine⟨its.toList,r,⟨o,I.kIn a o b,c,n,by simpa using d⟩,?_⟩;have e:=r.length;simp only[Array.length_toList]at e;lia
def Inv.list_inj(I:Inv X za σ H s)(h:SqL X.K H a xs)(h':SqL X.K H a ys):xs=ys:=by
 obtain⟨c,r,⟨o,n,e,_,_,d⟩,_⟩:=I.list h;obtain⟨b,g,⟨j,k,f,_,_,d'⟩,_⟩:=I.list h';rw[e]at f;cases f;rw[d]at d';injection d' with i _
 have:c=b:=by simpa using congrArg Array.toList i
 subst this;exact r.inj g
def Inv.tuple_inj(I:Inv X za σ H s)(h:SqT X.K H a xs)(h':SqT X.K H a ys):xs=ys:=by
 obtain⟨c,r,⟨o,e,_,n,d⟩,_⟩:=I.tuple h;obtain⟨b,g,⟨j,f,_,k,d'⟩,_⟩:=I.tuple h';rw[e]at f;cases f;rw[d]at d';injection d' with i _
 have:c=b:=by simpa using congrArg Array.toList i
 subst this;exact r.inj g
end
abbrev Cx.wish(X:Cx)(E:VP):Cx:={X with xe:=E}
abbrev Cx.nox(X:Cx):Cx:=X.wish λ_ _=>False
def Cx.Ok.wish{X:Cx}(ok:X.Ok)(E:VP):(X.wish E).Ok:=
 ⟨ok.mod,ok.kind,ok.glob,ok.blt,ok.above,ok.inj,ok.has,ok.cab,ok.hd,ok.frames,ok.stk,ok.exf,ok.bs,ok.bsz,ok.noex,ok.exfs,ok.funs,ok.frf⟩
def Cx.Ok.unwish{X:Cx}{E:VP}(ok:(X.wish E).Ok):X.Ok:=
 ⟨ok.mod,ok.kind,ok.glob,ok.blt,ok.above,ok.inj,ok.has,ok.cab,ok.hd,ok.frames,ok.stk,ok.exf,ok.bs,ok.bsz,ok.noex,ok.exfs,ok.funs,ok.frf⟩
section
variable{X:Cx}{za:AO}{σ:St}{H:Hp}{s:Sh}{E:VP}
def Inv.wish(I:Inv X za σ H s)(E:VP):Inv (X.wish E) za σ H s:=⟨I.ok.wish E,I.os,I.bare,I.base,I.loc,I.cell,I.free,I.freeC,I.pin,I.hok,I.len⟩
def Inv.unwish(I:Inv (X.wish E) za σ H s):Inv X za σ H s:=⟨I.ok.unwish,I.os,I.bare,I.base,I.loc,I.cell,I.free,I.freeC,I.pin,I.hok,I.len⟩
def SP.unwish{D:Ends}{f:Flow}{c:Sh}(h:SP (X.wish E) za D f c):SP X za D f c:=by
 cases f with
 |next=>obtain⟨a,b,I,q⟩:=h;exact⟨a,b,I.unwish,q⟩
 |brk=>obtain⟨a,b,I,q⟩:=h;exact⟨a,b,I.unwish,q⟩
 |cont=>obtain⟨a,b,I,q⟩:=h;exact⟨a,b,I.unwish,q⟩
 |ret u=>obtain⟨v,a,b,I,r,q⟩:=h;exact⟨v,a,b,I.unwish,r,q⟩
def PSs.nox{st:List Stmt}{t:TS}(h:PSs X.nox st t):PSs X st t:=λza s σ H D I hw=>
 gq (h za s σ H D (I.wish _) hw) (λ_ _ q=>q.unwish) λ_ _ z=>wE z
end
section
variable{X:Cx}{st:Stmt}{rest:List Stmt}{t u:TS}{e:Expr}{te:TE}{pos:Pos}
def Fx:TS:=λD a H=>D.nx a H
def lH(t u:TS):TS:=λD a H=>t {D with nx:=u D} a H
def gn:PSs X [] Fx:=λ_ _ a H _ I h=>wg ⟨a,H,I,h⟩
def cH(c:PS X st t)(d:PSs X rest u):PSs X (st::rest) (lH t u):=by
 intro b s g H D I h;refine wpAny_execs_cons (cG (c b s g H {D with nx:=u D} I h) λf i q=>?_);cases f with
 |next=>
  obtain⟨a,j,k,q⟩:=q;exact d b i a j D k q
 |ret v=>exact q
 |brk=>exact q
 |cont=>exact q
def cM(a:PS X st t):PSs X [st] t:=by
 intro b s c H D I h;refine wpAny_execs_cons (cG (a b s c H D I h) λf d q=>?_);cases f with
 |next=>exact wg q
 |ret v=>exact q
 |brk=>exact q
 |cont=>exact q
def Inv.quiet{a:AO}{b:St}{H:Hp}{s:Sh}(I:Inv X a b H s):interactive X.env=false:=by simp[interactive,I.ok.kind]
def vR(te:TE):TS:=λD a H=>te a H λ_ b=>D.nx a b
def jb(b:PE X e te)(c:swapsWith e none pos.line X.env=pure false:=by rfl):PS X (.Expr e pos) (vR te):=by
 intro d s a H D I h;exact wpAny_Expr_any (cG (b d s a H _ I h) λv j ⟨x,f,g,k,i⟩=>⟨a,f,g,i⟩) I.quiet c
def uP(te:TE):TS:=λD a H=>te a H D.rt
def dr(b:PE X e te):PS X (.Return (some e) pos) (uP te):=by
 intro c s a H D I h;exact wpAny_Return_some (cG (b c s a H _ I h) λv j ⟨x,d,f,g,i⟩=>⟨x,a,d,f,g,i⟩)
def tZ(c:TT)(t u:TS):TS:=λD a H=>c a H λb d=>if b=true then t D a d else u D a d
def fS{c:Expr}{a b:List Stmt}{i:TT}(n:PT X c i)(o:PSs X a t)(p:PSs X b u):PS X (.If c a b pos) (tZ i t u):=by
 intro f s g H D I h;refine wpAny_If (cG (n f s g H _ I h) λd j ⟨k,l,m⟩=>?_);cases d with
 |true=>exact o f j g k D l m
 |false=>exact p f j g k D l m
def Mr:TS:=λ_ _ _=>False
def Jc:PS X st Mr:=λ_ _ _ _ _ _ h=>h.elim
end
abbrev TG:=V->St->Hp->(St->Hp->Prop)->Prop
abbrev n6:=List V->St->Hp->(St->Hp->Prop)->Prop
def PG(X:Cx)(a:Expr)(t:TG):Prop:=
 ∀(c:AO) (s:Sh) (d:St) (H:Hp) (v:V) (u:Vl) (Q:St->Hp->Prop),Inv X c d H s->RelV v u->t v d H Q->
  wpAny (model X.prog X.w) X.A (assign a X.env u) (λ_ f=> ∃b e,Inv X c b e f/\Q b e) X.xe s
def vi(X:Cx)(g:List Expr)(t:n6):Prop:=
 ∀(b:AO) (s:Sh) (c:St) (H:Hp) (d:List V) (e:Vs) (Q:St->Hp->Prop),Inv X b c H s->Vals d e->t d c H Q->
  wpAny (model X.prog X.w) X.A (assignInOrder ((assignEach g X.env).map (·.2)) e) (λ_ h=> ∃a f,Inv X b a f h/\Q a f) X.xe s
abbrev oH:=V->V->V->Hp->(Hp->Prop)->Prop
def s9(X:Cx)(t:oH):Prop:=
 ∀(a:AO) (s:Sh) (b:St) (H:Hp) (o i v:V) (c d u:Vl) (Q:Hp->Prop),Inv X a b H s->RelV o c->RelV i d->RelV v u->t o i v H Q->
  wpAny (model X.prog X.w) X.A (setItem c d u) (λ_ f=> ∃e,Inv X a b e f/\Q e) X.xe s
abbrev xa:=V->V->Hp->VK->Prop
def Dy(X:Cx)(c:Operator)(t:xa):Prop:=
 ∀(a:AO) (s:Sh) (b:St) (H:Hp) (x y:V) (v u:Vl) (Q:VK),Inv X a b H s->RelV x v->RelV y u->t x y H Q->
  wpAny (model X.prog X.w) X.A (inplaceOp c v u) (EP X a b Q) X.xe s
section
variable{X:Cx}{pos:Pos}
def gV(i:Nat):TG:=λv a H Q=>Q (a.set i (some v)) H
def fh{i:Nat}{x:Str}(a:X.N.Nodup)(b:X.N[i]? =some x)(c:tq X.env.scope x)(d:X.fn x=true∨X.env.scope.names.lookup x=some .local:=by first|exact .inl rfl|exact .inr rfl|assumption):PG X (.Name x pos) (gV i):=by
 intro f s g H v u Q I r h;exact wpAny_assign_Name (AQ I a b c r (λj e=>⟨_,H,e,h⟩) d)
def sU:n6:=λa b H Q=>a=[]/\Q b H
def yp(t:TG)(u:n6):n6:=λb c H Q=> ∃v r,b=v::r/\t v c H λa d=>u r a d Q
def rg:vi X [] sU:=by
 intro b s a H c d Q I r h;obtain⟨e,h⟩:=h;subst e;cases r;exact assignInOrder_nil ⟨a,H,I,h⟩
def iU{e:Expr}{a:List Expr}{t:TG}{u:n6}(d:PG X e t)(f:vi X a u)
  (g:(assignEach (e::a) X.env).map (·.2)=assign e X.env::(assignEach a X.env).map (·.2):=by rfl):vi X (e::a) (yp t u):=by
 intro c s i H p q Q I r h;obtain⟨v,w,j,h⟩:=h;subst j;cases r with
 |cons r k=>
  rw[g];refine assignInOrder_cons (cG (d c s i H _ _ _ I r h) λ_ l ⟨b,m,n,o⟩=>?_);exact f c l b m _ _ Q n k o
def sG(K:W.Frag)(n:Nat)(t:n6):TG:=λv c H Q=> ∃a b,v= .ref a/\SqT K H a b/\b.length=n/\t b c H Q
def qu{c:List Expr}{k:Nat}{t:n6}{n:Nat}(j:X.calm=true)(h:vi X c t)
  (l:(assignEach c X.env).length=n:=by rfl) (d:(assignEach c X.env).findIdx? (·.1)=none:=by rfl):PG X (.Tuple c k pos) (sG X.K n t):=by
 intro f s g H v u Q I r hw;obtain⟨a,m,p,q,w,hw⟩:=hw;subst p;cases r;obtain⟨x,i,ht,B⟩:=I.tuple q;refine assign_Tuple_tuple (I.ok.hd j) ht (by simp[l,<-w,i.length]) d λy z=>?_;have A:Inv X f g H {s with heap:=y}:=I.kept (t':=s.toks) λb o e=>z b o (dH (cU e)) e;exact h f _ g H m _ Q A (by simpa using i) hw
def zY(to b:TE)(t:oH):TG:=λv a H Q=>to a H λo c=>b a c λi d=>t o i v d λe=>Q a e
def wn{o i:Expr}{to e:TE}{t:oH}(f:PE X o to)(g:PE X i e)(j:s9 X t)
  (k: ∀v,assign (.Subscript o i pos) X.env v=(do
   let a <-holding [v] (eval o X.env)
   let b <-holding [v,a] (eval i X.env)
   standAt pos
   holding [v,a,b] (setItem a b v)
   release [v,a,b] []):=by intro _;rfl):PG X (.Subscript o i pos) (zY to e t):=by
 intro d s c H v u Q I r h;rw[k];refine ci (gQ (cG (f d s c H _ I h) λa l ⟨x,m,n,p,q⟩=>?_));refine ci (gQ (cG (g d l c m _ n q) λb w ⟨y,z,A,B,C⟩=>?_));refine ci (vC (ci (gQ (cG (j d w c z x y v a b u _ A p B r C) λ_ J ⟨D,E,G⟩=>?_))));exact wpAny_release ⟨c,D,E,G⟩
def lO(b:TE)(g:TG):TS:=λD a H=>b a H λx c=>g x a c D.nx
def uF{a e:Expr}{b:TE}{g:TG}(f:PE X e b)(i:PG X a g)(j:swapsWithSole [a] e pos.line X.env=pure false:=by rfl)(hw:swappedStores [a] e X.env=pure none:=by rfl)
  (k:(assignEach [a] X.env).map (·.2)=[assign a X.env]:=by rfl):PS X (.Assign [a] e pos) (lO b g):=by
 intro c s d H D I h;refine wpAny_Assign_stores (cG (f c s d H _ I h) λv l ⟨x,m,n,o,p⟩=>?_) j hw;rw[k];exact cG (i c l d m x v _ n o p) λ_ r q=>q
def df{i:Nat}{x:Str}{e:Expr}{b:TE}{a:Pos}(c:X.N.Nodup)(d:X.N[i]? =some x)(f:tq X.env.scope x)(g:PE X e b)(j:swapsWith e (some (.Name x a)) pos.line X.env=pure false:=by rfl)(k:X.fn x=true∨X.env.scope.names.lookup x=some .local:=by first|exact .inl rfl|exact .inr rfl|assumption):
  PS X (.Assign [.Name x a] e pos) (lO b (gV i)):=by
 intro l s m H D I h;refine wpAny_Assign_Name (cG (g l s m H _ I h) λv t ⟨y,n,o,p,q⟩=>?_) j;exact AQ o c d f p (λu r=>⟨_,n,r,q⟩) k
def AU(i:Nat)(b:TE)(c:xa):TS:=λD a H=> ∃x,a[i]? =some (some x)/\b a H λy d=>c x y d λz e=>D.nx (a.set i (some z)) e
def BH{i:Nat}{x:Str}{e:Expr}{p:TE}{g:Operator}{q:xa}{b:Pos}(B:X.N.Nodup)(t:X.N[i]? =some x)(j:tq X.env.scope x)(C:PE X e p)(E:Dy X g q)(G:X.fn x=true∨X.env.scope.names.lookup x=some .local:=by first|exact .inl rfl|exact .inr rfl|assumption):
  PS X (.AugAssign (.Name x b) g e pos) (AU i p q):=by
 intro n s A H D I h;obtain⟨v,J,h⟩:=h;obtain⟨m,L,M⟩:=I.loc;have o:wO X.env.scope x:=by rcases j with k|k;exact .inl k;exact .inr (.inl k)
 obtain⟨u,r,l⟩:=M i x v t J o;refine wpAny_AugAssign_Name ?_;have go:wpAny (model X.prog X.w) X.A (eval e X.env) (λw d=>wpAny (model X.prog X.w) X.A (inplaceOp g u w) (λr f=>wpAny (model X.prog X.w) X.A (storeName X.env x r) (λ_=>SP X n D .next) X.xe f) X.xe d) X.xe s:=by
  refine cG (C n s A H _ I h) λw N ⟨y,O,Q,T,U⟩=>?_;refine cG (E n N A O v y u w _ Q r T U) λz s2 ⟨zv,Y,I2,r2,q2⟩=>?_;exact AQ I2 B t j r2 (λs3 I3=>⟨_,Y,I3,q2⟩) G
 rcases l with⟨hk,hm⟩|⟨hk,c,hc,a⟩
 .exact wpAny_loadName_local I.ok.kind hk L hm go
 .rcases hk with hk|hk
  .exact wpAny_loadName_cell I.ok.kind hk hc a go
  .rcases j with k|k
   .have:X.env.scope.names.lookup x=some .free:=hk;rw[k]at this;cases this
   .have:X.env.scope.names.lookup x=some .free:=hk;rw[k]at this;cases this
def IQ(f:Int->Int->Int):xa:=λx y H Q=> ∃i j,x= .int i/\y= .int j/\Q (.int (f i j)) H
def Ez:Dy X .Add (IQ λi j=>i+j):=by
 intro e s f H x y v u Q I a b h;obtain⟨i,j,c,d,q⟩:=h;subst c;subst d;obtain⟨t,rfl⟩:=a;obtain⟨g,rfl⟩:=b;exact iadd_int ⟨.int _,H,I.tok _,⟨_,rfl⟩,q⟩
end
section
variable{X:Cx}{pos:Pos}
def Cj(c:TT)(h:TS):TS:=λD a H=> ∃W:Nat->St->Hp->Prop,(∃m,W m a H)/\ ∀m a H,W m a H->
 c a H λb e=>if b=true then ∃N:St->Hp->Prop,(∀d f,N d f-> ∃g,g<m/\W g d f)/\h {D with nx:=N,ct:=N,bk:=D.nx} a e else D.nx a e
def Fe{c:Expr}{e:List Stmt}{t:TT}{u:TS}(w:PassesOwn (model X.prog X.w) X.A X.env X.xe)(C:PT X c t)(E:PSs X e u):PS X (.While c e [] pos) (Cj t u):=by
 intro l s G H D I h;obtain⟨W,⟨J,L⟩,turn⟩:=h;refine wpAny_While (codeAny_whileLoop (λn M=> ∃g x,Inv X l g x M/\W n g x) ?_ J ⟨G,H,I,L⟩);rintro n O ⟨d,y,Q,T⟩;refine oW w (cG (C l O d y _ Q (turn n d y T)) λb U ⟨z,A,j⟩=>?_);cases b with
 | true=>
  obtain⟨N,B,j⟩:=j;rw[wB rfl];refine oW w (cG (E l U d z _ A j) λf Y k=>?_);cases f with
  |next=>
   obtain⟨a,i,m,o⟩:=k;obtain⟨p,q,r⟩:=B a i o;exact⟨p,q,a,i,m,r⟩
  |cont=>
   obtain⟨a,i,m,o⟩:=k;obtain⟨p,q,r⟩:=B a i o;exact⟨p,q,a,i,m,r⟩
  |brk=>exact k
  |ret v=>exact k
 |false=>
  rw[wA e9];exact wg ⟨d,z,A,j⟩
end
structure It where
 go:Nat->Hp->Prop
 yld:Nat->Hp->V->Hp->Prop
 stop:Nat->Hp->Prop
def FpOk(X:Cx)(a:AO)(H:Hp)(b:Ad):Prop:=
 H b=none/\b≠X.env.locals/\b∉X.fs/\(b∈X.ex∨X.s₀.heap.objs.size<=b)/\(∀x c,X.env.cells.lookup x=some c->c≠b)/\ ∀p∈X.pn++a,p.1≠b
def Inv.fpOk{X:Cx}{d:AO}{f:St}{H H':Hp}{s:Sh}{b:Ad}(I:Inv X d f H s)(a:s.heap.objs.size<=b)(g:H' b=none):FpOk X d H' b:=by
 refine⟨g,j6 (fN I.lt a),I.nofs a,.inr (dt I.sz a),λx c e z=>?_,λp h z=>?_⟩
 .obtain⟨v,q⟩:=I.cell x c e;exact wC (fN q.lt (by rw[z];exact a)) (i5 _)
 .exact wC (fN (cU (I.pin p h).1) (by rw[z];exact a)) (i5 _)
structure Turn(P:Pg)(w:World)(K:W.Frag)(tg:Expr)(J:It)(fp:As)(it:Ad)(tn:Nat->Heap->Prop):Prop where
 mem:it∈fp
 obj: ∀i h,tn i h-> ∀b∈fp,∃o,h.get? b=some o/\ ∀v,o.data≠ .cell v
 keep: ∀i h h',tn i h->(∀b∈fp,∀o,h.get? b=some o->h'.get? b=some o)->tn i h'
 item: ∀(X:Cx),X.prog=P->X.w=w->X.K=K->X.calm=true-> ∀(i:Nat) (za:AO) (s:Sh) (σ:St) (H:Hp) (E:VP),Inv X za σ H s->(∀b∈fp,FpOk X za H b)->tn i s.heap->J.go i H->
  wpAny (model P w) X.A (pyNext (.ref it)) (λr s1=> ∃u,r=some u/\
   wpAny (model P w) X.A (letOwnedTupleGo tg (.ref it) u) (λ_ s2=> ∃x H',Inv X za σ H' s2/\RelV x u/\J.yld i H x H'/\tn (i+1) s2.heap/\ ∀b∈fp,H' b=none) E s1) E s
 done: ∀(X:Cx),X.prog=P->X.w=w->X.K=K->X.calm=true-> ∀(i:Nat) (za:AO) (s:Sh) (σ:St) (H:Hp) (E:VP),Inv X za σ H s->(∀b∈fp,FpOk X za H b)->tn i s.heap->J.stop i H->
  wpAny (model P w) X.A (pyNext (.ref it)) (λr s1=>r=none/\Inv X za σ H s1) E s
 self: ∀(A:Ar) (i:Nat) (s:Sh) (Q:VP) (E:VP),tn i s.heap->Q (.ref it) s->wpAny (model P w) A (pyIter (.ref it)) Q E s
abbrev TI:=St->Hp->(It->Hp->Prop)->Prop
def yo(X:Cx)(d:AO)(i:St)(j:Expr)(R:It->Hp->Prop)(a:Vl)(e:Sh):Prop:=
 ∃(f:Ad) (g:As) (h:Nat->Heap->Prop) (J:It) (c:Hp),a= .ref f/\Inv X d i c e/\Turn X.prog X.w X.K j J g f h/\h 0 e.heap/\(∀b∈g,FpOk X d c b)/\R J c
def PI(X:Cx)(d a:Expr)(e:TI):Prop:=
 ∀(c:AO) (s:Sh) (b:St) (H:Hp) (R:It->Hp->Prop),Inv X c b H s->e b H R->
  wpAny (model X.prog X.w) X.A (eval a X.env) (λv f=>wpAny (model X.prog X.w) X.A (pyIter v) (yo X c b d R) X.xe f) X.xe s
def wh{M:Model}{A:Ar}{E:VP}{s:Sh}{b:Expr}{c:Ad}{u:Vl}{o:Obj}{n:String}{d:AV}{Q:Unit->Sh->Prop}(e:s.heap.get? c=some o)(f:o.cls= .type n)(g:o.data= .fields d)
    (i:["enumerate","zip","dict_itemiterator","dict_reverseitemiterator","odict_iterator","itertools.zip_longest","itertools.pairwise"].contains n=false) (a:Q () s):wpAny M A (letOwnedTupleGo b (.ref c) u) Q E s:=by
  unfold letOwnedTupleGo;cases b<;>first
    |exact cu a
    |(cases u<;>first
        |exact cu a
        | (refine ci (wpAny_load e ?_)
           rw[f,g];show wpAny M A (if(["enumerate","zip","dict_itemiterator","dict_reverseitemiterator","odict_iterator","itertools.zip_longest","itertools.pairwise"].contains n&&d[0]? ==some (rawInt _))=true then _ else _) Q E s
           rw[wA (by intro h;rw[i,wm]at h;cases h)];exact cu a))
def rk(K:W.Frag)(a:Ad):It:=
 ⟨λi H=> ∃b x,SqL K H a b/\b[i]? =some x,λi H x c=>c=H/\ ∀b,SqL K H a b->b[i]? =some x,λi H=> ∃b,SqL K H a b/\b.length<=i⟩
def uT(K:W.Frag)(a:Ad):It:=
 ⟨λi H=> ∃b x,SqT K H a b/\b[i]? =some x,λi H x c=>c=H/\ ∀b,SqT K H a b->b[i]? =some x,λi H=> ∃b,SqT K H a b/\b.length<=i⟩
def oE(lo:Int)(n:Nat):It:=⟨λi _=>i<n,λi H x a=>a=H/\x= .int (lo+i),λi _=>n<=i⟩
def Ip{P:Pg}{w:World}{K:W.Frag}{Q:Expr}(a f:Ad):Turn P w K Q (rk K a) [f] f (λi h=>h.IsListIter f a i) where
 mem:=by simp
 obj:=λi h st b g=>by
  have e:b=f:=by simpa using g
  subst e;obtain⟨o,e,c,d⟩:=st;exact⟨o,e,λv z=>by rw[d]at z;cases z⟩
 keep:=λi h l st k=>st.at λo e=>k f (by simp) o e
 item:=by
  intro X q hw r M i N s O H E I m st t;subst q hw r;obtain⟨T,x,n,y⟩:=t;obtain⟨A,B,p,U⟩:=I.list n;obtain⟨u,Y,ru⟩:=B.get y;obtain⟨C,D,f2,G,J,L⟩:=m f (by simp);refine wpAny_pyNext_list_item st p.isList (x:=u) (by simpa using Y) λl j sb=>?_;have I1:Inv X N O H {s with heap:=l}:=I.turned (t':=s.toks) (λb o g e=>(sb.2 b g).trans e) C D G J L;obtain⟨o,e,c,d⟩:=id j;exact⟨u,rfl,wh (s:={s with heap:=l}) e c d (by decide) ⟨x,H,I1,ru,⟨rfl,λys hy=>by rw[I.list_inj hy n];exact y⟩,j,λb g=>(m b g).1⟩⟩
 done:=by
  intro X q hw r M i N s O H E I m st t;subst q hw r;obtain⟨T,n,y⟩:=t;obtain⟨A,B,p,U⟩:=I.list n;obtain⟨C,D,f2,G,J,L⟩:=m f (by simp);have hl:=B.length;exact wpAny_pyNext_list_end (I.ok.hd M) st p.isList (by simp;lia) λl eb=>⟨rfl,I.turned (t':=s.toks) (λb o g e=>eb b o g e) C D G J L⟩
 self:=λ_ _ _ _ _ st h=>wpAny_pyIter_listiter st h
def Jn{P:Pg}{w:World}{K:W.Frag}{Q:Expr}(a f:Ad):Turn P w K Q (uT K a) [f] f (λi h=>h.IsTupleIter f a i) where
 mem:=by simp
 obj:=λi h st b g=>by
  have e:b=f:=by simpa using g
  subst e;obtain⟨o,e,c,d⟩:=st;exact⟨o,e,λv z=>by rw[d]at z;cases z⟩
 keep:=λi h m st k=>st.at λo e=>k f (by simp) o e
 item:=by
  intro X r hw t M i N s O H E I n st y;subst r hw t;obtain⟨T,x,q,A⟩:=y;obtain⟨j,B,p,U⟩:=I.tuple q;obtain⟨u,Y,ru⟩:=B.get A;obtain⟨C,D,f2,G,J,L⟩:=n f (by simp);refine wpAny_pyNext_tuple_item st (show s.heap.IsTuple a j.toArray from p) (x:=u) (by simpa using Y) λm l sb=>?_;have I1:Inv X N O H {s with heap:=m}:=I.turned (t':=s.toks) (λb o g e=>(sb.2 b g).trans e) C D G J L;obtain⟨o,e,c,d⟩:=id l;exact⟨u,rfl,wh (s:={s with heap:=m}) e c d (by decide) ⟨x,H,I1,ru,⟨rfl,λys hy=>by rw[I.tuple_inj hy q];exact A⟩,l,λb g=>(n b g).1⟩⟩
 done:=by
  intro X r hw t M i N s O H E I n st y;subst r hw t;obtain⟨T,q,A⟩:=y;obtain⟨j,B,p,U⟩:=I.tuple q;obtain⟨C,D,f2,G,J,L⟩:=n f (by simp);have hl:=B.length;exact wpAny_pyNext_tuple_end (I.ok.hd M) st (show s.heap.IsTuple a j.toArray from p) (by simp;lia) λm eb=>⟨rfl,I.turned (t':=s.toks) (λb o g e=>eb b o g e) C D G J L⟩
 self:=λ_ _ _ _ _ st h=>wpAny_pyIter_tupleiter st h
def KL{P:Pg}{w:World}{K:W.Frag}{D:Expr}(a:Ad)(lo:Int)(n:Nat):Turn P w K D (oE lo n) [a] a (λi h=>IsRangeIter h a (lo+(i:Nat) * 1) ((n:Int)-(i:Nat)) 1) where
 mem:=by simp
 obj:=λi h st b c=>by
  have e:b=a:=by simpa using c
  subst e;exact⟨_,st,λv z=>by
   have G:Data.fields _=Data.cell v:=z;cases G⟩
 keep:=λi h f st k=>k a (by simp) _ st
 item:=by
  intro X j hw l m i A s B H E I g st p;subst j hw l;obtain⟨q,r,J,u,x,y⟩:=g a (by simp);have W:=Walks.range (prog:=X.prog) (w:=X.w) (I.ok.hd m) a lo 1 n;refine W.item i s _ _ p st λv f C L d M=>?_;obtain⟨t,rfl⟩:=L;have N:Inv X A B H {s with heap:=f,toks:=C}:=I.turned (λb o c e=>M b o (by simpa using c) e) q r u x y;refine⟨_,rfl,wh (s:={s with heap:=f,toks:=C}) (n:="range_iterator") d rfl rfl (by decide) ⟨.int (lo+i),H,N,⟨t,?_⟩,⟨rfl,rfl⟩,d,λb c=>(g b c).1⟩⟩;rw[Int.mul_one]
 done:=by
  intro X j hw l m i A s B H E I g st p;subst j hw l;obtain⟨q,r,J,u,x,y⟩:=g a (by simp);exact wpAny_pyNext_range_end (I.ok.hd m) st (by have:n<=i:=p;lia) λf O=>⟨rfl,I.turned (t':=s.toks) (λb o c e=>O b o c e) q r u x y⟩
 self:=λ_ _ _ _ _ st h=>wpAny_pyIter_rangeiter st h
section
variable{X:Cx}{tg:Expr}
def EK(K:W.Frag)(tl:TE):TI:=λc H R=>tl c H λx b=> ∃a,x= .ref a/\(∃d,SqL K b a d)/\R (rk K a) b
def AM(K:W.Frag)(tl:TE):TI:=λc H R=>tl c H λx b=> ∃a,x= .ref a/\(∃d,SqT K b a d)/\R (uT K a) b
def gF{l:Expr}{tl:TE}(f:PE X l tl):PI X tg l (EK X.K tl):=by
 intro g s i H R I h;refine cG (f g s i H _ I h) λv c ⟨x,j,d,k,m⟩=>?_;obtain⟨a,e,⟨u,n⟩,q⟩:=m;subst e;cases k;obtain⟨r,w,p,y⟩:=d.list n;refine xE p.isList ?_;refine⟨c.heap.objs.size,[c.heap.objs.size],_,_,j,rfl,d.kept (t':=c.toks) λb o e=>dj _ e,Ip a _,⟨_,dZ _ rfl,rfl,rfl⟩,λb t=>?_,q⟩;have e:b=c.heap.objs.size:=by simpa using t
 subst e;exact d.fpOk (cD _) (d.hok.fresh (cD _))
def tS{l:Expr}{tl:TE}(g:PE X l tl):PI X tg l (AM X.K tl):=by
 intro i s j H R I h;refine cG (g i s j H _ I h) λv c ⟨x,k,d,m,n⟩=>?_;obtain⟨a,e,⟨u,r⟩,q⟩:=n;subst e;cases m;obtain⟨f,w,p,y⟩:=d.tuple r;refine yB (show c.heap.IsTuple a f.toArray from p) ?_;refine⟨c.heap.objs.size,[c.heap.objs.size],_,_,k,rfl,d.kept (t':=c.toks) λb o e=>dj _ e,Jn a _,⟨_,dZ _ rfl,rfl,rfl⟩,λb t=>?_,q⟩;have e:b=c.heap.objs.size:=by simpa using t
 subst e;exact d.fpOk (cD _) (d.hok.fresh (cD _))
def GA{c:AO}{d:St}{H:Hp}{s:Sh}{R:It->Hp->Prop}{E:VP}{lo a:Int}{t u v:Tok}{f:Nat}(I:Inv X c d H s)(h: -(2 ^ 62)<=lo)(i:lo<2 ^ 62)(j: -(2 ^ 62)<=a)(k:a<2 ^ 62)
  (q:R (oE lo (a-lo).toNat) H):wpAny (model X.prog X.w) X.A (pyIter (.ref s.heap.objs.size)) (yo X c d tg R) E {s with heap:=s.heap.push {cls:= .type "range",data:= .fields #[.int lo t,.int a u,.int 1 v]},toks:=f}:=by
 refine wpAny_pyIter_range (IsRange.new ..) (small_one h i j k) ?_;have g:Inv X c d H {s with heap:=s.heap.push {cls:= .type "range",data:= .fields #[.int lo t,.int a u,.int 1 v]},toks:=f}:=I.kept λb o e=>dj _ e;refine⟨(s.heap.push {cls:= .type "range",data:= .fields #[.int lo t,.int a u,.int 1 v]}).objs.size,[(s.heap.push {cls:= .type "range",data:= .fields #[.int lo t,.int a u,.int 1 v]}).objs.size],_,_,H,rfl,
  g.kept (t':=f) λb o e=>dj _ e,KL _ lo (a-lo).toNat,?_,λb l=>?_,q⟩
 .have m:lo+((0:Nat):Int) * 1=lo:=by simp
  have n:(((a-lo).toNat:Nat):Int)-((0:Nat):Int)=Builtin.Range.rangeSize lo a 1:=by rw[rangeSize_one];split<;>lia
  show IsRangeIter _ _ (lo+((0:Nat):Int) * 1) ((((a-lo).toNat:Nat):Int)-((0:Nat):Int)) 1;rw[m,n];exact dZ _ rfl
 .have e:b=(s.heap.push {cls:= .type "range",data:= .fields #[.int lo t,.int a u,.int 1 v]}).objs.size:=by simpa using l
  subst e;exact g.fpOk (cD _) (g.hok.fresh (cD _))
def CS(a:TA):TI:=λb H R=>a b H λc d=> ∃j:Int,c=[.int j]/\ -(2 ^ 62)<=j/\j<2 ^ 62/\R (oE 0 j.toNat) d
def jy{a:Expr}{c:TA}{p pos:Pos}(d:Gl X "range")(f:X.mg "range"=none)(g:PA X [a] c)(i:starEach [a] X.env=[(false,eval a X.env)]:=by rfl):PI X tg (.Call (.Name "range" p) [a] [] pos) (CS c):=by
 intro k s l H R I h;refine Call_ (oZ I d f boot_range (vH (cG (g pos k s l H _ I h) λv w ⟨x,y,m,n,b⟩=>?_) i rfl));obtain⟨j,e,b,o,q⟩:=b;subst e;cases n with
 |cons r u=>
  cases u;obtain⟨t,rfl⟩:=r;exact call_range_1 (GA m (by lia) (by lia) b o (by simpa using q))
def on(f:TI)(g:TG)(h:TS):TS:=λD a H=>f a H λJ j=> ∃W:Nat->Nat->St->Hp->Prop,(∃m,W 0 m a j)/\ ∀i m a H,W i m a H->
 (J.stop i H/\D.nx a H)∨(J.go i H/\ ∃N:St->Hp->Prop,(∀b c,N b c-> ∃e,e<m/\W (i+1) e b c)/\ ∀x c,J.yld i H x c->g x a c λd k=>h {D with nx:=N,ct:=N,bk:=D.nx} d k)
def ui(a:As)(h:Heap):AO:=a.filterMap λb=>(h.get? b).map λo=>(b,o)
def vk{a:As}{h:Heap}{b:Ad}{o:Obj}(c:b∈a)(e:h.get? b=some o):(b,o)∈ui a h:=List.mem_filterMap.mpr ⟨b,c,by rw[e];rfl⟩
def J6{a:As}{h:Heap}{p:Ad×Obj}(c:p∈ui a h):p.1∈a/\h.get? p.1=some p.2:=by
 obtain⟨b,d,e⟩:=List.mem_filterMap.mp c;cases q:h.get? b with
 |none=>rw[q]at e;cases e
 |some o=>
  rw[q]at e;have f:(b,o)=p:=fH e;subst f;exact⟨d,q⟩
def Inv.pinned{a:AO}{f:St}{H:Hp}{s:Sh}{c:As}(I:Inv X a f H s)(i: ∀b∈c,FpOk X a H b)(j: ∀b∈c,∃o,s.heap.get? b=some o/\ ∀v,o.data≠ .cell v):Inv X (a++ui c s.heap) f H s:=
 I.pins_of λp k=>(di.mp k).elim (λz=>I.pin p (fE _ z)) λz=>by
  obtain⟨g,e⟩:=J6 z;obtain⟨l,m,n,_⟩:=i p.1 g;obtain⟨o,h,d⟩:=j p.1 g;rw[e]at h;cases h;exact⟨e,l,m,n,d⟩
def Inv.unpinned{a c:AO}{b:St}{H:Hp}{s:Sh}(I:Inv X (a++c) b H s):Inv X a b H s:=I.pins_of λp d=>I.pin p (fE _ (mq _ d))
def hR{c:Expr}{y:List Stmt}{wi:TI}{g:TG}{tb:TS}{pos:Pos}(C:PassesOwn (model X.prog X.w) X.A X.env X.xe)(hc:X.calm=true)(hi:PI X tg c wi)(hg:PG X tg g)(j:PSs X y tb)
  (hs: ∀x,foldedSetIterable c X.env x=pure x:=by intro _;rfl):PS X (.For tg c y [] pos) (on wi g tb):=by
 intro A s σ H D I h;refine wpAny_For (cG (hi A s σ H _ I h) λv s1 h1=>cG h1 λae s2 h2=>?_) hs;obtain⟨it,E,tn,J,H2,e,I2,T,Q,f2,W,⟨m0,w0⟩,turn⟩:=h2;subst e;have k: ∀{w:Hp},(∀b∈E,w b=none)-> ∀b∈E,FpOk X A w b:=λhn b j=>⟨hn b j,(f2 b j).2⟩;refine codeAny_forLoop_any (λn s'=> ∃i l w,Inv X A l w s'/\tn i s'.heap/\(∀b∈E,w b=none)/\W i n l w) ?_ m0 ⟨0,σ,H2,I2,Q,λb j=>(f2 b j).1,w0⟩;rintro n s3 ⟨i,p,O,I3,G,L,w3⟩
 rcases turn i n p O w3 with⟨stop,qn⟩|⟨go,N,hN,step⟩
 .refine oW C (cG (T.done X rfl rfl rfl hc i A s3 p O X.xe I3 (k L) G stop) λr s4 ⟨U,I4⟩=>?_);subst U;exact wg ⟨p,O,I4,qn⟩
 .refine oW C (cG (T.item X rfl rfl rfl hc i A s3 p O X.xe I3 (k L) G go) λr s4 ⟨u,U,h4⟩=>?_);subst U;refine oW C (cG h4 λ_ s5 ⟨x,H5,I5,r5,y5,B,Y⟩=>?_);have aa:=I5.pinned (k Y) (T.obj _ _ B);refine oW C (cG (hg _ s5 p H5 x u _ aa r5 (step x H5 y5)) λ_ s6 ⟨ab,H6,I6,q6⟩=>?_);refine oW C (cG (j _ s6 ab H6 _ I6 q6) λf s7 z=>?_);have again: ∀{a:St} {q:Hp},Inv X (A++ui E s5.heap) a q s7->N a q-> ∃m,m<n/\ ∃i l w,Inv X A l w s7/\tn i s7.heap/\(∀b∈E,w b=none)/\W i m l w:=λ{a q} t M=>by
   obtain⟨m',hm,w7⟩:=hN a q M;refine⟨m',hm,i+1,a,q,t.unpinned,T.keep _ _ _ B λb j o e=>(t.pin (b,o) (fE _ (fE _ (vk j e)))).1,λb j=>?_,w7⟩;obtain⟨o,e,d⟩:=T.obj _ _ B b j;exact(t.pin (b,o) (fE _ (fE _ (vk j e)))).2.1
  cases f with
  |next=>obtain⟨a,q,t,M⟩:=z;exact again t M
  |cont=>obtain⟨a,q,t,M⟩:=z;exact again t M
  |brk=>obtain⟨a,q,t,z⟩:=z;exact⟨a,q,t.unpinned,z⟩
  |ret v=>obtain⟨x7,a,q,t,r7,z⟩:=z;exact⟨x7,a,q,t.unpinned,r7,z⟩
end
def ni{K:W.Frag}{a:Ad}{xs:List V}{g:TG}{k:TS}{D:Ends}{b:St}{H:Hp}(Pv:Nat->St->Hp->Prop)(n:Pv 0 b H)(o: ∀i b H,i<=xs.length->Pv i b H->SqL K H a xs)
  (r: ∀i x b H,xs[i]? =some x->Pv i b H->g x b H λc j=>k {D with nx:=Pv (i+1),ct:=Pv (i+1),bk:=D.nx} c j) (s: ∀b H,Pv xs.length b H->D.nx b H):
  ∃W:Nat->Nat->St->Hp->Prop,(∃m,W 0 m b H)/\ ∀i m b H,W i m b H->
   ((rk K a).stop i H/\D.nx b H)∨((rk K a).go i H/\ ∃N:St->Hp->Prop,(∀d f,N d f-> ∃l,l<m/\W (i+1) l d f)/\ ∀x f,(rk K a).yld i H x f->g x b f λc j=>k {D with nx:=N,ct:=N,bk:=D.nx} c j):=by
 refine⟨λi m b H=>m=xs.length-i/\i<=xs.length/\Pv i b H,⟨xs.length,by simp,Nat.zero_le _,n⟩,?_⟩;rintro i m b H ⟨rfl,t,p⟩;have q:=o i b H t p;by_cases h:i<xs.length
 .refine .inr ⟨⟨xs,xs[i],q,by simp[h]⟩,Pv (i+1),λd f u=>⟨xs.length-(i+1),Nat.sub_succ_lt_self _ _ h,rfl,h,u⟩,λx f y=>?_⟩;obtain⟨e,y⟩:=y;subst e;exact r i x b _ (y xs q) p
 .have e:i=xs.length:=by lia
  subst e;exact .inl ⟨⟨xs,q,cD _⟩,s b H p⟩
def wR{lo:Int}{n:Nat}{g:TG}{j:TS}{D:Ends}{a:St}{H:Hp}(Pv:Nat->St->Hp->Prop)(l:Pv 0 a H)
  (o: ∀i a H,i<n->Pv i a H->g (.int (lo+i)) a H λc h=>j {D with nx:=Pv (i+1),ct:=Pv (i+1),bk:=D.nx} c h) (q: ∀a H,Pv n a H->D.nx a H):
  ∃W:Nat->Nat->St->Hp->Prop,(∃m,W 0 m a H)/\ ∀i m a H,W i m a H->
   ((oE lo n).stop i H/\D.nx a H)∨((oE lo n).go i H/\ ∃N:St->Hp->Prop,(∀d f,N d f-> ∃k,k<m/\W (i+1) k d f)/\ ∀x f,(oE lo n).yld i H x f->g x a f λc h=>j {D with nx:=N,ct:=N,bk:=D.nx} c h):=by
 refine⟨λi m a H=>m=n-i/\i<=n/\Pv i a H,⟨n,by simp,Nat.zero_le _,l⟩,?_⟩;rintro i m a H ⟨rfl,s,p⟩;by_cases b:i<n
 .refine .inr ⟨b,Pv (i+1),λd f r=>⟨n-(i+1),Nat.sub_succ_lt_self _ _ b,rfl,b,r⟩,λx f y=>?_⟩;obtain⟨e,y⟩:=y;subst e y;exact o i a _ b p
 .have e:i=n:=by lia
  subst e;exact .inl ⟨cD _,q a H p⟩
abbrev R2:=V->V->Hp->VK->Prop
def OpR(X:Cx)(f:Vl->Vl->Sem Vl)(r:R2):Prop:=
 ∀(a:AO) (s:Sh) (b:St) (H:Hp) (x y:V) (v u:Vl) (Q:VK),Inv X a b H s->RelV x v->RelV y u->r x y H Q->
  wpAny (model X.prog X.w) X.A (f v u) (EP X a b Q) X.xe s
def zU(X:Cx)(f:Vl->Sem Vl)(r:V->Hp->VK->Prop):Prop:=
 ∀(a:AO) (s:Sh) (b:St) (H:Hp) (x:V) (v:Vl) (Q:VK),Inv X a b H s->RelV x v->r x H Q->
  wpAny (model X.prog X.w) X.A (f v) (EP X a b Q) X.xe s
def gv(X:Cx)(f:Vl)(r:List V->Hp->VK->Prop):Prop:=
 ∀(a:AO) (s:Sh) (b:St) (H:Hp) (c:List V) (d:Vs) (Q:VK),Inv X a b H s->Vals c d->r c H Q->
  wpAny (model X.prog X.w) X.A (call f d) (EP X a b Q) X.xe s
def Ah(X:Cx)(r:V->Hp->(Bool->Hp->Prop)->Prop):Prop:=
 ∀(a:AO) (s:Sh) (b:St) (H:Hp) (x:V) (v:Vl) (Q:Bool->Hp->Prop),Inv X a b H s->RelV x v->r x H Q->
  wpAny (model X.prog X.w) X.A (truthy v) (TP X a b Q) X.xe s
def uS(r:R2)(b c:TE):TE:=λa H Q=>b a H λx d=>c a d λy e=>r x y e Q
def L3(r:V->Hp->VK->Prop)(a:TE):TE:=λb H Q=>a b H λx c=>r x c Q
def rI(C:Int->Int->Prop)(g:Int->Int->V):R2:=λx y H Q=> ∃i j,x= .int i/\y= .int j/\C i j/\Q (g i j) H
def n7(g:Int->Int->V):R2:=λx y H Q=> ∃i j,x= .int i/\y= .int j/\Q (g i j) H
def rU(g:Int->V):V->Hp->VK->Prop:=λx H Q=> ∃i,x= .int i/\Q (g i) H
section
variable{X:Cx}{a b c:Expr}{ta tb tc:TE}{pos:Pos}
def pB(m:PE X a ta)(n:PE X b tb){j:AO}{s:Sh}{d:St}{H:Hp}{R:V->V->Hp->Prop}(I:Inv X j d H s)
  (h:ta d H λx l=>tb d l λy e=>R x y e) {Q:VP} {f:Vl->Vl->Sem Vl}
  (o: ∀v u k x y e,Inv X j d e k->RelV x v->RelV y u->R x y e->wpAny (model X.prog X.w) X.A (f v u) Q X.xe k):
  wpAny (model X.prog X.w) X.A (eval a X.env) (λv g=>wpAny (model X.prog X.w) X.A (eval b X.env) (λu i=>wpAny (model X.prog X.w) X.A (f v u) Q X.xe i) X.xe g) X.xe s:=by
 refine cG (m j s d H _ I h) λv p ⟨x,l,q,r,t⟩=>?_;refine cG (n j p d l _ q t) λu k ⟨y,e,w,z,A⟩=>?_;exact o v u k x y e w r z A
def ez{d:Operator}{r:R2}(e:OpR X (binaryOp d) r)(f:PE X a ta)(g:PE X b tb):PE X (.BinOp a d b pos) (uS r ta tb):=by
 intro i s j H Q I h;exact wpAny_BinOp (pB f g I h λv u k x y l m n o q=>e i k j l x y v u Q m n o q)
def t7{d:UnaryOp}{r:V->Hp->VK->Prop}(g:zU X (unaryOp d) r)(i:PE X a ta):PE X (.UnaryOp d a pos) (L3 r ta):=by
 intro e s f H Q I h;exact UnaryOp_ (cG (i e s f H _ I h) λv j ⟨x,k,l,m,n⟩=>g e j f k x v Q l m n)
def xX{f:Vl->Vl->Sem Vl}{C:Int->Int->Prop}{g:Int->Int->Int}
  (rule: ∀(i j:Int) (t u:Tok) (s:Sh) (Q:VP) (E:VP),C i j->Q (.int (g i j) s.toks) {s with toks:=s.toks+1}->wpAny (model X.prog X.w) X.A (f (.int i t) (.int j u)) Q E s):
  OpR X f (rI C λi j=> .int (g i j)):=by
 intro m s n H x y v u Q I d e h;obtain⟨i,j,rfl,rfl,k,q⟩:=h;obtain⟨t,rfl⟩:=d;obtain⟨l,rfl⟩:=e;exact rule i j t l s _ _ k ⟨.int (g i j),H,I.tok _,⟨_,rfl⟩,q⟩
def uL{f:Vl->Vl->Sem Vl}{g:Int->Int->Int}
  (rule: ∀(i j:Int) (t u:Tok) (s:Sh) (Q:VP) (E:VP),Q (.int (g i j) s.toks) {s with toks:=s.toks+1}->wpAny (model X.prog X.w) X.A (f (.int i t) (.int j u)) Q E s):
  OpR X f (n7 λi j=> .int (g i j)):=by
 intro l s m H x y v u Q I d e h;obtain⟨i,j,rfl,rfl,q⟩:=h;obtain⟨t,rfl⟩:=d;obtain⟨k,rfl⟩:=e;exact rule i j t k s _ _ ⟨.int (g i j),H,I.tok _,⟨_,rfl⟩,q⟩
def pq{f:Vl->Vl->Sem Vl}{g:Int->Int->Bool}
  (rule: ∀(i j:Int) (t u:Tok) (s:Sh) (Q:VP) (E:VP),Q (.bool (g i j)) s->wpAny (model X.prog X.w) X.A (f (.int i t) (.int j u)) Q E s):
  OpR X f (n7 λi j=> .bl (g i j)):=by
 intro l s m H x y v u Q I d e h;obtain⟨i,j,rfl,rfl,q⟩:=h;obtain⟨t,rfl⟩:=d;obtain⟨k,rfl⟩:=e;exact rule i j t k s _ _ ⟨.bl (g i j),H,I,rfl,q⟩
def AX(i j:Int):Prop:=0<j/\j<1073741824
def CMul(i j:Int):Prop:=(-(2 ^ 64)<i/\i<2 ^ 64)∨(-(2 ^ 64)<j/\j<2 ^ 64)
def CMul.ok{i j:Int}(h:CMul i j):IntMulOk i j:=by
 rcases h with⟨d,e⟩|⟨d,e⟩
 .exact .of_left (intBits_le_64 d e)
 .exact .of_right (intBits_le_64 d e)
def qg:OpR X (binaryOp .Add) (n7 λi j=> .int (i+j)):=uL λ_ _ _ _ _ _ _ q=>add_int q
def GH:OpR X (binaryOp .Sub) (n7 λi j=> .int (i-j)):=uL λ_ _ _ _ _ _ _ q=>sub_int q
def KP:OpR X (binaryOp .Mult) (rI CMul λi j=> .int (i * j)):=xX λ_ _ _ _ _ _ _ d q=>mul_int q d.ok
def rn:OpR X (binaryOp .FloorDiv) (rI AX λi j=> .int (i/j)):=xX λi j _ _ _ _ _ d q=>by
 have e:(0:Int)<j:=d.1;have f:j<1073741824:=d.2;exact floordiv_int (by lia) (by rw[Int.fdiv_eq_ediv_of_nonneg i (by lia)];exact q) (.inl (PyProof.noPylong_small (by lia)))
def iE:OpR X (binaryOp .Mod) (rI (λ_ j=>0<j) λi j=> .int (i%j)):=xX λi j _ _ _ _ _ d q=>by
 have e:(0:Int)<j:=d;exact mod_int' (by lia) (by rw[Int.fmod_eq_emod_of_nonneg i (by lia)];exact q)
def Jf{f:Vl->Sem Vl}{g:Int->Int}
  (rule: ∀(i:Int) (t:Tok) (s:Sh) (Q:VP) (E:VP),Q (.int (g i) s.toks) {s with toks:=s.toks+1}->wpAny (model X.prog X.w) X.A (f (.int i t)) Q E s):
  zU X f (rU λi=> .int (g i)):=by
 intro e s j H x v Q I d h;obtain⟨i,rfl,q⟩:=h;obtain⟨t,rfl⟩:=d;exact rule i t s _ _ ⟨.int (g i),H,I.tok _,⟨_,rfl⟩,q⟩
def Kj:zU X (unaryOp .USub) (rU λi=> .int (-i)):=Jf λ_ _ _ _ _ q=>neg_int q
end
def sh:V->V->Bool
 | .non,.non=>true| .non,.int _=>true| .int _,.non=>true| .non,.bl _=>true| .bl _,.non=>true| .non,.str _=>true| .str _,.non=>true
 | .int _,.int _=>true| .bl _,.bl _=>true| .str _,.str _=>true| .byt _,.byt _=>true
 | .int _,.str _=>true| .str _,.int _=>true| .bl _,.str _=>true| .str _,.bl _=>true
 |_,_=>false
def KH:R2:=λx y H Q=>sh x y=true/\Q (.bl (decide (x=y))) H
def KW:R2:=λx y H Q=>sh x y=true/\Q (.bl (!decide (x=y))) H
def Ex{i j:Int}:decide (V.int i=V.int j)=(i==j):=by
 rw[iw];simp
def D2{i j:Bool}:decide (V.bl i=V.bl j)=(i==j):=by
 rw[iw];simp
def D9{i j:Str}:decide (V.str i=V.str j)=(i==j):=by
 rw[iw];simp
def Ee{i j:Array UInt8}:decide (V.byt i=V.byt j)=(i.toList==j.toList):=by
 rw[iw];cases i;cases j;simp
section
variable{X:Cx}{a b c:Expr}{ta tb tc:TE}{pos:Pos}
def eJ{d:AO}{f:St}{H:Hp}{s:Sh}{Q:VK}{k g:Bool}(I:Inv X d f H s)(q:Q (.bl k) H)(e:k=g):EP X d f Q (.bool g) s:=by
 subst e;exact⟨.bl k,H,I,rfl,q⟩
def nY:OpR X (compareOp .Eq) KH:=by
 intro k s l H x y v u Q I g d h;obtain⟨f,q⟩:=h;cases x with
 |non=>
  cases g;cases y with
  |non=>cases d;exact PySem.EqNone.eq_none_none (eJ I q (by simp))
  |bl j=>cases d;exact PySem.EqNone.eq_none_bool (eJ I q (by simp))
  |int j=>obtain⟨e,rfl⟩:=d;exact PySem.EqNone.eq_none_int (eJ I q (by simp))
  |str j=>obtain⟨e,rfl⟩:=d;exact PySem.EqNone.eq_none_str (eJ I q (by simp))
  |_=>exact wC (show false=true from f) e9
 |bl i=>
  cases g;cases y with
  |non=>cases d;exact PySem.EqNone.eq_bool_none (eJ I q (by simp))
  |bl j=>cases d;exact eq_bool (eJ I q D2)
  |str j=>obtain⟨e,rfl⟩:=d;exact PySem.EqMixed.eq_bool_str (eJ I q (by simp))
  |_=>exact wC (show false=true from f) e9
 |int i=>
  obtain⟨t,rfl⟩:=g;cases y with
  |non=>cases d;exact PySem.EqNone.eq_int_none (eJ I q (by simp))
  |int j=>obtain⟨e,rfl⟩:=d;exact eq_int (eJ I q Ex)
  |str j=>obtain⟨e,rfl⟩:=d;exact PySem.EqMixed.eq_int_str (eJ I q (by simp))
  |_=>exact wC (show false=true from f) e9
 |str i=>
  obtain⟨t,rfl⟩:=g;cases y with
  |non=>cases d;exact PySem.EqNone.eq_str_none (eJ I q (by simp))
  |bl j=>cases d;exact PySem.EqMixed.eq_str_bool (eJ I q (by simp))
  |int j=>obtain⟨e,rfl⟩:=d;exact PySem.EqMixed.eq_str_int (eJ I q (by simp))
  |str j=>obtain⟨e,rfl⟩:=d;exact eq_str (eJ I q D9)
  |_=>exact wC (show false=true from f) e9
 |byt i=>
  obtain⟨t,rfl⟩:=g;cases y with
  |byt j=>obtain⟨e,rfl⟩:=d;exact PySem.W.eq_bytes (eJ I q Ee)
  |_=>exact wC (show false=true from f) e9
 |_=>cases y<;>exact wC (show false=true from f) e9
def CN:OpR X (compareOp .NotEq) KW:=by
 intro k s l H x y v u Q I g d h;obtain⟨f,q⟩:=h;cases x with
 |non=>
  cases g;cases y with
  |non=>cases d;exact PySem.EqNone.ne_none_none (eJ I q (by simp))
  |bl j=>cases d;exact PySem.EqNone.ne_none_bool (eJ I q (by simp))
  |int j=>obtain⟨e,rfl⟩:=d;exact PySem.EqNone.ne_none_int (eJ I q (by simp))
  |str j=>obtain⟨e,rfl⟩:=d;exact PySem.EqNone.ne_none_str (eJ I q (by simp))
  |_=>exact wC (show false=true from f) e9
 |bl i=>
  cases g;cases y with
  |non=>cases d;exact PySem.EqNone.ne_bool_none (eJ I q (by simp))
  |bl j=>cases d;exact ne_bool (eJ I q (dn not D2))
  |str j=>obtain⟨e,rfl⟩:=d;exact PySem.EqMixed.ne_bool_str (eJ I q (by simp))
  |_=>exact wC (show false=true from f) e9
 |int i=>
  obtain⟨t,rfl⟩:=g;cases y with
  |non=>cases d;exact PySem.EqNone.ne_int_none (eJ I q (by simp))
  |int j=>obtain⟨e,rfl⟩:=d;exact ne_int (eJ I q (dn not Ex))
  |str j=>obtain⟨e,rfl⟩:=d;exact PySem.EqMixed.ne_int_str (eJ I q (by simp))
  |_=>exact wC (show false=true from f) e9
 |str i=>
  obtain⟨t,rfl⟩:=g;cases y with
  |non=>cases d;exact PySem.EqNone.ne_str_none (eJ I q (by simp))
  |bl j=>cases d;exact PySem.EqMixed.ne_str_bool (eJ I q (by simp))
  |int j=>obtain⟨e,rfl⟩:=d;exact PySem.EqMixed.ne_str_int (eJ I q (by simp))
  |str j=>obtain⟨e,rfl⟩:=d;exact ne_str (eJ I q (dn not D9))
  |_=>exact wC (show false=true from f) e9
 |byt i=>
  obtain⟨t,rfl⟩:=g;cases y with
  |byt j=>obtain⟨e,rfl⟩:=d;exact PySem.W.ne_bytes (eJ I q (dn not Ee))
  |_=>exact wC (show false=true from f) e9
 |_=>cases y<;>exact wC (show false=true from f) e9
def tD:OpR X (compareOp .Lt) (n7 λi j=> .bl (decide (i<j))):=pq λ_ _ _ _ _ _ _ q=>lt_int q
def Bj:OpR X (compareOp .Gt) (n7 λi j=> .bl (decide (j<i))):=pq λ_ _ _ _ _ _ _ q=>gt_int q
def tr:OpR X (compareOp .GtE) (n7 λi j=> .bl (decide (j<=i))):=pq λ_ _ _ _ _ _ _ q=>ge_int q
def Ma:OpR X (compareOp .Is) (λx y H Q=>y= .non/\Q (.bl (decide (x= .non))) H):=by
 intro f s g H x y v u Q I d e h;obtain⟨rfl,q⟩:=h;cases e;refine is_none_gen (eJ I q ?_);cases x<;>first
  |(cases d;rfl)
  |(obtain⟨t,rfl⟩:=d;rfl)
def DW:OpR X (compareOp .IsNot) (λx y H Q=>y= .non/\Q (.bl (!decide (x= .non))) H):=by
 intro f s g H x y v u Q I d e h;obtain⟨rfl,q⟩:=h;cases e;refine isnot_none_gen (eJ I q ?_);cases x<;>first
  |(cases d;rfl)
  |(obtain⟨t,rfl⟩:=d;rfl)
def eI(b:Expr){d:CmpOp}(h:d≠ .In:=by decide)(e:d≠ .NotIn:=by decide):behindInMarks d b=false:=by
 have f:(d==CmpOp.In)=false:=by cases d<;>first|rfl|exact wC rfl h
 have g:(d==CmpOp.NotIn)=false:=by cases d<;>first|rfl|exact wC rfl e
 cases b<;>simp[behindInMarks,f,g]
def nL{d:CmpOp}{r:R2}(e:OpR X (compareOp d) r)(f:PE X a ta)(g:PE X b tb)(i:behindInMarks d b=false):PE X (.Compare a [d] [b] pos) (uS r ta tb):=by
 intro j s k H Q I h;exact wpAny_Compare1 (pB f g I h λv u l x y m n o p q=>e j l k m x y v u Q n o p q) i
def uM(t:TE):TT:=λd H Q=>t d H λx e=> ∃k,x= .bl k/\Q k e
def fA{d:CmpOp}{r:R2}(i:OpR X (compareOp d) r)(j:PE X a ta)(l:PE X b tb)(m:behindInMarks d b=false):PT X (.Compare a [d] [b] pos) (uM (uS r ta tb)):=by
 intro f s g H Q I h;refine wpAny_isTrue_Compare1 (cG (j f s g H _ I h) λv n ⟨x,o,p,q,t⟩=>cG (l f n g o _ p t) λu w ⟨y,A,B,C,D⟩=>
  cG (i f w g A x y v u _ B q C D) λc M ⟨z,E,G,J,k,e,L⟩=>?_) m
 subst e;cases J;exact mX ⟨E,G,L⟩
def oB(K:W.Frag)(x:V)(H:Hp)(k:Bool):Prop:=
 match x with
 | .non=>k=false
 | .bl b=>k=b
 | .int i=>k=(i != 0)
 | .str y=>y.length<=sizeLine/\k=((y.length:Int) != 0)
 | .byt y=>y.size<=sizeLine/\k=((y.size:Int) != 0)
 | .ref p=>(∃d,SqL K H p d/\k= !d.isEmpty)∨(∃d,SqT K H p d/\k= !d.isEmpty)∨ ∃e,H p=some (.dK e)/\k= !e.isEmpty
 |_=>False
def Hs{e:Type}{d:List (e×V)}{f:List (e×Vl)}(r:KV d f):(!f.isEmpty)= !d.isEmpty:=by
 cases r<;>rfl
def FN{e:List V}{d:Vs}(r:Vals e d):(!d.toArray.isEmpty)= !e.isEmpty:=by
 cases r<;>simp
def tG:(sizeLine:Nat)<2 ^ 63:=by rw[db];decide
def Mx:Ah X (λx H Q=> ∃k,oB X.K x H k/\Q k H):=by
 intro C s D H x v Q I l h;obtain⟨k,e,q⟩:=h;have E:=tG;have G:sizeLine=16777216:=db;cases x with
 |non=>
  cases l;have d:k=false:=e;subst d;exact truthy_none ⟨H,I,q⟩
 |bl b=>
  cases l;have d:k=b:=e;subst d;exact mX ⟨H,I,q⟩
 |int i=>
  obtain⟨t,rfl⟩:=l;have d:k=(i != 0):=e;subst d;exact PySem.P.truthy_int ⟨H,I,q⟩
 |str y=>
  obtain⟨t,rfl⟩:=l;obtain⟨A,d⟩:y.length<=sizeLine/\k=((y.length:Int) != 0):=e;subst d;exact PySem.P.truthy_str (by lia) ⟨H,I.tok _,q⟩
 |byt y=>
  obtain⟨t,rfl⟩:=l;obtain⟨A,d⟩:y.size<=sizeLine/\k=((y.size:Int) != 0):=e;subst d;exact PySem.W.truthy_bytes (by lia) ⟨H,I.tok _,q⟩
 | ref p=>
  cases l;have d:(∃j,SqL X.K H p j/\k= !j.isEmpty)∨(∃j,SqT X.K H p j/\k= !j.isEmpty)∨ ∃f,H p=some (.dK f)/\k= !f.isEmpty:=e
  rcases d with⟨j,n,d⟩|⟨j,n,d⟩|⟨f,n,d⟩
  .subst d;obtain⟨u,r,w,z⟩:=I.list n;have g:=r.length;exact wpAny_truthy_list w.isList (by simp only[List.size_toArray];lia) ⟨H,I.tok _,by rw[FN r];exact q⟩
  .subst d;obtain⟨u,r,w,z⟩:=I.tuple n;have g:=r.length;exact truthy_tuple w (by simp only[List.size_toArray];lia) ⟨H,I.tok _,by rw[FN r];exact q⟩
  .subst d;obtain⟨z,B,o,r,m⟩:f.length<=sizeLine/\(p==sysModules)=false/\ ∃o,KV f o/\s.heap.DictOf (iV X.prog X.w) p o:=I.hok p _ n;have g:f.length=o.length:=lV r;exact wpAny_truthy_dict B m (by lia) ⟨H,I.tok _,by rw[Hs r];exact q⟩
 |_=>exact(show False from e).elim
def Eb(i:PE X a ta)(j: ∀d,isTrue a X.env d=(do let v <-d;standAt a.pos;holding [v] (truthy v))):
  PT X a (λe H Q=>ta e H λx f=> ∃k,oB X.K x f k/\Q k f):=by
 intro g s e H Q I h;exact isTrue_plain (cG (i g s e H _ I h) λv l ⟨x,m,n,o,p⟩=>Mx g l e m x v Q n o p) (j _)
def gc{x:V}{d:Vs}(r:Vals [x] d): ∃u,d=[u]/\RelV x u:=by
 cases r with
 |cons e f=>cases f;exact⟨_,rfl,e⟩
def tF{x y:V}{d:Vs}(r:Vals [x,y] d): ∃u e,d=[u,e]/\RelV x u/\RelV y e:=by
 cases r with
 |cons f g=>
  cases g with
  |cons h i=>cases i;exact⟨_,_,rfl,f,h⟩
end
structure ObjM(h:Heap)(x dx C:Ad)(mA:SV):Prop where
 obj:h.get? x=some (PySem.W.instObj C dx)
 ns:h.Ns1 dx mA
 ne:dx≠x
def G4{h:Heap}{c:Ad}{d:SV}(n:h.Ns1 c d): ∃f,h.get? c=some f/\ ∀name,PySem.W.lookIn name f=some (d name):=by
 obtain⟨o,g,r,i,j,k,_,l⟩:=n;refine⟨o,i,λname=>?_⟩;have e:=l name;unfold nsFind findBy at e;rw[<-Array.find?_toList]at e;unfold PySem.W.lookIn;rw[j];dsimp only;split
 .rename_i y q
  rw[q]at e;exact dn some e
 .rename_i q
  rw[q]at e;have a:g.toList.any (·.refKey)=false:=by
   rw[vl];intro y m;obtain⟨z,t,b⟩:=k y (AF.mp m);simp[DictEntry.refKey,b]
  have p: ¬g.toList.any (·.refKey)=true:=by rw[a];exact e9
  rw[wA p];exact dn some e
def ObjM.look{h:Heap}{x b C:Ad}{c:SV}(I:ObjM h x b C c): ∃a,PySem.W.InstAt h x (PySem.W.instObj C b) C (some a)/\ ∀name,PySem.W.lookIn name a=some (c name):=
 let⟨a,d,e⟩:=G4 I.ns
 ⟨a,⟨I.obj,rfl,rfl,d⟩,e⟩
section
variable{prog:Pg}{w:World}{A:Ar}{E:VP}{s:Sh}{K:W.Frag}{x dx C f:Ad}{mA:SV}{name:Str}{v:Vl}
def Ld{a:Bool}{Q:VP}(X:K.In s.heap)(I:ObjM s.heap x dx C mA)(c:PySem.W.plainGet K C name=true)(d:PySem.W.hasDictIn K C=true)
  (e:PySem.W.findIn K (.ref C) name=some none) (g:mA name=some v) (b:PySem.W.handedIn v=true) (h:Q v {s with toks:=s.toks+1}):
  wpAny (model prog w) A (getAttr (.ref x) name a) Q E s:=by
 obtain⟨j,J,i⟩:=I.look;exact PySem.W.get_value X J (yI c).1 (PySem.W.findObj_own d e rfl (by rw[i,g])) b h
def K4{b:Sem Bool}{Q:Vl×Vs->Sh->Prop}(X:K.In s.heap)(I:ObjM s.heap x dx C mA)(a:PySem.W.plainGet K C name=true)
  (c:PySem.W.findIn K (.ref C) name=some (some (.ref f))) (ht:PySem.W.isFn K (.ref f)=true) (d:mA name=none) (h:Q (.ref f,[.ref x]) s):
  wpAny (model prog w) A (getMethod (.ref x) name b) Q E s:=by
 obtain⟨e,J,g⟩:=I.look;exact PySem.W.method_fn X J (yI a).1 (yI a).2 c (lN.mp ht) (by show(PySem.W.lookIn name e).map (·.isSome)=some false;rw[g,d];rfl) h
def FW{l:Ss}{Q:Unit->Sh->Prop}(X:K.In s.heap)(I:ObjM s.heap x dx C mA)
  (m:PySem.W.findIn K (.ref C) "__setattr__"=some (some (.builtin "object.__setattr__"))) (n:PySem.W.plainOver K C=true) (ht:PySem.W.takerIn K C name=some none) (o:PySem.W.hasDictIn K C=true)
  (hw:PySem.Within mA l) (p:l.length<=sizeLine)
  (h: ∀e,ObjM e x dx C (λy=>if y=name then some v else mA y)->Heap.SameBut dx s.heap e->Q () {s with heap:=e,toks:=s.toks+2}):
  wpAny (model prog w) A (setAttr (.ref x) name v) Q E s:=by
 obtain⟨B,J,D⟩:=I.look;refine PySem.W.set_plain X J m (PySem.W.osa_open (s:={s with toks:=s.toks+1}) (r:=none) X J n ht λb=>?_);obtain⟨G,q,g⟩:=PySem.W.any_some o;have t:s.heap.get? x=some ⟨.ref C,some dx,.plain,#[]⟩:=I.obj;refine ci (cu (ci (ci (wpAny_loadPart t (ci (PySem.W.Looks.here (s:={s with toks:=s.toks+1}) (PySem.W.looks_clsIn X q) ?_))))));rw[g];refine cu (a:=some dx) (ci (cu (ci ?_)));refine wpAny_nsSet1 (s:={s with toks:=s.toks+1}) I.ns λe c d=>?_;obtain⟨H,u,z,i,j,k⟩:=c.count (PySem.Within.cons name v hw);refine ci (wpAny_lookBehind i (by rw[j];exact pastItsLine_dict (dt k (by rw[i9];lia))) ?_);exact cu (h _ ⟨(d.2 _ (eC I.ne)).trans I.obj,c,I.ne⟩ d)
def Mz{R:Result->Sh->Prop}{a:Vs}{b:List (Str×Vl)}(X:K.In s.heap)(c:PySem.W.makesIn K C=true)
    (e:PySem.W.findIn K (.ref C) "__init__"=some (some (.ref f))) (i:PySem.W.typeIn K (.ref f)=some (.type "function"))
    (h:codeAny (model prog w) (A.under (.builtin "type.__call__" ⟨.ref C::a,b⟩)) (.call (.ref f) ⟨.ref (s.heap.objs.size+1)::a,b⟩) (PySem.W.InitBack (s.heap.objs.size+1) R)
      {s with heap:=(s.heap.push PySem.W.emptyDict).push (PySem.W.instObj C s.heap.objs.size)}):
    codeAny (model prog w) A (.call (.ref C) ⟨a,b⟩) R s:=by
  obtain⟨j,g,d,t,os⟩:=s;exact PySem.W.make_core (PySem.W.makes_of X c) (PySem.W.looks_findIn X e) (λself=>PySem.W.bind_fn X self i) (.inl rfl) h
end
def dy(f:Str)(v:V):List (Str×V)->List (Str×V)
 | []=>[(f,v)]
 |(g,x)::r=>if g=f then(g,v)::r else(g,x)::dy f v r
theorem Ds(f g:Str)(v:V): ∀fs:List (Str×V),(dy f v fs).lookup g=if g=f then some v else fs.lookup g
 | []=>by
  show List.lookup g [(f,v)]=_;by_cases h:g=f
  .have a:(g==f)=true:=lN.mpr h;simp only[List.lookup,a,wB h]
  .have a:(g==f)=false:=mz.mpr h;simp only[List.lookup,a,wA h]
 | (k,x)::r=>by
  have c:=Ds f g v r;rw[show dy f v ((k,x)::r)=(if k=f then(k,v)::r else(k,x)::dy f v r)from rfl];by_cases b:k=f
  .rw[wB b];by_cases h:g=k
   .have a:(g==k)=true:=lN.mpr h;simp only[List.lookup,a,wB (h.trans b)]
   .have a:(g==k)=false:=mz.mpr h;simp only[List.lookup,a,wA (λe:g=f=>h (e.trans b.symm))]
  .rw[wA b];by_cases h:g=k
   .have a:(g==k)=true:=lN.mpr h;simp only[List.lookup,a,wA (λe:g=f=>b (h.symm.trans e))]
   .have a:(g==k)=false:=mz.mpr h;simp only[List.lookup,a];exact c
theorem zb(f:Str)(v:V): ∀fs:List (Str×V),f∈(dy f v fs).map (·.1)/\ ∀g,g∈fs.map (·.1)->g∈(dy f v fs).map (·.1)
 | []=>⟨by simp[dy],λg h=>by simp at h⟩
 | (k,x)::r=>by
  obtain⟨b,c⟩:=zb f v r;rw[show dy f v ((k,x)::r)=(if k=f then(k,v)::r else(k,x)::dy f v r)from rfl];by_cases a:k=f
  .rw[wB a];subst a;exact⟨by simp,λg h=>by simpa using h⟩
  .rw[wA a];refine⟨?_,λg h=>?_⟩
   .rw[fM];exact eO _ b
   .rw[fM]at h⊢
    rcases dE.mp h with e|e
    .exact dE.mpr (.inl e)
    .exact eO _ (c g e)
theorem D'(f:Str)(v:V): ∀fs:List (Str×V),(dy f v fs).length<=fs.length+1
 | []=>by simp[dy]
 |(k,x)::r=>by
  have b:=D' f v r;rw[show dy f v ((k,x)::r)=(if k=f then(k,v)::r else(k,x)::dy f v r)from rfl];by_cases a:k=f
  .rw[wB a,i9,i9];lia
  .rw[wA a,i9,i9];lia
def RelO.some_of{v:V}{o:Option Vl}(r:RelO (some v) o): ∃u,o=some u/\RelV v u:=by
 cases o with
 |none=>exact(show False from r).elim
 |some u=>exact⟨u,rfl,r⟩
def RelO.none_of{o:Option Vl}(r:RelO none o):o=none:=by
 cases o with
 |none=>rfl
 |some u=>exact(show False from r).elim
def IL{v:V}{u:Vl}(r:RelV v u):PySem.W.handedIn u=true:=by
 cases v with
 |non=>cases(show u=Value.none from r);rfl
 |bl b=>cases(show u=Value.bool b from r);rfl
 |int i=>obtain⟨t,e⟩:=(show ∃t,u=Value.int i t from r);cases e;rfl
 |str x=>obtain⟨t,e⟩:=(show ∃t,u=Value.str x t from r);cases e;rfl
 |byt b=>obtain⟨t,e⟩:=(show ∃t,u=Value.bytes b t from r);cases e;rfl
 |flt b=>obtain⟨t,e⟩:=(show ∃t,u=Value.float b t from r);cases e;rfl
 |ref a=>cases(show u=Value.ref a from r);rfl
 |ty n=>cases(show u=Value.type n from r);rfl
section
variable{P:Pg}{w:World}{H H':Hp}{h h':Heap}{a C dx:Ad}{fs fs':List (Str×V)}
def wx(c:HOk P w H h)(e:H a=some (.ins C dx fs)): ∃b,ObjM h a dx C b/\(∀f,RelO (fs.lookup f) (b f))/\PySem.Within b (fs.map (·.1))/\fs.length<=1000/\H dx=some (.own a):=by
 obtain⟨d,z,g,i,b,n,r,q⟩:=(show ObjOk P w H h a (.ins C dx fs)from c a _ e);exact⟨b,⟨i,n,g⟩,r,q,z,d⟩
end
structure Cls(K:W.Frag)(C:Ad):Prop where
 pg:PySem.W.plainGet K C Str.empty=true
 hd:PySem.W.hasDictIn K C=true
 po:PySem.W.plainOver K C=true
 sa:PySem.W.findIn K (.ref C) "__setattr__"=some (some (.builtin "object.__setattr__"))
def Cls.get{K:W.Frag}{C:Ad}(c:Cls K C)(f:Str):PySem.W.plainGet K C f=true:=c.pg
def NoAttr(K:W.Frag)(C:Ad)(f:Str):Prop:=PySem.W.findIn K (.ref C) f=some none
def NoAttr.taker{K:W.Frag}{C:Ad}{f:Str}(n:NoAttr K C f):PySem.W.takerIn K C f=some none:=by
 unfold PySem.W.takerIn;rw[show PySem.W.findIn K (.ref C) f=some none from n];rfl
structure Meth(K:W.Frag)(C:Ad)(m:Str)(f:Ad):Prop where
 at_:PySem.W.findIn K (.ref C) m=some (some (.ref f))
 fn:PySem.W.isFn K (.ref f)=true
 kp:PySem.W.keepIn K (.ref f)=true
section
variable{X:Cx}{za:AO}{σ:St}{H:Hp}{s:Sh}{a C dx:Ad}{fs:List (Str×V)}{f:Str}{v:V}{A:Ar}{E:VP}
def Lr{b:Bool}{Q:VP}(I:Inv X za σ H s)(e:H a=some (.ins C dx fs))(c:Cls X.K C)(n:NoAttr X.K C f)(l:fs.lookup f=some v)
  (h: ∀u d,Inv X za σ H d->RelV v u->Q u d):wpAny (model X.prog X.w) A (getAttr (.ref a) f b) Q E s:=by
 obtain⟨i,O,r,_,_,_⟩:=wx I.hok e;obtain⟨u,j,g⟩:=RelO.some_of (v:=v) (o:=i f) (by rw[<-l];exact r f);exact Ld I.kIn O (c.get f) c.hd n j (IL g) (h u _ (I.tok _) g)
def El{m:Str}{g:Ad}{b:Sem Bool}{Q:Vl×Vs->Sh->Prop}(I:Inv X za σ H s)(e:H a=some (.ins C dx fs))(c:Cls X.K C)(k:Meth X.K C m g)(l:fs.lookup m=none)
  (h:Q (.ref g,[.ref a]) s):wpAny (model X.prog X.w) A (getMethod (.ref a) m b) Q E s:=by
 obtain⟨d,O,r,_,_,_⟩:=wx I.hok e;have i:d m=none:=RelO.none_of (by rw[<-l];exact r m);exact K4 I.kIn O (c.get m) k.at_ k.fn i h
def Lq{y:V}{u:Vl}{Q:Unit->Sh->Prop}(I:Inv X za σ H s)(e:H a=some (.ins C dx fs))(c:Cls X.K C)(n:NoAttr X.K C f)(L:fs.length<1000)(m:RelV y u)
  (h: ∀i,Inv X za σ (cg H a (.ins C dx (dy f y fs))) i->Q () i):wpAny (model X.prog X.w) A (setAttr (.ref a) f u) Q E s:=by
 obtain⟨j,O,r,k,_,l⟩:=wx I.hok e;have p:(fs.map (·.1)).length<=sizeLine:=by rw[cj,db];lia
 refine FW I.kIn O c.sa c.po n.taker c.hd k p λt d w=>h _ ?_;have B: ∃o,t.get? dx=some o:=let⟨o,_,_,D,_⟩:=d.ns;⟨o,D⟩
 refine I.write (x:=a) (e:=dx) (by rw[e];exact True.intro) (.inr l) (λb q G z=>(w.2 b G).trans z) B ?_;refine⟨by rw[cw O.ne];exact l,?_,O.ne,d.obj,_,d.ns,λg=>?_,λg J=>?_⟩
 .have:=D' f y fs;lia
 .show RelO ((dy f y fs).lookup g) (if g=f then some u else j g);rw[Ds];by_cases q:g=f
  .rw[wB q,wB q];exact m
  .rw[wA q,wA q];exact r g
 .by_cases q:g=f
  .rw[q];exact(zb f y fs).1
  .refine(zb f y fs).2 g (k g λz=>J ?_);show(if g=f then some u else j g)=none;rw[wA q];exact z
def Inv.made(I:Inv X za σ H s):Inv X za σ (cg (cg H s.heap.objs.size (.own (s.heap.objs.size+1))) (s.heap.objs.size+1) (.ins C s.heap.objs.size []))
    {s with heap:=(s.heap.push PySem.W.emptyDict).push (PySem.W.instObj C s.heap.objs.size)}:=by
  have c:(s.heap.push PySem.W.emptyDict).get? s.heap.objs.size=some PySem.W.emptyDict:=dZ s.heap rfl;have g:((s.heap.push PySem.W.emptyDict).push (PySem.W.instObj C s.heap.objs.size)).get? (s.heap.objs.size+1)=some (PySem.W.instObj C s.heap.objs.size):=by
    have:=dZ (s.heap.push PySem.W.emptyDict) (o:=PySem.W.instObj C s.heap.objs.size) rfl;rwa[oi]at this
  have h:(s.heap.push PySem.W.emptyDict).Ns s.heap.objs.size (λ_=>none):=⟨PySem.W.emptyDict,#[],_,c,rfl,(λe i=>wC i (by simp)),λ_=>rfl⟩;have j:=I.laid (a:=s.heap.objs.size) (o:= .own (s.heap.objs.size+1)) (h':=s.heap.push PySem.W.emptyDict) (t':=s.toks) (λb u q=>dj _ q) (cD _) ⟨_,c⟩;refine j.laid (a:=s.heap.objs.size+1) (o:= .ins C s.heap.objs.size []) (t':=s.toks) (λb u q=>dj _ q) (om (oi _ _)) ?_;have d:s.heap.objs.size≠s.heap.objs.size+1:=dH (mH _);refine⟨by rw[cw d,cn],gN _,d,g,λ_=>none,(Heap.Ns1.of_empty h).at λo q=>dj _ q,λ_=>True.intro,λy k=>wC rfl k⟩
def F'{b:Pg}{w:World}{c:Env}{e:Expr}{f:Str}{pos:Pos}{s:Sh}{Q:VP}(g:attributeBase e f c (eval e c)=eval e c)
  (h:wpAny (model b w) A (eval e c) (λo d=>wpAny (model b w) A (getAttr o f true) Q E d) E s):wpAny (model b w) A (eval (.Attribute e f pos) c) Q E s:=
 Attribute_any_ h (by rw[arm_eval_Attribute,g])
end
def zu(K:W.Frag)(c:TE)(f:Str):TE:=λd H Q=>c d H λx b=> ∃a C e fs v,x= .ref a/\b a=some (.ins C e fs)/\Cls K C/\NoAttr K C f/\fs.lookup f=some v/\Q v b
def y8(K:W.Frag)(e g:TE)(f:Str):TS:=λD b H=>g b H λy h=>e b h λx c=> ∃a C d fs,x= .ref a/\c a=some (.ins C d fs)/\Cls K C/\NoAttr K C f/\fs.length<1000/\
 D.nx b (cg c a (.ins C d (dy f y fs)))
section
variable{X:Cx}{o e value:Expr}{f:Str}{pos pos' tpos:Pos}{ta tv:TE}
def fQ(b:PE X e ta)(d:attributeBase e f X.env (eval e X.env)=eval e X.env):PE X (.Attribute e f pos) (zu X.K ta f):=by
 intro g s i H Q I h;refine F' d (cG (b g s i H _ I h) λu y ⟨x,j,k,m,a,C,z,fs,v,p,r,c,n,l,q⟩=>?_);subst p;obtain rfl:u=Value.ref a:=m;exact Lr k r c n l λA B t w=>⟨v,j,t,w,q⟩
def oV(g:PE X o ta)(i:PE X value tv)(j:swapsWith value (some (.Attribute o f pos')) pos.line X.env=pure false):PS X (.Assign [.Attribute o f pos'] value pos) (y8 X.K ta tv f):=by
 intro d s b H D I h;refine plainObj_wpAny_Assign_Attribute (cG (i d s b H _ I h) λu k ⟨y,m,p,r,q⟩=>cG (g d k b m _ p q) λt G ⟨x,J,v,w,a,C,L,fs,z,A,c,n,l,B⟩=>?_) j;subst z;obtain rfl:t=Value.ref a:=w;exact Lq v A c n l r λM E=>⟨b,_,E,B⟩
end
section
variable{X:Cx}{za:AO}{σ:St}{H:Hp}{s:Sh}{A:Ar}{E:VP}{Q:VP}{c:Vl}{b:Bool}
inductive TyOf (K:W.Frag) (H:Hp):V->Vl->Prop where
 |non:TyOf K H .non (.type "NoneType")
 |bl (x:Bool):TyOf K H (.bl x) (.type "bool")
 |int (i:Int):TyOf K H (.int i) (.type "int")
 |str (x:Str):TyOf K H (.str x) (.type "str")
 |flt (x:UInt64):TyOf K H (.flt x) (.type "float")
 |lst {a:Ad} {xs:List V} (e:H a=some (.lst xs)):TyOf K H (.ref a) (.type "list")
 |frz {a:Ad} {o:Obj} {xs:List V} (e:H a=some (.frz o (.lst xs))):TyOf K H (.ref a) (.type "list")
 |tup {a:Ad} {xs:List V} (e:H a=some (.tup xs)):TyOf K H (.ref a) (.type "tuple")
 |dK {a:Ad} {kvs:List (cZ×V)} (e:H a=some (.dK kvs)):TyOf K H (.ref a) (.type "dict")
 |dT {a:Ad} {kvs:List (List cZ×V)} (e:H a=some (.dT kvs)):TyOf K H (.ref a) (.type "dict")
 | ins {a C dx:Ad} {fs:List (Str×V)} (e:H a=some (.ins C dx fs)) (cl:Cls K C) (ha:PySem.W.findIn K (.ref C) "__class__"=some (some (.builtin "object.__class__")))
   (hn:PySem.W.specialIn K (.builtin "object.__class__") "__get__"=some (some (.builtin "getset_descriptor.__get__"))) (htk:PySem.W.takesIn K (.builtin "object.__class__")=some true)
   (hm:PySem.W.mroIn K C (.type "object")=some true):TyOf K H (.ref a) (.ref C)
def KD{x:V}{u t:Vl}(I:Inv X za σ H s)(d:RelV x u)(ty:TyOf X.K H x t)(e:PySem.W.kitOne X.K t c=some b)(h: ∀v,Q (.bool b) {s with toks:=v}):
  wpAny (model X.prog X.w) A (call (.builtin "isinstance") [u,c]) Q E s:=by
 cases ty with
 |non=>cases(show u=Value.none from d);exact j4 PySem.W.kitx_none I.kIn True.intro e (λz=>nomatch z) h
 |bl y=>cases(show u=Value.bool y from d);exact j4 PySem.W.kitx_bool I.kIn True.intro e (λz=>nomatch z) h
 |int i=>obtain⟨t,q⟩:=(show ∃t,u=Value.int i t from d);cases q;exact j4 PySem.W.kitx_int I.kIn True.intro e (λz=>nomatch z) h
 |str y=>obtain⟨t,q⟩:=(show ∃t,u=Value.str y t from d);cases q;exact j4 PySem.W.kitx_str I.kIn True.intro e (λz=>nomatch z) h
 |flt y=>obtain⟨t,q⟩:=(show ∃t,u=Value.float y t from d);cases q;exact j4 PySem.W.kitx_float I.kIn True.intro e (λz=>nomatch z) h
 | @lst a k f=>
  cases(show u=Value.ref a from d);obtain⟨_,_,n,_,g⟩:=(show ObjOk X.prog X.w H s.heap a (.lst k)from I.hok a _ f);exact j4 PySem.W.kitx_list I.kIn ⟨_,g,rfl⟩ e (λz=>nomatch z) h
 | @frz a w k f=>
  cases(show u=Value.ref a from d);obtain⟨_,_,_,n,_,g⟩:=(show ObjOk X.prog X.w H s.heap a (.frz w (.lst k))from I.hok a _ f);exact j4 PySem.W.kitx_list I.kIn ⟨_,g,rfl⟩ e (λz=>nomatch z) h
 | @tup a k f=>
  cases(show u=Value.ref a from d);obtain⟨_,_,_,p⟩:=(show ObjOk X.prog X.w H s.heap a (.tup k)from I.hok a _ f);obtain⟨o,g,l,_⟩:=p;exact j4 PySem.W.kitx_tuple I.kIn ⟨o,g,l⟩ e (λz=>nomatch z) h
 | @dK a j f=>
  cases(show u=Value.ref a from d);obtain⟨_,_,N,_,p⟩:=(show ObjOk X.prog X.w H s.heap a (.dK j)from I.hok a _ f);obtain⟨o,B,D,g,l,_⟩:=p;exact j4 PySem.W.kitx_dict I.kIn ⟨o,g,l.1⟩ e (λz=>nomatch z) h
 | @dT a j f=>
  cases(show u=Value.ref a from d);obtain⟨_,_,k,_,o,B,D,g,l,_⟩:=(show ObjOk X.prog X.w H s.heap a (.dT j)from I.hok a _ f);exact j4 PySem.W.kitx_dict I.kIn ⟨o,g,l.1⟩ e (λz=>nomatch z) h
 | @ins a C T fs f r G L m M=>
  cases(show u=Value.ref a from d);obtain⟨U,O,_⟩:=wx I.hok f;obtain⟨Y,J,_⟩:=O.look;exact j4 (PySem.W.kitx_own (r.get _) r.hd G L m M) I.kIn J e (λz=>nomatch z) h
end
structure Room(k:Nat)(A:Ar):Prop where
 hd:A.handled=none
 dp:A.depth+3 * k+5<recursionLimit
 un:A.units+16 * k+200<cLine
def Room.mono{j k:Nat}{A:Ar}(r:Room k A)(h:j<=k):Room j A:=⟨r.hd,by have:=r.dp;lia,by have:=r.un;lia⟩
def Room.m{A:Ar}{k j:Nat}(h:Room k A)(d:j≤k:=by decide):Room j A:=h.mono d
def Room.deeper{k:Nat}{A:Ar}(r:Room (k+1) A)(a:Env):Room k (A.deeper a):=
 ⟨r.hd,by have:=r.dp;show A.depth+1+3 * k+5<_;lia,by have:=r.un;show A.units+3+16 * k+200<_;lia⟩
def Room.in1{k:Nat}{A:Ar}(r:Room (k+1) A):Room k A.in1:=
 ⟨r.hd,by have:=r.dp;show A.depth+3 * k+5<_;lia,by have:=r.un;show A.units+1+16 * k+200<_;lia⟩
def IT{A:Ar}{C:Ad}{a:Vs}{b:List (Str×Vl)}:(A.under (.builtin "type.__call__" ⟨.ref C::a,b⟩)).depth=A.depth+1:=by
 first|rfl|simp[Around.under,Code.weight,Code.isCreation,Code.isGuard,Code.isCaller,Code.frames,Code.isFrame,guardIds]
def HK{A:Ar}{C:Ad}{a:Vs}{b:List (Str×Vl)}:(A.under (.builtin "type.__call__" ⟨.ref C::a,b⟩)).units=A.units+1:=by
 first|rfl|simp[Around.under,Code.cUnits,Code.frames,Code.isFrame]
def Room.make{k:Nat}{A:Ar}(r:Room (k+1) A)(C:Ad)(a:Vs)(b:List (Str×Vl)):Room k (A.under (.builtin "type.__call__" ⟨.ref C::a,b⟩)):=
 ⟨r.hd,by have:=r.dp;rw[IT];lia,by have:=r.un;rw[HK];lia⟩
def Room.depth{k:Nat}{A:Ar}(r:Room k A):A.depth<recursionLimit:=by have:=r.dp;lia
def Room.units{k:Nat}{A:Ar}(r:Room k A):A.units+64<cLine:=by have:=r.un;lia
def iH:TA:=λ_ H Q=>Q [] H
def i0(b:TE)(c:TA):TA:=λa H Q=>b a H λx d=>c a d λe f=>Q (x::e) f
section
variable{X:Cx}{e:Expr}{es:List Expr}{te:TE}{t:TA}{pos:Pos}
def cz:PA X [] iH:=λ_ _ _ _ H Q I h=>Calls.spliced_nil ⟨[],H,I,.nil,h⟩
def cE(c:PE X e te)(d:PA X es t)(f:starEach (e::es) X.env=(false,eval e X.env)::starEach es X.env:=by rfl):PA X (e::es) (i0 te t):=by
 intro pos a s b H Q I h;rw[f];show wpAny _ _ (spliced ((false,eval e X.env)::backTo pos (starEach es X.env))) _ _ s;refine Calls.spliced_cons (cG (c a s b H _ I h) λu g ⟨x,i,j,k,l⟩=>?_);exact cG (d pos a g b i _ j l) λr v ⟨m,n,o,p,q⟩=>⟨x::m,n,o,.cons k p,q⟩
def Ay(t:TA):TE:=λc H Q=>t c H λa b=>a.length<=sizeLine/\ ∀p,b p=none->Q (.ref p) (cg b p (.tup a))
def sW(t:TA):TE:=λc H Q=>t c H λa b=>a.length<=sizeLine/\ ∀p,b p=none->Q (.ref p) (cg b p (.lst a))
def jg{f}(h:PA X es t):PE X (.Tuple es f pos) (Ay t):=by
 intro g s i H Q I j;refine wpAny_Tuple_spliced (cG (h pos g s i H _ I j) λk a ⟨l,c,d,r,z,q⟩=>⟨by rw[<-r.length];exact z,?_⟩);have m:c a.heap.objs.size=none:=d.hok.fresh (cD _);refine⟨.ref a.heap.objs.size,cg c a.heap.objs.size (.tup l),d.laid (t':=a.toks) (λb u e=>dj _ e) (cD _) ?_,rfl,q _ m⟩;exact⟨z,k,r,⟨_,dZ _ rfl,rfl,_,rfl,rfl⟩⟩
def fX(h:PA X es t):PE X (.List es pos) (sW t):=by
 intro f s g H Q I i;refine wpAny_List_spliced (cG (h pos f s g H _ I i) λj a ⟨k,c,d,r,z,q⟩=>⟨by rw[<-r.length];exact z,?_⟩);have l:c a.heap.objs.size=none:=d.hok.fresh (cD _);refine⟨.ref a.heap.objs.size,cg c a.heap.objs.size (.lst k),d.laid (t':=a.toks) (λb u e=>dj _ e) (cD _) ?_,rfl,q _ l⟩;exact⟨z,j,0,r,dZ _ rfl⟩
end
abbrev Sp:=List V->Hp->VK->XK->Prop
abbrev nV:=List Env->Hp->Sh->XK->Vl->Sh->Prop
structure Env0(P:Pg)(w:World)(K:W.Frag)(mg:SV)(base:Heap)(A:Ar)(outer:List Env)(s:Sh)(H:Hp):Prop where
 frames:A.frames=some outer
 mod:Mod K mg base
 bs: ∀b o,base.get? b=some o->s.heap.get? b=some o/\H b=none
 bsz:base.objs.size<=s.heap.objs.size
 funs:s.heap.FunFrames base outer
 frf: ∀b∈iQ outer,H b=none
 hok:HOk P w H s.heap
 bare:AllBare s.gens
def CE(a:List Env)(P:Pg)(w:World)(H:Hp)(s:Sh)(Q:VK)(u:Vl)(b:Sh):Prop:=
 ∃v c,b.os=s.os/\AllBare b.gens/\Un (iQ a) [] H c s.heap b.heap/\HOk P w c b.heap/\RelV v u/\Q v c
def CR(c:nV)(a:List Env)(P:Pg)(w:World)(H:Hp)(s:Sh)(Q:VK)(E:XK)(r:Result)(b:Sh):Prop:=
 match r with
 | .ok (.ret u)=>CE a P w H s Q u b
 | .ok _=>False
 | .error e=>c a H s E e b
structure FnOk(P:Pg)(w:World)(K:W.Frag)(mg:SV)(base:Heap)(CX:nV)(k:Nat)(f:Ad)(fd:Fd)(ps:Ss)(sp:Sp):Prop where
 len: ∀vs H Q E,sp vs H Q E->vs.length=ps.length
 run: ∀(A:Ar) (outer:List Env) (s:Sh) (H:Hp) (args:Args) (us:Vs) (vs:List V) (Q:VK) (E:XK),Room k A->Env0 P w K mg base A outer s H->BindsTo s fd args (ps.zip us)->Vals vs us->sp vs H Q E->
  codeAny (model P w) A (.call (.ref f) args) (CR CX outer P w H s Q E) s
def Env0.make{P:Pg}{w:World}{K:W.Frag}{mg:SV}{b:Heap}{A:Ar}{a:List Env}{s:Sh}{H:Hp}(e:Env0 P w K mg b A a s H)(C:Ad)(c:Vs)(d:List (Str×Vl)):
  Env0 P w K mg b (A.under (.builtin "type.__call__" ⟨.ref C::c,d⟩)) a s H:=⟨by first|exact e.frames|(simpa[Around.under,Code.envs,Code.isFrame,pushEnvs]using e.frames),e.mod,e.bs,e.bsz,e.funs,e.frf,e.hok,e.bare⟩
def Env0.in1{P:Pg}{w:World}{K:W.Frag}{mg:SV}{b:Heap}{A:Ar}{a:List Env}{s:Sh}{H:Hp}(e:Env0 P w K mg b A a s H):
  Env0 P w K mg b A.in1 a s H:=⟨e.frames,e.mod,e.bs,e.bsz,e.funs,e.frf,e.hok,e.bare⟩
section
variable{X:Cx}{za:AO}{σ:St}{H:Hp}{s s':Sh}
def Inv.env0(I:Inv X za σ H s):Env0 X.prog X.w X.K X.mg X.base X.A X.stack s H:=
 ⟨I.ok.frames,I.ok.mod,I.bs,dt I.ok.bsz I.sz,I.stack,I.stkFree,I.hok,I.bare⟩
def Inv.after{Q:VK}{u:Vl}(I:Inv X za σ H s)(h:CE X.stack X.prog X.w H s Q u s'):EP X za σ Q u s':=by
 obtain⟨v,H',os,a,un,c,r,q⟩:=h;obtain⟨f,g,d,t,e⟩:=s';obtain rfl:e=s.os:=os;exact⟨v,H',I.call (h':=f) (g':=g) (d':=d) (t':=t) (ch:=[]) un c a (λb z=>wC z (by simp)),r,q⟩
end
def vj(b:Sp)(a:List V)(E:XK)(t:TA):TE:=λc H Q=>t c H λd e=>b (d++a) e Q E
def wL(C:Ad)(m:Str)(e:Sp)(b:List V)(E:XK)(f:TE)(t:TA):TE:=λc H Q=>f c H λx d=> ∃a g fs,x= .ref a/\d a=some (.ins C g fs)/\fs.lookup m=none/\
 t c d λh i=>e (x::(h++b)) i Q E
def BK(C:Ad)(d:Sp)(b:List V)(E:XK)(t:TA):TE:=λe H Q=>t e H λf c=> ∀x a,c x=none->c a=none->a≠x->
 d (.ref x::(f++b)) (cg (cg c a (.own x)) x (.ins C a [])) (λv g=>v= .non/\Q (.ref x) g) E
def Binds(K:W.Frag)(d:Fd)(b:Ss)(c:Vs):Prop:=
 ∀(s:Sh) (a:Vs),K.In s.heap->(a++c).length=b.length->BindsTo s d ⟨a,[]⟩ (b.zip (a++c))
def Binds.all{K:W.Frag}{c:Fd}{b:Ss}(h: ∀a:Vs,a.length=b.length->bindArgs c ⟨a,[]⟩=pure (b.zip a)):Binds K c b []:=λs a _ d=>by
 rw[gO]at d⊢;exact .of_eq (h a d)
def oC(b:nV)(X:Cx)(E:XK):Prop:= ∀(c:AO) (d:St) (H:Hp) (s:Sh) (e:Vl) (a:Sh),Inv X c d H s->b X.stack H s E e a->X.xe e a
section
variable{X:Cx}{CX:nV}{k:Nat}{f C:Ad}{fd:Fd}{ps:Ss}{sp:Sp}{dvs:List V}{ds:Vs}{E:XK}{x m:Str}{p pos apos:Pos}{e o:Expr}{es:List Expr}{ta:TE}{t:TA}
def xL{b:AO}{c:St}{H:Hp}{s:Sh}{Q:VK}{us:Vs}{vs:List V}(F:FnOk X.prog X.w X.K X.mg X.base CX k f fd ps sp)(g:Room k X.A)(i:Binds X.K fd ps ds)(j:Vals dvs ds)(l:oC CX X E)
  (I:Inv X b c H s) (r:Vals vs us) (h:sp (vs++dvs) H Q E):wpAny (model X.prog X.w) X.A (call (.ref f) us) (EP X b c Q) X.xe s:=by
 have d:Vals (vs++dvs) (us++ds):=r.append j;have n:(us++ds).length=ps.length:=by rw[<-d.length];exact F.len _ _ _ _ h
 refine pH (jq (F.run X.A X.stack s H ⟨us,[]⟩ (us++ds) (vs++dvs) Q E g I.env0 (i s us I.kIn n) d h) λr q a=>?_);cases r with
 |error e=>exact l b c H s e q I a
 |ok v=>
  cases v with
  |ret u=>exact I.after a
  |next=>exact wE a
  |brk=>exact wE a
  |cont=>exact wE a
def MA(F:FnOk X.prog X.w X.K X.mg X.base CX k f fd ps sp)(d:Room k X.A)(g:Gl X x)(i:X.mg x=some (.ref f))(j:PySem.W.keepIn X.K (.ref f)=true)(l:Binds X.K fd ps ds)(n:Vals dvs ds)(u:oC CX X E)
  (v:PA X (e::es) t) (a:(x==("__debug__":Str))=false:=by decide) (w:starEach (e::es) X.env=(false,eval e X.env)::starEach es X.env:=by rfl) (b:(backTo pos (starEach es X.env)).any (·.1)=false:=by rfl):
  PE X (.Call (.Name x p) (e::es) [] pos) (vj sp dvs E t):=by
 intro y s z H Q I h;refine pA (we I g i ?_ a);refine xM (h₀:=X.base) I.ok.mod.kin j (cG (v pos y s z H _ I h) λA B ⟨D,G,c,r,q⟩=>⟨c.kIn,?_⟩) w b;exact xL F d l n u c r q
def Ik{g:Sem Bool}(z:PE X o ta)(c:Cls X.K C)(i:Meth X.K C m f)(F:FnOk X.prog X.w X.K X.mg X.base CX k f fd ps sp)(A:Room k X.A)(B:Binds X.K fd ps ds)(D:Vals dvs ds)(G:oC CX X E)(J:PA X (e::es) t)
  (b:starEach (e::es) X.env=(false,eval e X.env)::starEach es X.env:=by rfl) (d:(backTo pos (starEach es X.env)).any (·.1)=false:=by rfl)
  (ht:eval (.Call (.Attribute o m apos) (e::es) [] pos) X.env=(do
   let j <-eval o X.env
   standAt apos.atName
   let(f,first) <-holding [j] (getMethod j m g)
   callWith pos f first (backTo pos (starEach (e::es) X.env)) (backToKw pos (keywordEach [] X.env))):=by rfl):
  PE X (.Call (.Attribute o m apos) (e::es) [] pos) (wL C m sp dvs E ta t):=by
 intro n s v H Q I h;refine PySem.W.methodCall_KW (pl:=g) (cG (z n s v H _ I h) λu L ⟨x,M,w,N,a,dx,fs,O,T,l,q⟩=>?_) ht;subst O;obtain rfl:u=Value.ref a:=N;refine El w T c i l ?_;refine xM (first:=[.ref a]) (h₀:=X.base) I.ok.mod.kin i.kp (cG (J pos n L v M _ w q) λU s2 ⟨Y,H2,y,r,q2⟩=>⟨y.kIn,?_⟩) b d;exact xL (us:= .ref a::U) (vs:= .ref a::Y) F A B D G y (.cons rfl r) q2
def Gh{pl:Sem Bool}(i:PE X o ta)(c:Cls X.K C)(d:Meth X.K C m f)(F:FnOk X.prog X.w X.K X.mg X.base CX k f fd ps sp)(j:Room k X.A)(n:Binds X.K fd ps ds)(r:Vals dvs ds)(v:oC CX X E)
  (ht:eval (.Call (.Attribute o m apos) [] [] pos) X.env=(do
   let g <-eval o X.env
   standAt apos.atName
   let(f,first) <-holding [g] (getMethod g m pl)
   callWith pos f first (backTo pos (starEach [] X.env)) (backToKw pos (keywordEach [] X.env))):=by rfl):
  PE X (.Call (.Attribute o m apos) [] [] pos) (wL C m sp dvs E ta iH):=by
 intro w s y H Q I h;refine PySem.W.methodCall_KW (pl:=pl) (cG (i w s y H _ I h) λu D ⟨x,G,b,z,a,J,fs,A,B,l,q⟩=>?_) ht;subst A;obtain rfl:u=Value.ref a:=z;refine El b B c d l ?_;exact PySem.W.callWith_K0 (first:=[.ref a]) b.kIn d.kp (xL (us:=[.ref a]) (vs:=[.ref a]) F j n r v b (.cons rfl .nil) q)
structure Mk(K:W.Frag)(C f:Ad):Prop where
 makes:PySem.W.makesIn K C=true
 init:PySem.W.findIn K (.ref C) "__init__"=some (some (.ref f))
 fn:PySem.W.isFn K (.ref f)=true
 kp:PySem.W.keepIn K (.ref C)=true
def F0{g:AO}{i:St}{H:Hp}{s:Sh}{Q:VK}{b:Vs}{j:List V}(M:Mk X.K C f)(F:FnOk X.prog X.w X.K X.mg X.base CX k f fd ps sp)(q:Room (k+1) X.A)(w:Binds X.K fd ps ds)(y:Vals dvs ds)
  (z:oC CX X E) (I:Inv X g i H s) (r:Vals j b)
  (h: ∀x c,H x=none->H c=none->c≠x->sp (.ref x::(j++dvs)) (cg (cg H c (.own x)) x (.ins C c [])) (λv A=>v= .non/\Q (.ref x) A) E):
  wpAny (model X.prog X.w) X.A (call (.ref C) b) (EP X g i Q) X.xe s:=by
 have l:=h (s.heap.objs.size+1) s.heap.objs.size (I.hok.fresh (oA _)) (I.hok.fresh (cD _)) (dH (mH _));have d:=Inv.made (C:=C) I;have n:Vals (V.ref (s.heap.objs.size+1)::(j++dvs)) (Value.ref (s.heap.objs.size+1)::(b++ds)):= .cons rfl (r.append y);have B:(Value.ref (s.heap.objs.size+1)::b++ds).length=ps.length:=by
  have e:=n.length;rw[F.len _ _ _ _ l]at e;exact e.symm
 refine pH (Mz (f:=f) I.kIn M.makes M.init (lN.mp M.fn) (jq (F.run _ X.stack _ _ ⟨Value.ref (s.heap.objs.size+1)::b,[]⟩ (Value.ref (s.heap.objs.size+1)::(b++ds)) _ _ E (q.make C b [])
  (d.env0.make C b []) (w _ (Value.ref (s.heap.objs.size+1)::b) d.kIn B) n l) λr D a=>?_))
 cases r with
 |error e=>exact z g i _ _ e D d a
 | ok G=>
  cases G with
  |ret u=>
   obtain⟨v,J,L,N,O,T⟩:=d.after a;subst O;exact⟨N,⟨V.ref (s.heap.objs.size+1),J,L,rfl,T⟩⟩
  |next=>exact wE a
  |brk=>exact wE a
  |cont=>exact wE a
def Iy(M:Mk X.K C f)(F:FnOk X.prog X.w X.K X.mg X.base CX k f fd ps sp)(d:Room (k+1) X.A)(g:Gl X x)(i:X.mg x=some (.ref C))(j:Binds X.K fd ps ds)(l:Vals dvs ds)(n:oC CX X E)
  (u:PA X (e::es) t) (a:(x==("__debug__":Str))=false:=by decide) (v:starEach (e::es) X.env=(false,eval e X.env)::starEach es X.env:=by rfl) (b:(backTo pos (starEach es X.env)).any (·.1)=false:=by rfl):
  PE X (.Call (.Name x p) (e::es) [] pos) (BK C sp dvs E t):=by
 intro w s y H Q I h;refine pA (we I g i ?_ a);refine xM (h₀:=X.base) I.ok.mod.kin M.kp (cG (u pos w s y H _ I h) λz A ⟨B,D,c,r,q⟩=>⟨c.kIn,?_⟩) v b;exact F0 M F d j l n c r q
end
structure FnScope(N P:Ss)(sc:Scope):Prop where
 kind:sc.kind= .function:=by rfl
 co:sc.isCoroutine=false:=by rfl
 gen:sc.isGenerator=false:=by rfl
 nd:N.Nodup:=by decide+kernel
 pre:N.take P.length=P:=by rfl
 par: ∀x∈P,sc.names.lookup x=some .local∨sc.names.lookup x=some .cell:=by decide+kernel
 nofree: ∀y∈sc.names,y.2≠ .free:=by decide+kernel
theorem D5{kindOf:Str->Option NameKind}{x:Str}: ∀{binds:List (Str×Vl)} {m:SV},(∀v,(x,v)∉binds)->bindL kindOf binds m x=m x
 | [],_,_=>rfl
 | (n,v)::r,m,h=>by
  unfold bindL;rw[D5 λw hw=>h w (eO _ hw)];split
  .have:x≠n:=by rintro rfl;exact h v dC
   simp[this]
  .rfl
theorem BG{kindOf:Str->Option NameKind}{x:Str}: ∀{binds:List (Str×Vl)} {m:SV},(∀v,(x,v)∉binds)->bindC kindOf binds m x=m x
 | [],_,_=>rfl
 | (n,v)::r,m,h=>by
  unfold bindC;rw[BG λw hw=>h w (eO _ hw)];split
  .rfl
  .have:x≠n:=by rintro rfl;exact h v dC
   simp[this]
theorem C2{kindOf:Str->Option NameKind}{x:Str}{v:Vl}: ∀{P:Ss} {a:Vs} {i:Nat} {m:SV},P.Nodup->P[i]? =some x->a[i]? =some v->kindOf x=some .local->
  bindL kindOf (P.zip a) m x=some v
 | [],_,_,_,_,h,_,_=>by simp at h
 |_::_,[],_,_,_,_,h,_=>by simp at h
 |p::P,w::a,0,m,nd,b,c,d=>by
  simp at b c;subst b;subst c;show bindL kindOf ((p,w)::P.zip a) m p=_;unfold bindL;rw[D5 λv e=>(iT.mp nd).1 (xf e).1,wB d];simp
 |p::P,w::a,i+1,m,nd,b,c,d=>by
  show bindL kindOf ((p,w)::P.zip a) m x=_;unfold bindL;exact C2 (i:=i) (iT.mp nd).2 (by simpa using b) (by simpa using c) d
theorem Ew{kindOf:Str->Option NameKind}{x:Str}{v:Vl}: ∀{P:Ss} {a:Vs} {i:Nat} {m:SV},P.Nodup->P[i]? =some x->a[i]? =some v->kindOf x≠some .local->
  bindC kindOf (P.zip a) m x=some v
 | [],_,_,_,_,h,_,_=>by simp at h
 |_::_,[],_,_,_,_,h,_=>by simp at h
 |p::P,w::a,0,m,nd,b,c,d=>by
  simp at b c;subst b;subst c;show bindC kindOf ((p,w)::P.zip a) m p=_;unfold bindC;rw[BG λv e=>(iT.mp nd).1 (xf e).1,wA d];simp
 |p::P,w::a,i+1,m,nd,b,c,d=>by
  show bindC kindOf ((p,w)::P.zip a) m x=_;unfold bindC;exact Ew (i:=i) (iT.mp nd).2 (by simpa using b) (by simpa using c) d
def start(N:Ss)(a:List V):St:=a.map some++List.replicate (N.length-a.length) none
def pc(g:nV)(P:Pg)(w:World)(K:W.Frag)(mg:SV)(base:Heap)(N:Ss)(b:Str)(a:Scope)(f:Ad)(d:Vl)(A:Ar)(outer:List Env)(s:Sh)(H:Hp)(E:XK):Cx where
 prog:=P
 w:=w
 K:=K
 mg:=mg
 base:=base
 A:=A.deeper (envOfC b a s.heap.objs.size f d)
 N:=N
 s₀:=s
 H₀:=H
 env:=envOfC b a s.heap.objs.size f d
 outer:=outer
 stack:=envOfC b a s.heap.objs.size f d::outer
 ex:=[]
 calm:=true
 fn:=λ_=>true
 pn:=[]
 xe:=λe h=>wpAny (model P w) (A.deeper (envOfC b a s.heap.objs.size f d)) (leaving (envOfC b a s.heap.objs.size f d) e) (λ_ c=>g outer H s E e c) (λi c=>g outer H s E i c) h
def D1{a:Scope}{n:Nat}{x:Str}(h:a.names.lookup x=some .cell): ∃c,(cellsFrom n a.names []).lookup x=some c:=by
 have q:=PySem.W.cellsFrom_some a.names n [] (.inl h);exact Option.isSome_iff_exists.mp q
def GD{O:nV}{P:Pg}{w:World}{K:W.Frag}{mg:SV}{m:Heap}{N t:Ss}{j:Str}{d:Scope}{f:Ad}{I:Vl}{A:Ar}{g:List Env}{s Q:Sh}{H:Hp}{E:XK}{M:Vs}{B:List V}
  (S:FnScope N t d) (Y:A.handled=none) (o:Env0 P w K mg m A g s H) (hl:B.length=t.length) (r:Vals B M)
  (x:InCallC s s.heap.objs.size (bindL (envOfC j d s.heap.objs.size f I).kindOf (t.zip M) λ_=>none) (cellsFrom (s.heap.objs.size+1) d.names []) (bindC (envOfC j d s.heap.objs.size f I).kindOf (t.zip M) λ_=>none) Q):
  Inv (pc O P w K mg m N j d f I A g s H E) [] (start N B) H Q:=by
 have aa:t.length<=N.length:=by have:=dn List.length S.pre;rw[eF]at this;lia
 obtain⟨J,tk,rfl,T⟩:=x.done;have C: ∀b:Ad,b∉(pc O P w K mg m N j d f I A g s H E).ex:=λb z=>wC (show b∈([]:As)from z) (by simp);refine⟨⟨o.mod,S.kind,rfl,rfl,cD _,λy z c J l=>?_,λy hy=>?_,λy c _ h=>?_,λ_=>Y,Around.frames_deeper o.frames,.inr ⟨rfl,rfl⟩,λb z=>wC z (C b),o.bs,o.bsz,λb _ _=>C b,λb z=>wC z (C b),o.funs,o.frf⟩,
  rfl,o.bare,Un.kept T,⟨_,x.toInCall.ns,λi y v J l h3=>?_⟩,λy c h=>⟨_,x.cell y c h⟩,o.hok.fresh (cD _),λy c h=>?_,λp D=>wC (show p∈([]:AO)from D) (by simp),o.hok.kept T,?_⟩
 .exact name_of_addr x.apart (mE J) (mE l)
 .have hy:d.names.lookup y=some .cell∨d.names.lookup y=some .free:=hy
  rcases hy with hy|hy
  .exact D1 hy
  .exact wC rfl (S.nofree _ (mE hy))
 .exact fj (x.above y c (mE h))
 .have L:i<B.length:=by
   unfold start at l;by_cases L:i<B.length
   .exact L
   .rw[eU (by simpa using L)]at l;rw[List.getElem?_replicate]at l;split at l<;>cases l
  have ha:B[i]? =some v:=by
   unfold start at l;rw[eV (by simpa using L),List.getElem?_map]at l;cases e:B[i]? with
   |none=>rw[e]at l;cases l
   |some a=>rw[e]at l;cases l;rfl
  obtain⟨u,U,rv⟩:=r.get ha;have D:t[i]? =some y:=by
   rw[<-S.pre,oG (by lia)];exact J
  have G:t.Nodup:=by rw[<-S.pre];exact S.nd.sublist (pQ _ _)
  refine⟨u,rv,?_⟩
  rcases S.par y (cK D)with k|k
  .exact .inl ⟨k,C2 G D U k⟩
  .obtain⟨c,e⟩:=D1 (n:=s.heap.objs.size+1) k;refine .inr ⟨.inl k,c,e,?_⟩;have q:=x.cell y c e;rw[Ew G D U (by show d.names.lookup y≠_;rw[k];decide)]at q;exact q
 .exact o.hok.fresh (fj (x.above y c (mE h)))
 .unfold start;show _=N.length;rw[dz,cj,vV];lia
def De{M:nV}{P:Pg}{w:World}{K:W.Frag}{mg:SV}{h:Heap}{k:Nat}{f:Ad}{name d:Str}{i:Arguments}{j:List Stmt}{a:Scope}{dV kV D pm g ct oc:Vl}{an od:Option Ad}
  {T:Array (Option Vl)} {N O:Ss} {U:Sp} (lk:K.lookup f=some ⟨oc,od,.func (PySem.W.fnOf name d i j a dV kV D pm an g ct),T⟩) (Y:PySem.W.codeIn K g d=true) (S:FnScope N O a)
  (len: ∀l H Q E,U l H Q E->l.length=O.length)
  (z: ∀(A:Ar) (c:List Env) (s:Sh) (H:Hp) (l:List V) (Q:VK) (E:XK),Room k (A.deeper (envOfC d a s.heap.objs.size f g))->U l H Q E->
   ∃t,PSs (pc M P w K mg h N d a f g A c s H E) j t/\t {nx:=λ_ p=>Q .non p,rt:=Q} (start N l) H):
  FnOk P w K mg h M (k+1) f (PySem.W.fnOf name d i j a dV kV D pm an g ct) O U:=by
 refine⟨len,λA c s H args us l Q E hr G hb r L=>?_⟩;have hl:=len _ _ _ _ L;have KX:K.In s.heap:=G.mod.kin.keeps λb o e=>(G.bs b o e).1;have aa:s.heap.NoLimit:=G.mod.nolimit.keeps λb o e=>(G.bs b o e).1;have B: ∀y∈O.zip us,a.names.lookup y.1=some .local∨(a.names.lookup y.1=some .cell/\((cellsFrom (s.heap.objs.size+1) a.names []).lookup y.1).isSome=true):=λ⟨n,v⟩ hy=>by
  rcases S.par n (xf hy).1 with q|q
  .exact .inl q
  .exact .inr ⟨q,PySem.W.cellsFrom_some _ _ _ (.inl q)⟩
 refine codeAny_call_function hr.depth (KX _ _ lk) rfl S.co S.gen rfl (PySem.W.codeRec_of KX Y) (hb _ _ _ _ ?_);refine wpAny_newFunctionEnv_cells S.kind B λab he s1 x=>?_;subst he;refine⟨aa.keeps x.toInCall.keep,codeAny_func ?_⟩;obtain⟨t,ht,hq⟩:=z A c s H l Q E (hr.deeper _) L;have I:Inv (pc M P w K mg h N d a f g A c s H E) [] (start N l) H s1:=GD S hr.hd G hl r x;refine gq (ht [] s1 (start N l) H _ I hq) (λfl s' C=>?_) λe s' C=>C;have fin: ∀{m:St} {p:Hp} {v:V} {u:Vl},Inv (pc M P w K mg h N d a f g A c s H E) [] m p s'->RelV v u->Q v p->CE c P w H s Q u s':=
  λ{m p v u} J rv q=>⟨v,p,J.os,J.bare,J.base,J.hok,rv,q⟩
 cases fl with
 |ret u=>
  obtain⟨v,m,p,J,rv,q⟩:=C;exact fin J rv q
 |next=>
  obtain⟨m,p,J,q⟩:=C;exact fin (v:=V.non) (u:=Value.none) J rfl q
 |brk=>
  obtain⟨_,_,_,q⟩:=C;exact wE q
 |cont=>
  obtain⟨_,_,_,q⟩:=C;exact wE q
section
variable{X:Cx}{x:Str}{p pos:Pos}{e:Expr}{es:List Expr}{t:TA}{id T:String}{r:List V->Hp->VK->Prop}
def FD(r:List V->Hp->VK->Prop)(t:TA):TE:=λa H Q=>t a H λb c=>r b c Q
def dS(f:gv X (.builtin id) r)(g:Gl X x)(i:X.mg x=none)(j:bootBuiltins x=some (.builtin id))(k:PA X (e::es) t)(l:x≠"__name__":=by decide)(a:(x==("__debug__":Str))=false:=by decide)
  (m:starEach (e::es) X.env=(false,eval e X.env)::starEach es X.env:=by rfl) (b:(backTo pos (starEach es X.env)).any (·.1)=false:=by rfl):PE X (.Call (.Name x p) (e::es) [] pos) (FD r t):=by
 intro c s d H Q I h;refine pA (oZ I g i j ?_ l a);exact PyProof.Rows.callWith_builtin1 (cG (k pos c s d H _ I h) λn o ⟨q,u,v,w,y⟩=>f c o d u q n Q v w y) m b
def gD(f:gv X (.type T) r)(g:Gl X x)(i:X.mg x=none)(j:bootBuiltins x=some (.type T))(k:PA X (e::es) t)(l:x≠"__name__":=by decide)(a:(x==("__debug__":Str))=false:=by decide)
  (m:starEach (e::es) X.env=(false,eval e X.env)::starEach es X.env:=by rfl) (b:(backTo pos (starEach es X.env)).any (·.1)=false:=by rfl):PE X (.Call (.Name x p) (e::es) [] pos) (FD r t):=by
 intro c s d H Q I h;refine pA (oZ I g i j ?_ l a);exact vH (cG (k pos c s d H _ I h) λn o ⟨q,u,v,w,y⟩=>f c o d u q n Q v w y) m b
end
end L2
namespace HT
open PySem PyProof.Rows
def eZ(A:Ar)(s:Sh)(a:Int)(t:Tok)(c:Int)(u:Tok): ∃e,SeqAt.EqAt A s (.int a t) (.int c u) e/\(e=true↔a=c):=
 ⟨(a==c),SeqAt.EqAt.int_int a t c u,by simp⟩
section
variable{prog:Pg}{w:World}{A:Ar}{E:VP}{s:Sh}
def cat_tup{t b:Ad}{d a:Vs}{Q:VP}(ht:IsTup s.heap t d.toArray)(u:IsTup s.heap b a.toArray)(l:d≠[])
  (v:a=[]->Q (.ref t) s) (x:a≠[]->Q (.ref s.heap.objs.size) {s with heap:=s.heap.push {cls:= .type "tuple",data:= .seq (d++a).toArray}})
  (k:d.length+a.length<=sizeLine):wpAny (model prog w) A (binaryOp .Add (.ref t) (.ref b)) Q E s:=by
 obtain⟨⟨cls,m,data,sl⟩,j,o,n,p⟩:=id ht;obtain⟨⟨q,f,data2,g⟩,c,h,r,i⟩:=id u;simp only at o p h i;subst o p h i;have e:d.toArray++a.toArray=(d++a).toArray:=by simp
 by_cases hw:a=[]
 .exact vp ⟨_,j,rfl⟩ ⟨_,c,rfl⟩ Bd seq_tuple_add PySem.F.slot_tuple_add PySem.F.entry_tuple_add (PySem.F.args_tuple_add_2 _ _)
   (tuple_addW1 t b d.toArray a.toArray n r m f sl g (by simpa using l) (by simp[hw])) ⟨j,c,v hw⟩
 .refine vp ⟨_,j,rfl⟩ ⟨_,c,rfl⟩ Bd seq_tuple_add PySem.F.slot_tuple_add PySem.F.entry_tuple_add (PySem.F.args_tuple_add_2 _ _)
   (tuple_addW2 t b d.toArray a.toArray n r m f sl g (by simpa using l) (by simpa using hw) (by rw[List.size_toArray,List.size_toArray];exact k)) ⟨j,c,?_⟩
  rw[e];exact x hw
def sIx(n d:Nat):Option Int->Nat
 |none=>d
 |some v=>if v<0 then(v+(n:Int)).toNat else min v.toNat n
def sIx_none(n d:Nat):sIx n d none=d:=rfl
def sIx_nat(n d k:Nat):sIx n d (some (k:Int))=min k n:=by
 show(if(k:Int)<0 then((k:Int)+(n:Int)).toNat else min (k:Int).toNat n)=min k n;rw[wA (by lia),gb]
end
end HT
namespace L2
open PySem PySem.Spec PyProof.Rows
abbrev TO:=St->Hp->(Option Int->Hp->Prop)->Prop
def PO(X:Cx)(e:Option Expr)(t:TO):Prop:=
 ∀(b:AO) (s:Sh) (a:St) (H:Hp) (Q:Option Int->Hp->Prop),Inv X b a H s->t a H Q->
  wpAny (model X.prog X.w) X.A (evalPart e X.env) (λu d=> ∃o c,Inv X b a c d/\IsPart u o/\Q o c) X.xe s
def Ht:TO:=λ_ H Q=>Q none H
def sF(t:TE):TO:=λa H Q=>t a H λx b=> ∃i,x= .int i/\Q (some i) b
def KR{a:Zs}: ∀{b:Vs},Vals (a.map V.int) b->IntsAre b a:=by
 induction a with
 |nil=>intro b r;rw[xG]at r;cases r;exact .nil
 | cons n a c=>
  intro b r;rw[fM]at r;cases r with
  |cons d f=>
   obtain⟨t,e⟩:=d;subst e;exact .cons n t (c f)
section
variable{X:Cx}{e:Expr}{te:TE}{lo hi:Option Expr}{tl th:TO}{pos p2:Pos}
def C0:PO X none Ht:=by
 intro a s b H Q I h;rw[evalPart_none];exact cu ⟨none,H,I,.none,h⟩
def qt(h:PE X e te):PO X (some e) (sF te):=by
 intro a s b H Q I hw;rw[evalPart_some];refine cG (h a s b H _ I hw) λu j ⟨x,c,d,f,g⟩=>?_;obtain⟨i,rfl,q⟩:=g;obtain⟨t,rfl⟩:=f;exact⟨some i,c,d,.int i t,q⟩
def BQ(X:Cx)(r:V->Option Int->Option Int->Hp->VK->Prop):Prop:=
 ∀(a:AO) (s:Sh) (b:St) (H:Hp) (x:V) (v c d:Vl) (lo hi:Option Int) (sl:Ad) (Q:VK),Inv X a b H s->RelV x v->s.heap.IsSliceOf sl c d .none->IsPart c lo->IsPart d hi->r x lo hi H Q->
  ∃T id,typeLookup (.type T) "__getitem__"=pure (some (.builtin id))/\s.TypeIs v T/\wpAny (model X.prog X.w) X.A (getItem v (.ref sl)) (EP X a b Q) X.xe s
def Gc(r:V->Option Int->Option Int->Hp->VK->Prop)(te:TE)(tl th:TO):TE:=λa H Q=>te a H λx b=>tl a b λl c=>th a c λu d=>r x l u d Q
def wc{r:V->Option Int->Option Int->Hp->VK->Prop}(g:BQ X r)(i:PE X e te)(j:PO X lo tl)(k:PO X hi th):PE X (.Subscript e (.Slice lo hi none p2) pos) (Gc r te tl th):=by
 intro a s c H Q I h;refine Subscript_ (cG (i a s c H _ I h) λv m ⟨x,n,o,p,t⟩=>?_);refine wpAny_Slice (cG (j a m c n _ o t) λd w ⟨l,y,z,A,B⟩=>cG (k a w c y _ z B) λvu s3 ⟨u,f,C,D,E⟩=>?_);rw[evalPart_none];refine cu ?_;have G:Inv X a c f {s3 with heap:=s3.heap.push {cls:= .type "slice",data:= .fields #[d,vu,.none]}}:=C.kept (t':=s3.toks) λb L q=>dj _ q;obtain⟨T,id,hT,ht,J⟩:=g a {s3 with heap:=s3.heap.push {cls:= .type "slice",data:= .fields #[d,vu,.none]}} c f x v d vu l u s3.heap.objs.size Q G p (Heap.IsSliceOf.new ..) A D E;show wpAny (model X.prog X.w) X.A (subscriptTail e (.Slice lo hi none p2) v (.ref s3.heap.objs.size)) (EP X a c Q) X.xe {s3 with heap:=s3.heap.push {cls:= .type "slice",data:= .fields #[d,vu,.none]}};exact tail_any (ops:=[.ref s3.heap.objs.size,v]) ht hT J (by with_unfolding_all rfl)
def nB(a:List V)(lo hi:Option Int):List V:=(a.drop (HT.sIx a.length 0 lo)).take (HT.sIx a.length a.length hi-HT.sIx a.length 0 lo)
def Ie(a:List V)(lo hi:Option Int):(nB a lo hi).length<=a.length:=by
 unfold nB;rw[eF,oj];lia
def tY(K:W.Frag):R2:=λx y H Q=> ∃a b d c,x= .ref a/\y= .ref b/\SqT K H a d/\SqT K H b c/\d≠[]/\d.length+c.length<=sizeLine/\
 (c=[]->Q (.ref a) H)/\(c≠[]-> ∀p,H p=none->Q (.ref p) (cg H p (.tup (d++c))))
def Vals.nil_iff{a:List V}{b:Vs}(r:Vals a b):b=[]↔a=[]:=by
 cases r with
 |nil=>simp
 |cons _ _=>simp
def J3:OpR X (binaryOp .Add) (tY X.K):=by
 intro C s D H x y v u Q I i j h;obtain⟨a,b,k,l,rfl,rfl,m,n,p,f,r,t⟩:=h;cases i;cases j;obtain⟨A,d,B,_⟩:=I.tuple m;obtain⟨g,c,p2,_⟩:=I.tuple n;refine HT.cat_tup B p2 (λz=>p (d.nil_iff.mp z)) (λz=>⟨.ref a,H,I,rfl,r (c.nil_iff.mp z)⟩) (λz=>?_) (by rw[<-d.length,<-c.length];exact f);refine⟨.ref s.heap.objs.size,_,I.laid (t':=s.toks) (o:= .tup (k++l)) (λb E q=>dj _ q) (cD _) ?_,rfl,t (λw=>z (c.nil_iff.mpr w)) _ (I.hok.fresh (cD _))⟩;exact⟨by rw[dz];exact f,_,d.append c,TupD.new _ _⟩
end
def mP(n:Nat)(i:Int):Option Nat:=if 0<=i then(if i<n then some i.toNat else none)else if -(n:Int)<=i then some (i+n).toNat else none
def iI{a:Type}(b:List a)(i:Int):Option a:=(mP b.length i).bind λj=>b[j]?
def FK{n:Nat}{i:Int}{j:Nat}(h:mP n i=some j):seqIndex? i n=some j/\j<n/\ -(n:Int)<=i/\i<n:=by
 unfold mP at h;by_cases b:0<=i
 .rw[wB b]at h;by_cases a:i<n
  .rw[wB a]at h;have e:i.toNat=j:=fH h;exact⟨by rw[seqIndex_of b a,e],by lia,by lia,a⟩
  .rw[wA a]at h;cases h
 .rw[wA b]at h;by_cases a: -(n:Int)<=i
  .rw[wB a]at h;have e:(i+n).toNat=j:=fH h;exact⟨by rw[seqIndex_neg (by lia) a,e],by lia,a,by lia⟩
  .rw[wA a]at h;cases h
def CY{b:Type}{a:List b}{i:Int}{v:b}(h:iI a i=some v): ∃j,seqIndex? i a.length=some j/\a[j]? =some v/\j<a.length/\ -(a.length:Int)<=i/\i<a.length:=by
 unfold iI at h;cases e:mP a.length i with
 |none=>rw[e]at h;cases h
 |some j=>
  rw[e]at h;obtain⟨c,d,f,g⟩:=FK e;exact⟨j,c,h,d,f,g⟩
def fF{b:Type}{a:List b}{j:Nat}{v:b}(h:a[j]? =some v):iI a (j:Int)=some v:=by
 have c:j<a.length:=(cA.mp h).1;have e:mP a.length (j:Int)=some j:=by
  unfold mP;rw[wB (by lia),wB (by lia)];simp
 unfold iI;rw[e];exact h
def J8(b:Expr):Prop:= ∀o i,subscripted b false o i=operate [o,i] (getItem o i)
def IxR(X:Cx)(r:R2):Prop:=
 ∀(b a:Expr) (c:AO) (s:Sh) (d:St) (H:Hp) (x y:V) (v u:Vl) (Q:VK),Inv X c d H s->RelV x v->RelV y u->r x y H Q->
  subscripted a false v u=operate [v,u] (getItem v u)->wpAny (model X.prog X.w) X.A (subscriptTail b a v u) (EP X c d Q) X.xe s
def o0(X:Cx)(id:String)(r:V->List V->Hp->VK->Prop):Prop:=
 ∀(a:AO) (s:Sh) (b:St) (H:Hp) (x:V) (c:List V) (v:Vl) (d:Vs) (Q:VK),Inv X a b H s->RelV x v->Vals c d->r x c H Q->
  wpAny (model X.prog X.w) X.A (call (.builtin id) (v::d)) (EP X a b Q) X.xe s
section
variable{X:Cx}{a b:Expr}{ta tb:TE}{pos:Pos}
def cY{r:R2}(c:IxR X r)(d:PE X a ta)(e:PE X b tb)(f:J8 b):PE X (.Subscript a b pos) (uS r ta tb):=by
 intro g s i H Q I h;exact Subscript_ (pB d e I h λv u j x y k l m n q=>c a b g j i k x y v u Q l m n q (f _ _))
def qp(K:W.Frag):R2:=λx y H Q=> ∃p c i v,x= .ref p/\y= .int i/\SqL K H p c/\iI c i=some v/\Q v H
def mY(K:W.Frag):R2:=λx y H Q=> ∃p c i v,x= .ref p/\y= .int i/\SqT K H p c/\iI c i=some v/\Q v H
def fe:IxR X (qp X.K):=by
 intro d e m s n H x y v u Q I C D h o;obtain⟨p,T,i,z,rfl,rfl,E,G,q⟩:=h;cases C;obtain⟨t,rfl⟩:=D;obtain⟨f,r,g,U⟩:=I.list E;obtain⟨j,c,J,Y,L,M⟩:=CY G;obtain⟨w,A,k⟩:=r.get J;have N:=r.length;have hn:=tG;have fin:EP X m n Q w s:=⟨z,H,I,k,q⟩;by_cases B:0<=i
 .have l:i.toNat=j:=by
   rw[seqIndex_of B M]at c;exact fH c
  exact item_listR g.isList B (by lia) (by rw[l];simpa using A) fin o
 .have l:(i+(f.toArray.size:Int)).toNat=j:=by
   rw[seqIndex_neg (by lia) L]at c;rw[dW,<-N];exact fH c
  exact subscriptTail_builtinR (x:=w) g.isList.typeIs slot_list_getitem.lookup
   (wpAny_getItem_list_neg (Q:=λr O=>r=w/\EP X m n Q r O) g.isList (by lia) (by rw[dW]<;>lia) (by lia) (by rw[l];simpa using A) ⟨rfl,fin⟩) o
def dO:IxR X (mY X.K):=by
 intro c d f s g H x y v u Q I l m h n;obtain⟨p,L,i,z,rfl,rfl,o,A,q⟩:=h;cases l;obtain⟨t,rfl⟩:=m;obtain⟨B,r,k,M⟩:=I.tuple o;obtain⟨j,C,D,N,O,T⟩:=CY A;obtain⟨w,E,e⟩:=r.get D;have G:=r.length;have U:=tG;have fin:EP X f g Q w s:=⟨z,H,I,e,q⟩;exact subscriptTail_builtinR (x:=w) k.typeIs slot_tuple_getitem.lookup
  (getItem_tuple (j:=j) (Q:=λr J=>r=w/\EP X f g Q r J) k (by lia) (by lia) (by rw[dW,<-G];exact C) (by simpa using E) ⟨rfl,fin⟩) n
def Mb(c:Vs)(n j:Nat)(u:Vl):Obj.mapSeq (·.setIfInBounds j u) {cls:= .type "list",data:= .seq c.toArray n}={cls:= .type "list",data:= .seq (c.set j u).toArray n}:=by
 simp[Obj.mapSeq]
def Inv.lst{d:AO}{f:St}{H:Hp}{s:Sh}{p:Ad}{c:List V}(I:Inv X d f H s)(h:H p=some (.lst c)):
  ∃(its:Vs) (n:Nat),Vals c its/\s.heap.get? p=some {cls:= .type "list",data:= .seq its.toArray n}/\c.length<=sizeLine:=by
 obtain⟨z,its,n,r,e⟩:=I.hok p _ h;exact⟨its,n,r,e,z⟩
def Inv.lstUpd{j:AO}{k:St}{H:Hp}{s:Sh}{p:Ad}{m g:List V}{d c:Vs}{n i:Nat}{f:Obj->Obj}(I:Inv X j k H s)(h:H p=some (.lst m))
  (o:s.heap.get? p=some {cls:= .type "list",data:= .seq d.toArray n}) (l:f {cls:= .type "list",data:= .seq d.toArray n}={cls:= .type "list",data:= .seq c.toArray i}) (r:Vals g c) (v:g.length<=sizeLine) (t:Nat):
  Inv X j k (cg H p (.lst g)) {s with heap:=s.heap.update p f,toks:=t}:=by
 have e:(s.heap.update p f).get? p=some {cls:= .type "list",data:= .seq c.toArray i}:=by
  rw[pX f o (by rw[l]<;>rfl),l]
 refine I.write (x:=p) (e:=p) (by rw[h];trivial) (.inl rfl) (λb u w q=>(iM _ _ (eC w)).trans q) ⟨_,e⟩ ?_;exact⟨v,c,i,r,e⟩
def tu:V->V->V->Hp->(Hp->Prop)->Prop:=λo i v H Q=> ∃p c k j,o= .ref p/\i= .int k/\H p=some (.lst c)/\mP c.length k=some j/\Q (cg H p (.lst (c.set j v)))
def uX:s9 X tu:=by
 intro z s A H o i v L M u Q I B C D h;obtain⟨p,E,k,j,rfl,rfl,l,G,q⟩:=h;cases B;obtain⟨t,rfl⟩:=C;obtain⟨c,n,r,e,J⟩:=I.lst l;obtain⟨d,N,m,w⟩:=FK G;have f:=r.length;have O:=tG;have x:Inv X z A (cg H p (.lst (E.set j v))) {s with heap:=s.heap.update p (Obj.mapSeq (·.setIfInBounds j u))}:=
  I.lstUpd l e (Mb c n j u) (r.set D j) (by rw[pi];exact J) s.toks
 by_cases y:0<=k
 .have g:k.toNat=j:=by
   rw[seqIndex_of y w]at d;exact fH d
  exact PySem.W.ki_setAt e y (by lia) (by rw[dW,<-f];exact w) (by rw[g];exact⟨_,x,q⟩)
 .have g:(k+(c.toArray.size:Int)).toNat=j:=by
   rw[seqIndex_neg (by lia) m]at d;rw[dW,<-f];exact fH d
  exact PySem.W.ki_setBack e (by lia) (by rw[dW,<-f];exact m) (by lia) (by rw[g];exact⟨_,x,q⟩)
def JO(lo c:Option Int)(n:Nat):(sliceBounds lo c none n).1=((HT.sIx n 0 lo:Nat):Int)/\(sliceBounds lo c none n).2.1=((HT.sIx n n c:Nat):Int)/\(sliceBounds lo c none n).2.2=1:=by
 refine⟨?_,?_,rfl⟩
 .cases lo with
  |none=>simp[sliceBounds,HT.sIx]
  |some i=>
   simp only[sliceBounds,HT.sIx,Option.getD_none,show(1:Int)>0 by decide,if_true];by_cases h:i<0
   .simp only[h,if_true]<;>lia
   .simp only[h,if_false]<;>lia
 .cases c with
  |none=>simp[sliceBounds,HT.sIx]
  |some i=>
   simp only[sliceBounds,HT.sIx,Option.getD_none,show(1:Int)>0 by decide,if_true];by_cases h:i<0
   .simp only[h,if_true]<;>lia
   .simp only[h,if_false]<;>lia
def L5(c:Vs)(lo d:Option Int):slicePick c.toArray lo d none=((c.drop (HT.sIx c.length 0 lo)).take (HT.sIx c.length c.length d-HT.sIx c.length 0 lo)).toArray:=by
 obtain⟨e,f,g⟩:=JO lo d c.toArray.size;unfold slicePick;rw[e,f,g];simp only[sliceRange_one,pick_run,List.size_toArray]<;>rfl
def yh(K:W.Frag):V->Option Int->Option Int->Hp->VK->Prop:=λx lo d H Q=> ∃a c,x= .ref a/\SqL K H a c/\ ∀p,H p=none->Q (.ref p) (cg H p (.lst (nB c lo d)))
def vL:BQ X (yh X.K):=by
 intro n s p H x v t u lo e sl Q I f g i j h;obtain⟨a,c,rfl,k,q⟩:=h;cases f;obtain⟨l,r,ht,m⟩:=I.list k;have d:=r.length;refine⟨"list",_,slot_list_getitem.lookup,ht.isList.typeIs,?_⟩;refine wpAny_getItem_list_slice ht.isList g i j .none (by simp) ?_ (by rw[List.size_toArray]<;>lia);rw[L5,<-d];refine⟨.ref s.heap.objs.size,_,I.laid (t':=s.toks) (o:= .lst (nB c lo e)) (λb w q=>dj _ q) (cD _) ?_,rfl,q _ (I.hok.fresh (cD _))⟩;exact⟨dt (Ie c lo e) m,_,0,(r.drop (HT.sIx c.length 0 lo)).take (HT.sIx c.length c.length e-HT.sIx c.length 0 lo),dZ _ rfl⟩
def gY:V->Bool
 | .non=>true
 | .bl _=>true
 | .int _=>true
 | .str _=>true
 |_=>false
def jr:V->V->Bool
 | .non,.non=>true
 | .bl a,.bl b=>a==b
 | .bl a,.int b=>(if a then 1 else 0)==b
 | .int a,.bl b=>a==(if b then 1 else 0)
 | .int a,.int b=>a==b
 | .str a,.str b=>a==b
 |_,_=>false
def u0{A:Ar}{s:Sh}{y x:V}{u v:Vl}(e:RelV y u)(c:RelV x v)(g:gY y=true)(f:gY x=true):SeqAt.EqAt A s u v (jr y x):=by
 cases y with
 |non=>
  cases e;cases x with
  |non=>cases c;exact SeqAt.EqAt.same _
  |bl b=>cases c;exact SeqAt.EqAt.none_bool b
  |int b=>obtain⟨t,rfl⟩:=c;exact SeqAt.EqAt.none_int b t
  |str b=>obtain⟨t,rfl⟩:=c;exact SeqAt.EqAt.none_str b t
  |_=>exact wC (show false=true from f) e9
 |bl a=>
  cases e;cases x with
  |non=>cases c;exact SeqAt.EqAt.bool_none a
  |bl b=>cases c;exact SeqAt.EqAt.bool_bool a b
  |int b=>obtain⟨t,rfl⟩:=c;exact SeqAt.EqAt.bool_int a b t
  |str b=>obtain⟨t,rfl⟩:=c;exact SeqAt.EqAt.bool_str a b t
  |_=>exact wC (show false=true from f) e9
 |int a=>
  obtain⟨d,rfl⟩:=e;cases x with
  |non=>cases c;exact SeqAt.EqAt.int_none a d
  |bl b=>cases c;exact SeqAt.EqAt.int_bool a d b
  |int b=>obtain⟨t,rfl⟩:=c;exact SeqAt.EqAt.int_int a d b t
  |str b=>obtain⟨t,rfl⟩:=c;exact SeqAt.EqAt.int_str a d b t
  |_=>exact wC (show false=true from f) e9
 |str a=>
  obtain⟨d,rfl⟩:=e;cases x with
  |non=>cases c;exact SeqAt.EqAt.str_none a d
  |bl b=>cases c;exact SeqAt.EqAt.str_bool a d b
  |int b=>obtain⟨t,rfl⟩:=c;exact SeqAt.EqAt.str_int a d b t
  |str b=>obtain⟨t,rfl⟩:=c;exact SeqAt.EqAt.str_str a d b t
  |_=>exact wC (show false=true from f) e9
 |_=>exact wC (show false=true from g) e9
def mD(x:V)(u:Vl):Bool:=match u with
 | .none=>jr .non x
 | .bool b=>jr (.bl b) x
 | .int i _=>jr (.int i) x
 | .str z _=>jr (.str z) x
 |_=>false
def Fv{x y:V}{u:Vl}(r:RelV y u)(f:gY y=true):mD x u=jr y x:=by
 cases y with
 |non=>cases r;rfl
 |bl b=>cases r;rfl
 |int i=>obtain⟨t,rfl⟩:=r;rfl
 |str z=>obtain⟨t,rfl⟩:=r;rfl
 |_=>exact wC (show false=true from f) e9
theorem BA{x:V}: ∀{c:List V} {d:Vs},Vals c d->c.all gY=true->d.any (mD x)=c.any λy=>jr y x
 |_,_,.nil,_=>rfl
 |y::c,u::d,.cons r t,f=>by
  rw[List.all_cons,i4]at f;rw[pF,pF,Fv r f.1,BA t f.2]
theorem yd{A:Ar}{s:Sh}{x:V}{v:Vl}(e:RelV x v)(g:gY x=true): ∀{c:List V} {d:Vs},Vals c d->c.all gY=true-> ∀u∈d,SeqAt.EqAt A s u v (mD x u)
 |_,_,.nil,_=>λu hu=>by cases hu
 |y::c,u::d,.cons r t,f=>λh hu=>by
  rw[List.all_cons,i4]at f
  rcases dE.mp hu with rfl|hu
  .rw[Fv r f.1];exact u0 r e f.1 g
  .exact yd e g t f.2 h hu
def u4(x:V)(c:List V):Bool:=c.any λy=>jr y x
def B9(K:W.Frag)(d:Bool):R2:=λx y H Q=> ∃p c,y= .ref p/\(SqL K H p c∨SqT K H p c)/\gY x=true/\c.all gY=true/\Q (.bl (if d then !u4 x c else u4 x c)) H
def Gk:OpR X (compareOp .In) (B9 X.K false):=by
 intro j s k H x y v u Q I e g h;obtain⟨p,l,rfl,hq,f,fs,q⟩:=h;cases g
 rcases hq with hq|hq
 .obtain⟨c,r,d,i⟩:=I.list hq;refine SeqAt.in_listAt (mD x) d.isList (λw hw=>yd e f r fs w (by simpa using hw)) ⟨.bl _,H,I,rfl,?_⟩;rw[show c.toArray.any (mD x)=c.any (mD x) by simp,BA r fs];exact q
 .obtain⟨c,r,d,i⟩:=I.tuple hq;refine SeqAt.in_tupleAt (mD x) d (λw hw=>yd e f r fs w (by simpa using hw)) ⟨.bl _,H,I,rfl,?_⟩;rw[show c.toArray.any (mD x)=c.any (mD x) by simp,BA r fs];exact q
def fJ:gv X (.builtin "len") (λi H Q=> ∃p d,i=[.ref p]/\(SqL X.K H p d∨SqT X.K H p d)/\Q (.int d.length) H):=by
 intro l s m H i n Q I r h;obtain⟨p,d,rfl,hq,q⟩:=h;obtain⟨u,rfl,j⟩:=gc r;cases j;have o:=tG
 rcases hq with hq|hq
 .obtain⟨e,f,g,k⟩:=I.list hq;have c:=f.length;exact Calls.call_len_list g.isList (by simp only[List.size_toArray]<;>lia) ⟨.int d.length,H,I.tok _,⟨s.toks+1,by rw[List.size_toArray,c]⟩,q⟩
 .obtain⟨e,f,g,k⟩:=I.tuple hq;have c:=f.length;exact len_tuple g (by simp only[List.size_toArray]<;>lia) ⟨.int d.length,H,I.tok _,⟨s.toks+1,by rw[List.size_toArray,c]⟩,q⟩
def LA:gv X (.type "list") (λy H Q=> ∃p f,y=[.ref p]/\(SqL X.K H p f∨SqT X.K H p f)/\ ∀l,H l=none->Q (.ref l) (cg H l (.lst f))):=by
 intro A s B H y D Q I r h;obtain⟨p,f,rfl,hq,q⟩:=h;obtain⟨u,rfl,C⟩:=gc r;cases C;have fin: ∀(c:Vs),Vals f c->f.length<=sizeLine-> ∀(d:Heap) (g:Nat),(∀b z,s.heap.get? b=some z->d.get? b=some z)->
   d.get? s.heap.objs.size=some {cls:= .type "list",dict:=none,data:= .seq c.toArray g,slots:= #[]}->EP X A B Q (.ref s.heap.objs.size) {s with heap:=d}:=λc i j d g k e=>
  ⟨.ref s.heap.objs.size,_,I.laid (t':=s.toks) k (cD _) (show ObjOk X.prog X.w _ d _ (.lst f)from⟨j,c,g,i,e⟩),rfl,q _ (I.hok.fresh (cD _))⟩
 rcases hq with hq|hq
 .obtain⟨c,i,t,j⟩:=I.list hq;have m:=i.length;obtain⟨o,v,w,n,x⟩:=t.isList;exact call_list_seq p (.inl rfl) v w x (λd g k e=>fin c i j d g k e) (by simp only[List.size_toArray]<;>lia)
 .obtain⟨c,i,t,j⟩:=I.tuple hq;have m:=i.length;obtain⟨o,v,w,n,x⟩:=t;exact call_list_seq p (.inr rfl) v w x (λd g k e=>fin c i j d g k e) (by simp only[List.size_toArray]<;>lia)
def mC:gv X (.type "tuple") (λk H Q=> ∃p d,k=[.ref p]/\((SqL X.K H p d/\ ∀l,H l=none->Q (.ref l) (cg H l (.tup d)))∨(SqT X.K H p d/\Q (.ref p) H))):=by
 intro m s n H k A Q I r h;obtain⟨p,d,rfl,h⟩:=h;obtain⟨u,rfl,x⟩:=gc r;cases x
 rcases h with⟨g,q⟩|⟨g,q⟩
 .obtain⟨c,i,j,t⟩:=I.list g;have v:=i.length;refine call_tuple_list j.isList (λf y=>?_) (by simp only[List.size_toArray]<;>lia);have w:Inv X m n H {s with heap:=f}:=I.kept (t':=s.toks) y;have z:Inv X m n (cg H f.objs.size (.tup d)) {s with heap:=f.push {cls:= .type "tuple",data:= .seq c.toArray}}:=
   w.laid (t':=s.toks) (λb o e=>dj _ e) (cD _) (show ObjOk X.prog X.w _ _ _ (.tup d)from⟨t,c,i,TupD.new _ _⟩)
  exact⟨.ref f.objs.size,_,z,rfl,q _ (w.hok.fresh (cD _))⟩
 .obtain⟨c,i,j,t⟩:=I.tuple g;exact call_tuple_same j ⟨.ref p,H,I,rfl,q⟩
def yy(K:W.Frag)(T:String)(x:V)(H:Hp):Prop:=match x with
 | .str _=>T="str"
 | .int _=>T="int"
 | .ref p=>(T="list"/\ ∃d,SqL K H p d)∨(T="tuple"/\ ∃o,K.lookup p=some o/\o.cls= .type "tuple"/\o.dict=none)∨
   (T="dict"/\((∃c,H p=some (.dK c))∨ ∃c,H p=some (.dT c)))∨(T="set"/\ ∃S n,H p=some (.set S n))
 |_=>False
def EH{m:AO}{q:St}{H:Hp}{s:Sh}{T:String}{x:V}{v:Vl}(I:Inv X m q H s)(r:RelV x v)(ty:yy X.K T x H):
  s.TypeIs v T/\ ∀a,v= .ref a-> ∃k,s.heap.get? a=some k/\k.dict=none:=by
 cases x with
 |str z=>
  obtain⟨t,rfl⟩:=r;cases(show T="str" from ty);exact⟨typeIs_str s z t,λ_ e=>nomatch e⟩
 |int i=>
  obtain⟨t,rfl⟩:=r;cases(show T="int" from ty);exact⟨tT s i t,λ_ e=>nomatch e⟩
 | ref p=>
  cases r
  rcases ty with⟨rfl,A,u⟩|⟨rfl,o,d,w,g⟩|⟨rfl,d⟩|⟨rfl,S,n,d⟩
  .obtain⟨y,_,l,_⟩:=I.list u;refine⟨l.isList.typeIs,λa e=>?_⟩;cases e;obtain⟨o,n,e,c,g,_⟩:=l;exact⟨o,e,g⟩
  .refine⟨⟨o,I.kIn p o d,w⟩,λa e=>?_⟩;cases e;exact⟨o,I.kIn _ o d,g⟩
  .have z: ∃o,s.heap.get? p=some o/\o.ExactDict:=by
    rcases d with⟨h,d⟩|⟨h,d⟩
    .obtain⟨_,_,_,_,o,_,_,e,f,_⟩:=I.hok p _ d;exact⟨o,e,f⟩
    .obtain⟨_,_,_,_,o,_,_,e,f,_⟩:=I.hok p _ d;exact⟨o,e,f⟩
   obtain⟨o,e,f⟩:=z;refine⟨⟨o,e,f.1⟩,λa j=>?_⟩;cases j;exact⟨o,e,f.2.1⟩
  .obtain⟨o,_,_,_,e,f,_⟩:=I.hok p _ d;refine⟨⟨o,e,f.1⟩,λa j=>?_⟩;cases j;exact⟨o,e,f.2.1⟩
 |_=>exact wE ty
def Bm(K:W.Frag)(T:String)(r:V->List V->Hp->VK->Prop)(to:TE):TE:=λd H Q=>to d H λx c=>yy K T x c/\r x [] c Q
def wV(K:W.Frag)(T:String)(r:V->List V->Hp->VK->Prop)(to:TE)(t:TA):TE:=λc H Q=>to c H λx d=>yy K T x d/\t c d λe f=>r x e f Q
variable{o e:Expr}{es:List Expr}{to:TE}{t:TA}{name:Str}{apos cpos:Pos}{T id:String}{r:V->List V->Hp->VK->Prop}
def LR(m:PlainAttrs T)(f:Slot T name id)(g:typeOf (.builtin id)=pure (.type "method_descriptor"))(n:o0 X id r)(p:PE X o to)
  (c:attributeBase o name X.env (eval o X.env)=eval o X.env:=by rfl) (d:(apos.endLine==cpos.line)=true:=by rfl):PE X (.Call (.Attribute o name apos) [] [] cpos) (Bm X.K T r to):=by
 intro i s j H Q I h;refine wpAny_Call_method0_late c d (cG (p i s j H _ I h) λv q ⟨x,u,k,l,ty,w⟩=>?_);obtain⟨y,z⟩:=EH k l ty;exact⟨T,id,m,f,g,y,z,yu rfl (PySem.evalArgs_none (n i q j u x [] v [] Q k l .nil w))⟩
def iN(q:PlainAttrs T)(g:Slot T name id)(j:typeOf (.builtin id)=pure (.type "method_descriptor"))(u:o0 X id r)(w:PE X o to)(y:PA X (e::es) t)
  (d:attributeBase o name X.env (eval o X.env)=eval o X.env:=by rfl)
  (i:((backTo cpos (starEach (e::es) X.env)).all (λx=> !x.1)&&(backToKw cpos (keywordEach [] X.env)).all (λx=>x.1.isSome)
   &&decide ((e::es).length+([]:List Keyword).length+(if([]:List Keyword).isEmpty then 0 else 1)<30))=true:=by rfl)
  (f:(apos.endLine==cpos.line)=true:=by rfl) (z:starEach (e::es) X.env=(false,eval e X.env)::starEach es X.env:=by rfl) (c:(backTo cpos (starEach es X.env)).any (·.1)=false:=by rfl):
  PE X (.Call (.Attribute o name apos) (e::es) [] cpos) (wV X.K T r to t):=by
 intro k s l H Q I h;refine wpAny_Call_method_late d i f rfl (cG (w k s l H _ I h) λv A ⟨x,B,m,n,ty,C⟩=>?_);obtain⟨D,E⟩:=EH m n ty;refine⟨T,id,q,g,j,D,E,?_⟩;have p:=y cpos k A l B _ m C;rw[z]at p⊢;refine yu (by show(false || (backTo cpos (starEach es X.env)).any (·.1))=false;rw[c]<;>rfl) (Calls.evalArgs_plain ?_);exact cG p λG J ⟨L,M,N,O,U⟩=>u k J l M x L v G Q N n O U
end
def Mv(X:Cx)(id:String)(r:V->List V->Hp->VK->Prop):Prop:=
 ∀(a:AO) (s:Sh) (b:St) (H:Hp) (x:V) (c:List V) (v:Vl) (d:Vs) (Q:VK),Inv X a b H s->RelV x v->Vals c d->r x c H Q->
  wpAny (model X.prog X.w) X.A (call (.builtin id) (v::d)) (EP X a b Q) X.xe s
theorem Vals.one: ∀{x:V} {a:Vs},Vals [x] a-> ∃u,a=[u]/\RelV x u
 |_,_,.cons r .nil=>⟨_,rfl,r⟩
theorem Vals.rep{a:List V}{b:Vs}(h:Vals a b): ∀k:Nat,Vals (List.replicate k a).flatten (List.replicate k b).flatten
 |0=> .nil
 |k+1=>by
  rw[oz,oz,vW,vW];exact Vals.append h (Vals.rep h k)
theorem AI(a:Vs): ∀(k:Nat) (b:Vs),
  List.foldl (λc d=>c++d) b.toArray (List.replicate k a.toArray)=(b++(List.replicate k a).flatten).toArray
 |0,b=>by simp
 | k+1,b=>by
  have e:b.toArray++a.toArray=(b++a).toArray:=by simp
  have f:(b++a)++(List.replicate k a).flatten=b++(List.replicate (k+1) a).flatten:=by
   rw[oz,vW,eX]
  rw[<-f,<-AI a k (b++a),<-e,oz,zj]
section
variable{X:Cx}{za:AO}{σ:St}{H:Hp}{s:Sh}{l b:Ad}{xs ys zs:List V}
def Inv.lset{a its':Vs}{n:Nat}{f:AV->Array Vl}{t':Nat}(I:Inv X za σ H s)(c:H l=some (.lst xs))
  (e:s.heap.get? l=some {cls:= .type "list",data:= .seq a.toArray n}) (d:f a.toArray=its'.toArray) (g:Vals ys its') (h:ys.length<=sizeLine):
  Inv X za σ (cg H l (.lst ys)) {s with heap:=s.heap.update l (Obj.mapSeq f),toks:=t'}:=by
 have q:=PySem.IsL.update e f;rw[d]at q;refine I.write (x:=l) (e:=l) (by rw[c];exact trivial) (.inl rfl) (λk u i j=>(iM s.heap (Obj.mapSeq f) (eC i)).trans j) ⟨_,q⟩ ?_;exact⟨h,its',_,g,q⟩
def Inv.lnew{a:Vs}{t':Nat}(I:Inv X za σ H s)(c:Vals ys a)(d:ys.length<=sizeLine):
  Inv X za σ (cg H s.heap.objs.size (.lst ys)) {s with heap:=s.heap.push {cls:= .type "list",data:= .seq a.toArray},toks:=t'}:=
 I.laid (λ_ _ q=>dj _ q) (cD _) ⟨d,a,0,c,dZ _ rfl⟩
def Inv.fresh(I:Inv X za σ H s):H s.heap.objs.size=none:=I.hok.fresh (cD _)
def Inv.lstM(I:Inv X za σ H s)(c:H l=some (.lst xs)):xs.length<=sizeLine/\ ∃(a:Vs) (n:Nat),Vals xs a/\xs.length=a.length/\s.heap.get? l=some {cls:= .type "list",data:= .seq a.toArray n}:=by
 obtain⟨z,a,n,r,e⟩:=I.hok l _ c;exact⟨z,a,n,r,r.length,e⟩
def Iq{n:Nat}(h:n<=sizeLine):Builtin.List.listTooLong n=false:=by
 unfold Builtin.List.listTooLong;exact d9 (by lia)
end
section
variable{X:Cx}
def CQ:V->List V->Hp->VK->Prop:=λx b H Q=> ∃l a y,x= .ref l/\b=[y]/\H l=some (.lst a)/\a.length<sizeLine/\Q .non (cg H l (.lst (a++[y])))
def lI:Mv X "list.append" CQ:=by
 intro g s i H x j v k Q I c d h;obtain⟨l,m,y,rfl,rfl,b,o,q⟩:=h;cases c;obtain⟨u,rfl,f⟩:=d.one;obtain⟨z,a,n,r,p,e⟩:=I.lstM b;refine mQ F.slot_list_append ⟨_,e,rfl⟩ F.entry_list_append (F.args_list_append_2 _ _) (PySem.list_append l a.toArray n u (by rw[dW];lia)) ⟨e,?_⟩;refine⟨.non,_,I.lset (its':=a++[u]) b e (by simp) (r.append (.cons f .nil)) ?_,rfl,q⟩;rw[dz,rY];lia
def yj:R2:=λx y H Q=> ∃l k a,x= .ref l/\y= .int k/\H l=some (.lst a)/\ -(2 ^ 63)<=k/\k<2 ^ 63/\a.length * k.toNat<=sizeLine/\
 ∀p,H p=none->Q (.ref p) (cg H p (.lst (List.replicate k.toNat a).flatten))
def yK{b:Type}(a:List b)(k:Nat):(List.replicate k a).flatten.length=k * a.length:=by
 induction k with
 |zero=>simp
 |succ k c=>rw[oz,vW,dz,c,Nat.succ_mul,wP]
def Kw:OpR X (binaryOp .Mult) yj:=by
 intro L s M H x y v u Q I w A h;obtain⟨l,k,N,rfl,rfl,B,C,D,p,q⟩:=h;cases w;obtain⟨t,rfl⟩:=A;obtain⟨z,b,n,r,E,e⟩:=I.lstM B;have d:b.toArray.size * k.toNat<=sizeLine:=by rw[dW,<-E];exact p
 have f: ¬b.toArray.size * k.toNat>(2 ^ 63-1) /8:=by
  have:(sizeLine:Nat)<=(2 ^ 63-1) /8:=by decide
  lia
 have g: ¬(!Builtin.List.listFitsIndex k)=true:=by
  rw[fitsIndex_both C D];exact e9
 have c: ¬Builtin.List.listTooLong (b.toArray.size * k.toNat)=true:=by
  rw[Iq d];exact e9
 have i:List.foldl (λj o=>j++o) #[] (List.replicate (if b.toArray.isEmpty=true then 0 else k.toNat) b.toArray)=(List.replicate k.toNat b).flatten.toArray:=by
  have G: ∀m:Nat,List.foldl (λj o=>j++o) #[] (List.replicate m b.toArray)=(List.replicate m b).flatten.toArray:=λm=>by
   have:=AI b m [];rw[ub]at this;exact this
  rw[G];cases b with
  |nil=>simp
  |cons a O=>rw[wA (by simp)]
 refine wpAny_binaryOp_repeat_ref (T:="list") (U:="int") (by decide) ⟨_,e,rfl⟩ (λJ=>tT J k t) noFill_list_mul F.fills_int_mul wq repeat_list F.slot_int_index.lookup
  (mQ wq (tT s k t) F.entry_int_rmul (F.args_int_rmul_2 _ _) (int___rmul___int_list k t l b.toArray n)
   ⟨e,rfl,⟨_,e,rfl⟩,mQ F.slot_list_mul ⟨_,e,rfl⟩ F.entry_list_mul (F.args_list_mul_2 _ _) (AutoListH.list___mul___list_int_3 l b.toArray n k t g f c) ⟨e,?_⟩⟩)
 rw[i];exact⟨.ref _,_,I.lnew (t':=s.toks) (r.rep k.toNat) (by rw[yK,Nat.mul_comm];exact p),rfl,q _ I.fresh⟩
end
end L2
namespace Att
open PySem PySem.W PySem.Calls PyProof.Rows
def GB{P:Params}{h:Heap}: ∀(c:Zs) (d:Vs),WellAll P h d (c.map WData.int)->IntsAre d c:=by
 intro c
 induction c with
 |nil=>
  intro d w;rw[xG]at w;cases w;exact .nil
 | cons n c e=>
  intro d w;rw[fM]at w;cases w with
  |cons a b=>
   cases a;exact .cons _ _ (e _ b)
def IU{l:OpenLaw}{n:Nat}(s:l.most=some n){P:Params}{h:Heap}{args:List WData}{c:Vs}
  (e:l.row.toRowW.claim.pre args=true) (k:WellAll P h c args):
  ∃a o b,c=[Value.ref a]/\args=[WData.list (b.map WData.int)]/\h.get? a=some {cls:= .type "list",data:= .seq o.toArray}/\IntsAre o b/\b.length<=n:=by
 have m:WShape.hasAll [] args [.list .int]=true:=(pre_splitW e).1;have p:l.pre.holds [] {args:=args}=true:=(pre_splitW e).2;obtain⟨d,r,rfl,t,u⟩:=hasAllW_cons m;obtain rfl:=hasAllW_nil u;obtain⟨A,rfl,v⟩:=hasW_list t;obtain⟨b,rfl⟩:=items_int v;have f:b.length<=n:=by
  unfold OpenLaw.pre at p;have i:(WTm.not (.lt (.lit (.int (n:Int))) (.len (.arg 0)))).holds [] {args:=[.list (b.map .int)]}=true:=by
   have i:=(holds_andW p).1;rw[s]at i;exact i
  have j:=condW_of i (w_not (w_lt w_lit (w_len_list (w_arg rfl))));rw[cj]at j;refine vD λq=>?_;have w:(n:Int)<((b.length:Nat):Int):=by lia
  first
   |(rw[dD w]at j;exact wC j (by decide))
   |(simp at j;lia)
 cases k with
 |cons x y=>
  cases y;cases x with
  |list z g=>exact⟨_,_,b,rfl,rfl,z,GB b _ g,f⟩
def FV(l:OpenLaw)(args:List WData):l.row.toRowW.claim.post args (.bool true) args=true:=
 postW_of (r:=l.row.toRowW) (X:=(true==true))
  (show WShape.has [] (.bool true) .bool=true by first|rfl|decide|simp[WShape.has,WShape.arms,WShape.armsAll])
  (show(WTm.eq .res (.lit (.bool true))).value [] {args:=args,res:=some (.bool true),after:=args}=some (.bool (true==true))from w_eq_bool (w_res rfl) w_lit) rfl
def attach_call{l:OpenLaw}{n:Nat}{q:Pg}{c:Ss}{z:SV->Heap->Prop}{A:World->Heap->Prop}{d:DefRec}
  (E:l.most=some n) (u:d.params.defaults=[])
  (call: ∀(w:World) (e b:Sh) (mg v:SV) (fa:Ad) (o:Obj) (pm p g:Vl) (a:Ad) (i:Vs) (s:Zs),
   Ground q c [] z w e mg v b.heap->A w b.heap->
   b.heap.get? fa=some o->o.data= .func (docDef d.name d.params d.body d.scope pm p g)->b.heap.CodeRec p d.name->mg d.name=some (.ref fa)->
   b.heap.get? a=some {cls:= .type "list",data:= .seq i.toArray}->IntsAre i s->s.length<=n->b.gens= #[]->
   codeAny (model l.prog w) callerA (.call (.ref fa) ⟨[.ref a],[]⟩) (λr t=>r= .ok (.ret (.bool true))/\OldK b.heap t.heap/\t.os=b.os/\AllBare t.gens) b):
  WalkO q c z A l.row.toRowW d [] (λf i=>PySem.call f i):=by
 intro w e b mg v G Y fa o pm p g H kV I J x B hmg L args C as j D M y N;obtain rfl:H= .none:=Dflts.none B u;obtain rfl:kV= .none:=Dflts.noKw B;obtain⟨a,i,s,rfl,rfl,k,h,m⟩:=IU E j y;refine enter_call (jq (call w e b mg v fa o pm p g a i s G Y I (fd_plain J) x hmg k h m L) λr t O=>?_);obtain⟨rfl,Q,T,U⟩:=O;exact⟨.inl ⟨.bool true,.bool true,[],rfl,λ_=>rfl,.bool true,FV l _,λ_=>⟨List.Pairwise.nil,λ_ hm=>(nomatch hm)⟩⟩,Q,T,U⟩
end Att
namespace L2
open PySem PySem.Spec PyProof.Rows
theorem Ci: ∀{a:Vs} {b:Zs},IntsAre a b->Vals (b.map V.int) a
 |_,_,.nil=> .nil
 |_,_,.cons n t h=> .cons ⟨t,rfl⟩ (Ci h)
abbrev MI{K:W.Frag}{h:Heap}(_:K.In h):W.Frag:=K
end L2
namespace L2
open PySem PySem.Spec PyProof.Rows
def iX(s:Stmt):Arguments:=match s with
 | .FunctionDef _ a _ _ _ _ _ _ _ _=>a
 |_=>{posonlyargs:=[],args:=[],vararg:=none,kwonlyargs:=[],kw_defaults:=[],kwarg:=none,defaults:=[]}
def hE(s:Stmt):List Stmt:=match s with
 | .FunctionDef _ _ b _ _ _ _ _ _ _=>b
 |_=>[]
def cL(s:Stmt):Scope:=match s with
 | .FunctionDef _ _ _ _ _ _ a _ _ _=>a
 |_=>{kind:= .function,names:=[],isGenerator:=false,isCoroutine:=false}
abbrev cQ:nV:=λ_ _ _ _ _ _=>False
abbrev E0:XK:=λ_ _ _=>False
def tW{X:Cx}:oC cQ X E0:=λ_ _ _ _ _ _ _ h=>h.elim
structure Fun(K:W.Frag)(x qual:Str)(st:Stmt)(f:Ad)(fd:Fd):Prop where
 ex: ∃(oc:Vl) (od:Option Ad) (kV doc pm:Vl) (an:Option Ad) (cdv ct:Vl) (osl:Array (Option Vl)),
  fd=PySem.W.fnOf x qual (iX st) (hE st) (cL st) .none kV doc pm an cdv ct/\K.lookup f=some ⟨oc,od,.func fd,osl⟩/\PySem.W.codeIn K cdv qual=true
 kp:PySem.W.keepIn K (.ref f)=true
section
variable{P:Pg}{w:World}{K:W.Frag}{mg:SV}{base:Heap}
def Fun.ok{x b:Str}{st:Stmt}{f:Ad}{l:Fd}{N e:Ss}{k:Nat}{g:Sp}(F:Fun K x b st f l)(S:FnScope N e (cL st))(len: ∀vs H Q E,g vs H Q E->vs.length=e.length)
  (d: ∀(c:Vl) (A:Ar) (a:List Env) (s:Sh) (H:Hp) (vs:List V) (Q:VK) (E:XK),Room k (A.deeper (envOfC b (cL st) s.heap.objs.size f c))->g vs H Q E->
   ∃t,PSs (pc cQ P w K mg base N b (cL st) f c A a s H E).nox (hE st) t/\t {nx:=λ_ H'=>Q .non H',rt:=Q} (start N vs) H):FnOk P w K mg base cQ (k+1) f l e g:=by
 obtain⟨p,r,kV,m,pm,u,c,v,n,rfl,lk,i⟩:=F.ex;refine De lk i S len λA a s H vs Q E o j=>?_;obtain⟨t,h,q⟩:=d c A a s H vs Q E o j;exact⟨t,h.nox,q⟩
def Fun.binds{x a:Str}{st:Stmt}{f:Ad}{i:Fd}{ps:Ss}(F:Fun K x a st f i)
  (h: ∀(kV b pm:Vl) (d:Option Ad) (c e:Vl) (g:Vs),g.length=ps.length->bindArgs (PySem.W.fnOf x a (iX st) (hE st) (cL st) .none kV b pm d c e) ⟨g,[]⟩=pure (ps.zip g)):Binds K i ps []:=by
 obtain⟨l,m,kV,b,pm,d,c,e,j,rfl,lk,k⟩:=F.ex;exact .all (h kV b pm d c e)
def a4q{x a:Str}{st:Stmt}{f:Ad}{i:Vl}{j g:Option Ad}{e:Array (Option Vl)}{kV d pm b h:Vl}(l:K.lookup f=some ⟨i,j,.func (PySem.W.fnOf x a (iX st) (hE st) (cL st) .none kV d pm g b h),e⟩)
  (c:PySem.W.codeIn K b a=true) (k:PySem.W.keepIn K (.ref f)=true):Fun K x a st f (PySem.W.fnOf x a (iX st) (hE st) (cL st) .none kV d pm g b h):=⟨⟨i,j,kV,d,pm,g,b,h,e,rfl,l,c⟩,k⟩
end
def iG{A:Ar}{k:Nat}(a:Room k A):A.units+1<cLine:=uI (ul (by decide:1<=64) _) a.units
def Lh{n:Nat}(h:n<=1000):n<sizeLine:=uI h (by decide)
section
variable{X:Cx}
def pv(i:Nat){x:Str}{pos:Pos}(b:X.N[i]? =some x:=by rfl)(c:wO X.env.scope x:=by first|exact Or.inl rfl|exact Or.inr (Or.inl rfl)|exact Or.inr (Or.inr rfl))(d:(x==("__debug__":Str))=false:=by decide)
  (a:(x==("__classdict__":Str))=false:=by decide):PE X (.Name x pos) (fy i):=G0 b c d a
end
def dU{A B:Prop}(h:B):if false=true then A else B:=by
 rw[wA e9];exact h
def eY{A B:Prop}(h:A):if true=true then A else B:=by
 rw[wB rfl];exact h
def lR{c A B:Prop}[Decidable c](a:c->A)(b: ¬c->B):if c then A else B:=by
 by_cases h:c
 .rw[wB h];exact a h
 .rw[wA h];exact b h
def Same(H a:Hp):Prop:= ∀b o,H b=some o->a b=some o
def Same.refl(H:Hp):Same H H:=λ_ _ h=>h
def Same.trans{H d e:Hp}(a:Same H d)(b:Same d e):Same H e:=λc o h=>b c o (a c o h)
def Same.free{H a:Hp}(e:Same H a){l:Ad}(h:a l=Option.none):H l=Option.none:=by
 cases q:H l with
 |none=>rfl
 |some o=>
  rw[e l o q]at h;cases h
def Same.seq{K:W.Frag}{H b:Hp}{a:Ad}{xs:List V}(e:Same H b)(h:SqL K H a xs):SqL K b a xs:=by
 rcases h with(h|⟨o,h⟩)|h
 .exact .inl (.inl (e _ _ h))
 .exact .inl (.inr ⟨o,e _ _ h⟩)
 .exact .inr h
section
variable{κ:Type}[DecidableEq κ]
def ge(a:List (κ×V))(k:κ):Option V:=(a.find? λb=>decide (b.1=k)).map (·.2)
def hO(a:List (κ×V))(k:κ)(v:V):List (κ×V):=
 if(a.any λb=>decide (b.1=k))=true then a.map (λb=>if b.1=k then(b.1,v)else b)else a++[(k,v)]
def wH{p:κ×V}{r:List (κ×V)}{k:κ}(e:p.1=k):ge (p::r) k=some p.2:=by simp[ge,List.find?_cons,e]
def ss{p:κ×V}{r:List (κ×V)}{k:κ}(e: ¬p.1=k):ge (p::r) k=ge r k:=by simp[ge,List.find?_cons,e]
theorem Bt(k:κ): ∀a:List (κ×V),(a.any λb=>decide (b.1=k))=(ge a k).isSome
 | []=>rfl
 |p::r=>by
  rw[pF];by_cases e:p.1=k
  .simp only[wH e,decide_eq_true e,Bool.true_or,Option.isSome_some]
  .rw[ss e,d9 e,Bool.false_or];exact Bt k r
def Et(a:List (κ×V))(k:κ)(v:V):(hO a k v).length<=a.length+1:=by
 unfold hO;split
 .rw[cj];lia
 .rw[dz,i9,List.length_nil];lia
def Bh{a:List (κ×V)}{k:κ}(v:V)(h:ge a k=none):hO a k v=a++[(k,v)]:=by
 unfold hO;rw[Bt,h];exact wA (by decide)
def RelO.isSome_eq{o:Option V}{u:Option Vl}(r:RelO o u):o.isSome=u.isSome:=by
 cases o with
 |none=>cases u with
  |none=>rfl
  |some _=>exact(show False from r).elim
 |some _=>cases u with
  |none=>exact(show False from r).elim
  |some _=>rfl
def KV.val{a:List (κ×V)}{f:List (κ×Vl)}(r:KV a f)(k:κ):RelO (ge a k) (valueAt f k):=by
 unfold KV at r
 induction r with
 |nil=>exact True.intro
 | @cons p q l c h t i=>
  obtain⟨g,j⟩:=h;by_cases e:p.1=k
  .have d:q.1=k:=g.symm.trans e;have b:valueAt (q::c) k=some q.2:=by simp[valueAt,List.find?_cons,d]
   rw[wH e,b];exact j
  .have d: ¬q.1=k:=λz=>e (g.trans z);have b:valueAt (q::c) k=valueAt c k:=by simp[valueAt,List.find?_cons,d]
   rw[ss e,b];exact i
def KV.any{a:List (κ×V)}{c:List (κ×Vl)}(r:KV a c)(k:κ):(a.any λb=>decide (b.1=k))=c.any λb=>decide (b.1=k):=by
 unfold KV at r
 induction r with
 |nil=>rfl
 |cons h t d=>rw[pF,pF,d,h.1]
def KV.repl{b:List (κ×V)}{d:List (κ×Vl)}(r:KV b d)(k:κ){y:V}{u:Vl}(f:RelV y u):
  KV (b.map λa=>if a.1=k then(a.1,y)else a) (d.map λa=>if a.1=k then(a.1,u)else a):=by
 unfold KV at r⊢
 induction r with
 |nil=>exact .nil
 | @cons p q j l h t g=>
  rw[fM,fM];refine .cons ?_ g;obtain⟨c,i⟩:=h;by_cases e:p.1=k
  .rw[wB e,wB (c.symm.trans e)];exact⟨c,f⟩
  .rw[wA e,wA (λz=>e (c.trans z))];exact⟨c,i⟩
def KV.put{a:List (κ×V)}{b:List (κ×Vl)}(r:KV a b)(k:κ){y:V}{u:Vl}(c:RelV y u):KV (hO a k y) (stored b k u):=by
 unfold hO stored;rw[r.any k];by_cases e:(b.any λd=>decide (d.1=k))=true
 .rw[wB e,wB e];exact r.repl k c
 .rw[wA e,wA e];exact Paired.snoc r ⟨rfl,c⟩
def KV.length{a:List (κ×V)}{vs:List (κ×Vl)}(r:KV a vs):a.length=vs.length:=lV r
end
def ut{P:Pg}{w:World}{k:cZ}{u:Vl}(r:RelV (kV k) u):(iV P w).is k u=true:=by
 cases k with
 |inl i=>obtain⟨t,e⟩:=(show ∃t,u=Value.int i t from r);subst e;exact La P w i t
 |inr x=>obtain⟨t,e⟩:=(show ∃t,u=Value.str x t from r);subst e;exact KJ P w x t
theorem Dn{P:Pg}{w:World}: ∀{a:List cZ} {b:Vs},Vals (a.map kV) b->ItemsAre (iV P w) a b
 | [],_,r=>by rw[xG]at r;cases r;exact .nil
 |k::a,_,r=>by
  rw[fM]at r;cases r with
  |cons h t=>exact .cons (ut h) (Dn t)
abbrev KT(H:Hp):List (List cZ×V)->List (List cZ×Ad×Vl)->Prop:=Paired λp q=>p.1=q.1/\H q.2.1=some (.tup (p.1.map kV))/\RelV p.2 q.2.2
def KT.val{H:Hp}{a:List (List cZ×V)}{f:List (List cZ×Ad×Vl)}(r:KT H a f)(k:List cZ):RelO (ge a k) ((atKey f k).map (·.2)):=by
 induction r with
 |nil=>exact True.intro
 | @cons p q l c h t i=>
  obtain⟨g,_,j⟩:=h;by_cases e:p.1=k
  .have d:q.1=k:=g.symm.trans e;have b:atKey (q::c) k=some q.2:=by simp[atKey,List.find?_cons,d]
   rw[wH e,b];exact j
  .have d: ¬q.1=k:=λz=>e (g.trans z);have b:atKey (q::c) k=atKey c k:=by simp[atKey,List.find?_cons,d]
   rw[ss e,b];exact i
def KT.repl{H:Hp}{a:List (List cZ×V)}{d:List (List cZ×Ad×Vl)}(r:KT H a d)(k:List cZ){y:V}{u:Vl}(g:RelV y u):
  KT H (a.map λc=>if c.1=k then(c.1,y)else c) (d.map (putAt k u)):=by
 induction r with
 |nil=>exact .nil
 | @cons p q l m h t i=>
  rw[fM,fM];refine .cons ?_ i;obtain⟨b,f,j⟩:=h;unfold putAt;by_cases e:p.1=k
  .rw[wB e,wB (b.symm.trans e)];exact⟨b,f,g⟩
  .rw[wA e,wA (λz=>e (b.trans z))];exact⟨b,f,j⟩
def KT.put{H:Hp}{a:List (List cZ×V)}{c:List (List cZ×Ad×Vl)}(r:KT H a c)(k:List cZ){b:Ad}{y:V}{u:Vl}(f:H b=some (.tup (k.map kV)))(d:RelV y u):
  KT H (hO a k y) (storedH c k b u):=by
 have e:(a.any λg=>decide (g.1=k))=(atKey c k).isSome:=by
  rw[Bt,(r.val k).isSome_eq,Bk]
 unfold hO storedH;rw[e];by_cases q:(atKey c k).isSome=true
 .rw[wB q,wB q];exact r.repl k d
 .rw[wA q,wA q];exact Paired.snoc r ⟨rfl,f,d⟩
def KT.keeps{H c:Hp}{a:List (List cZ×V)}{d:List (List cZ×Ad×Vl)}(r:KT H a d)(ht: ∀b ys,H b=some (.tup ys)->c b=some (.tup ys)):KT c a d:=
 Paired.mapP r λ_ _ z=>⟨z.1,ht _ _ z.2.1,z.2.2⟩
section
variable{P:Pg}{w:World}{H:Hp}{h:Heap}{a:Ad}
def C8{u:HO}(ok:HOk P w H h)(e:Rd H a u):ObjOk P w H h a u:=e.ok ok
def se{b:List (cZ×V)}(ok:HOk P w H h)(e:Rd H a (.dK b)):b.length<=sizeLine/\(a==sysModules)=false/\ ∃c,KV b c/\h.DictOf (iV P w) a c:=
 show ObjOk P w H h a (.dK b)from C8 ok e
def t6{b:List (cZ×V)}(ok:HOk P w H h)(e:H a=some (.dK b)):b.length<=sizeLine/\(a==sysModules)=false/\ ∃c,KV b c/\h.DictOf (iV P w) a c:=se ok (.inl e)
def qz{b:List cZ}(ok:HOk P w H h)(e:H a=some (.tup (b.map kV))):(tupleKind (iV P w)).is h b a:=by
 obtain⟨_,c,r,o,d,f,n,g,_⟩:=(show ObjOk P w H h a (.tup (b.map kV))from ok a _ e);exact⟨o,c.toArray,n,d,f,g,by simpa using Dn r⟩
def sL{b:List (List cZ×V)}(ok:HOk P w H h)(e:Rd H a (.dT b)):b.length<=sizeLine/\(a==sysModules)=false/\
  ∃c,KT H b c/\h.DictOfH (tupleKind (iV P w)) a c:=by
 obtain⟨z,y,c,r,o,f,g,i,j,k,n,s⟩:=(show ObjOk P w H h a (.dT b)from C8 ok e);refine⟨z,y,c,r,o,f,g,i,j,k,n,λx hx=>?_,s⟩;have all: ∀{l:List (List cZ×V)} {m:List (List cZ×Ad×Vl)},KT H l m-> ∀x∈m,(tupleKind (iV P w)).is h x.1 x.2.1:=by
  intro l m q
  induction q with
  |nil=>intro x hx;exact nomatch hx
  | @cons p q v A d t u=>
   intro x hx
   rcases dE.mp hx with e|hx
   .subst e;exact qz ok (by rw[<-d.1];exact d.2.1)
   .exact u x hx
 exact all r x hx
def zR{b:List (List cZ×V)}(ok:HOk P w H h)(e:H a=some (.dT b)):b.length<=sizeLine/\(a==sysModules)=false/\
  ∃c,KT H b c/\h.DictOfH (tupleKind (iV P w)) a c:=sL ok (.inl e)
end
def DGet(H:Hp)(a:Ad)(y:V)(r:Option V):Prop:=
 (∃c k,Rd H a (.dK c)/\y=kV k/\r=ge c k)∨ ∃c k b,Rd H a (.dT c)/\y= .ref b/\H b=some (.tup (k.map kV))/\r=ge c k
def DPut(H:Hp)(a:Ad)(y v:V)(d:Hp):Prop:=
 (∃c k,H a=some (.dK c)/\y=kV k/\c.length<sizeLine/\d=cg H a (.dK (hO c k v)))∨
 ∃c k b,H a=some (.dT c)/\y= .ref b/\H b=some (.tup (k.map kV))/\c.length<sizeLine/\d=cg H a (.dT (hO c k v))
def DGet.t{H:Hp}{a b:Ad}{c:List (List cZ×V)}{k:List cZ}(e:H a=some (.dT c))(d:H b=some (.tup (k.map kV))):DGet H a (.ref b) (ge c k):= .inr ⟨c,k,b,.inl e,rfl,d,rfl⟩
def DPut.t{H:Hp}{a b:Ad}{c:List (List cZ×V)}{k:List cZ}{v:V}(e:H a=some (.dT c))(d:H b=some (.tup (k.map kV)))(f:c.length<sizeLine):
  DPut H a (.ref b) v (cg H a (.dT (hO c k v))):= .inr ⟨c,k,b,e,rfl,d,f,rfl⟩
section
variable{X:Cx}{za:AO}{σ:St}{H:Hp}{s:Sh}{a:Ad}{y v:V}{u r:Vl}{o:Option V}{A:Ar}{E:VP}
def Inv.big(I:Inv X za σ H s):sysModules<s.heap.objs.size:=by
 have h:mainGlobals<s.heap.objs.size:=(I.mod.glob.keeps I.bk).lt;exact uQ (by decide) h
def IZ{Q:VP}(w:A.units+1<cLine)(I:Inv X za σ H s)(g:DGet H a y (some v))(q:RelV y u)(h: ∀f t,Inv X za σ H t->RelV v f->Q f t):
  wpAny (model X.prog X.w) A (getItem (.ref a) u) Q E s:=by
 rcases g with⟨i,k,e,j,l⟩|⟨i,k,b,e,j,x,l⟩
 .subst j;obtain⟨z,B,C,c,m⟩:=se I.hok e;obtain⟨f,hw,d⟩:=RelO.some_of (v:=v) (o:=valueAt C k) (by rw[l];exact c.val k);exact wpAny_getItem_of (ut q) m.mapOf hw (h f _ (I.tok _) d)
 .subst j;cases(show u=Value.ref b from q);obtain⟨z,B,D,c,m⟩:=sL I.hok e;obtain⟨f,hw,d⟩:=RelO.some_of (v:=v) (o:=(atKey D k).map (·.2)) (by rw[l];exact c.val k);obtain⟨p,G,n⟩:=dR.mp hw;refine wpAny_getItem_heap (ww w) (qz I.hok x) m G ?_;rw[n];exact h f _ (I.tok _) d
def zw{Q:VP}(p:A.units+1<cLine)(I:Inv X za σ H s)(g:DGet H a y o)(m:RelV y u)(h: ∀n,Inv X za σ H n->Q (.bool o.isSome) n):
  wpAny (model X.prog X.w) A (compareOp .In u (.ref a)) Q E s:=by
 rcases g with⟨d,k,e,f,l⟩|⟨d,k,b,e,f,t,l⟩
 .subst f;obtain⟨z,i,w,c,j⟩:=se I.hok e;refine wpAny_in_of (ut m) i j.mapOf ?_;rw[<-(c.val k).isSome_eq,<-l];exact h _ (I.tok _)
 .subst f;cases(show u=Value.ref b from m);obtain⟨z,i,x,c,j⟩:=sL I.hok e;refine wpAny_in_heap (ww p) (qz I.hok t) i j ?_;have q:=(c.val k).isSome_eq;rw[Bk]at q;rw[<-q,<-l];exact h _ (I.tok _)
def HN{Q:VP}(p:A.units+1<cLine)(I:Inv X za σ H s)(g:DGet H a y o)(m:RelV y u)(h: ∀n,Inv X za σ H n->Q (.bool (!o.isSome)) n):
  wpAny (model X.prog X.w) A (compareOp .NotIn u (.ref a)) Q E s:=by
 rcases g with⟨d,k,e,f,l⟩|⟨d,k,b,e,f,t,l⟩
 .subst f;obtain⟨z,i,w,c,j⟩:=se I.hok e;refine wpAny_notIn_of (ut m) i j.mapOf ?_;rw[<-(c.val k).isSome_eq,<-l];exact h _ (I.tok _)
 .subst f;cases(show u=Value.ref b from m);obtain⟨z,i,x,c,j⟩:=sL I.hok e;refine wpAny_notIn_heap (ww p) (qz I.hok t) i j ?_;have q:=(c.val k).isSome_eq;rw[Bk]at q;rw[<-q,<-l];exact h _ (I.tok _)
def Bv{c:Heap}{f:Nat}{d:HO}(I:Inv X za σ H s)(g:ug (H a))(h:Heap.SameBut a s.heap c)(i: ∃q,c.get? a=some q)(new:ObjOk X.prog X.w (cg H a d) c a d):
  Inv X za σ (cg H a d) {s with heap:=c,toks:=f}:=
 I.write (x:=a) (e:=a) g (.inl rfl) (λb q j z=>(h.2 b j).trans z) i new
def Ly{P:Pg}{w:World}{f:Hp}{e:Heap}{b:List (cZ×V)}{c:List (cZ×Vl)}(z:b.length<=sizeLine)(g:(a==sysModules)=false)(d:KV b c)(h:e.DictOf (iV P w) a c):
  ObjOk P w f e a (.dK b):=⟨z,g,c,d,h⟩
def Lm{C:Hp}{Q:Unit->Sh->Prop}(O:A.units+1<cLine)(I:Inv X za σ H s)(g:DPut H a y v C)(D:RelV y u)(G:RelV v r)(h: ∀J,Inv X za σ C J->Q () J):
  wpAny (model X.prog X.w) A (setItem (.ref a) u r) Q E s:=by
 rcases g with⟨d,k,e,m,l,n⟩|⟨d,k,b,e,m,L,l,n⟩
 .subst m n;obtain⟨z,p,T,f,t⟩:=t6 I.hok e;have w:T.length<=sizeLine:=by rw[<-f.length];exact z
  have x:(hO d k v).length<=sizeLine:=by have:=Et d k v;lia
  refine wpAny_setItem_pairs (hsz:=w) (ut D) t λM i B=>h _ ?_;have U: ∃q,M.get? a=some q:=let⟨q,_,_,j,_⟩:=i;⟨q,j⟩
  exact Bv I (by rw[e];exact True.intro) B U (Ly x p (f.put k G) i)
 .subst m n;cases(show u=Value.ref b from D);obtain⟨z,p,Y,f,t⟩:=zR I.hok e;have w:Y.length<=sizeLine:=by rw[<-lV f];exact z
  have x:(hO d k v).length<=sizeLine:=by have:=Et d k v;lia
  refine wpAny_setItem_heap (hsz:=w) (ww O) (qz I.hok L) t λM i B=>h _ ?_;obtain⟨q,es,ep,j,h2,h3,h4,_,h5⟩:=i;refine Bv I (by rw[e];exact True.intro) B ⟨q,j⟩ ⟨x,p,_,(f.put k L G).keeps λc ys N=>?_,q,es,ep,j,h2,h3,h4,h5⟩;rw[cw (nE N e)];exact N
end
def uh(i:Expr):Prop:= ∀a b,subscripted i false a b=operate [a,b] (getItem a b)
def Jq{a:Pg}{w:World}{A:Ar}{E:VP}{s:Sh}{j:Env}{c b:Expr}{pos:Pos}{T id:String}{Q:VP}
  (m:typeLookup (.type T) "__getitem__"=pure (some (.builtin id))) (n:uh b)
  (h:wpAny (model a w) A (eval c j) (λo f=>wpAny (model a w) A (eval b j) (λi d=>d.TypeIs o T/\wpAny (model a w) A (getItem o i) Q E d) E f) E s):
  wpAny (model a w) A (eval (.Subscript c b pos) j) Q E s:=by
 refine Subscript_ (gq h (λo f k=>gq k (λi d e=>?_) λ_ _ x=>x) λ_ _ x=>x);obtain⟨hT,e⟩:=e;unfold subscriptTail;refine ci ?_;rw[getitemInPython_of_ne hT.not_modules];refine ci (wpAny_specialOf hT m ?_);have fin:wpAny (model a w) A (subscripted b false o i) (λr g=>wpAny (model a w) A (letTemporaryGo c o r >>= λ_=>pure r) Q E g) E d:=by
  rw[n o i];exact wpAny_operating (gq e (λr g l=>ci (wpAny_letTemporaryGo (cu l))) λ_ _ x=>x)
 first
  |exact cu (ci fin)
  |exact ci (cu (ci fin))
  |exact ci fin
def Mc{X:Cx}{f:AO}{h:St}{H:Hp}{s:Sh}{a:Ad}{y:V}{o:Option V}(I:Inv X f h H s)(g:DGet H a y o):s.TypeIs (.ref a) "dict":=by
 rcases g with⟨c,k,e,_,_⟩|⟨c,k,b,e,_,_,_⟩
 .obtain⟨_,_,i,_,d⟩:=se I.hok e;exact d.typeIs
 .obtain⟨_,_,j,_,d⟩:=sL I.hok e;exact d.typeIs
def Es(d ty:TE):TE:=λb H Q=>d b H λx e=>ty b e λy c=> ∃a v,x= .ref a/\DGet c a y (some v)/\Q v c
def AC(ty d:TE):TE:=λb H Q=>ty b H λy e=>d b e λx c=> ∃a o,x= .ref a/\DGet c a y o/\Q (.bl o.isSome) c
def DN(ty d:TE):TE:=λb H Q=>ty b H λy e=>d b e λx c=> ∃a o,x= .ref a/\DGet c a y o/\Q (.bl (!o.isSome)) c
def EX(d ty e:TE):TS:=λD b H=>e b H λv f=>d b f λx g=>ty b g λy h=> ∃a c,x= .ref a/\DPut h a y v c/\D.nx b c
section
variable{X:Cx}{o i e value:Expr}{pos pos' tpos:Pos}{td ty tv:TE}
def mS(j:X.A.units+1<cLine)(k:PE X o td)(l:PE X i ty)(m:uh i):PE X (.Subscript o i pos) (Es td ty):=by
 intro c s d H Q I h;refine Jq PySem.F.slot_dict_getitem.lookup m (cG (k c s d H _ I h) λu n ⟨x,p,q,r,t⟩=>cG (l c n d p _ q t) λD E ⟨y,w,f,z,a,v,A,g,B⟩=>?_);subst A;obtain rfl:u=Value.ref a:=r;exact⟨Mc f g,IZ j f g z λG J C b=>⟨v,w,C,b,B⟩⟩
def xS(d:X.A.units+1<cLine)(f:PE X i ty)(j:PE X o td):PC X .In i o (AC ty td):=by
 intro b s c H Q I h;refine cG (f b s c H _ I h) λB k ⟨y,l,m,n,p⟩=>cG (j b k c l _ m p) λu C ⟨x,q,r,t,a,v,w,g,z⟩=>?_;subst w;obtain rfl:u=Value.ref a:=t;exact zw d r g n λD A=>⟨.bl v.isSome,q,A,rfl,z⟩
def yJ(d:X.A.units+1<cLine)(f:PE X i ty)(j:PE X o td):PC X .NotIn i o (DN ty td):=by
 intro b s c H Q I h;refine cG (f b s c H _ I h) λB k ⟨y,l,m,n,p⟩=>cG (j b k c l _ m p) λu C ⟨x,q,r,t,a,v,w,g,z⟩=>?_;subst w;obtain rfl:u=Value.ref a:=t;exact HN d r g n λD A=>⟨.bl (!v.isSome),q,A,rfl,z⟩
def tK(d:X.A.units+1<cLine)(f:PE X o td)(j:PE X i ty)(k:PE X value tv)(l:swapsWith value (some (.Subscript o i pos')) pos.line X.env=pure false):
  PS X (.Assign [.Subscript o i pos'] value pos) (EX td ty tv):=by
 intro c s b H D I h;refine wpAny_Assign_Subscript (cG (k c s b H _ I h) λr m ⟨v,n,p,q,t⟩=>cG (f c m b n _ p t) λu w ⟨x,z,A,B,C⟩=>cG (j c w b z _ A C) λO Q ⟨y,T,E,G,a,J,L,g,M⟩=>?_) l;subst L;obtain rfl:u=Value.ref a:=B;exact Lm d E g G q λU N=>⟨b,J,N,M⟩
end
def DK{P:Pg}{w:World}{H:Hp}(h:Heap)(a:sysModules<h.objs.size):ObjOk P w H (h.push {cls:= .type "dict",data:= .dict #[]}) h.objs.size (.dT []):=
 ⟨gN _,mz.mpr (eC (dH a)),[],.nil,_,#[],0,dZ _ rfl,⟨rfl,rfl,rfl⟩,rfl,rfl,List.nodup_nil⟩
def JF:TE:=λ_ H Q=> ∀p,H p=none->Q (.ref p) (cg H p (.dT []))
section
variable{X:Cx}{pos:Pos}
def vK:PE X (.Dict [] [] pos) JF:=λb s c H Q I h=>
 wpAny_Dict_empty ⟨.ref s.heap.objs.size,_,I.laid (a:=s.heap.objs.size) (o:= .dT []) (t':=s.toks) (λ_ _ q=>dj _ q) (cD _) (DK s.heap I.big),rfl,h _ (I.hok.fresh (cD _))⟩
end
def CD:List (TE×TE)->St->Hp->(List (V×V)->Hp->Prop)->Prop
 | [],_,H,Q=>Q [] H
 |(b,c)::r,a,H,Q=>b a H λx d=>c a d λy e=>CD r a e λf g=>Q ((x,y)::f) g
abbrev VV:List (V×V)->List (Vl×Vl)->Prop:=Paired λp q=>RelV p.1 q.1/\RelV p.2 q.2
def yE(X:Cx)(pos:Pos)(keys:List (Option Expr))(a:List Expr)(b:List (TE×TE)):Prop:=
 ∀(d:AO) (s:Sh) (c:St) (H:Hp) (Q:List (V×V)->Hp->Prop),Inv X d c H s->CD b c H Q->
  wpAny (model X.prog X.w) X.A (evalPairs (pairTrees keys a X.env pos)) (λg h=> ∃e f,Inv X d c f h/\VV e g/\Q e f) X.xe s
def Mq{X:Cx}{pos:Pos}:yE X pos [] [] []:=λa s b H Q I h=>pairTrees_nil_walk ⟨[],H,I,.nil,h⟩
def JL{X:Cx}{pos:Pos}{k v:Expr}{e:List (Option Expr)}{f:List Expr}{g i:TE}{a:List (TE×TE)}(j:PE X k g)(l:PE X v i)(m:yE X pos e f a):
  yE X pos (some k::e) (v::f) ((g,i)::a):=λb s c H Q I h=>
 pairTrees_cons_walk (cG (j b s c H _ I h) λu n ⟨x,o,p,q,r⟩=>cG (l b n c o _ p r) λJ t ⟨y,w,z,A,B⟩=>
  cG (m b t c w _ z B) λL M ⟨C,D,E,d,G⟩=>⟨(x,y)::C,D,E,.cons ⟨q,A⟩ d,G⟩)
structure M1(X:Cx)(o:Expr)(m:Str)(apos:Pos)(e:Expr)(cpos:Pos):Prop where
 base:attributeBase o m X.env (eval o X.env)=eval o X.env
 few:((backTo cpos (starEach [e] X.env)).all (λx=> !x.1)&&(backToKw cpos (keywordEach [] X.env)).all (λx=>x.1.isSome)
  &&decide (([e]:List Expr).length+([]:List Keyword).length+(if([]:List Keyword).isEmpty then 0 else 1)<30))=true
 line:(apos.endLine==cpos.line)=true
 trees:backTo cpos (starEach [e] X.env)=[(false,eval e X.env)]
theorem EM{b a:Type}{f:b->a->Sem (ForInStep a)}{g:a->b->a}: ∀{l:List b} (c:a),(∀x∈l,∀c,f x c=pure (.yield (g c x)))->forIn l c f=pure (l.foldl g c)
 | [],_,_=>rfl
 |x::l,c,h=>by
  rw[List.forIn_cons,h x (dC ..),pure_bind];exact EM (g c x) λy d=>h y (eO _ d)
def j8(b:Env)(a:List (Str×Ad))(y:Str×NameKind):List (Str×Ad):=
 if y.2== .free then(match b.cells.lookup y.1 with|some c=>(y.1,c)::a|none=>a)else a
def nj(a:Env)(b:Scope):List (Str×Ad):=b.names.foldl (j8 a) []
def IM{a:Env}{b:Scope}(h: ∀y∈b.names,y.2= .free-> ∃c,a.cells.lookup y.1=some c):closureFor b a=pure (nj a b):=by
 simp only[closureFor];rw[EM (g:=j8 a) [] λx i c=>?_]
 .rfl
 .obtain⟨n,k⟩:=x;by_cases f:k= .free
  .subst f;obtain⟨d,j⟩:=h _ i rfl;have e:a.cells.lookup n=some d:=j;simp only[j8,cellOf,e,beq_self_eq_true,if_true,pure_bind]
  .have l:(k==NameKind.free)=false:=by simpa using f
   simp only[j8,l,Bool.false_eq_true,if_false]
theorem xI{a:Env}: ∀(names:List (Str×NameKind)) (b:List (Str×Ad)),(∀y c,b.lookup y=some c->a.cells.lookup y=some c)->
  ∀y c,(names.foldl (j8 a) b).lookup y=some c->a.cells.lookup y=some c
 | [],_,h=>h
 | (n,k)::r,b,h=>by
  refine xI r _ λy c e=>?_;unfold j8 at e;split at e
  .split at e
   .rename_i d i
    rw[l6]at e;cases f:y==n with
    |true=>
     rw[f]at e;have g:y=n:=eq_of_beq f;cases e;rw[g];exact i
    |false=>rw[f]at e;exact h y c e
   .exact h y c e
  .exact h y c e
theorem CH{e:Env}: ∀(a:List (Str×NameKind)) (b:List (Str×Ad)) (y:Str),(∃c,b.lookup y=some c)-> ∃c,(a.foldl (j8 e) b).lookup y=some c
 | [],_,_,h=>h
 | (n,k)::r,b,y,h=>by
  refine CH r _ y ?_;unfold j8;split
  .split
   .rename_i d f
    rw[l6];cases g:y==n with
    |true=>exact⟨_,rfl⟩
    |false=>exact h
   .exact h
  .exact h
theorem BU{d:Env}: ∀(a:List (Str×NameKind)) (b:List (Str×Ad)) (y:Str),a.lookup y=some .free->(∃c,d.cells.lookup y=some c)-> ∃c,(a.foldl (j8 d) b).lookup y=some c
 | [],_,_,h,_=>by simp at h
 | (n,k)::r,b,y,h,e=>by
  rw[l6]at h;cases f:y==n with
  |true=>
   rw[f]at h;cases h;have g:y=n:=eq_of_beq f;subst g;obtain⟨c,e⟩:=e;refine CH r _ y ?_;refine⟨c,?_⟩;unfold j8;rw[wB (by rfl)];show List.lookup y (match d.cells.lookup y with|some c=>(y,c)::b|none=>b)=_
   rw[e];simp
  |false=>
   rw[f]at h;exact BU r _ y h e
theorem vg{a:Env}: ∀{names:List (Str×NameKind)} {y:Str} {k:NameKind},
  (names.map λ(n,k)=>if(k==NameKind.free&&a.scope.kind== .function&&a.kindOf n==some .cell)then(n,NameKind.cell)else(n,k)).lookup y=some k->
   names.lookup y=some k∨(names.lookup y=some .free/\k= .cell)
 | [],_,_,h=>by simp at h
 | (n,c)::r,y,k,h=>by
  have g:=@vg a r y k;rw[fM]at h;by_cases f:(c==NameKind.free&&a.scope.kind== .function&&a.kindOf n==some .cell)=true
  .have b:List.lookup y ((n,NameKind.cell)::(r.map λ(n,k)=>if(k==NameKind.free&&a.scope.kind== .function&&a.kindOf n==some .cell)then(n,NameKind.cell)else(n,k)))=some k:=by
    have e:(if(c==NameKind.free&&a.scope.kind== .function&&a.kindOf n==some .cell)=true then(n,NameKind.cell)else(n,c))=(n,NameKind.cell):=wB f;rw[<-e];exact h
   rw[l6]at b⊢;cases d:y==n with
   | true=>
    rw[d]at b;cases b;have i:c= .free:=by
     rw[i4,i4]at f;exact eq_of_beq f.1.1
    exact .inr ⟨by rw[i],rfl⟩
   |false=>rw[d]at b;exact g b
  .have b:List.lookup y ((n,c)::(r.map λ(n,k)=>if(k==NameKind.free&&a.scope.kind== .function&&a.kindOf n==some .cell)then(n,NameKind.cell)else(n,k)))=some k:=by
    have e:(if(c==NameKind.free&&a.scope.kind== .function&&a.kindOf n==some .cell)=true then(n,NameKind.cell)else(n,c))=(n,c):=wA f;rw[<-e];exact h
   rw[l6]at b⊢;cases d:y==n with
   |true=>rw[d]at b;exact .inl b
   |false=>rw[d]at b;exact g b
def Ap(y:Str):Str:=⟨#[46]++y.cps⟩
def lC(a:Ss)(y:Str):Str:=if a.contains y=true then Ap y else y
structure CompScope(X:Cx)(vs:Ss)(sc:Scope):Prop where
 kind:sc.kind= .function
 cell: ∀y∈sc.names,y.2≠ .cell
 locs: ∀y∈sc.names,y.2= .local->sc.names.lookup y.1=some .local
 own: ∀y∈X.N.map (lC vs),sc.names.lookup y≠some .local
 hid: ∀y∈vs,sc.names.lookup (Ap y)=none
 nd:(vs++X.N.map (lC vs)).Nodup
 free: ∀y∈sc.names,y.2= .free->X.env.kindOf y.1=some .cell∨X.env.kindOf y.1=some .free
def fO(X:Cx)(a:Ss)(b:Scope)(C:Ad)(s:Sh)(H:Hp)(c:As):Cx where
 prog:=X.prog
 w:=X.w
 K:=X.K
 mg:=X.mg
 base:=X.base
 A:=X.A
 N:=a++X.N.map (lC a)
 s₀:=s
 H₀:=H
 env:=compEnvC b (nj X.env b) C X.env
 outer:=X.stack
 stack:=X.stack
 ex:=c
 fn:=λ_=>false
 calm:=X.calm
 pn:=X.pn
 xe:=λ_ _=>False
def iv(a:Ss)(b:St):St:=List.replicate a.length none++b
section
variable{X:Cx}{za:AO}{σ:St}{H:Hp}{s:Sh}{vs:Ss}{sc:Scope}
def JV{C:Ad}{D:As}{x:Heap}{tk:Nat}{T:SV}(S:CompScope X vs sc)(I:Inv X za σ H s)(E: ∀b∈D,FpOk X za H b)(ho: ∀b∈D,∃o,s.heap.get? b=some o)
  (k: ∀b o,s.heap.get? b=some o->x.get? b=some o) (G:x.Ns C T) (A:s.heap.objs.size<=C):Inv (fO X vs sc C s H D) za (iv vs σ) H {s with heap:=x,toks:=tk}:=by
 have a: ∀y c,(nj X.env sc).lookup y=some c->X.env.cells.lookup y=some c:=xI sc.names [] λy c e=>by simp at e
 have U: ∀y,sc.names.lookup y=some .free->X.env.kindOf y=some .cell∨X.env.kindOf y=some .free:=λy e=>S.free (y,.free) (mE e) rfl;have J: ∀y,(X.env.kindOf y=some .cell∨X.env.kindOf y=some .free)-> ∃c,X.env.cells.lookup y=some c:=λy e=>I.ok.has y e;have f: ∀{y:Str} {B:NameKind},(relabel sc X.env).names.lookup y=some B->B= .cell∨B= .free->sc.names.lookup y=some .free:=λ{y B} e hk=>by
  rcases vg (names:=sc.names) e with z|⟨z,_⟩
  .rcases hk with q|q
   .subst q;exact wC rfl (S.cell _ (mE z))
   .subst q;exact z
  .exact z
 have has: ∀y,sc.names.lookup y=some .free-> ∃c,(nj X.env sc).lookup y=some c:=λy e=>BU sc.names [] y e (J y (U y e));have aa: ∀y c,X.env.cells.lookup y=some c->c<s.heap.objs.size:=λy c e=>let⟨_,z⟩:=I.cell y c e;z.lt
 have Y: ∀{c v},s.heap.IsCell c v->x.IsCell c v:=λ{c v} ⟨o,e,d⟩=>⟨o,k _ _ e,d⟩;refine⟨⟨I.ok.mod,S.kind,I.ok.glob,I.ok.blt,A,λy z c L M=>I.ok.inj y z c (a y c L) (a z c M),λy hy=>?_,λy c z _=>(nomatch z),I.ok.hd,I.ok.frames,.inl rfl,λb l=>⟨?_,λy c e=>?_⟩,I.bs,dt I.ok.bsz I.sz,λb o e l=>?_,λb l hs=>?_,I.stack,I.stkFree⟩,
  rfl,I.bare,Un.kept k,⟨T,G,λi y v e1 t e3=>?_⟩,λy c e=>?_,I.hok.fresh A,λy c e=>I.freeC y c (a y c e),λp hp=>?_,I.hok.kept k,?_⟩
 .have N:(relabel sc X.env).names.lookup y=some .cell∨(relabel sc X.env).names.lookup y=some .free:=hy
  rcases N with z|z
  .exact has y (f z (.inl rfl))
  .exact has y (f z (.inr rfl))
 .obtain⟨o,e⟩:=ho b l;exact dH (fN (cU e) A)
 .exact(E b l).2.2.2.2.1 y c (a y c e)
 .obtain⟨_,_,_,z,_⟩:=E b l
  rcases z with z|z
  .exact I.ok.noex b o e z
  .exact wC (fN (cU (I.ok.bs b o e).1) z) (i5 _)
 .obtain⟨_,L,M,_⟩:=E b l
  rcases dE.mp (I.stkSub b hs)with z|z
  .exact L z
  .exact M z
 .have g:(vs++X.N.map (lC vs))[i]? =some y:=e1;have h:(List.replicate vs.length none++σ)[i]? =some (some v):=t;have hi:vs.length<=i:=by
   by_cases z:i<vs.length
   .rw[eV (by simpa using z),List.getElem?_replicate]at h;split at h<;>cases h
   .lia
  rw[eU hi]at g;rw[eU (by simpa using hi),List.length_replicate]at h;have yN:y∈X.N.map (lC vs):=cK g;have w:(relabel sc X.env).names.lookup y=some .local∨(relabel sc X.env).names.lookup y=some .cell∨(relabel sc X.env).names.lookup y=some .free:=e3;have j:sc.names.lookup y=some .free:=by
   rcases w with z|z|z
   .rcases vg (names:=sc.names) z with q|⟨_,q⟩
    .exact wC q (S.own y yN)
    .cases q
   .exact f z (.inl rfl)
   .exact f z (.inr rfl)
  have g:X.N[i-vs.length]? =some y:=by
   rw[cF]at g;cases e:X.N[i-vs.length]? with
   |none=>rw[e]at g;cases g
   | some y0=>
    rw[e]at g;have t:lC vs y0=y:=fH g;unfold lC at t
    split at t
    .rename_i O
     rw[<-t,S.hid y0 (by simpa using O)]at j;cases j
    .rw[t]
  have ok:=U y j;obtain⟨m,_,hl⟩:=I.loc;obtain⟨u,r,lk⟩:=hl (i-vs.length) y v g h (.inr ok);refine⟨u,r,?_⟩
  rcases lk with⟨q,_⟩|⟨_,c,ec,O⟩
  .rcases ok with z|z<;>rw[z]at q<;>cases q
  .obtain⟨Q,e'⟩:=has y j;have:Q=c:=fH ((a y Q e').symm.trans ec);subst this;refine .inr ⟨?_,Q,e',Y O⟩
   rcases w with z|z|z
   .rcases vg (names:=sc.names) z with q|⟨_,q⟩
    .exact wC q (S.own y yN)
    .cases q
   .exact .inl z
   .exact .inr z
 .obtain⟨v,z⟩:=I.cell y c (a y c e);exact⟨v,Y z⟩
 .obtain⟨e,n,ne,nf,d⟩:=I.pin p hp;refine⟨k _ _ e,n,dH (fN (cU e) A),λz=>?_,d⟩
  rcases dE.mp (I.stkSub p.1 z)with q|q
  .exact ne q
  .exact nf q
 .show(List.replicate vs.length none++σ).length=(vs++X.N.map (lC vs)).length;rw[dz,dz,vV,cj,I.len]
def Inv.adopt{D:Ad}{f:List V}{a:Vs}{n:Nat}(I:Inv X za σ H s)(g:f.length<=sizeLine)(h:Vals f a)(i:H D=none)(e:s.heap.get? D=some {cls:= .type "list",data:= .seq a.toArray n})
  (j:X.s₀.heap.objs.size<=D) (k:D≠X.env.locals) (l: ∀x c,X.env.cells.lookup x=some c->c≠D) (r: ∀p∈X.pn++za,p.1≠D):Inv X za σ (cg H D (.lst f)) s:=by
 have nd: ∀b u,H b=some u->b≠D:=λb u q z=>by rw[z,i]at q;cases q
 have q:=I.step (h':=s.heap) (H':=cg H D (.lst f)) (g':=s.gens) (t':=s.toks) (d':=s.drawn) (ch:=[D]) (λb d=>by
   have z:b=D:=by simpa using d
   subst z;exact⟨.inr j,k,l,r⟩)
  (λb o _ _ _ e _=>e) (λb o _ _ _ e _=>⟨o.slots,e⟩) (λb o d _ n=>by rw[cw (λz=>d (by simp[z]))];exact n) (λb o _ e=>⟨o,e⟩)
  (λb t q=>by rw[cw (nd b _ q)];exact q) (λb o u q=>by rw[cw (nd b _ q)];exact q) (λb w q=>⟨#[],by rw[cw (nd b _ q),q];simp⟩) (λm v=>v) (λb u q=>?_) I.bare
 .exact q
 .by_cases d:b=D
  .subst d;rw[cn]at q;cases q;exact⟨g,a,n,h,e⟩
  .rw[cw d]at q;exact(I.hok b u q).stay (λ_ _ _ z=>z) (λc z=>by rw[cw (nd c _ z)];exact z) λc t z=>by rw[cw (nd c _ z)];exact z
end
def n0(X:Cx)(a:List Expr)(t:TT):Prop:=
 ∀(d:AO) (s:Sh) (b:St) (H:Hp) (Q:Bool->Hp->Prop),Inv X d b H s->t b H Q->
  wpAny (model X.prog X.w) X.A (forIn a true λc r=>if r=true then do let ok <-isTrue c X.env (eval c X.env);pure (ForInStep.yield ok)else pure (ForInStep.yield r)) (TP X d b Q) X.xe s
def nX:TT:=λ_ H Q=>Q true H
def iz{c:St}{H:Hp}{F G:Hp->Prop}(h:F H):nX c H (λb a=>if b=true then F a else G a):=by
 show(if true=true then F H else G H);exact eY h
def gR{X:Cx}:n0 X [] nX:=λ_ _ _ H _ I h=>cu ⟨H,I,h⟩
def ow{X:Cx}{c:Expr}{t:TT}(h:PT X c t):n0 X [c] t:=λa s b H Q I q=>wpAny_tests_one (h a s b H Q I q)
theorem Lz{a:Pg}{w:World}{A:Ar}{R:Result->Sh->Prop}{s:Sh}{e k d:Expr}{f:List Expr}{p:Scope}{pos:Pos}{l g:Vl}{b:Env}(i:Nat->Sh->Prop)
  (turn: ∀n s,i n s->wpAny (model a w) A (pyNext l) (λr j=>match r with
   |none=>R (.ok .next) j
   | some v=>wpAny (model a w) A (letOwnedTupleGo k l v) (λ_ j=>wpAny (model a w) A (assign k b v) (λ_ t=>
     wpAny (model a w) A (forIn f true λc r=>if r=true then do let ok <-isTrue c b (eval c b);pure (ForInStep.yield ok)else pure (ForInStep.yield r)) (λok o=>
      if ok=true then wpAny (model a w) A (eval e b) (λy u=>wpAny (model a w) A (call (.builtin "list.append") [g,y]) (λ_ B=> ∃m,m<n/\i m B) (λ_ _=>False) u) (λ_ _=>False) o
      else ∃m,m<n/\i m o) (λ_ _=>False) t) (λ_ _=>False) j) (λ_ _=>False) j) (λ_ _=>False) s)
  (n:Nat) (h:i n s):codeAny (model a w) A (.compLoop (.ListComp e [⟨k,d,f,0⟩] p pos) 0 l g b) R s:=by
 refine codeAny_loop rfl i (λn s G=>?_) n h;show wpAny _ A ((compTurn (.ListComp e [⟨k,d,f,0⟩] p pos) 0 l g b).onRaise (λx=>do noteFrame x b;theTreesLotGoes x)) _ _ s;refine wpAny_noted (gq (E:=λ_ _=>False) ?_ (λ_ _ q=>q) λ_ _ z=>z.elim);rw[compTurn_list];refine ci (vC (ci (cG (turn n s G) λr j C=>?_)));cases r with
 |none=>exact cu C
 |some v=>
  refine ci (cG C λ_ t H=>ci (cG H λ_ o I=>ci (cG I λok u D=>?_)));cases ok with
  |false=>exact cu ⟨rfl,D⟩
  |true=>exact ci (ci (cG D λy B J=>ci (cG J λ_ M L=>cu (cu ⟨rfl,L⟩))))
def ov(b a:St):Prop:= ∀(i:Nat) v,b[i]? =some (some v)->a[i]? =some (some v)
theorem gm{a:St}{x:Option V}:ov (none::a) (x::a):=λi v e=>by
 cases i with
 |zero=>cases e
 |succ i=>exact e
theorem FT{a:St}{x y:Option V}:ov (none::none::a) (x::y::a):=λi v e=>by
 match i,e with
 |0,e=>cases e
 |1,e=>cases e
 |_+2,e=>exact e
section
variable{X:Cx}{za:AO}{σ:St}{H:Hp}{s:Sh}{vs:Ss}{sc:Scope}{tg elt iter:Expr}{ifs:List Expr}{pos:Pos}{g:TG}{tt:TT}{te:TE}
def nS(vs:Ss)(g:TG)(tt:TT)(te:TE)(σ:St)(J:It)(H:Hp)(Fin:List V->Hp->Prop):Prop:=
 ∃W:Nat->Nat->List V->Hp->Prop,(∃m,W 0 m [] H)/\ ∀i m c H,W i m c H->
  (J.stop i H/\c.length<=sizeLine/\Fin c H)∨(J.go i H/\c.length<sizeLine/\ ∃N:List V->Hp->Prop,(∀zs d,N zs d-> ∃e,e<m/\W (i+1) e zs d)/\
   ∀v d,J.yld i H v d->g v (iv vs σ) d λa h=>ov (iv vs σ) a/\tt a h λb f=>if b=true then te a f λy j=>N (c++[y]) j else N c f)
def DZ{J:It}{f:As}{it:Ad}{tn:Nat->Heap->Prop}{E:VP}{RR:Vl->Ad->Result->Sh->Prop}{Fin:List V->Hp->Prop}
  (S:CompScope X vs sc) (hc:X.calm=true) (hg: ∀C s H f,PG (fO X vs sc C s H f) tg g) (ht: ∀C s H f,n0 (fO X vs sc C s H f) ifs tt) (he: ∀C s H f,PE (fO X vs sc C s H f) elt te)
  (I:Inv X za σ H s) (T:Turn X.prog X.w X.K tg J f it tn) (st:tn 0 s.heap) (hf: ∀b∈f,FpOk X za H b) (hW:nS vs g tt te σ J H Fin)
  (aj: ∀D C l a m m',Inv X za σ (cg a D (.lst m)) l->a D=none->FpOk X za (cg a D (.lst m)) C->l.heap.Ns C m'->Fin m a->RR (.ref D) C (.ok .next) l):
  wpAny (model X.prog X.w) X.A (newList []) (λag s3=>wpAny (model X.prog X.w) X.A (newFunctionEnv sc X.env.globals (nj X.env sc) [] X.env.qual none .none (some X.env)) (λcenv s4=>
   codeAny (model X.prog X.w) X.A (.compStart (.ListComp elt [⟨tg,iter,ifs,0⟩] sc pos) 0 (.ref it) ag {cenv with scope:=relabel sc X.env}) (RR ag cenv.locals) s4) E s3) E s:=by
 obtain⟨W,⟨m0,w0⟩,turn⟩:=hW;refine mh (wpAny_newFunctionEnv S.cell (by intro y hy;simp at hy) (λh1 w q=>?_) S.kind);dsimp only at w q⊢;generalize Y:s.heap.push {cls:= .type "list",dict:=none,data:= .seq ([]:Vs).toArray}=H2 at w q⊢;have hC:H2.objs.size=s.heap.objs.size+1:=by rw[<-Y,oi]
 generalize ax:H2.objs.size=C at w q hC⊢;generalize A:s.heap.objs.size=D at hC⊢;have B:D≠C:=by lia
 have below: ∀b o,s.heap.get? b=some o->b≠D/\b≠C:=λb o e=>by
  have z:b<s.heap.objs.size:=cU e;rw[A]at z;exact⟨dH z,dH (by rw[hC];exact sf z)⟩
 have old: ∀b o,s.heap.get? b=some o->h1.get? b=some o:=λb o e=>q.extBut b o (below b o e).2 (dj _ (Y▸dj _ e));have ak:h1.get? D=some {cls:= .type "list",data:= .seq ([]:Vs).toArray}:=
  q.extBut _ _ B (dj _ (by rw[<-Y,<-A];exact dZ _ rfl))
 have M: ∀b∈f,∃o,s.heap.get? b=some o:=λb j=>let⟨o,e,_⟩:=T.obj 0 _ st b j;⟨o,e⟩
 have aa: ∀b∈f,b≠D/\b≠C:=λb j=>let⟨o,e⟩:=M b j;below b o e
 have fD: ∀a,a D=none->FpOk X za a D:=λa n=>I.fpOk (by lia) n;have fC: ∀a,a C=none->FpOk X za a C:=λa n=>I.fpOk (by lia) n;have al: ∀p∈X.pn++za,p.1≠D:=λp hp=>(below _ _ (I.pin p hp).1).1;have ab: ∀y c,(nj X.env sc).lookup y=some c->c≠D:=λy c e=>by
  have e':=xI sc.names [] (λy c e=>by simp at e) y c e;obtain⟨v,z⟩:=I.cell y c e';have z':c<s.heap.objs.size:=z.lt;rw[A]at z';exact dH z'
 have am: ∀b,b∈iQ X.stack-> ∃o,s.heap.get? b=some o:=λb j=>let⟨_,o,ho,_⟩:=I.stack.mem j;⟨o,ho⟩
 have an:D∉iQ X.stack:=λz=>let⟨o,e⟩:=am D z;(below _ _ e).1 rfl
 have ae: ∀{pl:AO} {a:Hp},(∀p∈pl,p.1=D)->(∀b∈f,a b=none)-> ∀b∈f,FpOk (fO X vs sc C s H f) (za++pl) a b:=λ{pl a} ao hn b j=>by
  obtain⟨_,q1,q2,q3,q4,q5⟩:=hf b j;refine⟨hn b j,(aa b j).2,λz=>?_,.inl j,λy c e=>q4 y c (xI sc.names [] (λy c e=>by simp at e) y c e),λp hp=>?_⟩
  .rcases dE.mp (I.stkSub b z)with y|y
   .exact q1 y
   .exact q2 y
  .rcases di.mp hp with z|z
   .exact q5 p (mq _ z)
   .rcases di.mp z with y|y
    .exact q5 p (fE _ y)
    .rw[ao p y];exact eC (aa b j).1
 have O: ∀s3:Sh,s3={s with heap:=h1,toks:=s.toks+([]:List (Str×Vl)).length}->
   codeAny (model X.prog X.w) X.A (.compLoop (.ListComp elt [⟨tg,iter,ifs,0⟩] sc pos) 0 (.ref it) (.ref D) (compEnvC sc (nj X.env sc) C X.env)) (RR (.ref D) C) s3:=by
  rintro s3 rfl;have I0:Inv (fO X vs sc C s H f) za (iv vs σ) H {s with heap:=h1,toks:=s.toks+([]:List (Str×Vl)).length}:=JV S I hf M old w (by lia);refine Lz (λn l=> ∃i m h no a,Inv (fO X vs sc C s H f) za (iv vs σ) a l/\tn i l.heap/\(∀b∈f,a b=none)/\a D=none/\
   l.heap.get? D=some {cls:= .type "list",data:= .seq h.toArray no}/\Vals m h/\W i n m a) ?_ m0
   ⟨0,[],[],0,H,I0,T.keep 0 _ _ st λb j o e=>old b o e,λb j=>(hf b j).1,I.hok.fresh (by lia),ak,.nil,w0⟩
  rintro n l ⟨i,m,h,no,a,I1,ah,ai,G,ap,L,w1⟩;have Q:Inv (fO X vs sc C s H f) (za++[(D,{cls:= .type "list",data:= .seq h.toArray no})]) (iv vs σ) a l:=I1.pins_of λp hp=>by
   rcases di.mp hp with z|z
   .exact I1.pin p (fE _ z)
   .have e:p=(D,{cls:= .type "list",data:= .seq h.toArray no}):=by simpa using z
    subst e;exact⟨ap,G,B,an,λv z=>by have z':Data.seq _ _=Data.cell v:=z;cases z'⟩
  have k: ∀p∈[((D,{cls:= .type "list",data:= .seq h.toArray no}):Ad×Obj)],p.1=D:=λp hp=>by
   have e:p=(D,{cls:= .type "list",data:= .seq h.toArray no}):=by simpa using hp
   rw[e]
  rcases turn i n m a w1 with⟨stop,hz,fin⟩|⟨go,hz,N,hN,step⟩
  .refine cG (T.done (fO X vs sc C s H f) rfl rfl rfl hc i _ l _ a (λ_ _=>False) Q (ae k ai) ah stop) λr s4 ⟨hr,I4⟩=>?_;subst hr;have d4:s4.heap.get? D=some {cls:= .type "list",data:= .seq h.toArray no}:=(I4.pin (D,_) (fE _ (fE _ (dC ..)))).1;have Io:Inv X za σ a s4:=I.call' (H':=a) (ch:=f) I4.os I4.base I4.hok I4.bare λb j=>by
    obtain⟨_,q1,_,q3,q4,q5⟩:=hf b j;exact⟨q3,q1,q4,q5⟩
   obtain⟨_,a1,_,a3,a4,a5⟩:=fD a G;have Ia:=Io.adopt hz L G d4 (dt I.sz (by lia)) a1 a4 a5;obtain⟨m4,aq,_⟩:=I4.loc;refine aj D C s4 a m m4 Ia G (fC _ ?_) aq fin;rw[cw (eC B)];exact I4.free
  .refine cG (T.item (fO X vs sc C s H f) rfl rfl rfl hc i _ l _ a (λ_ _=>False) Q (ae k ai) ah go) λr s4 ⟨u,hr,h4⟩=>?_;subst hr;refine cG h4 λ_ s5 ⟨x,H5,I5,r5,y5,af,ar⟩=>?_;have as:=I5.pinned (ae k ar) (T.obj _ _ af);refine cG (hg C s H f _ s5 _ H5 x u _ as r5 (step x H5 y5)) λ_ s6 ⟨t,H6,I6,k6,q6⟩=>?_;refine cG (ht C s H f _ s6 t H6 _ I6 q6) λok s7 ⟨H7,I7,q7⟩=>?_;have U:(iv vs σ).length=t.length:=by rw[I1.len,I6.len]
   have pinned: ∀{H8:Hp} {s8:Sh},Inv (fO X vs sc C s H f) (za++[(D,{cls:= .type "list",data:= .seq h.toArray no})]++ui f s5.heap) t H8 s8->
     tn (i+1) s8.heap/\(∀b∈f,H8 b=none)/\H8 D=none/\s8.heap.get? D=some {cls:= .type "list",data:= .seq h.toArray no}:=λ{H8 s8} I8=>by
    refine⟨T.keep _ _ _ af λb j o e=>(I8.pin (b,o) (fE _ (fE _ (vk j e)))).1,λb j=>?_,?_,?_⟩
    .obtain⟨o,e,d⟩:=T.obj _ _ af b j;exact(I8.pin (b,o) (fE _ (fE _ (vk j e)))).2.1
    .exact(I8.pin (D,_) (fE _ (mq _ (fE _ (dC ..))))).2.1
    .exact(I8.pin (D,_) (fE _ (mq _ (fE _ (dC ..))))).1
   cases ok with
   |false=>
    rw[wA (by decide)]at q7⊢;obtain⟨m',hm,w7⟩:=hN _ _ q7;obtain⟨a1,a2,a3,a4⟩:=pinned I7;exact⟨m',hm,i+1,m,h,no,H7,(I7.unpinned.unpinned).weak U k6,a1,a2,a3,a4,L,w7⟩
   | true=>
    rw[wB rfl]at q7⊢;refine cG (he C s H f _ s7 t H7 _ I7 q7) λyv s8 ⟨y,H8,I8,r8,n8⟩=>?_;obtain⟨m',hm,w8⟩:=hN _ _ n8;obtain⟨a1,a2,a3,a4⟩:=pinned I8;have au:h.toArray.size<=sizeLine:=by
     have:=L.length;rw[dW];lia
    refine wpAny_list_append_plain ⟨no,a4⟩ (λh' pl sb=>?_) au;obtain⟨av,aw⟩:=pl;have I9:Inv (fO X vs sc C s H f) za t H8 {s8 with heap:=h'}:=(I8.unpinned.unpinned).turned (t':=s8.toks) (it:=D) (λb o j e=>(sb.2 b j).trans e) a3 B (.inr (om A)) ab al;refine⟨m',hm,i+1,m++[y],h++[yv],av,H8,I9.weak U k6,T.keep _ _ _ a1 λb j o e=>(sb.2 b (aa b j).1).trans e,a2,a3,?_,L.append (.cons r8 .nil),w8⟩;rw[aw]
    simp
 exact codeAny_compStart_list (O _ rfl) (T.self _ 0 _ _ _ (T.keep 0 _ _ st λb j o e=>old b o e) (O _ rfl))
def v4(vs:Ss)(b:TI)(g:TG)(tt:TT)(te:TE):TE:=λσ H Q=>b σ H λJ c=>nS vs g tt te σ J c λd a=> ∀p,a p=none->Q (.ref p) (cg a p (.lst d))
def CompScope.clos{za:AO}{σ:St}{H:Hp}{s:Sh}(S:CompScope X vs sc)(I:Inv X za σ H s):closureFor sc X.env=pure (nj X.env sc):=
 IM λy a b=>I.ok.has y.1 (S.free y a b)
def Cz{f:TI}(S:CompScope X vs sc)(i:X.calm=true)(j:PI X tg iter f)(k: ∀C s H a,PG (fO X vs sc C s H a) tg g)(ht: ∀C s H a,n0 (fO X vs sc C s H a) ifs tt)
  (l: ∀C s H a,PE (fO X vs sc C s H a) elt te) (m: ∀x,foldedSetIterable iter X.env x=pure x:=by intro _;rfl):PE X (.ListComp elt [⟨tg,iter,ifs,0⟩] sc pos) (v4 vs f g tt te):=by
 intro za s σ H Q I h;rw[eval_ListComp];refine wpAny_comprehension_free (use:=none) rfl m (S.clos I) S.kind S.locs ?_;refine cG (j za s σ H _ I h) λv Y n=>cG n λp s2 q=>?_;obtain⟨it,a,tn,J,H2,e,r,T,c,t,u⟩:=q;subst e;refine DZ (RR:=λd C=>compPost (model X.prog X.w) X.A X.xe none (EP X za σ Q) d C) S i k ht l r T c t u λD C w H' ys y z A B E fin=>?_;obtain⟨G,L,c2,M,c4,N⟩:=B;refine⟨y,E,λh' O=>⟨.ref D,_,?_,rfl,fin D A⟩⟩;exact z.turned (t':=w.toks) (it:=C) (λb o U e=>(O.2 b U).trans e) G L M c4 N
def Fi{x:Str}{p:Pos}(S:CompScope X [x] sc)(a:sc.names.lookup x=some .local): ∀C s H b,PG (fO X [x] sc C s H b) (.Name x p) (gV 0):=λC s H b=>
 fh S.nd rfl (.inl (ro a)) (.inr (ro a))
def gh{b:TI}{x:Str}{p:Pos}(S:CompScope X [x] sc)(c:X.calm=true)(d:sc.names.lookup x=some .local)(e:PI X (.Name x p) iter b)(ht: ∀C s H a,n0 (fO X [x] sc C s H a) ifs tt)
  (f: ∀C s H a,PE (fO X [x] sc C s H a) elt te) (h: ∀x,foldedSetIterable iter X.env x=pure x:=by intro _;rfl):PE X (.ListComp elt [⟨.Name x p,iter,ifs,0⟩] sc pos) (v4 [x] b (gV 0) tt te):=
 Cz S c e (Fi S d) ht f h
def FQ{r:TI}{j:Nat}{y:Str}{d c:Pos}(S:CompScope X vs sc)(w:X.calm=true)(A:X.N.Nodup)(B:X.N[j]? =some y)(t:X.env.scope.names.lookup y=some .local)(E:PI X tg iter r)(G: ∀C s H f,PG (fO X vs sc C s H f) tg g)(ht: ∀C s H f,n0 (fO X vs sc C s H f) ifs tt)
  (L: ∀C s H f,PE (fO X vs sc C s H f) elt te) (l:swapsWith (.ListComp elt [⟨tg,iter,ifs,0⟩] sc pos) (some (.Name y d)) c.line X.env=pure true:=by rfl) (M: ∀x,foldedSetIterable iter X.env x=pure x:=by intro _;rfl):
  PS X (.Assign [.Name y d] (.ListComp elt [⟨tg,iter,ifs,0⟩] sc pos) c) (lO (v4 vs r g tt te) (gV j)):=by
 intro za s σ H D I h;rw[exec_Assign_Name_used _ _ _ _ l];refine ci (vC (ci ?_));show wpAny _ X.A (do let _ <-comprehension (.ListComp elt [⟨tg,iter,ifs,0⟩] sc pos) sc X.env _ (newList []) false (eval iter X.env) (some (assign (.Name y d) X.env))) _ _ s;refine ci (gq (wpAny_comprehension_free (use:=some (assign (.Name y d) X.env)) (Q:=λ_ i=>SP X za D .next i) rfl M (S.clos I) S.kind S.locs ?_) (λ_ i N=>cu (cu N)) λ_ _ e=>e);refine cG (E za s σ H _ I h) λv s1 O=>cG O λU s2 Y=>?_;obtain⟨it,f,tn,J,H2,e,I2,T,m,f2,hW⟩:=Y;subst e;refine DZ (RR:=λn C=>compPost (model X.prog X.w) X.A X.xe (some (assign (.Name y d) X.env)) (λ_ i=>SP X za D .next i) n C) S w G ht L I2 T m f2 hW λk C i H' ys m' I' hD fC ns fin=>?_;obtain⟨c0,u,c2,c3,c4,c5⟩:=fC;show wpAny _ X.A (assign (.Name y d) X.env (.ref k)) _ _ _;refine wpAny_assign_Name (C7 (v:= .ref k) I' A B (.inl t) (show RelV (.ref k) (.ref k)from rfl) (λs3 I3 ⟨a,sb,ha⟩=>?_) (.inr t));have p:a≠C:=by
  rcases ha with z|z
  .rw[z];exact eC u
  .exact c4 y a z
 refine⟨m',ns.sameBut sb (eC p),λh' q=>⟨_,_,I3.turned (t':=s3.toks) (it:=C) (λb o hb e=>(q.2 b hb).trans e) c0 u c3 c4 c5,fin k hD⟩⟩
def yM{d:TI}{j:Nat}{x y:Str}{p e a:Pos}(S:CompScope X [x] sc)(f:X.calm=true)(h:sc.names.lookup x=some .local)(i:X.N.Nodup)(k:X.N[j]? =some y)(l:X.env.scope.names.lookup y=some .local)(m:PI X (.Name x p) iter d)
  (ht: ∀C s H b,n0 (fO X [x] sc C s H b) ifs tt) (n: ∀C s H b,PE (fO X [x] sc C s H b) elt te)
  (c:swapsWith (.ListComp elt [⟨.Name x p,iter,ifs,0⟩] sc pos) (some (.Name y e)) a.line X.env=pure true:=by rfl) (o: ∀x,foldedSetIterable iter X.env x=pure x:=by intro _;rfl):
  PS X (.Assign [.Name y e] (.ListComp elt [⟨.Name x p,iter,ifs,0⟩] sc pos) a) (lO (v4 [x] d (gV 0) tt te) (gV j)):=FQ S f i k l m (Fi S h) ht n c o
end
section
variable{K:W.Frag}{a:Ad}{xs:List V}{vs:Ss}{g:TG}{tt:TT}{te:TE}{σ:St}{H:Hp}{Fin:List V->Hp->Prop}
def DP(Pv:Nat->List V->Hp->Prop)(w:xs.length<=sizeLine)(j:Pv 0 [] H)(k: ∀i c H,i<=xs.length->Pv i c H->SqT K H a xs/\c.length<=i)
  (l: ∀i v c H,xs[i]? =some v->Pv i c H->g v (iv vs σ) H λd n=>ov (iv vs σ) d/\tt d n λb h=>if b=true then te d h λy o=>Pv (i+1) (c++[y]) o else Pv (i+1) c h)
  (r: ∀c H,Pv xs.length c H->Fin c H):nS vs g tt te σ (uT K a) H Fin:=by
 refine⟨λi m c H=>m=xs.length-i/\i<=xs.length/\Pv i c H,⟨xs.length,by simp,Nat.zero_le _,j⟩,?_⟩;rintro i m c H ⟨rfl,s,p⟩;obtain⟨q,x⟩:=k i c H s p;by_cases f:i<xs.length
 .refine .inr ⟨⟨xs,xs[i],q,by simp[f]⟩,by lia,Pv (i+1),λzs t u=>⟨xs.length-(i+1),Nat.sub_succ_lt_self _ _ f,rfl,f,u⟩,λv t y=>?_⟩;obtain⟨e,y⟩:=y;subst e;exact l i v c _ (y xs q) p
 .have e:i=xs.length:=by lia
  subst e;exact .inl ⟨⟨xs,q,cD _⟩,by lia,r c H p⟩
def jc(Pv:Nat->List V->Hp->Prop)(w:xs.length<=sizeLine)(j:Pv 0 [] H)(k: ∀i c H,i<=xs.length->Pv i c H->SqL K H a xs/\c.length<=i)
  (l: ∀i v c H,xs[i]? =some v->Pv i c H->g v (iv vs σ) H λd n=>ov (iv vs σ) d/\tt d n λb h=>if b=true then te d h λy o=>Pv (i+1) (c++[y]) o else Pv (i+1) c h)
  (r: ∀c H,Pv xs.length c H->Fin c H):nS vs g tt te σ (rk K a) H Fin:=by
 refine⟨λi m c H=>m=xs.length-i/\i<=xs.length/\Pv i c H,⟨xs.length,by simp,Nat.zero_le _,j⟩,?_⟩;rintro i m c H ⟨rfl,s,p⟩;obtain⟨q,x⟩:=k i c H s p;by_cases f:i<xs.length
 .refine .inr ⟨⟨xs,xs[i],q,by simp[f]⟩,by lia,Pv (i+1),λzs t u=>⟨xs.length-(i+1),Nat.sub_succ_lt_self _ _ f,rfl,f,u⟩,λv t y=>?_⟩;obtain⟨e,y⟩:=y;subst e;exact l i v c _ (y xs q) p
 .have e:i=xs.length:=by lia
  subst e;exact .inl ⟨⟨xs,q,cD _⟩,by lia,r c H p⟩
def oK{lo:Int}{n:Nat}(Pv:Nat->List V->Hp->Prop)(w:n<=sizeLine)(j:Pv 0 [] H)(k: ∀i c H,i<=n->Pv i c H->c.length<=i)
  (l: ∀i c H,i<n->Pv i c H->g (.int (lo+i)) (iv vs σ) H λf o=>ov (iv vs σ) f/\tt f o λb h=>if b=true then te f h λy q=>Pv (i+1) (c++[y]) q else Pv (i+1) c h)
  (r: ∀c H,Pv n c H->Fin c H):nS vs g tt te σ (oE lo n) H Fin:=by
 refine⟨λi m c H=>m=n-i/\i<=n/\Pv i c H,⟨n,by simp,Nat.zero_le _,j⟩,?_⟩;rintro i m c H ⟨rfl,s,p⟩;have x:=k i c H s p;by_cases d:i<n
 .refine .inr ⟨d,by lia,Pv (i+1),λzs t u=>⟨n-(i+1),Nat.sub_succ_lt_self _ _ d,rfl,d,u⟩,λv t y=>?_⟩;obtain⟨e,y⟩:=y;subst e y;exact l i c _ d p
 .have e:i=n:=by lia
  subst e;exact .inl ⟨cD _,by lia,r c H p⟩
def uY{x:Str}{xs:List V}{f:V->V}(j:xs.length<=sizeLine)(k:SqT K H a xs)(l: ∀v (Q:VK),v∈xs->Q (f v) H->te (some v::σ) H Q)(m:Fin (xs.map f) H):
  nS [x] (gV 0) nX te σ (uT K a) H Fin:=by
 refine DP (λi c d=>d=H/\c=(xs.take i).map f) j ⟨rfl,rfl⟩ (λi c d n ⟨e,b⟩=>?_) (λi v c d h ⟨e,b⟩=>⟨gm,?_⟩) (λc d ⟨e,b⟩=>?_)
 .subst e b;exact⟨k,by simp;lia⟩
 .subst e b;refine iz (l v _ (cK h) ⟨rfl,?_⟩);rw[h9,h,dP];rfl
 .subst e b;rw[gI];exact m
def Je{x:Str}{xs:List V}{f:V->Bool}(l:xs.length<=sizeLine)(m:SqT K H a xs)(n: ∀v (Q:Bool->Hp->Prop),v∈xs->Q (f v) H->tt (some v::σ) H Q)(o: ∀v (Q:VK),v∈xs->Q v H->te (some v::σ) H Q)
  (p:Fin (xs.filter f) H):nS [x] (gV 0) tt te σ (uT K a) H Fin:=by
 refine DP (λi d h=>h=H/\d=(xs.take i).filter f) l ⟨rfl,rfl⟩ (λi d h q ⟨e,c⟩=>?_) (λi v d h k ⟨e,c⟩=>⟨gm,?_⟩) (λd h ⟨e,c⟩=>?_)
 .subst e c;exact⟨m,dt (gX _ _) (by simp;lia)⟩
 .subst e c;refine n v _ (cK k) ?_;have b:(xs.take (i+1)).filter f=(xs.take i).filter f++(if f v then[v]else[]):=by
   rw[h9,k,pT];cases j:f v<;>simp[j]
  cases j:f v with
  |true=>
   refine eY (o v _ (cK k) ⟨rfl,?_⟩);rw[b,j];rfl
  |false=>
   refine dU ⟨rfl,?_⟩;rw[b,j];simp
 .subst e c;rw[gI];exact p
end
inductive Dt where
 |non|int (i:Int)|str (x:Str)|lst (ds:List Dt)|tup (ds:List Dt)
inductive Rep (K:W.Frag) (H:Hp):Nat->Dt->V->Prop where
 |non (n:Nat):Rep K H n .non .non
 |int (n:Nat) (i:Int):Rep K H n (.int i) (.int i)
 |str (n:Nat) (x:Str):Rep K H n (.str x) (.str x)
 |lst {n:Nat} {ds:List Dt} {a:Ad} {xs:List V} (h:SqL K H a xs) (hl:xs.length=ds.length) (hi: ∀(i:Nat) d v,ds[i]? =some d->xs[i]? =some v->Rep K H n d v):Rep K H (n+1) (.lst ds) (.ref a)
 |tup {n:Nat} {ds:List Dt} {a:Ad} {xs:List V} (h:SqT K H a xs) (hl:xs.length=ds.length) (hi: ∀(i:Nat) d v,ds[i]? =some d->xs[i]? =some v->Rep K H n d v):Rep K H (n+1) (.tup ds) (.ref a)
def sY{e:Type}{c d:List e}(f:c.length=d.length)(h: ∀(i:Nat) a b,c[i]? =some a->d[i]? =some b->a=b):c=d:=by
 refine An f λi g j=>?_;exact h i _ _ (by simp[g]) (by simp[j])
section
variable{X:Cx}{za:AO}{σ:St}{H:Hp}{s:Sh}
def Cw{a:Ad}{b c:List V}(I:Inv X za σ H s)(h:SqL X.K H a b)(d:SqT X.K H a c):False:=by
 obtain⟨_,_,p,_⟩:=I.list h;obtain⟨_,_,q,_⟩:=I.tuple d;exact SeqAt.ne_of_list_tuple p.isList (show s.heap.IsTuple a _ from q) rfl
def Am(I:Inv X za σ H s): ∀(n:Nat) {d c:Dt} {v:V},Rep X.K H n d v->Rep X.K H n c v->d=c:=by
 intro n
 induction n with
 |zero=>
  intro d c v r f;cases r<;>cases f<;>rfl
 | succ n w=>
  intro d c v r f;cases r with
  |non=>cases f;rfl
  |int=>cases f;rfl
  |str=>cases f;rfl
  | @lst _ x a g h m p=>
   cases f with
   | @lst _ q _ t j k l=>
    have e:=I.list_inj h j;subst e;refine dn Dt.lst (sY (m.symm.trans k) λi d c o u=>?_);have b:i<g.length:=by rw[m];exact(cA.mp o).1
    exact w (p i d g[i] o (ck b)) (l i c g[i] u (ck b))
   |tup j _ _=>exact(Cw I h j).elim
  | @tup _ x a g h m p=>
   cases f with
   |lst j _ _=>exact(Cw I j h).elim
   | @tup _ q _ t j k l=>
    have e:=I.tuple_inj h j;subst e;refine dn Dt.tup (sY (m.symm.trans k) λi d c o u=>?_);have b:i<g.length:=by rw[m];exact(cA.mp o).1
    exact w (p i d g[i] o (ck b)) (l i c g[i] u (ck b))
def Fj{f c:List Dt}(n:f.length=c.length){e:Nat->Bool}{N:Nat}(o:N=f.length)(k: ∀(j:Nat) d l,f[j]? =some d->c[j]? =some l->(e j=true↔d=l)):((List.range N).all e=true↔f=c):=by
 subst o;rw[pY];constructor
 .intro h;refine sY n λi a b m p=>?_;exact(k i a b m p).mp (h i (eE.mpr (cA.mp m).1))
 .intro h i q;have g:=eE.mp q;subst h;exact(k i f[i] f[i] (by simp[g]) (by simp[g])).mpr rfl
def Iu{P:Nat->Bool->Prop}(h: ∀j,∃b,P j b): ∃e:Nat->Bool,∀j,P j (e j):=⟨λj=>Classical.choose (h j),λj=>oF (h j)⟩
def BY{A:Ar}{its its':Vs}{ds ds':List Dt}(o:its.length=ds.length)(p:its'.length=ds'.length)
  (h: ∀(j:Nat) u f d a,its[j]? =some u->its'[j]? =some f->ds[j]? =some d->ds'[j]? =some a-> ∃b,SeqAt.EqAt A s u f b/\(b=true↔d=a)):
  ∃e:Nat->Bool,(∀j (i:j<its.toArray.size) (k:j<its'.toArray.size),SeqAt.EqAt A s its.toArray[j] its'.toArray[j] (e j))/\ ∀(j:Nat) d a,ds[j]? =some d->ds'[j]? =some a->(e j=true↔d=a):=by
 obtain⟨e,l⟩:=Iu (P:=λj b=>(∀u f,its[j]? =some u->its'[j]? =some f->SeqAt.EqAt A s u f b)/\ ∀d a,ds[j]? =some d->ds'[j]? =some a->(b=true↔d=a)) λj=>by
  by_cases g:j<its.length/\j<its'.length
  .obtain⟨b,m,n⟩:=h j its[j] its'[j] (ds[j]'(by lia)) (ds'[j]'(by lia)) (by simp[g.1]) (by simp[g.2]) (List.getElem?_eq_getElem _) (List.getElem?_eq_getElem _);refine⟨b,λu f q c=>?_,λd a q c=>?_⟩
   .rw[ck g.1]at q;rw[ck g.2]at c;cases q;cases c;exact m
   .rw[ck (by lia)]at q;rw[ck (by lia)]at c;cases q;cases c;exact n
  .refine⟨true,λu f q c=>wC ⟨(cA.mp q).1,(cA.mp c).1⟩ g,λd a q c=>?_⟩;have r:=(cA.mp q).1;have t:=(cA.mp c).1;exact wC ⟨by lia,by lia⟩ g
 refine⟨e,λj i k=>?_,λj=>(l j).2⟩;simp only[List.size_toArray]at i k;exact(l j).1 _ _ (by simp[i]) (by simp[k])
def zH(I:Inv X za σ H s){n:Nat}{A:Ar}(k:A.units<cLine){d l:Dt}{a o:Ad}(r:Rep X.K H (n+1) d (.ref a))(r':Rep X.K H (n+1) l (.ref o))
  (ih: ∀{d l:Dt} {v v':V} {u M:Vl},Rep X.K H n d v->Rep X.K H n l v'->RelV v u->RelV v' M-> ∃b,SeqAt.EqAt A.in1 s u M b/\(b=true↔d=l)):
  ∃b,SeqAt.RcAt A s (.ref a) (.ref o) b/\SeqAt.RcNeAt A s (.ref a) (.ref o) (!b)/\(b=true↔d=l):=by
 cases r with
 | @lst _ ds _ w h hl N=>
  obtain⟨its,x,p,_⟩:=I.list h;have l1:=x.length;cases r' with
  | @lst _ ds' _ c q t i=>
   obtain⟨its',f,g,_⟩:=I.list q;have l2:=f.length;by_cases y:ds.length=ds'.length
   .obtain⟨e,B,O⟩:=BY (A:=A.in1) (s:=s) (its:=its) (its':=its') (ds:=ds) (ds':=ds') (by lia) (by lia) λj u M d l Q T C D=>by
     have g1:=(cA.mp C).1;have g2:=(cA.mp D).1;have E:w[j]? =some (w[j]'(by lia)):=ck _;have G:c[j]? =some (c[j]'(by lia)):=ck _;obtain⟨w1,J,U⟩:=x.get E;obtain⟨w2,L,Y⟩:=f.get G;rw[Q]at J;rw[T]at L;cases J;cases L;exact ih (N j d _ C E) (i j l _ D G) U Y
    have m:its.toArray.size=its'.toArray.size:=by simp only[List.size_toArray];lia
    refine⟨_,SeqAt.RcAt.lists p.isList g.isList m k B,SeqAt.RcNeAt.lists p.isList g.isList m k B,?_⟩;rw[Fj y (by simp only[List.size_toArray];lia) O];exact⟨λz=>by rw[z],λz=>by cases z;rfl⟩
   .have m:(its.toArray.size != its'.toArray.size)=true:=by
     rw[bne_iff_ne];simp only[List.size_toArray];lia
    refine⟨false,SeqAt.RcAt.lists_lengths p.isList g.isList m k,SeqAt.RcNeAt.lists_lengths p.isList g.isList m k,⟨λz=>(by cases z),λz=>?_⟩⟩;cases z;exact wC rfl y
  | @tup _ ds' _ c q t i=>
   obtain⟨its',f,g,_⟩:=I.tuple q;exact⟨false,SeqAt.RcAt.list_tuple p.isList (show s.heap.IsTuple o _ from g) k,SeqAt.RcNeAt.list_tuple p.isList (show s.heap.IsTuple o _ from g) k,⟨λz=>(by cases z),λz=>(by cases z)⟩⟩
 | @tup _ ds _ w h hl N=>
  obtain⟨its,x,p,_⟩:=I.tuple h;have l1:=x.length;cases r' with
  | @lst _ ds' _ c q t i=>
   obtain⟨its',f,g,_⟩:=I.list q;exact⟨false,SeqAt.RcAt.tuple_list (show s.heap.IsTuple a _ from p) g.isList k,SeqAt.RcNeAt.tuple_list (show s.heap.IsTuple a _ from p) g.isList k,⟨λz=>(by cases z),λz=>(by cases z)⟩⟩
  | @tup _ ds' _ c q t i=>
   obtain⟨its',f,g,_⟩:=I.tuple q;have l2:=f.length;obtain⟨e,B,O⟩:=BY (A:=A.in1) (s:=s) (its:=its) (its':=its') (ds:=ds) (ds':=ds') (by lia) (by lia) λj u M d l Q T C D=>by
     have g1:=(cA.mp C).1;have g2:=(cA.mp D).1;have E:w[j]? =some (w[j]'(by lia)):=ck _;have G:c[j]? =some (c[j]'(by lia)):=ck _;obtain⟨w1,J,U⟩:=x.get E;obtain⟨w2,L,Y⟩:=f.get G;rw[Q]at J;rw[T]at L;cases J;cases L;exact ih (N j d _ C E) (i j l _ D G) U Y
   refine⟨_,SeqAt.RcAt.tuples (show s.heap.IsTuple a _ from p) (show s.heap.IsTuple o _ from g) k B,SeqAt.RcNeAt.tuples (show s.heap.IsTuple a _ from p) (show s.heap.IsTuple o _ from g) k B,?_⟩;by_cases y:ds.length=ds'.length
   .have m:(its.toArray.size==its'.toArray.size)=true:=by
     rw[lN];simp only[List.size_toArray];lia
    rw[m,Bool.and_true,Fj y (by simp only[List.size_toArray];lia) O];exact⟨λz=>by rw[z],λz=>by cases z;rfl⟩
   .have m:(its.toArray.size==its'.toArray.size)=false:=by
     rw[mz];simp only[List.size_toArray];lia
    rw[m,Bool.and_false];refine⟨λz=>(by cases z),λz=>?_⟩;cases z;exact wC rfl y
def Df{n m:Nat}{d b:Dt}{v a:V}(r:Rep X.K H n d v)(c:Rep X.K H m b a)(f:gY v=true)(e:gY a=true):(jr v a=true↔d=b):=by
 cases r<;>first|(cases f;done)|skip
 all_goals (cases c<;>first|(cases e;done)|skip)
 all_goals first|exact⟨λ_=>rfl,λ_=>rfl⟩|exact⟨λz=>Bool.noConfusion z,λz=>by cases z⟩|exact⟨λz=>dn Dt.int (eq_of_beq z),λz=>by injection z with z;exact lN.mpr z⟩|exact⟨λz=>dn Dt.str (eq_of_beq z),λz=>by injection z with z;exact lN.mpr z⟩
def uk(I:Inv X za σ H s): ∀(n:Nat) {A:Ar},A.units+n<cLine-> ∀{d o:Dt} {v k:V} {u w:Vl},Rep X.K H n d v->Rep X.K H n o k->RelV v u->RelV k w-> ∃b,SeqAt.EqAt A s u w b/\(b=true↔d=o):=by
 intro n
 induction n with
 |zero=>
  intro A J d o v k u w r e q g;have f:gY v=true:=by cases r<;>rfl
  have c:gY k=true:=by cases e<;>rfl
  exact⟨_,u0 q g f c,Df r e f c⟩
 | succ n L=>
  intro A J d o v k u w r e q g;by_cases f:gY v=true
  .by_cases c:gY k=true
   .exact⟨_,u0 q g f c,Df r e f c⟩
   .refine⟨false,?_,⟨λz=>(by cases z),λz=>?_⟩⟩
    .cases e with
     |non=>exact wC rfl c
     |int=>exact wC rfl c
     |str=>exact wC rfl c
     | @lst _ y a B h C D=>
      cases g;obtain⟨j,_,p,_⟩:=I.list h;cases r with
      |non=>cases q;exact SeqAt.EqAt.none_list p.isList (by lia)
      |int _ i=>obtain⟨t,rfl⟩:=q;exact SeqAt.EqAt.int_list i t p.isList (by lia)
      |str _ x=>obtain⟨t,rfl⟩:=q;exact SeqAt.EqAt.str_list x t p.isList (by lia)
      |lst _ _ _=>cases f
      |tup _ _ _=>cases f
     | @tup _ y a B h C D=>
      cases g;obtain⟨j,_,p,_⟩:=I.tuple h;have l:s.heap.IsTuple a j.toArray:=p;cases r with
      |non=>cases q;exact SeqAt.EqAt.none_tuple l (by lia)
      |int _ i=>obtain⟨t,rfl⟩:=q;exact SeqAt.EqAt.int_tuple i t l (by lia)
      |str _ x=>obtain⟨t,rfl⟩:=q;exact SeqAt.EqAt.str_tuple x t l (by lia)
      |lst _ _ _=>cases f
      |tup _ _ _=>cases f
    .subst z;cases r<;>first|(cases f;done)|skip
     all_goals (cases e;exact wC rfl c)
  .by_cases c:gY k=true
   .refine⟨false,?_,⟨λz=>(by cases z),λz=>?_⟩⟩
    .cases r with
     |non=>exact wC rfl f
     |int=>exact wC rfl f
     |str=>exact wC rfl f
     | @lst _ y a B h C D=>
      cases q;obtain⟨j,_,p,_⟩:=I.list h;cases e with
      |non=>cases g;exact SeqAt.EqAt.list_none p.isList (by lia)
      |int _ i=>obtain⟨t,rfl⟩:=g;exact SeqAt.EqAt.list_int i t p.isList (by lia)
      |str _ x=>obtain⟨t,rfl⟩:=g;exact SeqAt.EqAt.list_str x t p.isList (by lia)
      |lst _ _ _=>cases c
      |tup _ _ _=>cases c
     | @tup _ y a B h C D=>
      cases q;obtain⟨j,_,p,_⟩:=I.tuple h;have l:s.heap.IsTuple a j.toArray:=p;cases e with
      |non=>cases g;exact SeqAt.EqAt.tuple_none l (by lia)
      |int _ i=>obtain⟨t,rfl⟩:=g;exact SeqAt.EqAt.tuple_int i t l (by lia)
      |str _ x=>obtain⟨t,rfl⟩:=g;exact SeqAt.EqAt.tuple_str x t l (by lia)
      |lst _ _ _=>cases c
      |tup _ _ _=>cases c
    .subst z;cases e<;>first|(cases c;done)|skip
     all_goals (cases r;exact wC rfl f)
   .have E: ∀{m:Nat} {d:Dt} {v:V},Rep X.K H m d v-> ¬gY v=true-> ∃a,v= .ref a:=λ{m d v} r f=>by
     cases r<;>first|exact⟨_,rfl⟩|exact wC rfl f
    obtain⟨a,rfl⟩:=E r f;obtain⟨M,rfl⟩:=E e c;cases q;cases g;by_cases G:a=M
    .subst G;exact⟨true,SeqAt.EqAt.same _,⟨λ_=>Am I (n+1) r e,λ_=>rfl⟩⟩
    .obtain⟨b,N,_,O⟩:=zH I (A:=A) (by lia) r e λr e q g=>L (A:=A.in1) (by show A.units+1+n<cLine;lia) r e q g;exact⟨b,.of_refs G N,O⟩
def ph(K:W.Frag)(c:Bool):R2:=λx y H Q=> ∃a e n d f,x= .ref a/\y= .ref e/\Rep K H (n+1) d (.ref a)/\Rep K H (n+1) f (.ref e)/\n<=30/\ ∀b,(b=true↔d=f)->Q (.bl (if c then !b else b)) H
def tE(k:X.A.units+64<cLine):OpR X (compareOp .Eq) (ph X.K false):=by
 intro za s σ H x y v u Q I e f h;obtain⟨a,l,n,d,m,rfl,rfl,r,c,o,q⟩:=h;cases e;cases f;obtain⟨b,g,_,i⟩:=zH I (A:=X.A) (by lia) r c λr c q j=>uk I n (A:=X.A.in1) (by show X.A.units+1+n<cLine;lia) r c q j;exact g _ _ _ _ ⟨.bl b,H,I,rfl,q b i⟩
def qa(k:X.A.units+64<cLine):OpR X (compareOp .NotEq) (ph X.K true):=by
 intro za s σ H x y v u Q I e f h;obtain⟨a,l,n,d,m,rfl,rfl,r,c,o,q⟩:=h;cases e;cases f;obtain⟨b,_,g,i⟩:=zH I (A:=X.A) (by lia) r c λr c q j=>uk I n (A:=X.A.in1) (by show X.A.units+1+n<cLine;lia) r c q j;exact g _ _ _ _ ⟨.bl (!b),H,I,rfl,q b i⟩
end
def Cp{K:W.Frag}{H:Hp}{n:Nat}{is:Zs}(i:Nat)(d:Dt)(v:V)(a:(is.map Dt.int)[i]? =some d)(b:(is.map V.int)[i]? =some v):Rep K H n d v:=by
 rw[cF]at a b;cases e:is[i]? with
 |none=>rw[e]at a;cases a
 |some k=>
  rw[e]at a b;cases a;cases b;exact .int n k
def yY{K:W.Frag}{H:Hp}{n:Nat}{is:Zs}{a:Ad}(h:SqL K H a (is.map V.int)):Rep K H (n+1) (.lst (is.map Dt.int)) (.ref a):= .lst h (by simp) Cp
def Ab{K:W.Frag}{H:Hp}{n:Nat}{is:Zs}{a:Ad}(h:SqT K H a (is.map V.int)):Rep K H (n+1) (.tup (is.map Dt.int)) (.ref a):= .tup h (by simp) Cp
theorem qb{e i:Type}{f:e->i}(g: ∀a b,f a=f b->a=b): ∀{c d:List e},c.map f=d.map f->c=d
 | [],[],_=>rfl
 | [],_::_,h=>by simp at h
 |_::_,[],h=>by simp at h
 |a::c,b::d,h=>by
  simp only[List.map_cons,List.cons.injEq]at h;rw[g a b h.1,qb g h.2]
def jA{c d:Zs}:Dt.tup (c.map Dt.int)=Dt.tup (d.map Dt.int)↔c=d:=
 ⟨λh=>by injection h with h;exact qb (λa b e=>by injection e) h,λh=>by rw[h]⟩
def iB(n:Nat):List V:=(List.range n).map λ(i:Nat)=>V.int (i:Int)
section
variable{X:Cx}
def HQ:List V->Hp->VK->Prop:=λa H Q=> ∃j:Int,a=[.int j]/\ ∀p,H p=none->Q (.ref p) (cg H p (.rng 0 j))
def yF:gv X (.type "range") HQ:=by
 intro a s c H d f Q I r h;obtain⟨j,rfl,q⟩:=h;obtain⟨u,rfl,t,rfl⟩:=gc r;refine call_range_1 ⟨.ref s.heap.objs.size,_,I.laid (t':=s.toks+1+1) (λb o e=>dj _ e) (cD _) (show ObjOk X.prog X.w _ _ _ (.rng 0 j)from⟨_,_,_,dZ _ rfl⟩),rfl,q _ (I.hok.fresh (cD _))⟩
def DY{n:Nat}{f:AV}(h:ItemsOf (λi v=> ∃t,v=Value.int ((0:Int)+(i:Nat) * 1) t) f n):Vals (iB n) f.toList:=by
 obtain⟨l,m⟩:=h;have go: ∀(d:List V) (c:Vs),d.length=c.length->(∀(j:Nat) x u,d[j]? =some x->c[j]? =some u->RelV x u)->Vals d c:=by
  intro d
  induction d with
  |nil=>intro c g _;cases c with
   |nil=>exact .nil
   |cons=>simp at g
  |cons x d o=>
   intro c g h;cases c with
   |nil=>simp at g
   |cons u c=>exact .cons (h 0 x u rfl rfl) (o c (by simpa using g) λj a b e k=>h (j+1) a b (by simpa using e) (by simpa using k))
 refine go _ _ (by simp[iB,l]) λj x u e k=>?_;obtain⟨t,rfl⟩:=m j u (by simpa using k);unfold iB at e;rw[cF]at e;have p:j<n:=by
  have:=(cA.mp k).1;simpa[l]using this
 rw[mj p]at e;cases e;refine⟨t,?_⟩
 congr 1
 lia
def CU{j:Int}(a:0<=j)(b:j<=1000000):Builtin.Range.small 0 j 1=true:=small_one (by decide) (by decide) (by lia) (by lia)
def DF{j:Int}(a:0<=j):Builtin.Range.rangeSize 0 j 1=(j.toNat:Nat):=by
 rw[rangeSize_one];split<;>lia
def Jy:List V->Hp->VK->Prop:=λa H Q=> ∃p j,a=[.ref p]/\H p=some (.rng 0 j)/\0<=j/\j<=1000000/\ ∀l,H l=none->Q (.ref l) (cg H l (.lst (iB j.toNat)))
def C5(g:X.calm=true):gv X (.type "list") Jy:=by
 intro w s x H y z Q I r h;obtain⟨p,j,rfl,i,c,k,q⟩:=h;obtain⟨u,rfl,l⟩:=gc r;cases l;obtain⟨A,B,C,e⟩:=I.hok p _ i;refine call_list_range (I.ok.hd g) e (CU c k) (DF c) (by lia) λd m a f n o b=>?_;have t:=DY b;have v:d.get? s.heap.objs.size=some {cls:= .type "list",data:= .seq a.toList.toArray f}:=by simpa using o
 exact⟨.ref s.heap.objs.size,_,I.laid (t':=m) n (cD _) (show ObjOk X.prog X.w _ d _ (.lst (iB j.toNat))from⟨by rw[db];simp[iB];lia,a.toList,f,t,v⟩),rfl,q _ (I.hok.fresh (Nat.le_refl _))⟩
end
section
open AutoSeq1 (wpAny_loadPart')
abbrev vY(j:Int)(a:AV):Prop:=ItemsOf (λi v=> ∃t,v=Value.int ((0:Int)+(i:Nat) * 1) t) a j.toNat
def Lp{k:Pg}{w:World}{A:Ar}{E:VP}{s:Sh}{Q:Vs->Sh->Prop}{r:Ad}{j:Int}{t u v:Tok}(C:A.handled=none)(y:IsRange s.heap r 0 j 1 t u v)(B:0<=j)(D:j<=1000000)
  (G: ∀d i c,(∀b o,s.heap.get? b=some o->d.get? b=some o)->vY j c->Q c.toList {s with heap:=d,toks:=i}):wpAny (model k w) A (collect (.ref r)) Q E s:=by
 have H:(s.heap.push {cls:= .type "list",data:= .seq ([]:Vs).toArray}).get? s.heap.objs.size=some {cls:= .type "list",data:= .seq #[] 0}:=by exact dZ _ rfl
 unfold collect;refine wpAny_bind (wpAny_runValue (codeAny_builtin F.entry_proto_collect ?_));rw[Around.under_plainId F.plain_proto_collect _];show wpAny _ A.in1 (newList [] >>= λl=>again (.builtin "list.__iadd__" ⟨[l,.ref r],[]⟩)) _ _ s;refine ci (mh (cu ⟨oY F.plain_list_iadd _,lM F.entry_list_iadd ?_⟩));rw[nR F.plain_list_iadd _];show wpAny _ A.in1 (Builtin.List.listExtendWith (.ref s.heap.objs.size) (.ref r) (.ref s.heap.objs.size)) _ _ _;have m: ∀n,(∃d i c p,n={s with heap:=d,toks:=i}/\(∀b o,s.heap.get? b=some o->d.get? b=some o)/\d.get? s.heap.objs.size=some {cls:= .type "list",dict:=none,data:= .seq c p,slots:= #[]}/\vY j c)->
   wpAny (model k w) A (match Value.ref s.heap.objs.size with
    | Value.ref a=>do
     let o <-load a
     match o.data with
      |Data.seq I _=>pure I.toList
      |_=>unsupported "internal:collect"
    |_=>unsupported "internal:collect") Q E n:=by
  rintro n ⟨d,i,c,p,rfl,z,q,x⟩;show wpAny _ A (load s.heap.objs.size >>= _) _ _ _;exact ci (wpAny_load q (cu (G d i c z x)))
 refine gq (wpAny_extend_range (A:=A) (R:=λr n=>r= .ok (.ret (.ref s.heap.objs.size))/\ ∃d i c p,n={s with heap:=d,toks:=i}/\(∀b o,s.heap.get? b=some o->d.get? b=some o)/\d.get? s.heap.objs.size=some {cls:= .type "list",dict:=none,data:= .seq c p,slots:= #[]}/\vY j c)
  (s:={s with heap:=s.heap.push {cls:= .type "list",data:= .seq ([]:Vs).toArray}}) C (dj _ y) (CU B D) (DF B) (by lia) _ (.ref s.heap.objs.size) 0 H λd i c p z q x=>
   ⟨rfl,d,i,c,p,rfl,λb o e=>z b o (dH (cU e)) (dj _ e),q,x⟩) (λfin n h=>?_) (λe n h=>wC h.1 (by simp))
 cases fin with
 |done f=>obtain⟨e,g⟩:=h;cases e;exact m _ g
 |again p=>exact⟨h.1,jq h.2 λr J y=>by obtain⟨rfl,g⟩:=y;exact m _ g⟩
def Jg(r:Ad)(j:Int)(t u v:Tok)(q:0<=j)(x:j<=1000000):Meets (Builtin.«tuple.__new__» ⟨[.type "tuple",.ref r],[]⟩)
  (λA R s=>A.handled=none/\IsRange s.heap r 0 j 1 t u v/\ ∀(c:Heap) i a,(∀b o,s.heap.get? b=some o->c.get? b=some o)->vY j a->
   R (.ok (.ret (.ref c.objs.size))) {s with heap:=c.push {cls:= .type "tuple",data:= .seq a},toks:=i}):=
 .of_wp λn w A R s h=>by
  obtain⟨y,g,d,i,os⟩:=s;obtain⟨z,k,h⟩:=h;have p:=sub_tuple_self;have l:=init_tuple_lookup;have B:=madeHere_tuple
  have hT:Shared.TypeIs ⟨y,g,d,i,os⟩ (.ref r) "range":=⟨_,k,rfl⟩
  wp_walk using kS k,wpAny_typeOf hT,Lp (A:=A.in1) z k q x
  intro c m a C f;show wpAny _ _ (Builtin.Tuple.tupleExact a.toList.toArray >>= λv=>ret v) _ _ _;have D:a.toList.toArray.size<=sizeLine:=by
   have:=f.1;rw[db];simp only[List.size_toArray,Array.length_toList];lia
  unfold Builtin.Tuple.tupleExact;refine wpAny_bind (wpAny_newObj_type (wpAny_pure ⟨_,rfl,?_⟩) D);have e:a.toList.toArray=a:=by simp
  rw[e];exact h c m a C f
end
section
variable{X:Cx}
def Hn:List V->Hp->VK->Prop:=λa H Q=> ∃p j,a=[.ref p]/\H p=some (.rng 0 j)/\0<=j/\j<=1000000/\ ∀l,H l=none->Q (.ref l) (cg H l (.tup (iB j.toNat)))
def LO(m:X.calm=true):gv X (.type "tuple") Hn:=by
 intro i s k H E G Q I r h;obtain⟨p,j,rfl,n,t,v,q⟩:=h;obtain⟨u,rfl,w⟩:=gc r;cases w;obtain⟨x,y,z,e⟩:=I.hok p _ n;refine callType_new F.called_tuple (by decide) (F.typeCall_tuple_1 _) (F.newCall_tuple_1 _) (λd=>F.args_object_init_2 d _) F.entry_tuple_new (Jg p j x y z t v) ⟨I.ok.hd m,e,λc f a A g=>⟨⟨_,dZ _ rfl,rfl⟩,?_⟩⟩;have B:=DY g;have l:Inv X i k H {s with heap:=c,toks:=f}:=I.kept A;have C:(iB j.toNat).length<=sizeLine:=by rw[db];simp[iB];lia
 have D:Inv X i k (cg H c.objs.size (.tup (iB j.toNat))) {s with heap:=c.push {cls:= .type "tuple",data:= .seq a},toks:=f}:=
  l.laid (t':=f) (λb o e=>dj _ e) (cD _) (show ObjOk X.prog X.w _ _ _ (.tup (iB j.toNat))from⟨C,a.toList,B,by simpa using TupD.new c a⟩)
 exact⟨.ref c.objs.size,_,D,rfl,q _ (l.hok.fresh (cD _))⟩
def Bc(K:W.Frag):List V->Hp->VK->Prop:=λa H Q=> ∃x n t b,a=[x,.ty n]/\TyOf K H x t/\PySem.W.kitOne K t (.type n)=some b/\Q (.bl b) H
def Au:gv X (.builtin "isinstance") (Bc X.K):=by
 intro f s g H i j Q I r h;obtain⟨x,n,t,b,rfl,ty,e,q⟩:=h;obtain⟨u,k,rfl,a,c⟩:=tF r;cases c;exact KD I a ty e λd=>⟨.bl b,H,I.tok d,rfl,q⟩
end
structure CompSc(N:Ss)(osc:Scope)(vs:Ss)(sc:Scope):Prop where
 kind:sc.kind= .function:=by rfl
 cell: ∀y∈sc.names,y.2≠ .cell:=by decide+kernel
 locs: ∀y∈sc.names,y.2= .local->sc.names.lookup y.1=some .local:=by decide+kernel
 own: ∀y∈N.map (lC vs),sc.names.lookup y≠some .local:=by decide+kernel
 hid: ∀y∈vs,sc.names.lookup (Ap y)=none:=by decide+kernel
 nd:(vs++N.map (lC vs)).Nodup:=by decide+kernel
 free: ∀y∈sc.names,y.2= .free->osc.names.lookup y.1=some .cell∨osc.names.lookup y.1=some .free:=by decide+kernel
def CompSc.to{X:Cx}{N:Ss}{osc:Scope}{vs:Ss}{a:Scope}(h:CompSc N osc vs a)(b:X.N=N:=by rfl)(c:X.env.scope=osc:=by rfl):CompScope X vs a:=by
 subst b c;exact⟨h.kind,h.cell,h.locs,h.own,h.hid,h.nd,h.free⟩
def dw(P:Pg)(w:World)(K:W.Frag)(mg:SV)(a:Heap)(x:Str)(k:Nat)(b:Ss)(d:Sp):Prop:=
 ∃f c,FnOk P w K mg a cQ k f c b d/\mg x=some (.ref f)/\PySem.W.keepIn K (.ref f)=true/\Binds K c b []
def dB{X:Cx}{x:Str}{k:Nat}{g:Ss}{d:Sp}{e:Expr}{a:List Expr}{t:TA}{p pos:Pos}(c:dw X.prog X.w X.K X.mg X.base x k g d)(h:Room k X.A)(i:Gl X x)(j:PA X (e::a) t)
  (l:(x==("__debug__":Str))=false:=by decide) (n:starEach (e::a) X.env=(false,eval e X.env)::starEach a X.env:=by rfl) (o:(backTo pos (starEach a X.env)).any (·.1)=false:=by rfl):
  PE X (.Call (.Name x p) (e::a) [] pos) (vj d [] E0 t):=by
 obtain⟨f,r,F,m,q,b⟩:=c;exact MA F h i m q b .nil tW j l n o
def zW{X:Cx}{x:Str}{n:String}{pos:Pos}(a:Gl X x)(b:X.mg x=none)(c:bootBuiltins x=some (.type n))(d:x≠"__name__":=by decide)(e:(x==("__debug__":Str))=false:=by decide):PE X (.Name x pos) (tC (.ty n)):=
 IE (v:= .ty n) a b c (show RelV (.ty n) (.type n)from rfl) d e
def IxR.k{X:Cx}{K:W.Frag}(r:W.Frag->R2)(h:IxR X (r X.K))(a:X.K=K):IxR X (r K):=a▸h
def OpR.k{X:Cx}{K:W.Frag}{f:Vl->Vl->Sem Vl}(r:W.Frag->R2)(h:OpR X f (r X.K))(a:X.K=K):OpR X f (r K):=a▸h
def cB{H:Hp}{p:Ad}(h:H p=none)(o:HO):Same H (cg H p o):=λb u q=>by rw[cw (dG q h)];exact q
def small{n:Nat}(h:n<=1000):n<=sizeLine:=fj (Lh h)
abbrev nv(n:Nat):V:= .int (n:Int)
def Dh(a:cf):a.map nv=(a.map λ(n:Nat)=>(n:Int)).map V.int:=by rw[hI];rfl
def LU(n:Nat):iB n=(List.range n).map nv:=rfl
def Kg{c d:cf}:(c.map λ(n:Nat)=>(n:Int))=(d.map λ(n:Nat)=>(n:Int))↔c=d:=
 ⟨λh=>qb (λa b e=>ti e) h,λh=>by rw[h]⟩
def n'{K:W.Frag}{H:Hp}{n:Nat}{is:cf}{a:Ad}(h:SqL K H a (is.map nv)):Rep K H (n+1) (.lst ((is.map λ(n:Nat)=>(n:Int)).map Dt.int)) (.ref a):=yY (by rw[<-Dh];exact h)
def gW{K:W.Frag}{H:Hp}{n:Nat}{is:cf}{a:Ad}(h:SqT K H a (is.map nv)):Rep K H (n+1) (.tup ((is.map λ(n:Nat)=>(n:Int)).map Dt.int)) (.ref a):=Ab (by rw[<-Dh];exact h)
def dh{a b:cf}:Dt.tup ((a.map λ(n:Nat)=>(n:Int)).map Dt.int)=Dt.tup ((b.map λ(n:Nat)=>(n:Int)).map Dt.int)↔a=b:=jA.trans Kg
def ki{a:cf}{k:Nat}(h:k<a.length):iI (a.map nv) (k:Int)=some (nv (a.getD k 0)):=fF (by rw[cF,ck h,dI,ck h];rfl)
def sq(H:Hp)(b:List V)(Q:VK):Prop:= ∀r a,Same H a->a r=some (.tup b)->Q (.ref r) a
def Bi(t:TS):TS:=λD c H=> ∃S:St->Hp->Prop,t {D with nx:=S} c H/\ ∀a b,S a b->D.nx a b
def AH{X:Cx}{st:Stmt}{t:TS}(h:PS X st t):PS X st (Bi t):=by
 intro c s d H D I q;obtain⟨S,e,g⟩:=q;refine cG (h c s d H _ I e) λf j z=>?_;cases f with
 |next=>obtain⟨a,b,i,z⟩:=z;exact⟨a,b,i,g a b z⟩
 |brk=>exact z
 |cont=>exact z
 |ret u=>exact z
def gZ{H a:Hp}{l:Ad}{o:HO}(g:Same H a)(c:H l=none):Same H (cg a l o):=λb u e=>by rw[cw (dG e c)];exact g b u e
def Kf{a:Zs}{k:Nat}(h:k<a.length):iI (a.map V.int) (k:Int)=some (.int (a.getD k 0)):=fF (by rw[cF,ck h,dI,ck h];rfl)
def v8{n k:Nat}(h:k<n):mP n (k:Int)=some k:=by
 unfold mP;rw[wB (by lia),wB (by lia),gb]
def eA(c:Int){n:Nat}(h:1<=n):V.int (c%(n:Int))=nv (c%(n:Int)).toNat/\(c%(n:Int)).toNat<n:=by
 have a:=Int.emod_nonneg c (by lia:(n:Int)≠0);have b:=Int.emod_lt_of_pos c (by lia:(0:Int)<(n:Int));refine⟨?_,by lia⟩;show V.int _=V.int (((c%(n:Int)).toNat:Nat):Int);rw[Int.toNat_of_nonneg a]
def vF(a:cf)(j v:Nat):(a.map nv).set j (nv v)=(a.set j v).map nv:=(List.map_set).symm
def xA{a:cf}{j v n:Nat}(h: ∀y∈a,y<n)(b:v<n): ∀y∈a.set j v,y<n:=by
 intro y c
 rcases List.mem_or_eq_of_mem_set c with z|z
 .exact h y z
 .rw[z];exact b
def t0{a:cf}{j n:Nat}(h: ∀y∈a,y<n)(b:j<a.length):a.getD j 0<n:=by
 rw[dI,ck b];exact h _ (iZ b)
def Hx{K:W.Frag}:PySem.W.kitOne K (.type "int") (.type "int")=some true:=by rfl
def Gv{K:W.Frag}:PySem.W.kitOne K (.type "int") (.type "bool")=some false:=by rfl
def fv{K:W.Frag}:PySem.W.kitOne K (.type "tuple") (.type "tuple")=some true:=by rfl
def HZ{P:Pg}{w:World}{a:Ad}{c:Type}[DecidableEq c]{kd:HeapKind P w c}(d:(a==sysModules)=false):
  MeetsIn P w (Builtin.«dict.__len__» ⟨[.ref a],[]⟩) λ_ R s=> ∃b,s.heap.DictOfH kd a b/\R (.ok (.ret (.int b.length s.toks))) {s with toks:=s.toks+1}:=
 .of_wp λA R s ⟨b,e,q⟩=>by
  obtain⟨k,f,l,g,m,h,i,_⟩:=e;have j:f.size=b.length:=vx i;show wpAny _ _ (dictSize a >>= _) _ _ s;unfold dictSize;refine ci (ci (oT g h (cu (ci (wpAny_pendingCount_other d (wpAny_ret_mkInt ?_))))));rw[uC,j];exact q
def FX{P:Pg}{w:World}{A:Ar}{E:VP}{s:Sh}{a:Ad}{c:Type}[DecidableEq c]{e:HeapKind P w c}{b:List (c×Ad×Vl)}{Q:VP}(f:(a==sysModules)=false)
  (d:s.heap.DictOfH e a b) (few:(b.length:Int)<2 ^ 63) (q:Q (.int b.length (s.toks+1)) {s with toks:=s.toks+1+1}):wpAny (model P w) A (Builtin.«len» ⟨[.ref a],[]⟩) (λfin g=> ∃r,fin= .done (.ret r)/\Q r g) E s:=by
 have h: ¬((b.length:Nat):Int)<0:=by lia
 have i: ¬((b.length:Nat):Int)≥2 ^ 63:=by lia
 unfold Builtin.«len»;refine ci (m:=oneArg "len" _) (cu (ci (m:=callSpecial? (.ref a) (Str.ofString "__len__")) ?_));refine oo (name:=Str.ofString "__len__") d.typeIs F.slot_dict_len (call_meetsIn F.slot_dict_len d.typeIs F.entry_dict_len (F.args_dict_len_1 _) (HZ (kd:=e) f) ⟨b,d,?_⟩);show wpAny _ _ _ _ _ {s with toks:=s.toks+1};refine ci (gQ (cu (ci (wpAny_letGo ?_))));show wpAny _ _ (if((b.length:Nat):Int)<0 then _ else(if((b.length:Nat):Int)≥2 ^ 63 then _ else _)) _ _ _;rw[wA h,wA i];exact ci (wpAny_mkInt (cu ⟨_,rfl,q⟩))
section
variable{X:Cx}
def K3:gv X (.builtin "len") (λd H Q=> ∃a b,d=[V.ref a]/\H a=some (.dT b)/\Q (.int b.length) H):=by
 intro l s m H d n Q I r h;obtain⟨a,b,rfl,f,q⟩:=h;obtain⟨u,rfl,g⟩:=gc r;cases g;obtain⟨z,i,j,c,k⟩:=zR I.hok f;have e:b.length=j.length:=lV c;refine Ag kind_len plain_len entry_len (args_len1 _) (FX i k (by rw[<-e];rw[db]at z;lia) ?_);exact⟨.int b.length,H,I.tok _,⟨_,by rw[e]⟩,q⟩
end
def nk(a:cf):List cZ:=a.map λ(n:Nat)=>(Sum.inl (n:Int):cZ)
def hZ(a:cf):(nk a).map kV=a.map nv:=by
 unfold nk;rw[hI];rfl
def xz{c d:cf}(h:nk c=nk d):c=d:=by
 unfold nk at h;exact qb (λa b e=>by injection e with e;exact ti e) h
section
variable{X:Cx}
def Eu(K:W.Frag):R2:=λx y H Q=> ∃l b a zs,x= .ref l/\y= .ref b/\SqL K H l a/\SqL K H b zs/\a.length+zs.length<=sizeLine/\ ∀p,H p=none->Q (.ref p) (cg H p (.lst (a++zs)))
def wY:OpR X (binaryOp .Add) (Eu X.K):=by
 intro E s G H x y v u Q I p t h;obtain⟨l,b,J,zs,rfl,rfl,w,z,L,q⟩:=h;cases p;cases t;obtain⟨c,r,⟨⟨M,N,O,A⟩,n,e,i,j,k⟩,_⟩:=I.list w;obtain⟨a,m,⟨⟨T,U,Y,B⟩,C,o,d,f,g⟩,_⟩:=I.list z;simp only at i j k d f g;subst i j k d f g;have l1:=r.length;have l2:=m.length;have D:c.toArray++a.toArray=(c++a).toArray:=by simp
 refine vp ⟨_,e,rfl⟩ ⟨_,o,rfl⟩ noFill_list_add seq_list_add F.slot_list_add F.entry_list_add (F.args_list_add_2 _ _) (list_addW l b c.toArray a.toArray n C none none A B (by simp only[List.size_toArray];lia)) ⟨e,o,?_⟩;rw[D];exact⟨.ref _,_,I.lnew (t':=s.toks) (r.append m) (by rw[dz];lia),rfl,q _ I.fresh⟩
end
section
variable{X:Cx}
def ud:R2:=λx y H Q=> ∃a b c d,x= .ref a/\y= .ref b/\H a=some (.tup c)/\H b=some (.tup d)/\c.length+d.length<=sizeLine/\ ∀p e,Same H e->e p=some (.tup (c++d))->Q (.ref p) e
def GG:OpR X (binaryOp .Add) ud:=by
 intro A s B H x y v u Q I k l h;obtain⟨a,b,m,C,rfl,rfl,g,i,D,q⟩:=h;by_cases j:m=[]
 .cases k;cases l;obtain⟨c,E,G,_⟩:=I.tuple (SqT.of g);obtain⟨d,r2,J,_⟩:=I.tuple (SqT.of i);obtain⟨⟨c1,L,k1,M⟩,o,r,n,t⟩:=id G;obtain⟨⟨c2,N,k2,O⟩,w,e,T,f⟩:=id J;simp only at r t e f;subst r t e f;have U:c=[]:=E.nil_iff.mpr j;refine vp ⟨_,o,rfl⟩ ⟨_,w,rfl⟩ Bd seq_tuple_add F.slot_tuple_add F.entry_tuple_add (F.args_tuple_add_2 _ _) (tuple_addW0 a b c.toArray d.toArray n T L N M O (by rw[U];rfl)) ⟨o,w,?_⟩;exact⟨.ref b,H,I,rfl,q b H (Same.refl H) (by rw[j];exact i)⟩
 .refine J3 A s B H (.ref a) (.ref b) v u Q I k l ⟨a,b,m,C,rfl,rfl,SqT.of g,SqT.of i,j,D,λz=>?_,λz p Y=>q p _ (cB Y _) cn⟩;refine q a H (Same.refl H) ?_;rw[z,gO];exact g
def KY:fillsNumberSlot (.type "tuple") "mul"=pure false:=by
 unfold fillsNumberSlot
 kernel_rfl
def Hq:seqRepeat? (.type "tuple")=pure (some (.builtin "tuple.__mul__")):=by
 unfold seqRepeat?
 kernel_rfl
end
open AutoSeq1 (wpAny_loadPart')
def Ge(a:Int)(t:Tok)(l:Ad)(b:AV)(n:Nat)(c:Option Ad)(sl:Array (Option Vl)):
  Meets (Builtin.«int.__rmul__» ⟨[.int a t,.ref l],[]⟩) (λ_ R s=>s.heap.get? l=some {cls:= .type "tuple",dict:=c,data:= .seq b n,slots:=sl}/\R (.ok (.ret Value.notImplemented)) s):=
 .of_wp λP w A R s h=>by
  obtain⟨f,g,d,i,os⟩:=s;obtain⟨e,h⟩:=h
  wp_walk using kS e
  exact⟨_,rfl,h⟩
def Gz(l:Ad)(a:AV)(n:Nat)(c:Option Ad)(sl:Array (Option Vl))(k:Int)(u:Tok)(e: ¬(decide (k< -(2 ^ 63)) || decide (k≥2 ^ 63))=true)(f:(a.isEmpty || k==1)=true):
  Meets (Builtin.«tuple.__mul__» ⟨[.ref l,.int k u],[]⟩) (λ_ R s=>s.heap.get? l=some {cls:= .type "tuple",dict:=c,data:= .seq a n,slots:=sl}/\R (.ok (.ret (.ref l))) s):=
 .of_wp λP w A R s h=>by
  obtain⟨i,g,d,j,os⟩:=s;obtain⟨b,h⟩:=h;have m:=AutoSeq1.idx_int
  wp_walk using kS b
  refine ye (d9 e) ?_
  wp_walk using kS b
  exact⟨_,rfl,h⟩
def Js(l:Ad)(its:AV)(n:Nat)(b:Option Ad)(sl:Array (Option Vl))(k:Int)(u:Tok)(c: ¬(decide (k< -(2 ^ 63)) || decide (k≥2 ^ 63))=true)(f: ¬(its.isEmpty || k==1)=true)
  (i: ¬(decide (k<=0) || its.isEmpty)=true) (e: ¬(its.size:Int) * k>(2 ^ 63-1) /8) (c4: ¬Builtin.Tuple.tupleTooMany ((its.size:Int) * k)=true) (j:((List.replicate k.toNat its).foldl (· ++ ·) #[]).size<=sizeLine):
  Meets (Builtin.«tuple.__mul__» ⟨[.ref l,.int k u],[]⟩) (λ_ R s=>s.heap.get? l=some {cls:= .type "tuple",dict:=b,data:= .seq its n,slots:=sl}/\
   R (.ok (.ret (.ref s.heap.objs.size))) {s with heap:=s.heap.push {cls:= .type "tuple",data:= .seq ((List.replicate k.toNat its).foldl (· ++ ·) #[])}}):=
 .of_wp λP w A R s h=>by
  obtain⟨m,g,d,o,os⟩:=s;obtain⟨a,h⟩:=h;have p:=AutoSeq1.idx_int
  wp_walk using kS a
  refine ye (d9 c) ?_
  wp_walk using kS a
  refine ye (d9 e) ?_
  wp_walk using kS a
  exact⟨_,rfl,h⟩
section
variable{X:Cx}
def sE:R2:=λx y H Q=> ∃a b k,x= .ref a/\y= .int ((k+1:Nat):Int)/\H a=some (.tup b)/\k<=1000/\b.length<=1000/\ ∀p c,Same H c->c p=some (.tup (List.replicate (k+1) b).flatten)->Q (.ref p) c
def LW:OpR X (binaryOp .Mult) sE:=by
 intro za s σ H x y v u Q I E G h;obtain⟨a,f,k,rfl,rfl,w,hk,hx,q⟩:=h;cases E;obtain⟨t,rfl⟩:=G;obtain⟨c,i,J,_⟩:=I.tuple (SqT.of w);have L:=i.length;obtain⟨⟨c1,j,k1,l⟩,d,A,n,B⟩:=id J;simp only at A B;subst A B;have C: ¬(decide (((k+1:Nat):Int)< -(2 ^ 63)) || decide (((k+1:Nat):Int)≥2 ^ 63))=true:=by
  simp only[Bool.or_eq_true,decide_eq_true_eq];lia
 have hz:(k+1) * c.length<=1001 * 1000:=Nat.mul_le_mul (by lia) (by lia);refine wpAny_binaryOp_repeat_ref (T:="tuple") (U:="int") (by decide) ⟨_,d,rfl⟩ (λM=>tT M _ t) KY F.fills_int_mul wq Hq F.slot_int_index.lookup
  (mQ wq (tT s _ t) F.entry_int_rmul (F.args_int_rmul_2 _ _) (Ge _ t a c.toArray n j l) ⟨d,rfl,⟨_,d,rfl⟩,?_⟩)
 by_cases g:(c.toArray.isEmpty || ((k+1:Nat):Int)==1)=true
 .refine mQ F.slot_tuple_mul ⟨_,d,rfl⟩ F.entry_tuple_mul (F.args_tuple_mul_2 _ _) (Gz a c.toArray n j l _ t C g) ⟨d,⟨.ref a,H,I,rfl,q a H (Same.refl H) ?_⟩⟩;have e:(List.replicate (k+1) f).flatten=f:=by
   rcases Bool.or_eq_true_iff.mp g with z|z
   .have p:c=[]:=by simpa using z
    have N:f=[]:=i.nil_iff.mp p;rw[N];simp
   .have p:k=0:=by
     have:=eq_of_beq z;lia
    subst p;simp
  rw[e];exact w
 .have r:c≠[]:=λz=>g (by rw[z];rfl);have D: ∀m:Nat,List.foldl (λO Y=>O++Y) #[] (List.replicate m c.toArray)=(List.replicate m c).flatten.toArray:=λm=>by
   have:=AI c m [];rw[ub]at this;exact this
  have hl:((List.replicate (k+1) c).flatten).length=(k+1) * c.length:=yK c (k+1);refine mQ F.slot_tuple_mul ⟨_,d,rfl⟩ F.entry_tuple_mul (F.args_tuple_mul_2 _ _) (Js a c.toArray n j l _ t C g (by simp only[Bool.or_eq_true,decide_eq_true_eq];intro z;rcases z with z|z;lia;exact r (by simpa using z)) ?_ ?_ ?_) ⟨d,?_⟩
  .rw[dW];have:((c.length:Int) * ((k+1:Nat):Int))=(((k+1) * c.length:Nat):Int):=by rw[Int.natCast_mul,Int.mul_comm]
   lia
  .unfold Builtin.Tuple.tupleTooMany;rw[decide_eq_true_eq,dW,db];have:((c.length:Int) * ((k+1:Nat):Int))=(((k+1) * c.length:Nat):Int):=by rw[Int.natCast_mul,Int.mul_comm]
   lia
  .rw[gb,D,dW,hl,db];lia
  .rw[gb,D];refine⟨.ref s.heap.objs.size,_,I.laid (t':=s.toks) (o:= .tup (List.replicate (k+1) f).flatten) (λb ob z=>dj _ z) (cD _) ?_,rfl,q _ _ (cB (I.hok.fresh (cD _)) _) cn⟩;exact⟨by rw[yK,db,L];lia,_,i.rep (k+1),TupD.new _ _⟩
end
end L2
namespace L2
open PySem PySem.Spec PyProof.Rows
section
variable{X:Cx}
def zF(K:W.Frag):List V->Hp->VK->Prop:=λa H Q=> ∃(p:Ad) (bs:List Bool),a=[.ref p]/\SqL K H p (bs.map V.bl)/\Q (.bl (bs.all id)) H
def LI(n:X.calm=true):gv X (.builtin "all") (zF X.K):=by
 intro G s J H L M Q I r h;obtain⟨p,bs,rfl,t,q⟩:=h;obtain⟨u,rfl,w⟩:=gc r;cases w;obtain⟨a,g,j,_⟩:=I.list t;have k:=j.isList;have f:p<s.heap.objs.size:=j.lt;have c:a.length=bs.length:=by rw[<-g.length,cj]
 refine call_all_walk (xE k ⟨_,_,_,_,_,_,λi=>bs.getD i false,rfl,Walks.list (A:=X.A.in1) (I.ok.hd n) _ p (dH f) a.toArray,⟨⟨_,dZ _ rfl,rfl,rfl⟩,k.push _⟩,?_,λN O y=>?_⟩)
 .intro i v T U Y B C;have d:a[i]? =some v:=by simpa using B
  have l:i<bs.length:=by rw[<-c];exact(cA.mp d).1
  obtain⟨u2,m,D⟩:=g.get (i:=i) (x:= .bl (bs.getD i false)) (by rw[cF,ck l,dI,ck l];rfl);rw[d]at m;cases m;cases(show v=Value.bool _ from D);exact mX C
 .have e:(List.range a.toArray.size).all (λi=>bs.getD i false)=bs.all id:=by
   rw[dW,c];have:bs=(List.range bs.length).map λi=>bs.getD i false:=by
    refine An (by simp) λi E h2=>?_;simp[List.getD_eq_getElem?_getD,E]
   conv=>rhs;rw[this,List.all_map]
   rfl
  rw[e];exact⟨.bl (bs.all id),H,I.kept λb o z=>y b o (by simp only[List.mem_singleton];exact Nat.ne_of_lt (Heap.lt_size z)) (Heap.get?_push_of_some _ z),rfl,q⟩
end
structure PL(X:Cx)(es:List Expr)(t:TA):Prop where
 pa:PA X es t
section
variable{X:Cx}{e a b:Expr}{es:List Expr}{te ta tb:TE}{t:TA}{pos:Pos}
def c8:PL X [] iH:=⟨cz⟩
def cq(c:PE X e te)(d:PL X es t)(f:starEach (e::es) X.env=(false,eval e X.env)::starEach es X.env):PL X (e::es) (i0 te t):=⟨cE c d.pa f⟩
def c7(h:PL X es t):PA X es t:=h.pa
end
def uA(op:CmpOp)(A:Ar)(s:Sh)(x y:Vl)(r:Bool):Prop:=
 ∀(P:Pg) (w:World) (E:VP) (Q:VP),Q (.bool r) s->wpAny (model P w) A (richCompare op x y) Q E s
inductive Cmp (op:CmpOp) (A:Ar) (s:Sh):List (Vl×Vl)->Option Bool->Prop where
 |nil:Cmp op A s [] none
 |eq {x y zs o}:SeqAt.EqAt A s x y true->Cmp op A s zs o->Cmp op A s ((x,y)::zs) o
 |ne {x y zs r}:SeqAt.EqAt A s x y false->uA op A s x y r->Cmp op A s ((x,y)::zs) (some r)
def SeqObj(c:String)(h:Heap)(a:Ad)(b:Vs):Prop:= ∃n d sl,h.get? a=some ⟨.type c,d,.seq b.toArray n,sl⟩
section
variable{P:Pg}{w:World}{A:Ar}{E:VP}{s:Sh}{op:CmpOp}
def Mp{g:Type}{f:Vl×Vl->g->Sem (ForInStep g)}{a:g}{Q:g->Sh->Prop}{zs:List (Vl×Vl)}{o:Option Bool}(h:Cmp op A s zs o)
  (i: ∀x y Q,SeqAt.EqAt A s x y true->Q (.yield a) s->wpAny (model P w) A (f (x,y) a) Q E s)
  (no: ∀x y r,SeqAt.EqAt A s x y false->uA op A s x y r->o=some r->wpAny (model P w) A (f (x,y) a) (λt d=>match t with| .yield _=>False| .done b=>Q b d) E s)
  (fin:o=none->Q a s):wpAny (model P w) A (forIn zs a f) Q E s:=by
 refine wpAny_forIn_list f (λrest b d=>b=a/\d=s/\Cmp op A s rest o) Q (λz rest b d q=>?_) (λb d q=>?_) zs a ⟨rfl,rfl,h⟩
 .obtain⟨rfl,rfl,c⟩:=q;cases c with
  |eq e c=>exact i _ _ _ e ⟨rfl,rfl,c⟩
  |ne e c=>
   refine gq (no _ _ _ e c rfl) (λt j z=>?_) λ_ _ z=>z;cases t with
   |yield _=>exact z.elim
   |done _=>exact z
 .obtain⟨rfl,rfl,c⟩:=q;cases c;exact fin rfl
end
section
open AutoSeq1
open MeetsSeq MeetsSeq2 MeetsSeq3 SeqRoads2 SeqAt
variable{l b:Ad}{xs ys:Vs}
def MC:Meets (Builtin.«tuple.__lt__» ⟨[.ref l,.ref b],[]⟩) (λA R s=>SeqObj "tuple" s.heap l xs/\SeqObj "tuple" s.heap b ys/\ ∃o,Cmp .Lt A.in1 s (xs.zip ys) o/\R (.ok (.ret (.bool (o.getD (decide (xs.length<ys.length)))))) s):=by
 refine .of_wp λP w A R ⟨h,i,j,k,os⟩ ⟨⟨n,p,sl,a⟩,⟨m,t,tl,d⟩,o,c,q⟩=>?_;have sub:=AutoSeq1.sub_tuple_tuple
 wp_walk using kS a,kS d
 refine Mp c (λx y Q e z=>?_) (λx y r e f z=>?_) (λz=>?_)
 .refine ci (e P w _ _ ?_)
  wp_walk
  exact z
 .refine ci (e P w _ _ ?_);generalize g:richCompare .Lt x y=ask
  wp_walk
  subst g;refine f P w _ _ ?_
  wp_walk
  subst z;exact⟨_,rfl,q⟩
 .subst z
  wp_walk
  exact⟨_,rfl,by simpa[Builtin.Tuple.tupleCompareSizes]using q⟩
end
def fL:cf->List Nat->Option Bool
 |a::c,b::d=>if a=b then fL c d else some (decide (a<b))
 |_,_=>none
def dM(a b:cf):Bool:=(fL a b).getD (decide (a.length<b.length))
def mT(b:cf):dM b b=false:=by
 have no:fL b b=none:=by
  induction b with
  |nil=>rfl
  |cons a b c=>rw[fL,wB rfl,c]
 unfold dM;rw[no];simp
section
variable{A:Ar}{s:Sh}{l b:Ad}{xs ys:Vs}{o:Option Bool}
def IK{i j:Int}{t u:Tok}:uA .Lt A s (.int i t) (.int j u) (decide (i<j)):=λP w E Q q=>show wpAny _ _ (compareOp .Lt _ _) _ _ _ from PyProof.Rows.lt_int q
def eZ{i j:Int}{t u:Tok}:SeqAt.EqAt A s (.int i t) (.int j u) (decide (i=j)):=by
 have z:=u0 (A:=A) (s:=s) (y:= .int i) (x:= .int j) (u:= .int i t) (v:= .int j u) ⟨t,rfl⟩ ⟨u,rfl⟩ rfl rfl;have e:jr (.int i) (.int j)=decide (i=j):=by
  show(i==j)=_;by_cases h:i=j<;>simp[h]
 rwa[e]at z
theorem Cg{op:CmpOp}{F:Bool->Bool}(d: ∀(i j:Nat) (t u:Tok),i≠j->uA op A s (.int (i:Int) t) (.int (j:Int) u) (F (decide (i<j)))):
  ∀{c a:cf} {xs ys:Vs},Vals (c.map nv) xs->Vals (a.map nv) ys->Cmp op A s (xs.zip ys) ((fL c a).map F)
 | [],a,_,_,.nil,_=>by rw[List.zip_nil_left,show fL [] a=none by cases a<;>rfl];exact .nil
 |n::c,[],_,_,.cons _ _,.nil=>by rw[List.zip_nil_right];exact .nil
 | n::c,m::a,_,_,.cons ⟨t,f⟩ g,.cons ⟨u,h⟩ k=>by
  subst f h;have z:=eZ (A:=A) (s:=s) (i:=(n:Int)) (j:=(m:Int)) (t:=t) (u:=u);by_cases e:n=m
  .rw[dD (by lia)]at z;rw[fL,wB e];exact .eq z (Cg d g k)
  .rw[d9 (by lia)]at z;rw[fL,wA e];exact .ne z (d n m t u e)
def L7{a c:cf}(d:Vals (a.map nv) xs)(f:Vals (c.map nv) ys):Cmp .Lt A s (xs.zip ys) (fL a c):=by
 have z:=Cg (A:=A) (s:=s) (op:= .Lt) (F:=λb=>b) (λi j t u _=>by
  have e:decide ((i:Int)<(j:Int))=decide (i<j):=by simp
  exact e▸IK) d f
 rwa[Option.map_id']at z
def Hh(h:s.heap.IsTuple l xs.toArray):SeqObj "tuple" s.heap l xs:=by
 obtain⟨⟨c,a,g,sl⟩,e,d,n,f⟩:=h;cases d;cases f;exact⟨n,a,sl,e⟩
def SeqObj.ty{c:String}(h:SeqObj c s.heap l xs):s.TypeIs (.ref l) c:=let⟨_,_,_,e⟩:=h;⟨_,e,rfl⟩
def Kv(a:SeqObj "tuple" s.heap l xs)(d:SeqObj "tuple" s.heap b ys)(e:A.units<cLine)(c:Cmp .Lt A.in1 s (xs.zip ys) o):uA .Lt A s (.ref l) (.ref b) (o.getD (decide (xs.length<ys.length))):=λP w E Q q=>
 richCompare_meets_room (op:= .Lt) a.ty d.ty F.slot_tuple_lt F.entry_tuple_lt (F.args_tuple_lt_2 _ _) MC ⟨a,d,o,c,(λz=>nomatch z),q⟩ e
end
section
variable{X:Cx}
def oR(i:Int)(a:cf)(j:Int)(b:cf):Bool:=if i=j then dM a b else decide (i<j)
end
def cC(m:Nat):cf:=(List.range 5).filter λi=>m.testBit i
def fG(led:Bool)(a:cf):SetTable:={mask:=if a.length=5 then 31 else 7,place:=a.toArray,dummies:= #[],finger:=0,led,moves:=if a.length=5 then 1 else 0,plain:=true}
def jv(a:cf)(k:Nat):Nat:=(a.filter (· <k)).length
def i3(a:Bool)(m k:Nat):SetTable:={fG a (cC m)with place:=(cC (m |||2 ^ k)).toArray}
def sj: ∀(a:Bool) (m:Fin 32),(fG a (cC m)).fits (cC m).length=true:=by decide+kernel
def FS: ∀(a:Bool) (m:Fin 32) (k:Fin 5),(m:Nat).testBit k=false->(fG a (cC m)).freeSlot ((k:Nat):Int)=some ((k:Nat),false):=by decide+kernel
def IB: ∀(a:Bool) (m:Fin 32) (k:Fin 5),(m:Nat).testBit k=false->(fG a (cC m)).put k=(i3 a m k,jv (cC m) k)/\(i3 a m k).fits ((cC m).length+1)=true:=by decide+kernel
def Gy: ∀(m:Fin 32) (k:Fin 5),(m:Nat).testBit k=false->cC (m |||2 ^ (k:Nat))=(cC m).take (jv (cC m) k)++(k:Nat)::(cC m).drop (jv (cC m) k):=by decide+kernel
def Gx: ∀(m:Fin 32) (k:Fin 5),(k:Nat)∈cC m->(m |||2 ^ (k:Nat):Nat)=m:=by decide+kernel
def Jz: ∀(m:Fin 32) (k:Fin 5),(k:Nat)∉cC m->(m:Nat).testBit k=false:=by decide+kernel
def Fs: ∀(m:Fin 32) (k:Fin 5),(m |||2 ^ (k:Nat):Nat)<32:=by decide+kernel
def sn: ∀m:Fin 32,(cC m).length<=5:=by decide+kernel
def HX: ∀(a:Bool) (m:Fin 32) (k:Fin 5),(m:Nat).testBit k=false->(cC m).length≠4->i3 a m k=fG a (cC (m |||2 ^ (k:Nat)))/\(i3 a m k).tooFull=false:=by decide+kernel
def IH: ∀(a:Bool) (m:Fin 32) (k:Fin 5),(m:Nat).testBit k=false->(cC m).length=4->(i3 a m k).tooFull=true/\
  (i3 a m k).relaid #[0,1,2,3,4] (SetTable.grown 5)=some (fG a (cC (m |||2 ^ (k:Nat))),#[0,1,2,3,4])/\cC (m |||2 ^ (k:Nat))=[0,1,2,3,4]/\(fG a (cC (m |||2 ^ (k:Nat)))).fits 5=true:=by decide+kernel
def yU: ∀k:Fin 5,hashInt ((k:Nat):Int)=((k:Nat):Int):=by decide+kernel
def Ents:cf->List (Int×Vl)->Prop:=Paired λn e=>e.1=(n:Int)/\ ∃t,e.2= .int (n:Int) t
def jw(a:List (Int×Vl))(b:Nat)(t:SetTable):Obj:={cls:= .type "set",data:= .set a.toArray b t}
def IsSet5(h:Heap)(a:Ad)(b:Bool)(m:Nat):Prop:=m<32/\ ∃c d,h.get? a=some (jw c d (fG b (cC m)))/\Ents (cC m) c
theorem Ents.take: ∀{a:cf} {b:List (Int×Vl)} (p:Nat),Ents a b->Ents (a.take p) (b.take p)
 |_,_,0,_=> .nil
 |_,_,_+1,.nil=> .nil
 |_,_,p+1,.cons r t=> .cons r (Ents.take p t)
theorem Ents.drop: ∀{a:cf} {b:List (Int×Vl)} (p:Nat),Ents a b->Ents (a.drop p) (b.drop p)
 |_,_,0,r=>r
 |_,_,_+1,.nil=> .nil
 |_,_,p+1,.cons _ t=>Ents.drop p t
theorem Ents.app: ∀{a b:cf} {c fs:List (Int×Vl)},Ents a c->Ents b fs->Ents (a++b) (c++fs)
 |_,_,_,_,.nil,r=>r
 |_,_,_,_,.cons q t,r=> .cons q (Ents.app t r)
def Ents.len{a:cf}{b:List (Int×Vl)}(h:Ents a b):b.length=a.length:=(lV h).symm
theorem Ents.keys: ∀{a:cf} {b:List (Int×Vl)},Ents a b->b.map (·.1)=a.map λ(n:Nat)=>(n:Int)
 |_,_,.nil=>rfl
 |_,_,.cons q t=>by rw[fM,fM,q.1,Ents.keys t]
theorem Ents.mem: ∀{a:cf} {b:List (Int×Vl)} {e:Int×Vl},Ents a b->e∈b-> ∃n∈a,e.1=(n:Int)/\ ∃t,e.2= .int (n:Int) t
 | _,_,_,.cons q t,h=>by
  rcases dE.mp h with z|z
  .subst z;exact⟨_,dC,q⟩
  .obtain⟨n,c,d⟩:=Ents.mem t z;exact⟨n,eO _ c,d⟩
theorem Ents.has: ∀{a:cf} {b:List (Int×Vl)} {n:Nat},Ents a b->n∈a-> ∃e∈b,∃t,e.2= .int (n:Int) t
 | _,_,_,.cons q t,h=>by
  rcases dE.mp h with z|z
  .subst z;exact⟨_,dC,q.2⟩
  .obtain⟨e,c,d⟩:=Ents.has t z;exact⟨e,eO _ c,d⟩
def Ents.elems{P:Pg}{w:World}{m:Fin 32}{b:List (Int×Vl)}(h:Ents (cC m) b):ElemsOf (intKind P w) b:=λe d=>by
 obtain⟨n,f,g,t,c⟩:=h.mem d;have a:n<5:=eE.mp (dq.mp f).1;exact⟨⟨(n:Int),by rw[c];exact qf _ _ _ _,by rw[g];exact(yU ⟨n,a⟩).symm⟩,by rw[c];rfl⟩
def GF{b:Type}(a:List b)(p:Nat)(x:b):(SetTable.insertAt a.toArray p x)=(a.take p++x::a.drop p).toArray:=by
 unfold SetTable.insertAt;apply Array.ext';simp;exact xg (by simp)
section
variable{P:Pg}{w:World}{A:Ar}{E:VP}{s:Sh}{a:Ad}{led:Bool}{m k:Nat}{t:Tok}
def C1{h:Heap}{c fs:List (Int×Vl)}{b:Nat}{t u:SetTable}(e:h.get? a=some (jw c b t)):(h.update a (Obj.putSet fs.toArray u)).get? a=some (jw fs (b+1) u):=pX _ e rfl
def uE{b:Type}{fs:List b}{n:Nat}(h:fs.length=n+1): ∃a r,fs=a::r/\r.length=n:=by
 cases fs with
 |nil=>cases h
 |cons a r=>exact⟨a,r,rfl,Nat.succ.inj h⟩
def tz{b:Type}{fs:List b}(h:fs.length=5):(#[0,1,2,3,4]:Array Nat).filterMap (fs.toArray[·]?)=fs.toArray:=by
 obtain⟨_,_,rfl,c⟩:=uE h;obtain⟨_,_,rfl,d⟩:=uE c;obtain⟨_,_,rfl,e⟩:=uE d;obtain⟨_,_,rfl,f⟩:=uE e;obtain⟨_,_,rfl,g⟩:=uE f;cases m7.mp g;rfl
def HD{Q:Sh->Prop}(i:k<5)(hS:IsSet5 s.heap a led m)(q: ∀D,IsSet5 D a led (m |||2 ^ k)->Heap.SameBut a s.heap D->Q {s with heap:=D}):
  wpAny (model P w) A (setAddHashed a (.int (k:Int) t) (k:Int)) (λ_ s'=>Q s') E s:=by
 obtain⟨d,b,G,e,p⟩:=hS;have H:=p.len;have I:=sj led ⟨m,d⟩;have Y:ElemsOf (intKind P w) b.toArray.toList:=Ents.elems (m:=⟨m,d⟩) p;have m5:(cC m).length<=5:=sn ⟨m,d⟩;have o:(fG led (cC m)).fits b.toArray.size=true:=by rw[dW,H];exact I
 have sc:byScan (.int (k:Int) t) b.toArray=true:=by
  unfold byScan;have e3:b.toArray.all (·.2.scannable)=true:=by
   rw[Array.all_eq_true_iff_forall_mem];exact λx J=>(Y x (by simpa using J)).2
  rw[e3];have e4:decide (b.toArray.size<scanBound)=true:=dD (by rw[dW,H];unfold scanBound;lia);rw[e4];rfl
 have hh:(intKind P w).hash (k:Int)=(k:Int):=yU ⟨k,i⟩;unfold setAddHashed setAddHashedIn;refine gQ (ci (n9 e rfl o ?_));dsimp only;rw[sc,wB rfl];unfold setAddByScan;refine ci (ci (lZ (ci ?_)));have scan: ∀{R:ScanMet->Sh->Prop},R (match b.toArray.toList.findIdx? (λe=>(intKind P w).is (k:Int) e.2)with|some j=> .found (0+j)|none=> .absent) s->wpAny (model P w) A (setScan a (.int (k:Int) t) (k:Int) true b.toArray) R E s:=λz=>by
  have y:=wpAny_setScan_of (prog:=P) (w:=w) (A:=A) (E:=E) (knd:=intKind P w) (k:=(k:Int)) (x:= .int (k:Int) t) (adding:=true) (qf _ _ _ _) e rfl o Y z;rw[hh]at y;exact y
 refine scan ?_;rw[vB];by_cases l:k∈cC m
 .obtain⟨x,J,tx,ex⟩:=p.has l;cases L:b.findIdx? λe=>(intKind P w).is (k:Int) e.2 with
  |none=>
   have z:=List.findIdx?_eq_none_iff.mp L x J;rw[ex,qf]at z;cases z
  |some j=>
   refine cu (cu ?_);have z:=q s.heap (by rw[Gx ⟨m,d⟩ ⟨k,i⟩ l];exact⟨d,b,G,e,p⟩) (Heap.SameBut.refl a s.heap);cases s;exact z
 .have v:=Jz ⟨m,d⟩ ⟨k,i⟩ l;cases L:b.findIdx? λe=>(intKind P w).is (k:Int) e.2 with
  |some j=>
   obtain⟨hj,B,_⟩:=List.findIdx?_eq_some_iff_getElem.mp L;obtain⟨n,hn,_,tn,M⟩:=p.mem (iZ hj);rw[M]at B;have z:(k:Int)=(n:Int):=(intKind P w).inj _ _ _ B (qf _ _ _ tn);have z':k=n:=by lia
   exact wC (z'▸hn) l
  | none=>
   obtain⟨pu,pf⟩:=IB led ⟨m,d⟩ ⟨k,i⟩ v;have sa:=Gy ⟨m,d⟩ ⟨k,i⟩ v;have c:=Fs ⟨m,d⟩ ⟨k,i⟩;dsimp only at pu pf sa c;have f:Ents (cC (m |||2 ^ k)) (b.take (jv (cC m) k)++((k:Int),Value.int (k:Int) t)::b.drop (jv (cC m) k)):=by
    rw[sa];exact(p.take _).app (.cons ⟨rfl,t,rfl⟩ (p.drop _))
   have lY:layNew (fG led (cC m)) b.toArray (k:Int) (.int (k:Int) t)=((b.take (jv (cC m) k)++((k:Int),Value.int (k:Int) t)::b.drop (jv (cC m) k)).toArray,i3 led m k,false,false):=by
    unfold layNew;rw[FS led ⟨m,d⟩ ⟨k,i⟩ v];dsimp only;rw[pu];dsimp only;rw[GF];have sz:(b.take (jv (cC m) k)++((k:Int),Value.int (k:Int) t)::b.drop (jv (cC m) k)).toArray.size=(cC m).length+1:=by
     rw[dW,dz,i9,eF,oj,H];lia
    rw[sz];unfold SetTable.orStandIn;rw[pf];rfl
   generalize b.take (jv (cC m) k)++((k:Int),Value.int (k:Int) t)::b.drop (jv (cC m) k)=fs at f lY;have lf:=f.len;have f5:fs.length<=5:=by rw[lf];exact sn ⟨_,c⟩
   dsimp only;rw[lY];dsimp only;refine ci (show wpAny _ _ (pure ()) _ _ _ from cu ?_);refine ci (show wpAny _ _ (pure true) _ _ _ from cu ?_);refine ci (wpAny_storeSet_of e rfl ?_ (by rw[dW,db];lia));have N:=C1 (h:=s.heap) (fs:=fs) (u:=i3 led m k) e;have g:Heap.SameBut a s.heap (s.heap.update a (Obj.putSet fs.toArray (i3 led m k))):=Heap.SameBut.update ..;by_cases h4:(cC m).length=4
   .obtain⟨C,rl,O,ff⟩:=IH led ⟨m,d⟩ ⟨k,i⟩ v h4;dsimp only at C rl O ff;have T:fs.length=5:=by rw[lf,O];rfl
    have ks:fs.toArray.map (·.1)= #[0,1,2,3,4]:=by
     rw[List.map_toArray,f.keys,O];rfl
    have pick:(#[0,1,2,3,4]:Array Nat).filterMap (fs.toArray[·]?)=fs.toArray:=tz T;have U:relayAll (i3 led m k) fs.toArray (SetTable.grown fs.toArray.size)=(fs.toArray,fG led (cC (m |||2 ^ k)),false):=by
     unfold relayAll;rw[ks,dW,T,rl];dsimp only;rw[pick,dW,T,ff,Bool.and_true,wB (by decide+kernel)]
    show wpAny _ _ (if(!false&&(i3 led m k).tooFull)=true then _ else _) _ _ _;rw[C,wB (by decide)];simp only[if_true];rw[U];dsimp only;refine ci (show wpAny _ _ (pure ()) _ _ _ from cu ?_);refine ci (wpAny_storeSet_of N rfl ?_ (by rw[dW,db];lia));have M:=C1 (fs:=fs) (u:=fG led (cC (m |||2 ^ k))) N;have r:=Heap.SameBut.trans g (Heap.SameBut.update (s.heap.update a (Obj.putSet fs.toArray (i3 led m k))) a (Obj.putSet fs.toArray (fG led (cC (m |||2 ^ k)))));exact cu (cu (q _ ⟨c,fs,G+1+1,M,f⟩ r))
   .obtain⟨te,C⟩:=HX led ⟨m,d⟩ ⟨k,i⟩ v h4;dsimp only at te C;show wpAny _ _ (if(!false&&(i3 led m k).tooFull)=true then _ else _) _ _ _
    rw[C,wA (by decide)];refine cu (cu (q _ ⟨c,fs,G+1,?_,f⟩ g));rw[<-te];exact N
end
def j3(m:Nat)(a:cf):Nat:=a.foldl (λm n=>m |||2 ^ n) m
section
variable{P:Pg}{w:World}{A:Ar}{E:VP}{S it l:Ad}{led:Bool}{ns:cf}{vs:Vs}
theorem Ey{R:Result->Sh->Prop}(L:A.handled=none)(g:S≠it)(M:S≠l)(N:it≠l)(p:Vals (ns.map nv) vs)(O: ∀n∈ns,n<5):
  ∀(rest:cf) (i m:Nat) (s:Sh),ns.drop i=rest->s.heap.IsListIter it l i->s.heap.IsList l vs.toArray->IsSet5 s.heap S led m->
   (∀a r,IsSet5 a S led (j3 m rest)->(∀b o,b≠S->b≠it->s.heap.get? b=some o->a.get? b=some o)->R (.ok (.ret .none)) {s with heap:=a,toks:=r})->
   codeAny (model P w) A (.builtin "set.update.loop" ⟨[.ref S,.ref it],[]⟩) R s
 | [],i,m,s,h,v,j,y,q=>by
  have Q:vs.length<=i:=by
   have T:vs.length=ns.length:=by simpa using p.length.symm
   have z:=List.drop_eq_nil_iff.mp h;lia
  refine lM u5 ?_;rw[nR pE _];show wpAny _ A.in1 (pyNext (.ref it) >>= _) _ _ s;refine ci (wpAny_pyNext_list_end (by simpa using L) v j (by simp;lia) λa keep=>?_);refine cu (q a s.toks ?_ λb o _ z e=>keep b o z e);obtain⟨B,C,D,e,G⟩:=y;exact⟨B,C,D,keep _ _ g e,G⟩
 | n::rest,i,m,s,h,v,j,y,q=>by
  have f:ns[i]? =some n:=by rw[<-List.head?_drop,h];rfl
  have next:ns.drop (i+1)=rest:=by rw[<-List.tail_drop,h];rfl
  have U:=O n (cK f);obtain⟨u,hu,t,rfl⟩:=p.get (i:=i) (x:=nv n) (by rw[cF,f];rfl);refine lM u5 ?_;rw[nR pE _];show wpAny _ A.in1 (pyNext (.ref it) >>= _) _ _ s;refine ci (wpAny_pyNext_list_item v j (x:= .int (n:Int) t) (by simpa using hu) λT kh c=>?_);show wpAny _ A.in1 (holding [Value.int (n:Int) t] (setAdd S (.int (n:Int) t)) >>= _) _ _ _;refine ci (gQ ?_);unfold setAdd;refine gQ (ci ((intKind P w).pyHash (k:=(n:Int)) (qf _ _ _ _) ?_));rw[show(intKind P w).hash (n:Int)=(n:Int)from yU ⟨n,U⟩];have H:IsSet5 T S led m:=by
   obtain⟨B,C,D,e,G⟩:=y;exact⟨B,C,D,c.extBut _ _ g e,G⟩
  refine HD U H λz I d=>?_;refine cu ⟨oY pE _,Ey L g M N p O rest (i+1) (m |||2 ^ n) _ next (kh.extBut d.extBut g.symm) ((j.extBut c.extBut N.symm).extBut d.extBut M.symm) I λa r J keep=>?_⟩;exact q a r J λb o Y b2 e=>keep b o Y b2 (d.extBut _ _ Y (c.extBut _ _ b2 e))
def Jd{s:Sh}{x:Vl}{Q:VP}(q:Q (.ref s.heap.objs.size) {s with heap:=s.heap.push (jw [] 0 (fG (!w.params.followText "set-order") []))}):
  codeAny (model P w) A (.call (.builtin "set.__new__") ⟨[.type "set",x],[]⟩) (wants Q E) s:=by
 refine Ak ?_;show wpAny _ A.in1 (checkBuiltinCall "set.__new__" ⟨[.type "set",x],[]⟩ >>= λ_=>again (.builtin "set.__new__" ⟨[.type "set",x],[]⟩)) _ _ s;refine ci (vf (F.newCall_set_1 x) (cu ⟨oY F.plain_set_new _,lM F.entry_set_new ?_⟩));rw[nR F.plain_set_new _];have sub:=sub_set_self;unfold Builtin.«set.__new__» Builtin.Frozenset.newClass
 wp_walk
 refine tj (cu ?_);dsimp only;simp only[newObj];refine ci (wpAny_alloc (cu (cu ?_)));exact q
abbrev sH(led:Bool):Obj:={cls:= .type "set",dict:=none,data:= .set #[] 0 (.fresh 0 0 led)}
set_option maxHeartbeats 4000000 in
def Ks{h:Heap}{f:Array GenState}{i:Drawn}{k:Nat}{os:OsState}{R:PySem.Fin->Sh->Prop}(u:A.handled=none)(j:h.IsList l vs.toArray)(v:Vals (ns.map nv) vs)(x: ∀n∈ns,n<5)
  (q: ∀a d,IsSet5 a h.objs.size led (j3 0 ns)->(∀b o,h.get? b=some o->a.get? b=some o)->R (.done (.ret .none)) ⟨a,f,i,d,os⟩):
  wpAny (model P w) A (Builtin.«set.__init__» ⟨[.ref h.objs.size,.ref l],[]⟩) R E ⟨h.push (sH led),f,i,k,os⟩:=by
 obtain⟨⟨G,dl,y,sl⟩,m,p,z,r⟩:=id j;simp only at p r;subst p r;have H:(h.push (sH led)).get? l=some ⟨.type "list",dl,.seq vs.toArray z,sl⟩:=dj _ m;have B:(h.push (sH led)).get? h.objs.size=some {cls:= .type "set",dict:=none,data:= .set #[] 0 (.fresh 0 0 led)}:=dZ _ rfl;have I:=F.sub_list_set;have J:=F.sub_list_frozenset;have L:(Value.type "list"==Value.type "dict")=false:=by decide
 unfold Builtin.«set.__init__» noKeywords Builtin.Frozenset.updateFrom;generalize g:pyIter=s
 wp_walk
 subst g;have c:(h.push (sH led)).IsList l vs.toArray:=j.push _;refine xE c (ci (wpAny_runValue ?_));have lt:l<h.objs.size:=cU m;have sz:(h.push (sH led)).objs.size=h.objs.size+1:=oi ..;refine Ey (vs:=vs) (led:=led) (by simpa using u) (by rw[sz];exact Nat.ne_of_lt (Nat.lt_succ_self _)) (Nat.ne_of_gt lt) (by rw[sz];exact Nat.ne_of_gt (Nat.lt_succ_of_lt lt)) v x ns 0 0 _ rfl ⟨_,Heap.get?_push_size _ rfl,rfl,rfl⟩ (c.push _) ⟨by decide,[],0,Heap.get?_push_of_some _ B,.nil⟩ λa d C D=>?_;refine cu (cu (q a d C λb o e=>?_));have t:=cU e;exact D b o (dH t) (by rw[sz];exact dH (sf t)) (dj _ (dj _ e))
def GL{s:Sh}{Q:VP}(y:A.handled=none)(t:s.heap.IsList l vs.toArray)(B:Vals (ns.map nv) vs)(C: ∀n∈ns,n<5)
  (q: ∀a d,IsSet5 a s.heap.objs.size (!w.params.followText "set-order") (j3 0 ns)->(∀b o,s.heap.get? b=some o->a.get? b=some o)->Q (.ref s.heap.objs.size) {s with heap:=a,toks:=d}):
  wpAny (model P w) A (call (.type "set") [.ref l]) Q E s:=by
 have lt:l<s.heap.objs.size:=let⟨_,e,_⟩:=t;cU e
 obtain⟨c,tl,D⟩:=ie.mro;have made:=ie.made;have sub:=ie.sub;have g:=ie.notType;have G:=ie.canCreate;have args:=F.typeCall_set_1 (.ref l);have look:=ie.init.lookup;have H:=ie.init.bind (.ref s.heap.objs.size);generalize h:jw [] 0 (fG (!w.params.followText "set-order") [])=i;have I:(s.heap.push i).get? s.heap.objs.size=some i:=dZ _ (by rw[<-h];rfl);have ty:Shared.TypeIs {s with heap:=s.heap.push i} (.ref s.heap.objs.size) "set":=⟨_,I,by rw[<-h];rfl⟩;refine pH (Ak (show wpAny _ _ (callAny (.type "set") _) _ _ _ from cu ⟨Code.quiet_builtin _ (by decide+kernel),lM F.entry_type_call ?_⟩));rw[Around.under_plain (weight_type_call_type "set" [.ref l] []) rfl]
 repeat (any_goals (first|assumption|wp_step))
 refine jq (Jd (w:=w) (E:=E) (Q:=λv u=>v= .ref s.heap.objs.size/\u={s with heap:=s.heap.push i}) (by rw[h];exact⟨rfl,rfl⟩)) λr u z=>?_;cases r with
 |error _=>exact z
 | ok f=>
  cases f<;>first|exact z.elim|skip
  obtain⟨j,k⟩:=z;subst j k
  repeat (any_goals (first|assumption|wp_step))
  refine jq (codeAny_call_builtin (R:=wants (λv x=>v= .none/\ ∃a d,x={s with heap:=a,toks:=d}/\IsSet5 a s.heap.objs.size (!w.params.followText "set-order") (j3 0 ns)/\ ∀b o,s.heap.get? b=some o->a.get? b=some o) E)
   ie.init.plain F.entry_set_init (check_set_init_1 ty ?_)) λr x z=>?_
  .subst h;exact Ks (A:=A.in1.in1) (by simpa using y) t B C λa d m p=>⟨rfl,a,d,rfl,m,p⟩
  .cases r with
   |error _=>exact z
   |ok f=>
    cases f<;>first|exact z.elim|skip
    obtain⟨j,a,d,k,m,p⟩:=z;subst j k
    repeat (any_goals (first|assumption|wp_step))
    exact q a d m p
end
def eB:Slot "set_iterator" "__next__" "set_iterator.__next__":=Slot.of (owner:="set_iterator") (n:="__next__") (by rw[typeLookup_type,builtinLookup_eq_fast];kernel_rfl) (by decide+kernel) (by decide+kernel) (by decide+kernel) (by first|exact .inl (by decide+kernel)|exact .inr (by decide+kernel)) (by rw[isSubtype_type];kernel_rfl)
def DL:Slot "set_iterator" "__iter__" "set_iterator.__iter__":=Slot.of (owner:="set_iterator") (n:="__iter__") (by rw[typeLookup_type,builtinLookup_eq_fast];kernel_rfl) (by decide+kernel) (by decide+kernel) (by decide+kernel) (by first|exact .inl (by decide+kernel)|exact .inr (by decide+kernel)) (by rw[isSubtype_type];kernel_rfl)
def FE:entryFor table "set_iterator.__next__"=some Builtin.«set_iterator.__next__»:=entryFor_of_tree (by kernel_rfl)
def Mo:entryFor table "set_iterator.__iter__"=some Builtin.«dict_keyiterator.__iter__»:=entryFor_alias (id':="dict_keyiterator.__iter__") (by kernel_rfl) (by first|rfl|decide+kernel|(unfold String.splitOn;simp+decide [String.splitOnAux])) (by decide+kernel) (by kernel_rfl)
def IV:entryFor table "set.__iter__"=some Builtin.«frozenset.__iter__»:=entryFor_alias (id':="frozenset.__iter__") (by kernel_rfl) (by first|rfl|decide+kernel|(unfold String.splitOn;simp+decide [String.splitOnAux])) (by decide+kernel) (by kernel_rfl)
def C6(a:Vl):argsOk "set_iterator.__next__" ⟨[a],[]⟩:=by unfold argsOk;kernel_rfl
def Gn(a:Vl):argsOk "set_iterator.__iter__" ⟨[a],[]⟩:=by unfold argsOk;kernel_rfl
theorem Du{c:Type}(f:Nat->Nat): ∀(fuel k:Nat) (left:List c) (b:Array c),left.length=fuel->(pickOrder.go f fuel k left b).toList.Perm (b.toList++left)
 |0,k,left,b,h=>by
  rw[List.eq_nil_of_length_eq_zero h];simp[pickOrder.go]
 | fuel+1,k,left,b,h=>by
  have lt:f k%left.length<left.length:=Nat.mod_lt _ (by lia);unfold pickOrder.go;rw[ck lt];dsimp only;refine(Du f fuel (k+1) (left.eraseIdx (f k%left.length)) (b.push left[f k%left.length]) (by rw[List.length_eraseIdx_of_lt lt];lia)).trans ?_;rw[qi,eX];refine sm _ ?_;rw[List.eraseIdx_eq_take_drop_succ];have e:left=left.take (f k%left.length)++left[f k%left.length]::left.drop (f k%left.length+1):=by
   rw[<-vI lt,lF]
  have z:=(List.perm_middle (a:=left[f k%left.length]) (l₁:=left.take (f k%left.length)) (l₂:=left.drop (f k%left.length+1))).symm;rw[<-e]at z;exact z
def jf(w:World)(a:Ad)(c:Nat)(b:List (Int×Vl)):List (Int×Vl):=if w.params.followText "set-order" then(pickOrder (w.params.setOrder a c) b.toArray).toList else b
def AY(w:World)(a:Ad)(c:Nat)(b:List (Int×Vl)):(jf w a c b).Perm b:=by
 unfold jf;cases w.params.followText "set-order" with
 |true=>
  have z:=Du (w.params.setOrder a c) b.toArray.size 0 b.toArray.toList #[] (by simp);simpa[pickOrder]using z
 |false=>exact List.Perm.refl _
def ja(a:Bool)(b:cf):Nat->Nat
 |0=>0
 |i+1=>if a then 0 else b.getD i 0+1
def Hb: ∀(m:Fin 32) (i:Fin 6),(i:Nat)<=(cC m).length->SetTable.below (cC m).toArray (ja false (cC m) i)=i:=by decide+kernel
def oq(b i n c:Nat)(a:Ad):Obj:={cls:= .type "set_iterator",data:= .fields #[rawInt b,rawInt i,.ref a,rawInt n,rawInt c]}
section
variable{P:Pg}{w:World}{A:Ar}{E:VP}{s:Sh}{a it:Ad}{m ep i:Nat}{es:List (Int×Vl)}
def Fh{Q:Option (Vl×Nat)->Sh->Prop}(d:m<32)(f:s.heap.get? a=some (jw es ep (fG (!w.params.followText "set-order") (cC m))))(g:Ents (cC m) es)(h:i<=(cC m).length)
  (q:Q (((jf w a ep es)[i]?).map λe=>(e.2,ja (w.params.followText "set-order") (cC m) (i+1))) s):wpAny (model P w) A (setNext a (ja (w.params.followText "set-order") (cC m) i) i ep) Q E s:=by
 have k:=g.len;have b:(fG (!w.params.followText "set-order") (cC m)).fits es.toArray.size=true:=by rw[dW,k];exact sj _ ⟨m,d⟩
 have o:(cC m).length<=5:=sn ⟨m,d⟩;unfold setNext setsByText;refine ci (n9 f rfl b ?_);refine ci (ci (tj (cu ?_)));show wpAny _ _ (if w.params.followText "set-order"=true then _ else _) _ _ _;unfold jf at q;generalize l:w.params.followText "set-order"=n at q f b⊢;cases n with
 |true=>
  rw[wB rfl];rw[wB rfl]at q;rw[wA (by simp)];unfold setWalk setsByText;refine ci (ci (n9 f rfl b (ci (ci (tj (cu ?_))))));show wpAny _ _ (if w.params.followText "set-order"=true then _ else _) _ _ _;rw[l,wB rfl];refine ci (tj (cu (cu ?_)));rw[iC]at q;cases i<;>exact q
 | false=>
  rw[wA (by decide)];rw[wA (by decide)]at q;rw[wA (by show ¬((!true&&_)=true);simp)];refine ci ?_;show wpAny _ _ (if(!true&& !es.toArray.isEmpty)=true then _ else _) _ _ _;rw[wA (by simp)];refine cu (cu ?_);show Q (match es.toArray[SetTable.below (cC m).toArray (ja false (cC m) i)]?,(cC m).toArray[SetTable.below (cC m).toArray (ja false (cC m) i)]? with|some (_,x),some j=>some (x,j+1)|_,_=>none) s;rw[Hb ⟨m,d⟩ ⟨i,by lia⟩ h]
  rcases Nat.lt_or_ge i (cC m).length with z|z
  .have c:i<es.length:=by lia
   rw[ck c]at q;simp only[List.getElem?_toArray,List.getElem?_eq_getElem c,List.getElem?_eq_getElem z];have e:ja false (cC m) (i+1)=(cC m)[i]+1:=by
    show(if false=true then 0 else(cC m).getD i 0+1)=_;rw[wA (by decide),dI,ck z];rfl
   rw[e]at q;exact q
  .have c:es.length<=i:=by lia
   rw[hG c]at q;simp only[List.getElem?_toArray,List.getElem?_eq_none c];exact q
end
section
variable{P:Pg}{w:World}{A:Ar}{E:VP}{a it:Ad}{m ep:Nat}{es:List (Int×Vl)}
def F6{s:Sh}{i:Nat}{e:Int×Vl}{Q:Option Vl->Sh->Prop}(n:a≠it)(h:m<32)(j:Ents (cC m) es)(b:s.heap.get? it=some (oq (ja (w.params.followText "set-order") (cC m) i) i (cC m).length ep a))(k:s.heap.get? a=some (jw es ep (fG (!w.params.followText "set-order") (cC m))))
  (o:i<(cC m).length) (p:(jf w a ep es)[i]? =some e)
  (q: ∀c,c.get? it=some (oq (ja (w.params.followText "set-order") (cC m) (i+1)) (i+1) (cC m).length ep a)->Heap.SameBut it s.heap c->Q (some e.2) {s with heap:=c}):wpAny (model P w) A (pyNext (.ref it)) Q E s:=by
 have ty:s.TypeIs (.ref it) "set_iterator":=⟨_,b,rfl⟩;have l:=j.len;have d:(fG (!w.params.followText "set-order") (cC m)).fits es.toArray.size=true:=by rw[dW,l];exact sj _ ⟨m,h⟩
 unfold pyNext;refine ci (nM (oo (name:=Str.ofString "__next__") ty eB (iK eB ty FE ?_ (C6 _))));unfold oq at b;unfold Builtin.«set_iterator.__next__»;refine ci (m:=slotArgs _ _ _) (cu ?_);refine ci (qx b rfl ?_);show wpAny _ _ (setEntries a >>= _) _ _ _;unfold setEntries;refine ci (ci (n9 k rfl d (cu ?_)));have zs:((((es.toArray.size:Nat):Int) != (((cC m).length:Nat):Int)))=false:=by rw[dW,l];simp
 show wpAny _ _ (if((((es.toArray.size:Nat):Int) != (((cC m).length:Nat):Int)))=true then _ else _) _ _ _;rw[zs,wA (by decide)];show wpAny _ _ (setNext a ((ja (w.params.followText "set-order") (cC m) i:Nat):Int).toNat ((i:Nat):Int).toNat ((ep:Nat):Int).toNat >>= _) _ _ _;simp only[Int.toNat_natCast];refine ci (Fh h k j (fj o) ?_);rw[p];show wpAny _ _ (setField (.ref it) 0 (rawInt _) >>= _) _ _ _;refine ci (lB b (by simp) λv r f=>?_);refine ci (lB r (by simp) λt u g=>?_);exact cu ⟨_,rfl,cu (q t u (f.trans g))⟩
def LH{s:Sh}{Q:Option Vl->Sh->Prop}(l:A.handled=none)(n:a≠it)(g:m<32)(h:Ents (cC m) es)(c:s.heap.get? it=some (oq (ja (w.params.followText "set-order") (cC m) (cC m).length) (cC m).length (cC m).length ep a))(i:s.heap.get? a=some (jw es ep (fG (!w.params.followText "set-order") (cC m))))
  (q: ∀j,Heap.ExtBut it s.heap j->Q none {s with heap:=j}):wpAny (model P w) A (pyNext (.ref it)) Q E s:=by
 have ty:s.TypeIs (.ref it) "set_iterator":=⟨_,c,rfl⟩;have k:=h.len;have d:(fG (!w.params.followText "set-order") (cC m)).fits es.toArray.size=true:=by rw[dW,k];exact sj _ ⟨m,g⟩
 have p:(jf w a ep es)[(cC m).length]? =none:=hG (by rw[(AY w a ep es).length_eq];lia);unfold pyNext;refine ci (nM (oo (name:=Str.ofString "__next__") ty eB (iK eB ty FE ?_ (C6 _))));unfold oq at c;unfold Builtin.«set_iterator.__next__»;refine ci (m:=slotArgs _ _ _) (cu ?_);refine ci (qx c rfl ?_);show wpAny _ _ (setEntries a >>= _) _ _ _;unfold setEntries;refine ci (ci (n9 i rfl d (cu ?_)));have zs:((((es.toArray.size:Nat):Int) != (((cC m).length:Nat):Int)))=false:=by rw[dW,k];simp
 show wpAny _ _ (if((((es.toArray.size:Nat):Int) != (((cC m).length:Nat):Int)))=true then _ else _) _ _ _;rw[zs,wA (by decide)];show wpAny _ _ (setNext a ((ja (w.params.followText "set-order") (cC m) (cC m).length:Nat):Int).toNat (((cC m).length:Nat):Int).toNat ((ep:Nat):Int).toNat >>= _) _ _ _;simp only[Int.toNat_natCast];refine ci (Fh g i h (cD _) ?_);rw[p];show wpAny _ _ (setField (.ref it) 2 .none >>= _) _ _ _;refine ci (lB c (by simp) λt u f=>?_);refine ci (m:=newExc _ _) ?_;simp only[newExc,newTuple];refine ci (mh ?_ (by size_fits));refine ci (m:=firstArgMember _ _) (vf (a:=Value.none) (by first|rfl|(unfold firstArgMember;rfl)) (wpAny_newObj_type ?_ (by size_fits)));refine Ae (by simpa using l) (wpAny_bind (wpAny_isInstance (T:="StopIteration") (b:=true) ⟨_,Heap.get?_push_size _ rfl,rfl⟩ isSubtype_stop (wpAny_pure ?_)));exact q _ λb o r e=>dj _ (dj _ (f.extBut b o r e))
def GR(p:A.handled=none)(c:a≠it)(j:m<32)(f:Ents (cC m) es):Walks P w A it [it,a] [it] (cC m).length (λi v=> ∃e,(jf w a ep es)[i]? =some e/\v=e.2)
  (λi h=>h.get? it=some (oq (ja (w.params.followText "set-order") (cC m) i) i (cC m).length ep a)/\h.get? a=some (jw es ep (fG (!w.params.followText "set-order") (cC m)))) where
 sub:=λb r=>dE.mpr (.inl (cW.mp r))
 frame:=λi h d st k=>⟨k it (dC ..) _ st.1,k a (eO _ (cW.mpr rfl)) _ st.2⟩
 item:=λi s Q E t st q=>by
  have y:(jf w a ep es).length=(cC m).length:=by rw[(AY w a ep es).length_eq,f.len]
  obtain⟨e,l⟩: ∃e,(jf w a ep es)[i]? =some e:=⟨_,ck (by lia)⟩;refine F6 c j f st.1 st.2 t l λd u n=>q e.2 d s.toks ⟨e,l,rfl⟩ ⟨u,n.extBut _ _ c st.2⟩ λb o g e=>n.extBut _ _ (λz=>g (cW.mpr z)) e
 done:=λs Q E st q=>LH p c j f st.1 st.2 λd x=>q d s.toks λb o g e=>x b o (λz=>g (cW.mpr z)) e
 self:=λi s Q E st q=>by
  have ty:s.TypeIs (.ref it) "set_iterator":=⟨_,st.1,rfl⟩;refine pR ty DL (iK DL ty Mo ?_ (Gn _));exact show wpAny _ _ (ret (.ref it)) _ _ s from cu ⟨_,rfl,"set_iterator",_,ty,eB.lookup,q⟩
def t5{s:Sh}{Q:VP}(e:m<32)(f:Ents (cC m) es)(c:s.heap.get? a=some (jw es ep (fG (!w.params.followText "set-order") (cC m))))
  (q:Q (.ref s.heap.objs.size) {s with heap:=s.heap.push (oq 0 0 (cC m).length ep a)}):wpAny (model P w) A (pyIter (.ref a)) Q E s:=by
 have ty:s.TypeIs (.ref a) "set":=⟨_,c,rfl⟩;have d:=f.len;have b:(fG (!w.params.followText "set-order") (cC m)).fits es.toArray.size=true:=by rw[dW,d];exact sj _ ⟨m,e⟩
 refine pR ty F.slot_set_iter (iK F.slot_set_iter ty IV ?_ (F.args_set_iter_1 _));unfold Builtin.«frozenset.__iter__»;refine ci (m:=Builtin.Frozenset.slot0 _ _) (cu ?_);unfold Builtin.Frozenset.sizeOf setEntries;refine ci (ci (ci (n9 c rfl b (cu (cu ?_)))));unfold setDrawn setsByText;refine ci (ci (n9 c rfl b (ci (ci (tj (cu (cu ?_)))))));have nd:(!w.params.followText "set-order"&&(!true&&decide (es.toArray.size>1)))=false:=by simp
 show wpAny _ _ (if(!w.params.followText "set-order"&&(!true&&decide (es.toArray.size>1)))=true then _ else _) _ _ _;rw[nd,wA (by decide)];refine ci (cu (ci (wpAny_setEpoch_of c rfl b ?_)));refine ci (m:=newFields _ _) ?_;unfold newFields;refine mh ?_ (by size_fits);rw[<-d]at q;exact cu ⟨_,rfl,"set_iterator",_,⟨_,dZ _ rfl,rfl⟩,eB.lookup,q⟩
def r4{s:Sh}{Q:Bool->Sh->Prop}(ty:s.TypeIs (.ref a) "set")(q:Q false s):wpAny (model P w) A (Builtin.List.listLengthHint (.ref a)) Q E s:=by
 unfold Builtin.List.listLengthHint;refine ci (wpAny_specialOf ty F.slot_set_len.lookup ?_);generalize g:("set.__len__":String)=name
 wp_delta
 rw[show splitId name=some ("set","__len__") by subst g;decide+kernel];subst g;refine ci (wpAny_isInstance (T:="set") (b:=true) ty (by rw[isSubtype_type];kernel_rfl) (Bs (λz=>wC z (by decide)) λ_=>?_));exact Bs (λ_=>ci (wpAny_typeOf ty (cu q))) λz=>wC (by decide+kernel) z
def AB(b:m<32)(c:Ents (cC m) es):PySem.W.KdlSrc P w "set" a a (cC m).length (λi v=> ∃e,(jf w a ep es)[i]? =some e/\v=e.2) (λh=>h.get? a=some (jw es ep (fG (!w.params.followText "set-order") (cC m)))) where
 type:=λ_ e=>⟨_,e,rfl⟩
 there:=λ_ e=>⟨cU e,cU e⟩
 keep:=λ_ _ e k=>k a (.inl rfl) _ e
 notList:=by decide
 notTuple:=by decide
 hint:=λ_ _ _ _ e q=>r4 ⟨_,e,rfl⟩ q
 iter:=λ_ _ d e=>⟨_,_,λ_ _ q=>t5 b c e q,GR d (dH (cU e)) b c,dZ _ rfl,dj _ e⟩
end
def eM(a:cf):cf:=(List.range 5).filter λi=>a.contains i
theorem D0(i:Nat): ∀(ns:cf) (m:Nat),(j3 m ns).testBit i=(m.testBit i || ns.contains i)
 | [],m=>by simp[j3]
 |n::ns,m=>by
  show(j3 (m |||2 ^ n) ns).testBit i=_;rw[D0 i ns,Nat.testBit_or,Nat.testBit_two_pow,List.contains_cons,Bool.or_assoc]
  congr 2
  by_cases h:n=i
  .simp[h]
  .simp[h,Ne.symm h]
def E'(a:cf):cC (j3 0 a)=eM a:=by
 unfold cC eM
 congr 1
 funext i
 rw[D0];simp
def K8(m:Nat):(cC m).Pairwise (· <= ·):=by
 unfold cC;exact List.Pairwise.filter _ (by decide)
theorem Cm: ∀{a:Vs} {is:Zs},IntsAre a is->Vals (is.map V.int) a
 |_,_,.nil=> .nil
 |_,_,.cons n t h=> .cons ⟨t,rfl⟩ (Cm h)
theorem D6: ∀{a:List (Int×Vl)},(∀e∈a,∃t,e.2= .int e.1 t)->IntsAre (a.map (·.2)) (a.map (·.1))
 | [],_=> .nil
 |e::a,h=>by
  obtain⟨t,b⟩:=h e (dC ..);rw[fM,fM,b];exact .cons _ _ (D6 λx c=>h x (eO _ c))
section
variable{P:Pg}{w:World}{A:Ar}{E:VP}{a:Ad}{m:Nat}
def HI{s:Sh}{Q:VP}(M:A.handled=none)(N:IsSet5 s.heap a (!w.params.followText "set-order") m)
  (q: ∀(j r:Heap) u d n,Vals ((cC m).map nv) d->(∀b o,s.heap.get? b=some o->j.get? b=some o)->(∀b o,j.get? b=some o->r.get? b=some o)->r.get? j.objs.size=some {cls:= .type "list",data:= .seq d.toArray n}->Q (.ref j.objs.size) {s with heap:=r,toks:=u}):
  wpAny (model P w) A (call (.builtin "sorted") [.ref a]) Q E s:=by
 obtain⟨I,v,B,O,p⟩:=N;have m5:(cC m).length<=5:=sn ⟨m,I⟩;have J:=p.len;have c:=AY w a B v;refine Ag kind_sorted plain_sorted entry_sorted (args_sorted1 _) ?_;unfold Builtin.«sorted»;refine ci (m:=checkCount "sorted" 1 1 _) (cu ?_);refine ci (PySem.W.kdu_collect (A:=A.in1) (AB I p) (by simpa using M) O (by rw[sizeLine_eq];lia) λj u f keep l=>?_);have g:f.toList=(jf w a B v).map (·.2):=by
  refine sY (by rw[dJ,l.1,cj,c.length_eq];exact J.symm) λi x y T L=>?_;obtain⟨e,C,D⟩:=l.2 i x (by rw[<-iC];exact T);rw[cF,C]at L;cases L;exact D
 have G:IntsAre f.toList ((jf w a B v).map (·.1)):=by
  rw[g];refine D6 λe U=>?_;obtain⟨n,_,C,t,D⟩:=p.mem (c.mem_iff.mp U);exact⟨t,by rw[C,D]⟩
 have Y:f.toList.length=(cC m).length:=by rw[g,cj,c.length_eq,J]
 refine ci (uR ?_ (by rw[Y,db];lia));have H:(j.push (seqObj "list" f.toList.toArray 0)).get? j.objs.size=some (seqObj "list" f.toList.toArray 0):=dZ _ rfl;refine ci (gQ (iK slot_list_sort ⟨_,H,rfl⟩ AS (list_sort_tree H G (by lia) λd js o1 o2 o3=>⟨_,rfl,?_⟩) (args_list_sort _)));have k:js=(cC m).map λ(n:Nat)=>(n:Int):=by
  refine List.Perm.eq_of_pairwise (le:=(· <= ·)) (λx y _ _=>Int.le_antisymm) o3 ?_ (o2.trans ?_)
  .exact nJ.mpr ((K8 m).imp λh=>by lia)
  .rw[<-p.keys];exact c.map _
 obtain⟨n,eN⟩:=sortedHeap_at (out:=d) H;refine cu ⟨_,rfl,q j _ u d.toList n ?_ keep (λb o e=>?_) (by simpa using eN)⟩
 .have z:=Cm o1;rw[k,hI]at z;exact z
 .have lt:=cU e;rw[sortedHeap_old (dH lt) (fN lt (by rw[oi];exact oA _))];exact dj _ e
end
section
variable{X:Cx}
def pD(w:World)(a:Ad)(m:Nat):HO:= .ext λh=>IsSet5 h a (!w.params.followText "set-order") m
def IsSet5.ok{w:World}{h:Heap}{a:Ad}{m:Nat}{P:Pg}{d:World}{H:Hp}(x:IsSet5 h a (!w.params.followText "set-order") m):ObjOk P d H h a (pD w a m):=by
 obtain⟨j,l,n,e,o⟩:=id x;exact⟨x,⟨_,e⟩,λp q ⟨f,b,c,g,i⟩ k=>⟨f,b,c,k _ g,i⟩⟩
def Inv.track{d:AO}{f:St}{H:Hp}{s:Sh}{D:Ad}{o:HO}(I:Inv X d f H s)(g:H D=none)(ok:ObjOk X.prog X.w (cg H D o) s.heap D o)
  (h:X.s₀.heap.objs.size<=D) (i:D≠X.env.locals) (j: ∀x c,X.env.cells.lookup x=some c->c≠D) (k: ∀p∈X.pn++d,p.1≠D):Inv X d f (cg H D o) s:=by
 have nd: ∀b u,H b=some u->b≠D:=λb u q z=>by rw[z,g]at q;cases q
 have q:=I.step (h':=s.heap) (H':=cg H D o) (g':=s.gens) (t':=s.toks) (d':=s.drawn) (ch:=[D]) (λb a=>by
   have z:b=D:=by simpa using a
   subst z;exact⟨.inr h,i,j,k⟩)
  (λb o _ _ _ e _=>e) (λb o _ _ _ e _=>⟨o.slots,e⟩) (λb o a _ n=>by rw[cw (λz=>a (by simp[z]))];exact n) (λb o _ e=>⟨o,e⟩)
  (λb l q=>by rw[cw (nd b _ q)];exact q) (λb o u q=>by rw[cw (nd b _ q)];exact q) (λb t q=>⟨#[],by rw[cw (nd b _ q),q];simp⟩) (λm r=>r) (λb u q=>?_) I.bare
 .exact q
 .by_cases a:b=D
  .subst a;rw[cn]at q;cases q;exact ok
  .rw[cw a]at q;exact(I.hok b u q).stay (λ_ _ _ z=>z) (λc z=>by rw[cw (nd c _ z)];exact z) λc l z=>by rw[cw (nd c _ z)];exact z
def Inv.trackNew{a:AO}{c:St}{H:Hp}{s s1:Sh}{o:HO}(I:Inv X a c H s)(d:Inv X a c H s1)(ok:ObjOk X.prog X.w (cg H s.heap.objs.size o) s1.heap s.heap.objs.size o):Inv X a c (cg H s.heap.objs.size o) s1:=by
 obtain⟨e,f,i,j,g,h⟩:=I.fpOk (b:=s.heap.objs.size) (H':=H) (cD _) (I.hok.fresh (cD _));exact d.track e ok I.sz f g h
def sP(K:W.Frag)(w:World):List V->Hp->VK->Prop:=λc H Q=> ∃p b,c=[.ref p]/\SqL K H p (b.map nv)/\(∀n∈b,n<5)/\ ∀a,H a=none->Q (.ref a) (cg H a (pD w a (j3 0 b)))
def Kh(a:X.calm=true):gv X (.type "set") (sP X.K X.w):=by
 intro b s c H n o Q I r h;obtain⟨p,t,rfl,d,e,q⟩:=h;obtain⟨u,rfl,f⟩:=gc r;cases f;obtain⟨g,i,j,_⟩:=I.list d;refine GL (I.ok.hd a) j.isList i e λk l z keep=>?_;have m:Inv X b c H {s with heap:=k,toks:=l}:=I.kept keep;exact⟨.ref s.heap.objs.size,_,Inv.trackNew I m z.ok,rfl,q _ I.fresh⟩
def Ix(w:World):List V->Hp->VK->Prop:=λb H Q=> ∃a m,b=[.ref a]/\H a=some (pD w a m)/\ ∀l,H l=none->Q (.ref l) (cg H l (.lst ((cC m).map nv)))
def Gu(k:X.calm=true):gv X (.builtin "sorted") (Ix X.w):=by
 intro f s g H x y Q I r h;obtain⟨a,m,rfl,l,q⟩:=h;obtain⟨u,rfl,o⟩:=gc r;cases o;obtain⟨z,_,_⟩:=I.hok a _ l;refine HI (I.ok.hd k) z λb i j c n p t v e=>?_;have d:Inv X f g H {s with heap:=b,toks:=j}:=I.kept t;have w:Inv X f g H {s with heap:=i,toks:=j}:=d.kept v;have A:(cC m).length<=5:=sn ⟨m,z.1⟩;have ok:ObjOk X.prog X.w (cg H b.objs.size (.lst ((cC m).map nv))) i b.objs.size (.lst ((cC m).map nv)):=⟨by rw[cj,db];lia,c,n,p,e⟩;exact⟨.ref b.objs.size,_,Inv.trackNew d w ok,rfl,q _ d.fresh⟩
end
section
variable{X:Cx}
def zG(K:W.Frag):List V->Hp->VK->Prop:=λa H Q=> ∃(p:Ad) (bs:List Bool),a=[.ref p]/\SqL K H p (bs.map V.bl)/\Q (.bl (bs.any id)) H
def BE(n:X.calm=true):gv X (.builtin "any") (zG X.K):=by
 intro G s J H L M Q I r h;obtain⟨p,bs,rfl,t,q⟩:=h;obtain⟨u,rfl,w⟩:=gc r;cases w;obtain⟨a,g,j,_⟩:=I.list t;have k:=j.isList;have f:p<s.heap.objs.size:=j.lt;have c:a.length=bs.length:=by rw[<-g.length,cj]
 refine call_any_walk (xE k ⟨_,_,_,_,_,_,λi=>bs.getD i false,rfl,Walks.list (A:=X.A.in1) (I.ok.hd n) _ p (dH f) a.toArray,⟨⟨_,dZ _ rfl,rfl,rfl⟩,k.push _⟩,?_,λN O y=>?_⟩)
 .intro i v T U Y B C;have d:a[i]? =some v:=by simpa using B
  have l:i<bs.length:=by rw[<-c];exact(cA.mp d).1
  obtain⟨u2,m,D⟩:=g.get (i:=i) (x:= .bl (bs.getD i false)) (by rw[cF,ck l,dI,ck l];rfl);rw[d]at m;cases m;cases(show v=Value.bool _ from D);exact mX C
 .have e:(List.range a.toArray.size).any (λi=>bs.getD i false)=bs.any id:=by
   rw[dW,c];have:bs=(List.range bs.length).map λi=>bs.getD i false:=by
    refine An (by simp) λi E h2=>?_;simp[List.getD_eq_getElem?_getD,E]
   conv=>rhs;rw[this,v9]
   rfl
  rw[e];exact⟨.bl (bs.any id),H,I.kept λb o z=>y b o (by simp only[List.mem_singleton];exact Nat.ne_of_lt (Heap.lt_size z)) (Heap.get?_push_of_some _ z),rfl,q⟩
end
def drop(H:Hp)(c:Ad):Hp:=λb=>if b=c then none else H b
def ua{H:Hp}{c:Ad}:drop H c c=none:=by unfold drop;rw[wB rfl]
def fb{H:Hp}{b c:Ad}(h:b≠c):drop H c b=H b:=by unfold drop;rw[wA h]
def pL{H:Hp}{b c:Ad}(h:H b=none):drop H c b=none:=by
 by_cases e:b=c
 .rw[e];exact ua
 .rw[fb e];exact h
def fP(c m:Ad)(o:Obj):HO:= .ext λh=>h.get? c=some o/\o.data= .cell (some (.ref m))
def iy(c:Ad)(q:Str):HO:= .ext λh=>h.CodeRec (.ref c) q
def gJ(f:Ad)(a:Fd):HO:= .ext λh=>h.get? f=some {cls:= .type "function",data:= .func a}
def HOk.drop{P:Pg}{w:World}{H:Hp}{h:Heap}{c:Ad}{g:Heap->Prop}(x:HOk P w H h)(a:H c=some (.ext g)):HOk P w (drop H c) h:=λb o e=>by
 by_cases f:b=c
 .rw[f,ua]at e;cases e
 .rw[fb f]at e;refine(x b o e).stay (λ_ _ _ z=>z) (λd z=>?_) λd i z=>?_
  .rw[fb (λq=>by rw[q,a]at z;cases z)];exact z
  .rw[fb (λq=>by rw[q,a]at z;cases z)];exact z
def HOk.back{P:Pg}{w:World}{H:Hp}{h:Heap}{c:Ad}{o:HO}(x:HOk P w H h)(a:H c=none)(ok:ObjOk P w (cg H c o) h c o):HOk P w (cg H c o) h:=λb u e=>by
 by_cases f:b=c
 .subst f;rw[cn]at e;cases e;exact ok
 .rw[cw f]at e;exact(x b u e).stay (λ_ _ _ z=>z) (λd z=>by rw[cw (dG z a)];exact z) λd g z=>by rw[cw (dG z a)];exact z
def EZ{P:Pg}{w:World}{H:Hp}{h:Heap}{c m:Ad}{o:Obj}(x:h.get? c=some o)(d:o.data= .cell (some (.ref m))):ObjOk P w H h c (fP c m o):=⟨⟨x,d⟩,⟨o,x⟩,λa b e k=>⟨k _ e.1,e.2⟩⟩
def Fq{P:Pg}{w:World}{H:Hp}{h:Heap}{f:Ad}{a:Fd}(x:h.get? f=some {cls:= .type "function",data:= .func a}):ObjOk P w H h f (gJ f a):=⟨x,⟨_,x⟩,λb c e k=>k _ e⟩
def KU{P:Pg}{w:World}{H:Hp}{h:Heap}{c:Ad}{q:Str}(x:h.CodeRec (.ref c) q):ObjOk P w H h c (iy c q):=by
 obtain⟨b,o,m,t,d,e,n⟩:=id x;cases d;refine⟨x,⟨o,e⟩,λp r ⟨b,f,a,g,i,j,l⟩ k=>?_⟩;cases i;exact⟨c,f,a,g,rfl,k _ j,l⟩
structure LamScope(ps:Ss)(y:Str)(sc:Scope):Prop where
 kind:sc.kind= .function
 co:sc.isCoroutine=false
 gen:sc.isGenerator=false
 nd:(ps++[y]).Nodup
 par: ∀x∈ps,sc.names.lookup x=some .local
 fre:sc.names.lookup y=some .free
 only: ∀z∈sc.names,z.2≠ .cell/\(z.2= .free->z.1=y)
abbrev fW(d:Str)(a:Arguments)(e:Expr)(b:Scope)(y:Str)(c:Ad)(pm f g:Vl):Fd:=PySem.W.kla_fn "<lambda>" d a e b [(y,c)] pm f g
def lP(P:Pg)(w:World)(K:W.Frag)(mg:SV)(base:Heap)(N:Ss)(b:Str)(a:Scope)(f:Ad)(c:Vl)(d:List (Str×Ad))(A:Ar)(outer:List Env)(s:Sh)(H:Hp):Cx where
 prog:=P
 w:=w
 K:=K
 mg:=mg
 base:=base
 A:=A.deeper (PySem.W.envX b a s.heap.objs.size f c d)
 N:=N
 s₀:=s
 H₀:=H
 env:=PySem.W.envX b a s.heap.objs.size f c d
 outer:=outer
 stack:=PySem.W.envX b a s.heap.objs.size f c d::outer
 ex:=[]
 calm:=true
 fn:=λ_=>false
 pn:=[]
 xe:=λ_ _=>False
theorem EW{x:Str}{u:Vl}: ∀{l:List (Str×Vl)},(l.map (·.1)).Nodup->(x,u)∈l->l.lookup x=some u
 | (a,b)::l,nd,h=>by
  rw[fM,iT]at nd;rw[l6]
  rcases dE.mp h with e|e
  .cases e;rw[t9]
  .have c:(x==a)=false:=mz.mpr λq=>nd.1 (cO.mpr ⟨(x,u),e,q⟩);rw[c];exact EW nd.2 e
def G6{c:Ss}{d:Vs}{i:Nat}{x:Str}{u:Vl}(nd:c.Nodup)(e:c[i]? =some x)(f:d[i]? =some u):(c.zip d).reverse.lookup x=some u:=by
 refine EW ?_ (jt.mpr (fi.mpr ⟨i,List.getElem?_zip_eq_some.mpr ⟨e,f⟩⟩));have sub: ∀(c:Ss) (d:Vs),((c.zip d).map (·.1)).Sublist c:=λc=>by
  induction c with
  |nil=>intro d;simp
  |cons a c g=>
   intro d;cases d with
   |nil=>simp
   |cons b d=>rw[List.zip_cons_cons,fM];exact(g d).cons₂ a
 rw[List.map_reverse];show List.Pairwise (· ≠ ·) _;rw[List.pairwise_reverse];exact(nd.sublist (sub c d)).imp eC
def Hm{P:Pg}{w:World}{K:W.Frag}{mg:SV}{l:Heap}{n:Ss}{y B:Str}{g:Scope}{f c m:Ad}{O:Vl}{A:Ar}{k:List Env}{s:Sh}{H:Hp}{Q:Vs}{I:List V}{E:Heap}{U:Nat}
  (S:LamScope n y g) (Y:A.handled=none) (t:Env0 P w K mg l A k s H) (T:I.length=n.length) (r:Vals I Q) (hc:H c=none) (ic:s.heap.IsCell c (some (.ref m)))
  (L:E.Ns s.heap.objs.size (λx=>(n.zip Q).reverse.lookup x)) (sb:Heap.SameBut s.heap.objs.size (s.heap.push {cls:= .type "frame",data:= .dict #[]}) E):
  Inv (lP P w K mg l (n++[y]) B g f O [(y,c)] A k s H) [] (I.map some++[some (.ref m)]) H {s with heap:=E,toks:=U}:=by
 have M: ∀b o,s.heap.get? b=some o->E.get? b=some o:=λb o e=>sb.extBut _ _ (dH (cU e)) (dj _ e);have J:E.IsCell c (some (.ref m)):=let⟨o,e,d⟩:=ic;⟨o,M _ _ e,d⟩
 have one: ∀{x:Str} {d:Ad},([(y,c)]:List (Str×Ad)).lookup x=some d->x=y/\d=c:=λ{x d} h=>by
  rw[l6]at h;cases q:x==y with
  |true=>rw[q]at h;cases h;exact⟨eq_of_beq q,rfl⟩
  |false=>rw[q]at h;cases h
 have C:([(y,c)]:List (Str×Ad)).lookup y=some c:=by rw[l6,t9]
 have G: ∀b:Ad,b∉(lP P w K mg l (n++[y]) B g f O [(y,c)] A k s H).ex:=λb z=>wC (show b∈([]:As)from z) (by simp);refine⟨⟨t.mod,S.kind,rfl,rfl,cD _,λa b d E h2=>(one E).1.trans (one h2).1.symm,λa ha=>?_,λa d h _=>wC (show false=true from h) e9,λ_=>Y,Around.frames_deeper t.frames,.inr ⟨rfl,rfl⟩,λb z=>wC z (G b),t.bs,t.bsz,λb _ _=>G b,λb z=>wC z (G b),t.funs,t.frf⟩,
  rfl,t.bare,Un.kept M,⟨_,L,λi x v q1 D q3=>?_⟩,λa d h=>?_,t.hok.fresh (cD _),λa d h=>?_,λp hp=>wC (show p∈([]:AO)from hp) (by simp),t.hok.kept M,?_⟩
 .have N:g.names.lookup a=some .cell∨g.names.lookup a=some .free:=ha
  rcases N with z|z
  .exact wC rfl (S.only _ (mE z)).1
  .have e:=(S.only _ (mE z)).2 rfl;exact⟨c,by rw[show a=y from e];exact C⟩
 .have j:(n++[y])[i]? =some x:=q1
  rcases Nat.lt_or_ge i n.length with z|z
  .rw[eV z]at j;rw[eV (by rw[cj];lia),cF]at D;cases e:I[i]? with
   |none=>rw[e]at D;cases D
   |some a=>
    rw[e]at D;cases D;obtain⟨u,hu,rv⟩:=r.get e;have kx:=S.par x (cK j);refine⟨u,rv,.inl ⟨kx,?_⟩⟩;exact G6 (S.nd.sublist (List.sublist_append_left _ _)) j hu
  .rw[eU z]at j;rw[eU (by rw[cj];lia),cj]at D;have e:i-n.length=0:=by
    rcases Nat.eq_zero_or_pos (i-n.length)with y0|y0
    .exact y0
    .rw[hG (by simp;lia)]at j;cases j
   rw[e]at j;rw[T,e]at D;cases j;cases D;exact⟨.ref m,rfl,.inr ⟨.inr S.fre,c,C,J⟩⟩
 .obtain⟨rfl,rfl⟩:=one (show([(y,c)]:List (Str×Ad)).lookup a=some d from h);exact⟨_,J⟩
 .obtain⟨rfl,rfl⟩:=one (show([(y,c)]:List (Str×Ad)).lookup a=some d from h);exact hc
 .show(I.map some++[some (V.ref m)]).length=(n++[y]).length;simp[T]
def Ei{P:Pg}{w:World}{K:W.Frag}{mg:SV}{j:Heap}{k:Nat}{D:Ss}{y g:Str}{l:Arguments}{p:Expr}{a:Scope}{f c m G:Ad}{oc:Obj}{pm ct:Vl}{Y:Sp}
  (S:LamScope D y a) (len: ∀B H Q E,Y B H Q E->B.length=D.length) (here: ∀B H Q E,Y B H Q E->H f=some (gJ f (fW g l p a y c pm (.ref G) ct))/\H c=some (fP c m oc)/\H G=some (iy G g))
  (L: ∀(A:Ar) (d:List Env) (s:Sh) (H:Hp) (B:List V) (Q:VK) (E:XK),Room k (A.deeper (PySem.W.envX g a s.heap.objs.size f (.ref G) [(y,c)]))->Y B H Q E->
   ∃t,PE (lP P w K mg j (D++[y]) g a f (.ref G) [(y,c)] A d s (drop H c)) p t/\t (B.map some++[some (.ref m)]) (drop H c) λv U=>U c=none->Q v (cg U c (fP c m oc))):
  FnOk P w K mg j cQ (k+1) f (fW g l p a y c pm (.ref G) ct) D Y:=by
 refine⟨len,λA d s H args us B Q E hr h M r N=>?_⟩;obtain⟨hf,O,aa⟩:=here _ _ _ _ N;have hl:=len _ _ _ _ N;obtain⟨ef,_,_⟩:=h.hok f _ hf;obtain⟨i,_,_⟩:=h.hok c _ O;obtain⟨T,_,_⟩:=h.hok G _ aa;have e1:Env0 P w K mg j A d s (drop H c):=⟨h.frames,h.mod,λb o e=>⟨(h.bs b o e).1,pL (h.bs b o e).2⟩,h.bsz,h.funs,λb M=>pL (h.frf b M),h.hok.drop O,h.bare⟩;have ab:s.heap.NoLimit:=h.mod.nolimit.keeps λb o e=>(h.bs b o e).1;refine PySem.W.kla_callFunE hr.depth ef rfl S.co S.gen rfl T (M _ _ _ _ ?_);refine wpAny_newFunctionEnv (λx hx=>(S.only x hx).1) (λx hx=>S.par _ (xf hx).1) (λh1 ae sb=>?_) S.kind;have hk: ∀b o,s.heap.get? b=some o->h1.get? b=some o:=λb o e=>sb.extBut _ _ (dH (cU e)) (dj _ e);refine⟨ab.keeps hk,PySem.W.kla_codeExpr ?_⟩;obtain⟨t,ht,hq⟩:=L A d s H B Q E (hr.deeper _) N;have I:Inv (lP P w K mg j (D++[y]) g a f (.ref G) [(y,c)] A d s (drop H c)) [] (B.map some++[some (.ref m)]) (drop H c) {s with heap:=h1,toks:=s.toks+(D.zip us).length}:=Hm S hr.hd e1 hl r ua ⟨oc,i⟩ ae sb;refine gq (ht [] _ _ _ _ I hq) (λv s' ⟨x,U,J,rx,q⟩=>?_) λe s' z=>wE z;have Hc:U c=none:=J.freeC y c (by show([(y,c)]:List (Str×Ad)).lookup y=some c;rw[l6,t9]);have af:s'.heap.get? c=some oc:=J.base.keep c oc i.1 ua (λz=>?_) (by simp[lP])
 .refine⟨x,cg U c (fP c m oc),J.os,J.bare,⟨λb o e n M _=>?_,λb o e n M _=>?_,λb o e n _=>?_,λb o e _=>J.base.there b o e (by simp[lP]),λb xs e=>?_,λb o u e=>?_,λb D e=>?_⟩,J.hok.back Hc (EZ af i.2),rx,q Hc⟩
  .exact J.base.keep b o e (pL n) M (by simp[lP])
  .exact J.base.slot b o e (pL n) M (by simp[lP])
  .have C:b≠c:=λz=>by rw[z,O]at n;cases n
   rw[cw C];exact J.base.free b o e (pL n) (by simp[lP])
  .have C:b≠c:=λz=>by rw[z,O]at e;cases e
   rw[cw C];exact J.base.tups b xs (by show drop H c b=_;rw[fb C];exact e)
  .have C:b≠c:=λz=>by rw[z,O]at e;cases e
   rw[cw C];exact J.base.frzs b o u (by show drop H c b=_;rw[fb C];exact e)
  .have C:b≠c:=λz=>by rw[z,O]at e;cases e
   rw[cw C];exact J.base.tbls b D (by show drop H c b=_;rw[fb C];exact e)
 .have:=h.frf c z;rw[O]at this;cases this
section
variable{X:Cx}
def EY(X:Cx)(i:Nat)(t:TA):TE:=λb H Q=>fy i b H λv c=> ∃st a,v= .ref st/\c st=some (gJ st a)/\t b c λg d=>d st=some (gJ st a)/\ ∃k e f,FnOk X.prog X.w X.K X.mg X.base cQ k st a e f/\Room k X.A/\Binds X.K a e []/\f g d Q E0
def B7{a:AO}{b:St}{H:Hp}{s:Sh}{st:Ad}{c:Fd}(I:Inv X a b H s)(h:H st=some (gJ st c)):PySem.W.FnAt st s.heap:=by
 obtain⟨e,_,_⟩:=I.hok st _ h;exact⟨_,_,_,_,e⟩
def Kl(i:Nat){x:Str}{e:Expr}{a:List Expr}{t:TA}{p pos:Pos}(j:PE X (.Name x p) (fy i))(l:PA X (e::a) t)(m:starEach (e::a) X.env=(false,eval e X.env)::starEach a X.env:=by rfl)(b:(backTo pos (starEach a X.env)).any (·.1)=false:=by rfl):
  PE X (.Call (.Name x p) (e::a) [] pos) (EY X i t):=by
 intro c s d H Q I h;refine pA (cG (j c s d H _ I h) λu n ⟨v,o,f,w,st,J,y,A,q⟩=>?_);subst y;cases w;refine PySem.W.callWith_F (B7 f A) (cG (l pos c n d o _ f q) λL M B=>?_) m b;obtain⟨N,O,g,r,C,k,T,U,F,D,E,G⟩:=B;refine⟨B7 g C,?_⟩;have z:=xL (dvs:=[]) (ds:=[]) F D E .nil tW g r (by rw[gO];exact G);exact z
def Fo(g:Sp)(a:List V)(j:Nat)(c:Ad)(t:TA):TE:=λb H Q=>t b H λh d=> ∃m,b[j]? =some (some (.ref m))/\ ∀e,d c=none->g (h++a) (cg d c (fP c m e)) (λr f=>f c=some (fP c m e)/\Q r (drop f c)) E0
def Inv.afterC{p:AO}{t:St}{H:Hp}{s x:Sh}{c m:Ad}{i:Obj}{Q:VK}{u:Vl}(I:Inv X p t H s)(k:H c=none)(y:s.heap.get? c=some i)
  (h:CE X.stack X.prog X.w (cg H c (fP c m i)) s (λr j=>j c=some (fP c m i)/\Q r (drop j c)) u x):EP X p t Q u x:=by
 obtain⟨v,j,os,a,un,d,B,A,q⟩:=h;obtain⟨⟨f,_⟩,_,_⟩:=d c _ A;refine I.after ⟨v,drop j c,os,a,⟨λb o e n l g=>?_,λb o e n l g=>?_,λb o e n g=>?_,un.there,λb C e=>?_,λb o w e=>?_,λb D e=>?_⟩,d.drop A,B,q⟩
 .by_cases z:b=c
  .subst z;rw[y]at e;cases e;exact f
  .exact un.keep b o e (by rw[cw z];exact n) l g
 .by_cases z:b=c
  .subst z;rw[y]at e;cases e;exact⟨i.slots,f⟩
  .exact un.slot b o e (by rw[cw z];exact n) l g
 .by_cases z:b=c
  .rw[z];exact ua
  .exact pL (un.free b o e (by rw[cw z];exact n) g)
 .have z:b≠c:=λz=>by rw[z,k]at e;cases e
  rw[fb z];exact un.tups b C (by rw[cw z];exact e)
 .have z:b≠c:=λz=>by rw[z,k]at e;cases e
  rw[fb z];exact un.frzs b o w (by rw[cw z];exact e)
 .have z:b≠c:=λz=>by rw[z,k]at e;cases e
  rw[fb z];exact un.tbls b D (by rw[cw z];exact e)
def HH{x:Str}{k j:Nat}{L:Ss}{T:Sp}{f c:Ad}{U:Fd}{g:List V}{v:Vs}{y:Str}{e:Expr}{A:List Expr}{t:TA}{p pos:Pos}(F:FnOk X.prog X.w X.K X.mg X.base cQ k f U L T)(hr:Room k X.A)(hg:Gl X x)(hm:X.mg x=some (.ref f))
  (hk:PySem.W.keepIn X.K (.ref f)=true) (n:Binds X.K U L v) (hd:Vals g v) (hN:X.N[j]? =some y) (G:X.env.cells.lookup y=some c) (B:X.env.scope.names.lookup y=some .cell) (M:X.fn y=true) (ha:PA X (e::A) t)
  (N:(x==("__debug__":Str))=false:=by decide) (he:starEach (e::A) X.env=(false,eval e X.env)::starEach A X.env:=by rfl) (O:(backTo pos (starEach A X.env)).any (·.1)=false:=by rfl):
  PE X (.Call (.Name x p) (e::A) [] pos) (Fo T g j c t):=by
 intro za s σ H Q I h;refine pA (we I hg hm ?_ N);refine xM (h₀:=X.base) I.ok.mod.kin hk (cG (ha pos za s σ H _ I h) λC J ⟨Y,H1,a,r,m,hj,q⟩=>⟨a.kIn,?_⟩) he O;have l:H1 c=none:=a.freeC y c G;obtain⟨mm,hn,look⟩:=a.loc;obtain⟨u,ru,lk⟩:=look j y (.ref m) hN hj (.inr (.inl B));cases ru;obtain⟨oc,ec,dc⟩:J.heap.IsCell c (some (.ref m)):=by
  rcases lk with⟨z,_⟩|⟨_,c',D,ic⟩
  .have z':X.env.scope.names.lookup y=some .local:=z;rw[B]at z';cases z'
  .rw[G]at D;cases D;exact ic
 have q1:=q oc l;have r2:Vals (Y++g) (C++v):=r.append hd;have hl:(C++v).length=L.length:=by rw[<-r2.length];exact F.len _ _ _ _ q1
 have e1:Env0 X.prog X.w X.K X.mg X.base X.A X.stack J (cg H1 c (fP c m oc)):=by
  have i:=a.env0;have d:=a.ok.cab y c M G;have nb: ∀b o,X.base.get? b=some o->b≠c:=λb o e z=>by
   subst z;exact wC (fN (cU e) (dt a.ok.bsz d)) (i5 _)
  have nf: ∀b∈iQ X.stack,b≠c:=λb n z=>by
   subst z
   rcases dE.mp (a.stkSub b n)with w|w
   .exact a.cne y b G w
   .obtain⟨_,o,ho,_⟩:=a.ok.funs.mem w;exact wC (fN (cU ho) d) (i5 _)
  exact⟨i.frames,i.mod,λb o e=>⟨(i.bs b o e).1,by rw[cw (nb b o e)];exact(i.bs b o e).2⟩,i.bsz,i.funs,λb n=>by rw[cw (nf b n)];exact i.frf b n,i.hok.back l (EZ ec dc),i.bare⟩
 refine pH (jq (F.run X.A X.stack J _ ⟨C,[]⟩ (C++v) (Y++g) _ E0 hr e1 (n J C a.kIn hl) r2 q1) λr s' E=>?_);cases r with
 |error e=>exact E.elim
 |ok fl=>
  cases fl with
  |ret u=>exact a.afterC l ec E
  |next=>exact wE E
  |brk=>exact wE E
  |cont=>exact wE E
end
section
variable{X:Cx}
def lX(mg:SV)(h:Heap):Prop:= ∃a o,mg "__builtins__"=some (.ref a)/\a≠builtinsNs/\h.get? a=some o/\o.cls= .type "module"/\o.dict=some builtinsNs/\o.data= .plain
abbrev im(pos:Pos)(a:Ad):AV:= #[rawInt pos.line,rawInt pos.col,.ref a]
def A2(P:Ad)(a:Str)(b:Arguments)(g:Expr)(d:Scope)(y:Str)(c:Ad)(pm:Vl)(pos:Pos):TE:=λ_ H Q=>
 (H P=some (.tbl #[])/\ ∀f e h,H f=none->H e=none->f≠e->Q (.ref f) (cg (cg (cg H P (.tbl (im pos e))) e (iy e a)) f (gJ f (fW a b g d y c pm (.ref e) h))))∨
 ∃e,H P=some (.tbl (im pos e))/\H e=some (iy e a)/\ ∀f h,H f=none->Q (.ref f) (cg H f (gJ f (fW a b g d y c pm (.ref e) h)))
def DC{P cd c:Ad}{qual y:Str}{a:Arguments}{g:Expr}{f:Scope}{pos:Pos}(E:X.env.code= .ref cd)(C:PySem.W.CodeHd X.base cd P)(bm:lX X.mg X.base)(G: ∀B D H s,Inv X B D H s->closureFor f X.env=pure [(y,c)])
  (aa:defaultsOf a X.env=([],[])) (hq:X.env.qual++"<lambda>"=qual):PE X (.Lambda a g f pos) (A2 P qual a g f y c ((X.mg "__name__").getD .none) pos):=by
 intro B s D H Q I h;rw[arm_eval_Lambda,aa,hq];have C':PySem.W.CodeHd s.heap cd P:=C.keeps I.bk;have hg:s.heap.Ns mainGlobals X.mg:=I.mod.glob.keeps I.bk;refine ci (m:=evalAll []) (cu (ci (m:=holding _ (evalAllOpt [])) (gQ (cu ?_))));have track: ∀J,H P=some (.tbl J)->s.heap.get? P=some (PySem.W.tabObj J)/\mainGlobals≠P/\s.heap.BuiltinsAt X.mg P:=λJ e=>by
  have L:s.heap.get? P=some (PySem.W.tabObj J):=I.hok P _ e;have Y:mainGlobals≠P:=λz=>by
   obtain⟨o,es,ep,e1,_⟩:=I.mod.glob;have:=(I.bs _ _ e1).2
   rw[z,e]at this;cases this
  obtain⟨b,o,b1,b2,b3,b4,b5,b6⟩:=bm;refine⟨L,Y,b,o,b1,b2,λz=>?_,λz=>?_,I.bk _ _ b3,b4,b5,b6⟩
  .obtain⟨o',es,ep,e1,d1,_⟩:=I.mod.glob;rw[z,e1]at b3;cases b3;rw[d1]at b6;cases b6
  .have:=(I.bs _ _ b3).2;rw[z,e]at this;cases this
 rcases h with⟨e,q⟩|⟨i,e,ag,q⟩
 .obtain⟨L,Y,hb⟩:=track _ e;refine PySem.W.kla_makeFunction (G B D H s I) I.ok.glob hg E C' L (by trivial) rfl Y hb λi l j tk hx p r M ab=>?_;have t:H i=none:=I.hok.fresh p;have x:H j.objs.size=none:=I.hok.fresh (dt p (fj r));have ae:P≠i:=dG e t;have af:P≠j.objs.size:=dG e x;have N:j.objs.size≠i:=j6 r;generalize eo:PySem.W.kla_obj "<lambda>" qual a g f [(y,c)] ((X.mg "__name__").getD .none) i l=ob;have old: ∀b u,H b=some u->b≠i/\b≠j.objs.size:=λb u z=>⟨dG z t,dG z x⟩;have O: ∀b o,s.heap.get? b=some o->b≠i/\b≠j.objs.size:=λb o z=>⟨dH (fN (cU z) p),dH (fN (cU z) (dt p (fj r)))⟩;have T: ∀b o,b≠P->s.heap.get? b=some o->(j.push ob).get? b=some o:=λb o n z=>dj _ (hx b o n z);have k: ∀b,b≠P->b≠i->b≠j.objs.size->cg (cg (cg H P (.tbl (im pos i))) i (iy i qual)) j.objs.size (gJ j.objs.size (fW qual a g f y c ((X.mg "__name__").getD .none) (.ref i) l)) b=H b:=λb n1 n2 n3=>by rw[cw n3,cw n2,cw n1]
  have U:cg (cg (cg H P (.tbl (im pos i))) i (iy i qual)) j.objs.size (gJ j.objs.size (fW qual a g f y c ((X.mg "__name__").getD .none) (.ref i) l)) P=some (.tbl (im pos i)):=by rw[cw af,cw ae,cn]
  have tP:(j.push ob).get? P=some (PySem.W.tabObj (im pos i)):=by
   refine dj _ ?_;rw[ab];rfl
  refine⟨.ref j.objs.size,_,?_,rfl,q j.objs.size i l x t N⟩;refine I.step (ch:=[]) (λ_ z=>nomatch z) (λb o _ _ _ z n=>T b o (λw=>by rw[w,e]at n;cases n) z) (λb o _ _ _ z n=>⟨o.slots,T b o (λw=>by rw[w,e]at n;cases n) z⟩)
   (λb o _ z n=>?_) (λb o _ z=>?_) (λb xs z=>?_) (λb o u z=>?_) (λb J z=>?_) (λm hm=>?_) (λb u z=>?_) I.bare
  .rw[k b (λw=>by rw[w,e]at n;cases n) (O b o z).1 (O b o z).2];exact n
  .by_cases w:b=P
   .rw[w];exact⟨_,tP⟩
   .exact⟨o,T b o w z⟩
  .rw[k b (λw=>by rw[w,e]at z;cases z) (old b _ z).1 (old b _ z).2];exact z
  .rw[k b (λw=>by rw[w,e]at z;cases z) (old b _ z).1 (old b _ z).2];exact z
  .by_cases w:b=P
   .subst w;rw[e]at z;cases z;exact⟨im pos i,by rw[U];rfl⟩
   .exact⟨#[],by rw[k b w (old b _ z).1 (old b _ z).2,z];simp⟩
  .exact hm.at' λo z=>T _ o (λw=>by have:=I.free;rw[w,e]at this;cases this) z
  .by_cases w3:b=j.objs.size
   .rw[w3,cn]at z;cases z;rw[w3];exact Fq (by rw[<-eo];exact dZ _ rfl)
   .by_cases w2:b=i
    .rw[w2,cw N.symm,cn]at z;cases z;rw[w2];exact KU (M.push _)
    .by_cases w1:b=P
     .rw[w1,U]at z;cases z;rw[w1];exact tP
     .rw[k b w1 w2 w3]at z;refine(I.hok b u z).stay (λd o hd y=>T d o (λw=>?_) y) (λd y=>?_) λd xs y=>?_
      .rcases hd with v|v
       .exact w1 (v.symm.trans w)
       .rw[w,e]at v;cases v
      .rw[k d (λw=>by rw[w,e]at y;cases y) (old d _ y).1 (old d _ y).2];exact y
      .rw[k d (λw=>by rw[w,e]at y;cases y) (old d _ y).1 (old d _ y).2];exact y
 .obtain⟨L,Y,hb⟩:=track _ e;have A:codeAmong pos (im pos i).toList=some (.ref i):=by
   show(if((pos.line:Int)==(pos.line:Int)&&(pos.col:Int)==(pos.col:Int))=true then _ else _)=_;rw[wB (by simp)]
  refine PySem.W.kla_makeFunctionHit (G B D H s I) I.ok.glob hg E C' L (by trivial) A hb λl j tk keep sz=>?_;have I1:Inv X B D H {s with heap:=j,toks:=tk}:=I.kept keep;have I2:Inv X B D H {s with heap:=j.push {cls:= .type "function",data:= .func (fW qual a g f y c ((X.mg "__name__").getD .none) (.ref i) l)},toks:=tk}:=I1.kept λb o z=>dj _ z;have ok:ObjOk X.prog X.w (cg H j.objs.size (gJ j.objs.size (fW qual a g f y c ((X.mg "__name__").getD .none) (.ref i) l))) (j.push {cls:= .type "function",data:= .func (fW qual a g f y c ((X.mg "__name__").getD .none) (.ref i) l)}) j.objs.size (gJ j.objs.size (fW qual a g f y c ((X.mg "__name__").getD .none) (.ref i) l)):=Fq (dZ _ rfl);exact⟨.ref j.objs.size,_,Inv.trackNew I1 I2 ok,rfl,q _ l I1.fresh⟩
end
def LB(K:W.Frag)(c:As)(a:Ad)(o:Obj)(d:Zs):Hp:=λb=>if b∈c then some (.tbl #[])else if b=a/\K.lookup a=none then some (.frz o (.lst (d.map V.int)))else none
def Gi{P:Pg}{w:World}{K:W.Frag}{mg mb:SV}{k:Nat}{fa a:Ad}{fd:Fd}{x:Str}{sp:Sp}{f:Sh}{A:Vs}{D:Zs}{tabs:As}
  (KX:K.In f.heap) (I:f.heap.Ns mainGlobals mg) (g:f.heap.Ns builtinsNs mb) (aa: ∀x:Str,x≠"__name__"->mb x=bootBuiltins x) (J:f.heap.NoLimit) (hg:f.gens= #[]) (ab:lX mg f.heap)
  (E:f.heap.get? a=some {cls:= .type "list",data:= .seq A.toArray}) (hi:IntsAre A D) (hl:D.length<=sizeLine) (hr:Room k callerA) (hT: ∀q∈tabs,K.lookup q=none/\ ∃c,f.heap.TableAt c q #[])
  (F: ∀l:Heap,K.In l->l.Ns mainGlobals mg->lX mg l->FnOk P w K mg l cQ k fa fd [x] sp) (G: ∀(s:Sh) (u:Vl),BindsTo s fd ⟨[u],[]⟩ [(x,u)])
  (ae: ∀H:Hp,(∀q∈tabs,H q=some (.tbl #[]))->SqL K H a (D.map V.int)->sp [.ref a] H (λv _=>v= .bl true) λ_ _ _=>False):
  codeAny (model P w) callerA (.call (.ref fa) ⟨[.ref a],[]⟩) (λr L=>r= .ok (.ret (.bool true))/\OldK f.heap L.heap/\L.os=f.os/\AllBare L.gens) f:=by
 have rv:=Ci hi;have M:=hi.length;have i: ∀q∈tabs,f.heap.get? q=some (PySem.W.tabObj #[]):=λq N=>let⟨_,c,t⟩:=hT q N;t.2
 have na:a∉tabs:=λN=>by
  have:=i a N;rw[E]at this;cases this
 generalize eH:LB K tabs a {cls:= .type "list",data:= .seq A.toArray} D=H;have O: ∀q∈tabs,H q=some (.tbl #[]):=λq N=>by rw[<-eH];exact wB N
 have B: ∀b,b∉tabs->H b=if b=a/\K.lookup a=none then some (.frz {cls:= .type "list",data:= .seq A.toArray} (.lst (D.map V.int)))else none:=λb g=>by rw[<-eH];exact wA g
 have j: ∀b u,H b=some u->(b∈tabs/\u= .tbl #[])∨(b=a/\K.lookup a=none/\u= .frz {cls:= .type "list",data:= .seq A.toArray} (.lst (D.map V.int))):=λb u e=>by
  by_cases g:b∈tabs
  .rw[O b g]at e;cases e;exact .inl ⟨g,rfl⟩
  .rw[B b g]at e;by_cases h:b=a/\K.lookup a=none
   .rw[wB h]at e;cases e;exact .inr ⟨h.1,h.2,rfl⟩
   .rw[wA h]at e;cases e
 have af:HOk P w H f.heap:=λb u e=>by
  rcases j b u e with⟨g,rfl⟩|⟨rfl,_,rfl⟩
  .exact i b g
  .exact⟨E,by rw[cj];exact hl,A,_,rv,E⟩
 have hS:SqL K H a (D.map V.int):=by
  cases Q:K.lookup a with
  |some o=>
   have e:=KX a o Q;rw[E]at e;cases e;exact .inr ⟨_,A.toArray,_,Q,rfl,rfl,rfl,by rw[dW,M];exact hl,by simpa using rv⟩
  |none=>exact .inl (.inr ⟨{cls:= .type "list",data:= .seq A.toArray},by rw[B a na,wB ⟨rfl,Q⟩]⟩)
 have free: ∀{b:Ad} {o:Obj},f.heap.get? b=some o->o.cls≠ .none->(∀T n,o.data≠ .seq T n)->H b=none:=λ{b o} e hc hd=>by
  cases q:H b with
  |none=>rfl
  | some u=>
   rcases j b u q with⟨g,_⟩|⟨rfl,_,_⟩
   .rw[i b g]at e;cases e;exact wC rfl hc
   .rw[E]at e;cases e;exact wC rfl (hd _ _)
 have p: ∀{b:Ad} {m:SV},f.heap.Ns b m->(md f.heap H).Ns b m:=λ{b m} ⟨o,es,ep,e,d,r⟩=>by
  refine⟨o,es,ep,A0 e ?_,d,r⟩;cases q:H b with
  |none=>rfl
  | some u=>
   rcases j b u q with⟨g,_⟩|⟨rfl,_,_⟩
   .rw[i b g]at e;cases e;cases d
   .rw[E]at e;cases e;cases d
 have U:K.In (md f.heap H):=λb o e=>A0 (KX b o e) (by
  cases q:H b with
  |none=>rfl
  | some u=>
   rcases j b u q with⟨g,_⟩|⟨rfl,Q,_⟩
   .rw[(hT b g).1]at e;cases e
   .rw[Q]at e;cases e)
 have ag:lX mg (md f.heap H):=by
  obtain⟨bm,o,b1,b2,b3,b4,b5,b6⟩:=ab;exact⟨bm,o,b1,b2,A0 b3 (free b3 (by rw[b4];nofun) (λT n z=>by rw[b6]at z;cases z)),b4,b5,b6⟩
 have hM:Mod K mg (md f.heap H):=⟨U,p I,⟨mb,p g,aa⟩,let⟨mc,h1,h2⟩:=J;⟨mc,p h1,h2⟩⟩;have e0:Env0 P w K mg (md f.heap H) callerA [] f H:=⟨rfl,hM,λb o e=>Iw e,om (Il _ _),trivial,λb g=>wC (show b∈([]:As)from g) (by simp),af,.of_eq hg⟩;refine jq ((F _ U (p I) ag).run callerA [] f H ⟨[.ref a],[]⟩ [.ref a] [.ref a] _ _ hr e0 (G f (.ref a)) (.cons rfl .nil) (ae H O hS)) λr L h=>?_;cases r with
 |error e=>exact h.elim
 | ok fl=>
  cases fl with
  |next=>exact wE h
  |brk=>exact wE h
  |cont=>exact wE h
  | ret u=>
   obtain⟨v,H',os,Y,un,C,r',q⟩:=h;have q':v= .bl true:=q;subst q'
   obtain rfl:u=Value.bool true:=r';refine⟨rfl,⟨λb o e=>?_,λb o e=>un.there b o e (by simp)⟩,os,Y⟩;cases z:H b with
   |none=>exact .inl (un.keep b o e z (by intro y;exact wC (show b∈([]:As)from y) (by simp)) (by simp))
   | some u=>
    rcases j b u z with⟨g,rfl⟩|⟨rfl,_,rfl⟩
    .obtain⟨more,z2⟩:=un.tbls b _ z;have e2:L.heap.get? b=some (PySem.W.tabObj (#[]++more)):=C b _ z2;rw[i b g]at e;cases e;obtain⟨_,c,t⟩:=hT b g;exact .inr (.inl ⟨t.isCodeTable,rfl,#[],more,rfl,e2⟩)
    .obtain⟨e2,_⟩:=C b _ (un.frzs b _ _ z);rw[E]at e;cases e;exact .inl e2
def d2n{l:PySem.W.OpenLaw}{n k:Nat}{q:Pg}{i:Ss}{L:SV->Heap->Prop}{D:World->Heap->Prop}{d:DefRec}{K:Params->W.Frag}{sp:World->Sp}{x:Str}{tabs:List (Str×Ad)}
  (M:l.most=some n) (y:n<=sizeLine) (z:d.params.defaults=[]) (N:Room k callerA) (O: ∀(w:World) (h:Heap),D w h->(K w.params).In h)
  (hT: ∀w:World,∀t∈tabs,(K w.params).lookup t.2=none/\(∃c,PySem.W.tabIn (K w.params) t.1=some (c,t.2))/\ ∃e,(recsOf q).find? (λr=>r.name==t.1)=some e)
  (F: ∀(w:World) (mg:SV) (fa:Ad) (h:Heap),(K w.params).In h->h.Ns mainGlobals mg->mg d.name=some (.ref fa)->
   ∃A:Fd,(∀(s:Sh) (u:Vl),BindsTo s A ⟨[u],[]⟩ [(x,u)])/\ ∀b:Heap,(K w.params).In b->b.Ns mainGlobals mg->lX mg b->FnOk l.prog w (K w.params) mg b cQ k fa A [x] (sp w))
  (B: ∀(w:World) (H:Hp) (a:Ad) (p:Zs),p.length<=n->(∀t∈tabs,H t.2=some (.tbl #[]))->SqL (K w.params) H a (p.map V.int)->sp w [.ref a] H (λv _=>v= .bl true) λ_ _ _=>False):
  PySem.W.WalkO q i L D l.row.toRowW d [] (λf E=>PySem.call f E):=by
 refine Att.attach_call M z λw I J mg mb fa o pm cd Q a E p G Y ho hd T hmg m j g U=>?_;have KX:=O w _ Y;obtain⟨A,hb,hF⟩:=F w mg fa _ KX G.T.g hmg;refine Gi (tabs:=tabs.map (·.2)) KX G.T.g G.T.b G.T.builtins G.T.nolimit U G.T.bmain m j (dt g y) N (λq hq=>?_) hF hb (λH hH hS=>B w H a p g (λt ht=>hH _ (List.mem_map_of_mem ht)) hS);obtain⟨t,ht,rfl⟩:=cO.mp hq;obtain⟨h1,⟨c,h2⟩,e,h3⟩:=hT w t ht;obtain⟨C,eP⟩:=PySem.W.tab_of G.T KX h3 h2;exact⟨h1,c,C.tab eP⟩
def sl(u v:cf):Prop:=u.length<v.length∨(u.length=v.length/\dM u v=true)
def ir{a b:Nat}{c d:cf}(h:a≠b):dM (a::c) (b::d)=decide (a<b):=by
 unfold dM;rw[fL,wA h];rfl
def nG{a:Nat}{c d:cf}:dM (a::c) (a::d)=dM c d:=by
 unfold dM;rw[fL,wB rfl];cases fL c d with
 |none=>simp
 |some b=>rfl
theorem D8: ∀{i e zs:cf},i.length=e.length->e.length=zs.length->dM i e=true->dM e zs=true->dM i zs=true
 | [],[],_,_,_,h,_=>by rw[mT]at h;cases h
 | [],_::_,_,h,_,_,_=>by simp at h
 |_::_,[],_,h,_,_,_=>by simp at h
 |_::_,_::_,[],_,h,_,_=>by simp at h
 | a::i,b::e,c::zs,k,l,f,d=>by
  by_cases j:a=b
  .subst j;rw[nG]at f;by_cases g:a=c
   .subst g;rw[nG]at d⊢;exact D8 (by simpa using k) (by simpa using l) f d
   .rw[ir g]at d⊢;exact d
  .rw[ir j]at f;have m:a<b:=gE f;by_cases g:b=c
   .subst g;rw[ir j];exact f
   .rw[ir g]at d;have n:b<c:=gE d;rw[ir (by lia)];exact dD (by lia)
theorem E5: ∀{c d g i:cf},c.length=d.length->dM c d=true->dM (c++g) (d++i)=true
 | [],[],_,_,_,h=>by rw[mT]at h;cases h
 | [],_::_,_,_,h,_=>by simp at h
 |_::_,[],_,_,h,_=>by simp at h
 | a::c,b::d,g,i,j,e=>by
  by_cases f:a=b
  .subst f;rw[qe,qe,nG];rw[nG]at e;exact E5 (by simpa using j) e
  .rw[qe,qe,ir f];rw[ir f]at e;exact e
def Jj(c:cf){a b:Nat}(h:a<b):dM (c++[a]) (c++[b])=true:=by
 induction c with
 |nil=>exact(ir (by lia)).trans (dD h)
 |cons x c d=>rw[qe,qe,nG];exact d
def tR{u v x:cf}(a:sl u v)(b:sl v x):sl u x:=by
 rcases a with a|⟨c,d⟩<;>rcases b with b|⟨e,f⟩
 .exact .inl (by lia)
 .exact .inl (by lia)
 .exact .inl (by lia)
 .exact .inr ⟨by lia,D8 c e d f⟩
def xm{u:cf}(h:sl u u):False:=by
 rcases h with h|⟨_,h⟩
 .lia
 .rw[mT]at h;cases h
def Cv{u v:cf}{a b:Nat}(h:sl u v):sl (u++[a]) (v++[b]):=by
 rcases h with h|⟨e,l⟩
 .exact .inl (by simp;lia)
 .exact .inr ⟨by simp[e],E5 e l⟩
def yr(u:cf){a b:Nat}(h:a<b):sl (u++[a]) (u++[b]):= .inr ⟨by simp,Jj u h⟩
def lW(u v:cf):Prop:=u=v∨sl u v
def Iv{u v x:cf}(h1:lW u v)(h2:lW v x):lW u x:=by
 rcases h1 with rfl|h1
 .exact h2
 .rcases h2 with rfl|h2
  .exact .inr h1
  .exact .inr (tR h1 h2)
def HB{u v:cf}{a:Nat}(h:lW u v):lW (u++[a]) (v++[a]):=by
 rcases h with rfl|h
 .exact .inl rfl
 .exact .inr (Cv h)
section
variable(f:cf->Nat->List Nat)(L:Nat)(x0:cf)
abbrev TW:=List (cf×cf)
def cV(word:cf):cf:=word.foldl f x0
def Goes(a:TW)(p:cf×cf)(l:Nat):Prop:= ∃u,(f p.1 l,u)∈a/\lW u (p.2++[l])
structure Told(ws:TW):Prop where
 head:ws[0]? =some (x0,[])
 keys:(ws.map (·.1)).Nodup
 run: ∀p∈ws,(∀l∈p.2,l<L)/\cV f x0 p.2=p.1
 up:ws.Pairwise λp q=>sl p.2 q.2
 all: ∀p∈ws,∀l,l<L->Goes f ws p l
 short: ∀p∈ws,p.2.length<ws.length
structure Bfs(d:Nat)(ws wv fo:TW)(i j:Nat):Prop where
 head:ws[0]? =some (x0,[])
 keys:(ws.map (·.1)).Nodup
 run: ∀p∈ws,(∀l∈p.2,l<L)/\cV f x0 p.2=p.1
 up:ws.Pairwise λp q=>sl p.2 q.2
 len: ∀p∈ws,p.2.length<=d+1
 wave: ∀p∈wv,p∈ws/\p.2.length=d
 wup:wv.Pairwise λp q=>sl p.2 q.2
 foll: ∀p∈fo,p∈ws/\p.2.length=d+1
 fup:fo.Pairwise λp q=>sl p.2 q.2
 front: ∀p∈ws,∀t,wv[i]? =some t->sl p.2 (t.2++[j])
 done: ∀p∈ws,p∈fo∨(∃a,i<=a/\wv[a]? =some p)∨ ∀l,l<L->Goes f ws p l
 part: ∀t,wv[i]? =some t-> ∀l,l<j->Goes f ws t l
 short: ∀p∈ws,p.2.length<ws.length
variable{f L x0}{d i j:Nat}{ws wv fo:TW}{t:cf×cf}
def Goes.more{p q:cf×cf}{l:Nat}(h:Goes f ws p l):Goes f (ws++[q]) p l:=by
 obtain⟨u,a,b⟩:=h;exact⟨u,mq _ a,b⟩
def Bfs.start:Bfs f L x0 0 [(x0,[])] [(x0,[])] [] 0 0 where
 head:=rfl
 keys:=by simp
 run:=λp a=>by
  rw[cW.mp a];exact⟨λ_ h=>(nomatch h),rfl⟩
 up:=pC _ _
 len:=λp a=>by rw[cW.mp a];simp
 wave:=λp a=>⟨a,by rw[cW.mp a];rfl⟩
 wup:=pC _ _
 foll:=λ_ h=>nomatch h
 fup:= .nil
 front:=λp a t _=>by
  rw[cW.mp a];exact .inl (by simp)
 done:=λp a=> .inr (.inl ⟨0,cD _,by rw[cW.mp a];rfl⟩)
 part:=λ_ _ _ h=>wC h (py _)
 short:=λp a=>by rw[cW.mp a];simp
def Bfs.old(b:Bfs f L x0 d ws wv fo i j)(ht:wv[i]? =some t)(h:f t.1 j∈ws.map (·.1)):Bfs f L x0 d ws wv fo i (j+1):=by
 obtain⟨p,g,e⟩:=cO.mp h;refine {b with front:=λq k t' a=>?_,part:=λt' a l c=>?_}
 .exact tR (b.front q k t' a) (yr _ (mH _))
 .rcases Nat.lt_succ_iff_lt_or_eq.mp c with c|rfl
  .exact b.part t' a l c
  .rw[ht]at a;cases a;exact⟨p.2,by rw[<-e];exact g,.inr (b.front p g t ht)⟩
def Bfs.new(b:Bfs f L x0 d ws wv fo i j)(ht:wv[i]? =some t)(n:j<L)(o:f t.1 j∉ws.map (·.1)):
  Bfs f L x0 d (ws++[(f t.1 j,t.2++[j])]) wv (fo++[(f t.1 j,t.2++[j])]) i (j+1):=by
 obtain⟨c,tl⟩:=b.wave t (cK ht);obtain⟨r,g⟩:=b.run t c;have k:(t.2++[j]).length=d+1:=by simp[tl]
 have pos:0<ws.length:=wQ c;refine⟨?_,?_,λp hp=>?_,?_,λp hp=>?_,λp hp=>⟨mq _ (b.wave p hp).1,(b.wave p hp).2⟩,b.wup,λp hp=>?_,?_,λp hp s a=>?_,λp hp=>?_,λs a l hl=>?_,λp hp=>?_⟩
 .rw[eV pos];exact b.head
 .rw[dP,xC];refine⟨b.keys,by simp,λx u y m z=>?_⟩;simp at m;subst m;exact o (z▸u)
 .rcases di.mp hp with hp|hp
  .exact b.run p hp
  .rw[cW.mp hp];refine⟨λl hl=>?_,?_⟩
   .rcases di.mp hl with hl|hl
    .exact r l hl
    .rw[cW.mp hl];exact n
   .show cV f x0 (t.2++[j])=f t.1 j;unfold cV at g⊢;rw[nP,g];rfl
 .rw[gS];refine⟨b.up,pC _ _,λp hp q e=>?_⟩;rw[cW.mp e];exact b.front p hp t ht
 .rcases di.mp hp with hp|hp
  .exact b.len p hp
  .rw[cW.mp hp];exact om k
 .rcases di.mp hp with hp|hp
  .exact⟨mq _ (b.foll p hp).1,(b.foll p hp).2⟩
  .exact⟨fE _ hp,by rw[cW.mp hp];exact k⟩
 .rw[gS];refine⟨b.fup,pC _ _,λp hp q e=>?_⟩;rw[cW.mp e];exact b.front p (b.foll p hp).1 t ht
 .rw[ht]at a;cases a
  rcases di.mp hp with hp|hp
  .exact tR (b.front p hp t ht) (yr _ (mH _))
  .rw[cW.mp hp];exact yr _ (mH _)
 .rcases di.mp hp with hp|hp
  .rcases b.done p hp with h|h|h
   .exact .inl (mq _ h)
   .exact .inr (.inl h)
   .exact .inr (.inr λl hl=>(h l hl).more)
  .exact .inl (fE _ hp)
 .rw[ht]at a;cases a
  rcases Nat.lt_succ_iff_lt_or_eq.mp hl with hl|rfl
  .exact(b.part t ht l hl).more
  .exact⟨t.2++[l],fE _ (cW.mpr rfl),.inl rfl⟩
 .rw[dz,rY]
  rcases di.mp hp with hp|hp
  .exact sf (b.short p hp)
  .rw[cW.mp hp];have z:=b.short t c;show(t.2++[j]).length<_
   rw[dz,rY];lia
def Bfs.next(b:Bfs f L x0 d ws wv fo i L)(ht:wv[i]? =some t):Bfs f L x0 d ws wv fo (i+1) 0:=by
 refine {b with front:=λp g o k=>?_,done:=λp g=>?_,part:=λ_ _ l m=>wC m (py _)}
 .have n:=b.front p g t ht;have c:sl t.2 o.2:=by
   obtain⟨q,r⟩:=cA.mp ht;obtain⟨s,u⟩:=cA.mp k;rw[<-r,<-u];exact mB.mp b.wup i (i+1) q s (mH _)
  exact tR n (Cv c)
 .rcases b.done p g with h|⟨a,n,c⟩|h
  .exact .inl h
  .rcases Nat.eq_or_lt_of_le n with e|e
   .subst e;rw[ht]at c;cases c;exact .inr (.inr λl m=>b.part t ht l m)
   .exact .inr (.inl ⟨a,e,c⟩)
  .exact .inr (.inr h)
def Bfs.wave'(b:Bfs f L x0 d ws wv fo wv.length 0):Bfs f L x0 (d+1) ws fo [] 0 0:=by
 refine⟨b.head,b.keys,b.run,b.up,λp c=>Nat.le_succ_of_le (b.len p c),b.foll,b.fup,λ_ h=>(nomatch h),.nil,λp c t ht=>?_,λp c=>?_,λ_ _ l m=>wC m (py _),b.short⟩
 .have k:=b.len p c;have g:=(b.foll t (cK ht)).2;exact .inl (by simp;lia)
 .rcases b.done p c with h|⟨a,k,g⟩|h
  .obtain⟨a,e⟩:=fi.mp h;exact .inr (.inl ⟨a,gN _,e⟩)
  .rw[hG k]at g;cases g
  .exact .inr (.inr h)
def Bfs.told(b:Bfs f L x0 d ws [] [] 0 0):Told f L x0 ws:=⟨b.head,b.keys,b.run,b.up,λp c=>by
 rcases b.done p c with h|⟨a,_,h⟩|h
 .nomatch h
 .simp at h
 .exact h,b.short⟩
theorem Told.least(T:Told f L x0 ws): ∀(n:Nat) (v:cf),v.length=n->(∀l∈v,l<L)-> ∃u,(cV f x0 v,u)∈ws/\lW u v
 |0,v,a,_=>by
  have e:v=[]:=m7.mp a;subst e;exact⟨[],cK T.head,.inl rfl⟩
 | n+1,v,a,c=>by
  obtain⟨b,l,rfl⟩: ∃b l,v=b++[l]:=⟨v.dropLast,v.getLast (by intro z;rw[z]at a;cases a),(Dv _).symm⟩;obtain⟨u,g,h⟩:=T.least n b (by simp at a;lia) λx k=>c x (List.mem_append_left _ k);obtain⟨m,o,p⟩:=T.all _ g l (c l (fE _ (cW.mpr rfl)));refine⟨m,?_,Iv p (HB h)⟩;have e:cV f x0 (b++[l])=f (cV f x0 b) l:=by
   unfold cV;rw[nP];rfl
  rw[e];exact o
def pV{U:LN}(b:x0∈U)(c: ∀x∈U,∀l,l<L->f x l∈U): ∀word:cf,(∀l∈word,l<L)->cV f x0 word∈U:=by
 have go: ∀(word:cf) (x:cf),x∈U->(∀l∈word,l<L)->word.foldl f x∈U:=by
  intro word
  induction word with
  |nil=>intro x a _;exact a
  |cons l word e=>intro x a h;exact e _ (c x a l (h l (dC ..))) λy g=>h y (eO _ g)
 exact λword h=>go word x0 b h
def ko{U:LN}{l:LN}(nd:l.Nodup)(h: ∀x∈l,x∈U):l.length<=U.length:=pS nd h
end
def Ed{u v:cf}(a:sl u v)(b:sl v u):False:=xm (tR a b)
def JT{u v:cf}(h1:lW u v)(h2:lW v u):u=v:=by
 rcases h1 with h1|h1
 .exact h1
 .rcases h2 with h2|h2
  .exact h2.symm
  .exact(Ed h1 h2).elim
theorem ED: ∀{a b:TW},(a.Pairwise λp q=>sl p.2 q.2)->(b.Pairwise λp q=>sl p.2 q.2)->(∀p,p∈a↔p∈b)->a=b
 | [],[],_,_,_=>rfl
 | [],q::b,_,_,h=>wC ((h q).mpr (dC ..)) (by simp)
 |p::a,[],_,_,h=>wC ((h p).mp (dC ..)) (by simp)
 | p::a,q::b,g,i,h=>by
  obtain⟨d,j⟩:=pG.mp g;obtain⟨f,k⟩:=pG.mp i;have l:p=q:=by
   rcases dE.mp ((h p).mp (dC ..))with e|e
   .exact e
   .rcases dE.mp ((h q).mpr (dC ..))with e'|e'
    .exact e'.symm
    .exact(Ed (f p e) (d q e')).elim
  subst l;have rest:a=b:=ED j k λr=>by
   constructor
   .intro c
    rcases dE.mp ((h r).mp (eO _ c))with e|e
    .subst e;exact(xm (d r c)).elim
    .exact e
   .intro c
    rcases dE.mp ((h r).mpr (eO _ c))with e|e
    .subst e;exact(xm (f r c)).elim
    .exact e
  rw[rest]
def Told.sub{f:cf->Nat->List Nat}{L:Nat}{b:cf}{g h:TW}(T:Told f L b g)(k:Told f L b h){p:cf×cf}(l:p∈g):p∈h:=by
 obtain⟨o,q⟩:=T.run p l;obtain⟨u,a,r⟩:=k.least _ p.2 rfl o;rw[q]at a;obtain⟨s,t⟩:=k.run _ a;obtain⟨v,m,n⟩:=T.least _ u rfl s;have e:cV f b u=p.1:=t;rw[e]at m;have same:v=p.2:=by
  obtain⟨i,c⟩:=fi.mp m;obtain⟨j,d⟩:=fi.mp l;have w:i=j:=(g7 (by rw[cj];exact(cA.mp c).1) T.keys).mp (by rw[cF,cF,c,d];rfl);subst w;rw[c]at d;have z:=fH d;rw[<-z]
 rw[same]at n;have x:u=p.2:=JT r n;rw[x]at a;exact a
def Told.uniq{f:cf->Nat->List Nat}{L:Nat}{b:cf}{c d:TW}(T:Told f L b c)(a:Told f L b d):c=d:=ED T.up a.up λp=>⟨λh=>T.sub a h,λh=>a.sub T h⟩
section
variable{P:Pg}{w:World}{A:Ar}{E:VP}{s:Sh}{it d:Ad}{i ep:Nat}{es:Array DictEntry}
abbrev iu(k v:Vl):Obj:={cls:= .type "tuple",data:= .seq #[k,v]}
abbrev nH(a:Vl)(b:Bool)(d:Ad)(i n ep:Nat)(k v:Vl):Obj:={cls:= .type "dict_itemiterator",data:= .fields #[a,.bool b,.ref d,.int i 0,.int n 0,.int ep 0,k,v]}
def Lies(h:Heap)(d:Ad)(es:Array DictEntry)(ep:Nat):Prop:= ∃o,h.get? d=some o/\o.ExactDict/\o.data= .dict es ep
def Goer(h:Heap)(it d:Ad)(i n ep:Nat):Prop:= ∃b c k v,h.get? it=some (nH b c d i n ep k v)/\(b= .none∨ ∃a:Nat,b=rawInt a/\a≠it/\ ∃o,h.get? a=some o)
def Goer.keep{h f:Heap}{n:Nat}(g:Goer h it d i n ep)(k: ∀o,h.get? it=some o->f.get? it=some o)(l: ∀b o,h.get? b=some o-> ∃p,f.get? b=some p):Goer f it d i n ep:=by
 obtain⟨j,m,x,v,e,c⟩:=g;refine⟨j,m,x,v,k _ e,c.imp id ?_⟩;rintro⟨a,q,r,o,t⟩;exact⟨a,q,r,l a o t⟩
def J2{h:Vl}{f:Bool}{n:Nat}{y B k v:Vl}{Q:VP}(e:s.heap.get? it=some (nH h f d i n ep y B))(c:h= .none∨ ∃a:Nat,h=rawInt a/\a≠it/\ ∃o,s.heap.get? a=some o)
  (q: ∀t,Goer t it d i n ep->t.get? s.heap.objs.size=some (iu k v)->(∀b o,b≠it->s.heap.get? b=some o->t.get? b=some o)->Q (.ref s.heap.objs.size) {s with heap:=t}):
  wpAny (model P w) A (Builtin.Dict_items.pairFromOwner (.ref it) 6 k v) Q E s:=by
 have lt:it<s.heap.objs.size:=cU e;unfold Builtin.Dict_items.pairFromOwner;refine ci (wpAny_newTuple ?_);have g:=dj (iu k v) e;have j:(s.heap.push (iu k v)).get? s.heap.objs.size=some (iu k v):=dZ _ rfl;have u: ∀b o,s.heap.get? b=some o->(s.heap.push (iu k v)).get? b=some o:=λb o z=>dj _ z;have C:s.heap.objs.size≠it:=j6 lt
 rcases c with rfl|⟨a,rfl,D,o,N⟩
 .have free: ∀{R:Bool->Sh->Prop} {G:Sh},G.heap.get? it=some (nH .none f d i n ep y B)->R true G->wpAny (model P w) A (Builtin.Dict_items.ownedTupleIsFree (.ref it)) R E G:=λe r=>by
   unfold Builtin.Dict_items.ownedTupleIsFree;exact ci (pI e rfl (x:= .none) rfl (cu r))
  refine ci (free g ?_);rw[wB rfl];refine ci (pI g rfl (x:=y) rfl (ci (pI g rfl (x:=B) rfl ?_)));refine ci (lB g (by simp) λL H l=>wpAny_bind (wpAny_setField_rec H (by simp) λh3 O T=>?_));refine ci (lB O (by simp) λh4 U Y=>wpAny_bind (wpAny_setField_rec U (by simp) λh5 e5 s5=>wpAny_bind (wpAny_letGo (wpAny_pure ?_))));have M:=((l.trans T).trans Y).trans s5;have p:=M.extBut _ _ C j;exact q h5 ⟨_,_,_,_,e5,.inr ⟨_,rfl,C,_,p⟩⟩ p λb o I z=>M.extBut _ _ I (u b o z)
 .have J:=u a o N;refine ci (m:=Builtin.Dict_items.ownedTupleIsFree _) ?_;unfold Builtin.Dict_items.ownedTupleIsFree;refine ci (pI g rfl (x:=rawInt a) rfl ?_);have alive: ∀{R:Option Obj->Sh->Prop},R (some o) {s with heap:=s.heap.push (iu k v)}->wpAny (model P w) A (loadIfAlive ((a:Int).toNat)) R E {s with heap:=s.heap.push (iu k v)}:=λ{R} r=>by
   rw[gb];exact λ_ _ _=>show R ((s.heap.push (iu k v)).get? a) _ by rw[J];exact r
  refine show wpAny _ _ (loadIfAlive ((a:Int).toNat) >>= _) _ _ _ from ci (alive ?_)
  refine ci (m:=field _ _) (pI g rfl (x:= .bool f) rfl ?_);cases f with
  |true=>exact cu (cu (q _ ⟨_,_,_,_,g,.inr ⟨a,rfl,D,o,J⟩⟩ j λb o _ z=>u b o z))
  |false=>
   refine ci (m:=setField _ _ _) (lB g (by simp) λL H l=>wpAny_pure (wpAny_pure ?_));exact q L ⟨_,_,_,_,H,.inr ⟨a,rfl,D,o,l.extBut _ _ D J⟩⟩ (l.extBut _ _ C j) λb o I z=>l.extBut _ _ I (u b o z)
end
section
variable{P:Pg}{w:World}{A:Ar}{E:VP}{s:Sh}{it d:Ad}{i ep:Nat}{es:Array DictEntry}
def G'{f:DictEntry}{Q:Option Vl->Sh->Prop}(G:Goer s.heap it d i es.size ep)(L:Lies s.heap d es ep)(u:es[i]? =some f)
  (q: ∀l,Goer l it d (i+1) es.size ep->l.get? s.heap.objs.size=some (iu f.key f.val)->(∀b o,b≠it->s.heap.get? b=some o->l.get? b=some o)->Q (some (.ref s.heap.objs.size)) {s with heap:=l}):
  wpAny (model P w) A (pyNext (.ref it)) Q E s:=by
 obtain⟨m,n,D,H,e,c⟩:=G;obtain⟨o,v,_,x⟩:=L;have ty:s.TypeIs (.ref it) "dict_itemiterator":=⟨_,e,rfl⟩;have lt:i<es.size:=(sI.mp u).1;unfold pyNext;refine ci (nM (oo (name:=Str.ofString "__next__") ty uO (iK uO ty Fl ?_ (BC _))));refine ci (cu (ci (ci ?_)));refine ci (xJ ty (cu (ci (qx e rfl ?_))));have h:Builtin.Dict_items.ownsTuple "dict_itemiterator"=true:=by decide
 simp only[h,if_true];refine show wpAny _ _ (if(Value.ref d==Value.none)=true then _ else _) _ _ s from(wA (show ¬((Value.ref d==Value.none)=true)from e9))▸ci (cu (ci (oT v x ?_)))
 rw[wA (by simp)];refine ci (cu (ci (qk v x ?_)));rw[wA (by simp)];refine cu ?_;have p:(if((i:Nat):Int)<0 then none else es[((i:Nat):Int).toNat]?)=some f:=by
  rw[wA (by lia),gb];exact u
 show wpAny _ _ (match (if((i:Nat):Int)<0 then none else es[((i:Nat):Int).toNat]?)with|some e=>_|none=>_) _ _ s;rw[p];refine ci (ci (xJ ty (cu (ci (y4 ty ?_)))));refine show wpAny _ _ (setField (.ref it) 3 (rawInt ((i:Int)+1)) >>= _) _ _ s from ci (lB e (by simp) λg I r=>wpAny_bind (wpAny_holding ?_))
 have j:g.get? it=some (nH m n d (i+1) es.size ep D H):=by
  have z:((i+1:Nat):Int)=(i:Int)+1:=by lia
  unfold nH;rw[z];simpa[rawInt]using I
 have k:Shared.TypeIs {s with heap:=g} (.ref it) "dict_itemiterator":=⟨_,j,rfl⟩;refine ci (y4 k (ci (y4 k ?_)));have sz:g.objs.size=s.heap.objs.size:=r.1;refine show wpAny _ _ (Builtin.Dict_items.pairFromOwner (.ref it) 6 f.key f.val) _ _ {s with heap:=g}from J2 (s:={s with heap:=g}) j (c.imp id ?_) λy J M N=>?_
 .rintro⟨a,O,B,T,z⟩;exact⟨a,O,B,T,r.extBut _ _ B z⟩
 .have t:y.get? s.heap.objs.size=some (iu f.key f.val):=by rw[<-sz];exact M
  show wpAny _ _ (ret (.ref g.objs.size)) _ _ _;rw[sz];exact cu ⟨_,rfl,cu (q y J t λb o C z=>N b o C (r.extBut _ _ C z))⟩
def Hl{Q:Option Vl->Sh->Prop}(l:A.handled=none)(G:Goer s.heap it d i es.size ep)(L:Lies s.heap d es ep)(n:es[i]? =none)
  (q: ∀h,Heap.ExtBut it s.heap h->Q none {s with heap:=h}):wpAny (model P w) A (pyNext (.ref it)) Q E s:=by
 obtain⟨p,r,v,x,e,c⟩:=G;obtain⟨o,j,_,k⟩:=L;have ty:s.TypeIs (.ref it) "dict_itemiterator":=⟨_,e,rfl⟩;unfold pyNext;refine ci (nM (oo (name:=Str.ofString "__next__") ty uO (iK uO ty Fl ?_ (BC _))));refine ci (cu (ci (ci ?_)));refine ci (xJ ty (cu (ci (qx e rfl ?_))));have f:Builtin.Dict_items.ownsTuple "dict_itemiterator"=true:=by decide
 simp only[f,if_true];refine show wpAny _ _ (if(Value.ref d==Value.none)=true then _ else _) _ _ s from(wA (show ¬((Value.ref d==Value.none)=true)from e9))▸ci (cu (ci (oT j k ?_)))
 rw[wA (by simp)];refine ci (cu (ci (qk j k ?_)));rw[wA (by simp)];refine cu ?_;have g:(if((i:Nat):Int)<0 then none else es[((i:Nat):Int).toNat]?)=none:=by
  rw[wA (by lia),gb];exact n
 show wpAny _ _ (match (if((i:Nat):Int)<0 then none else es[((i:Nat):Int).toNat]?)with|some e=>_|none=>_) _ _ s;rw[g];refine ci (ci (xJ ty (cu ?_)));refine show wpAny _ _ (setField (.ref it) 2 .none >>= _) _ _ s from ci (lB e (by simp) λy B t=>?_)
 refine ci (m:=newExc _ _) ?_;simp only[newExc,newTuple];refine ci (mh ?_ (by size_fits));refine ci (m:=firstArgMember _ _) (vf (a:=Value.none) (by first|rfl|(unfold firstArgMember;rfl)) (wpAny_newObj_type ?_ (by size_fits)));refine Ae (by simpa using l) (wpAny_bind (wpAny_isInstance (T:="StopIteration") (b:=true) ⟨_,Heap.get?_push_size _ rfl,rfl⟩ isSubtype_stop (wpAny_pure ?_)));exact q _ λb o u z=>dj _ (dj _ (t.extBut b o u z))
end
structure PMade(es:Array DictEntry)(lo:Ad)(h:Heap)(as:As):Prop where
 far: ∀a∈as,lo<a
 up:as.Pairwise (· < ·)
 is: ∀(j:Nat) (a:Ad),as[j]? =some a-> ∃en:DictEntry,es[j]? =some en/\h.get? a=some (iu en.key en.val)
def PMade.nil{a:Array DictEntry}{lo:Ad}{h:Heap}:PMade a lo h []:=⟨λ_ z=>(nomatch z),.nil,λ_ _ z=>by simp at z⟩
def PMade.here{c:Array DictEntry}{lo:Ad}{h:Heap}{b:As}(m:PMade c lo h b): ∀a∈b,a<h.objs.size:=λa d=>by
 obtain⟨j,e⟩:=fi.mp d;obtain⟨_,_,g⟩:=m.is j a e;exact cU g
def PMade.keep{c:Array DictEntry}{lo:Ad}{h d:Heap}{f:As}(m:PMade c lo h f)(k: ∀b o,lo<b->h.get? b=some o->d.get? b=some o):PMade c lo d f:=
 ⟨m.far,m.up,λj a e=>by
  obtain⟨i,x,g⟩:=m.is j a e;exact⟨i,x,k a _ (m.far a (cK e)) g⟩⟩
def PMade.more{i:Array DictEntry}{lo a:Ad}{h:Heap}{d:As}{f:DictEntry}(m:PMade i lo h d)(o:lo<a)(new: ∀b∈d,b<a)(x:i[d.length]? =some f)(g:h.get? a=some (iu f.key f.val)):PMade i lo h (d++[a]):=
  ⟨λb k=>by
    rcases di.mp k with z|z
    · exact m.far b z
    · rw[cW.mp z];exact o,
   gS.mpr ⟨m.up,pC _ _,λb k c p=>by rw[cW.mp p];exact new b k⟩,
   λj b e=>by
    by_cases l:j<d.length
    · rw[eV l]at e
      exact m.is j b e
    · rw[eU (vD l)]at e
      obtain⟨z,n⟩:=cA.mp e;have r:j-d.length=0:=by simp at z;lia
      have q:j=d.length:=by lia
      subst q;simp at n;subst n;exact⟨f,x,g⟩⟩
section
variable{P:Pg}{w:World}{A:Ar}{R:Result->Sh->Prop}{S I d:Ad}{ep:Nat}{es:Array DictEntry}{res:Vl}
abbrev tV(h:Heap)(S:Ad)(a:AV)(c:Nat):Prop:=h.get? S=some {cls:= .type "list",data:= .seq a c}
def A4(O:A.handled=none)(C:S<I)(Q:d≠S)(T:d≠I)(U:es.size<=sizeLine): ∀(r i:Nat) (s:Sh) (a:As) (c:Nat),i+r=es.size->a.length=i->Goer s.heap I d i es.size ep->Lies s.heap d es ep->
      tV s.heap S (a.map Value.ref).toArray c->PMade es I s.heap a->
      (∀f bs p,bs.length=es.size->PMade es I f bs->tV f S (bs.map Value.ref).toArray p->(∀b o,b≠S->b≠I->s.heap.get? b=some o->f.get? b=some o)->R (.ok (.ret res)) {s with heap:=f})->
      codeAny (model P w) A (.builtin "list.extend.loop" ⟨[.ref S,.ref I,res],[]⟩) R s:=by
  have g:S≠I:=dH C;intro r
  induction r with
  | zero=>
    intro i s a c Y t G L m M q;refine lM F.entry_extend_loop ?_;rw[nR rX _];refine show wpAny _ A.in1 (pyNext (.ref I) >>= _) _ _ s from ci (Hl (by simpa using O) G L (Array.getElem?_eq_none (by lia)) λf x=>wpAny_pure ?_)
    exact q f a c (by lia) (M.keep λb o h e=>x b o (j6 h) e) (x S _ g m) λb o _ u e=>x b o u e
  | succ r ih=>
    intro i s a c Y t G L m M q;obtain⟨D,E⟩: ∃D,es[i]? =some D:=⟨es[i]'(by lia),iJ (by lia)⟩;have v:I<s.heap.objs.size:=by
      obtain⟨_,_,_,_,e,_⟩:=G;exact cU e
    have y:S<s.heap.objs.size:=cU m;refine lM F.entry_extend_loop ?_;rw[nR rX _];refine show wpAny _ A.in1 (pyNext (.ref I) >>= _) _ _ s from ci (G' G L E λj G1 p1 n=>?_)
    have k:=n S _ g m;refine show wpAny _ A.in1 (updateSeq S (·.push (Value.ref s.heap.objs.size)) >>= _) _ _ {s with heap:=j}from ci (xh k rfl (cu ⟨oY rX _,?_⟩) ?_ ?_)
    · have off: ∀b o,b≠S->j.get? b=some o->(j.update S (Obj.mapSeq (·.push (Value.ref s.heap.objs.size)))).get? b=some o:=λb o u e=>(iM _ _ (eC u)).trans e
      have l:=pX (Obj.mapSeq (·.push (Value.ref s.heap.objs.size))) k rfl;obtain⟨z,h0,x0,y0⟩:=L;have M1:PMade es I j a:=M.keep λb o h e=>n b o (j6 h) e
      refine ih (i+1) {s with heap:=j.update S (Obj.mapSeq (·.push (Value.ref s.heap.objs.size)))} (a++[s.heap.objs.size]) _ (by lia) (by simp[t]) (G1.keep (λo e=>off I o (Ne.symm g) e) λb o e=>?_)
        ⟨z,off d z Q (n d z T h0),x0,y0⟩ (by simpa[Obj.mapSeq,List.map_append]using l) ?_ λf bs p l' M' B k'=>q f bs p l' M' B λb o H J e=>k' b o H J (off b o H (n b o J e))
      · by_cases N:b=S
        · subst N
          exact⟨_,l⟩
        · exact⟨o,off b o N e⟩
      · exact(M1.keep λb o h e=>off b o (j6 (uQ C h)) e).more v M.here (t▸E) (off _ _ (j6 y) p1)
    · simp;lia
    · simp;lia
end
section
variable{P:Pg}{w:World}{A:Ar}{E:VP}{s:Sh}{v d:Ad}{ep:Nat}{es:Array DictEntry}
abbrev oX(d:Ad):Obj:={cls:= .type "dict_items",data:= .fields #[.ref d]}
def Lies.typeIs{s:Sh}(L:Lies s.heap d es ep):s.TypeIs (.ref d) "dict":=let⟨o,h,x,_⟩:=L;⟨o,h,x.1⟩
def Kk{Q:VP}(nd:(d==sysModules)=false)(L:Lies s.heap d es ep)(q:Q (.ref s.heap.objs.size) {s with heap:=s.heap.push (oX d)}):wpAny (model P w) A (call (.builtin "dict.items") [.ref d]) Q E s:=by
 refine call_meetsIn (S:=λ_ R s=>Lies s.heap d es ep/\R (.ok (.ret (.ref s.heap.objs.size))) {s with heap:=s.heap.push (oX d)}) F.slot_dict_items L.typeIs F.entry_dict_items (F.args_dict_items_1 _) (.of_wp λA R s ⟨L,r⟩=>?_) ⟨L,q⟩;unfold Builtin.«dict.items» Builtin.Dict.noArgs;refine ci (ci (wpAny_notOrdered_dict L.typeIs ?_));refine show wpAny _ _ (pure d) _ _ s from cu (show wpAny _ _ (Builtin.Dict.showsAll d >>= _) _ _ s from ?_)
 have all:Builtin.Dict.showsAll d=pure ():=by
  unfold Builtin.Dict.showsAll;rw[nd];rfl
 rw[all];exact ci (cu (ci (mh (cu ⟨_,rfl,r⟩))))
def KC{Q:VP}(a:s.heap.get? v=some (oX d))(L:Lies s.heap d es ep)(q:Q (.ref s.heap.objs.size) {s with heap:=s.heap.push (nH .none false d 0 es.size ep .none .none)}):wpAny (model P w) A (pyIter (.ref v)) Q E s:=by
 have ty:s.TypeIs (.ref v) "dict_items":=⟨_,a,rfl⟩;obtain⟨o,b,_,c⟩:=L;refine pR ty F.slot_dict_items_iter (iK F.slot_dict_items_iter ty F.entry_dict_items_iter ?_ (F.args_dict_items_iter_1 _));unfold Builtin.«dict_items.__iter__» Builtin.Dict_items.dictOf Builtin.Dict_items.newIterator;refine ci (cu (ci (ci (pI a rfl (x:= .ref d) rfl (cu (ci (ci (oT b c (ci (qk b c ?_))))))))));refine show wpAny _ _ (newFields "dict_itemiterator" [.none,.bool false,.ref d,rawInt 0,rawInt (es.size:Nat),rawInt (ep:Nat),.none,.none]) _ _ s from mh (cu ⟨_,rfl,"dict_itemiterator",_,⟨_,dZ _ rfl,rfl⟩,uO.lookup,q⟩) (by size_fits)
def JY{Q:Bool->Sh->Prop}(ty:s.TypeIs (.ref v) "dict_items")(q:Q false s):wpAny (model P w) A (Builtin.List.listLengthHint (.ref v)) Q E s:=PySem.W.kdx_hint ty q
def K'{Q:VP}(hh:A.handled=none)(O:s.heap.get? v=some (oX d))(L:Lies s.heap d es ep)(D:es.size<=sizeLine)
  (q: ∀h k c i,k.length=es.size->PMade es s.heap.objs.size h k->tV h s.heap.objs.size (k.map Value.ref).toArray c->(∀b o,s.heap.get? b=some o->h.get? b=some o)->Q (.ref s.heap.objs.size) {s with heap:=h,toks:=i}):
  wpAny (model P w) A (call (.type "list") [.ref v]) Q E s:=by
 let S:=s.heap.objs.size
 obtain⟨o,G,x,U⟩:=id L;have ld:d<S:=cU G;have lv:v<S:=cU O;refine callType_codes (Q₁:=λl n=>l= .ref S/\n={s with heap:=s.heap.push {cls:= .type "list",data:= .seq #[]}}) F.called_list (F.typeCall_list_1 _) F.entry_list_init (code_list_new _ ⟨rfl,rfl⟩) λl s1 z=>?_;obtain⟨rfl,rfl⟩:=z;have C:tV (s.heap.push {cls:= .type "list",data:= .seq #[]}) S #[] 0:=dZ _ rfl;refine⟨⟨_,C,rfl⟩,F.args_list_init_2 _ _,?_⟩;unfold Builtin.«list.__init__» Builtin.List.listItems;refine ci (ci (wpAny_seqItems C rfl (cu ?_)));refine ci (m:=updateSeq S _) (xh C rfl (ci (wpAny_letGo ?_)));have H:=pX (Obj.mapSeq (λ_=>(#[]:AV))) C rfl
 let p:=(s.heap.push {cls:= .type "list",data:= .seq #[]}).update S (Obj.mapSeq (λ_=>(#[]:AV)))
 have I: ∀b o,s.heap.get? b=some o->p.get? b=some o:=λb o e=>(iM _ _ (j6 (cU e))).trans (dj _ e);have J:p.objs.size=S+1:=by
  show(Heap.update _ _ _).objs.size=_;simp[Heap.update,Heap.push,S]
 have go: ∀(j:Heap) (c i:Nat),tV j S #[] c->(∀b o,b≠S->(p.push (nH .none false d 0 es.size ep .none .none)).get? b=some o->j.get? b=some o)->
   codeAny (model P w) A.in1 (.builtin "list.extend.loop" ⟨[.ref S,.ref p.objs.size,.none],[]⟩) (wants (λr t=>r=Value.none/\Q (Value.ref S) t) E) {s with heap:=j,toks:=i}:=λj c i l2 Y=>by
  have u:S<p.objs.size:=by rw[J];exact mH _
  have y: ∀b o,s.heap.get? b=some o->j.get? b=some o:=λb o e=>Y b o (dH (cU e)) (dj _ (I b o e));refine A4 (by simpa using hh) u (Nat.ne_of_lt ld) (Nat.ne_of_lt (Nat.lt_trans ld u)) D es.size 0 {s with heap:=j,toks:=i} [] c (by lia) rfl ⟨_,_,_,_,Y _ _ (Nat.ne_of_gt u) (Heap.get?_push_size _ rfl),.inl rfl⟩ ⟨o,y d o G,x,U⟩ l2 .nil λh k c' l' M N k'=>?_;refine⟨rfl,q h k c' i l' ⟨λa ha=>uQ u (M.far a ha),M.up,M.is⟩ N λb o e=>?_⟩;have lb:b<S:=cU e;exact k' b o (dH lb) (dH (uQ lb u)) (y b o e)
 refine show wpAny _ _ (Builtin.List.listExtendWith (.ref S) (.ref v) .none) _ _ _ from ?_
 unfold Builtin.List.listExtendWith;have f:=I v _ O;refine ci (wpAny_typeOf (T:="dict_items") ⟨_,f,rfl⟩ ?_);have no:(Builtin.List.listSameRef (.ref S) (.ref v) || Value.type "dict_items"==Value.type "list" || Value.type "dict_items"==Value.type "tuple")=false:=by
  have z:Builtin.List.listSameRef (.ref S) (.ref v)=false:=by simp[Builtin.List.listSameRef,Nat.ne_of_gt lv]
  rw[z];decide
 rw[no,wA (by decide)];refine ci (KC f ⟨o,I d o G,x,U⟩ (ci (gQ (JY ⟨_,dj _ f,rfl⟩ ?_))));have g:=dj (nH .none false d 0 es.size ep .none .none) H;refine Bs (λ_=>?_) λ_=>cu ⟨oY rX _,go _ _ _ g λ_ _ _ e=>e⟩;unfold Builtin.List.listTouch Builtin.List.listUpdate;refine ci (lZ (ci (ci (m:=updateSeq S _) (xh g rfl ?_))));have B:=pX (Obj.mapSeq (·.push Value.none)) g rfl;refine show wpAny _ _ (updateSeq S (·.pop)) _ _ _ from xh (hz:=by seq_fits) B rfl (cu ⟨oY rX _,go _ _ _ (pX (Obj.mapSeq (·.pop)) B rfl) λb o nb e=>?_⟩)
 rw[iM _ _ (eC nb),iM _ _ (eC nb)];exact e
end
def lY(H:Hp):List (Ad×HO)->Hp
 | []=>H
 |p::l=>lY (cg H p.1 p.2) l
theorem x8: ∀{l:List (Ad×HO)} {H:Hp} {b:Ad},(∀p∈l,b≠p.1)->lY H l b=H b
 | [],_,_,_=>rfl
 |p::l,H,b,n=>by
  show lY (cg H p.1 p.2) l b=_;rw[x8 λq a=>n q (eO _ a),cw (n p (dC ..))]
theorem Bw: ∀{l:List (Ad×HO)} {H:Hp} {p:Ad×HO},(l.map (·.1)).Nodup->p∈l->lY H l p.1=some p.2
 | q::l,H,p,nd,hp=>by
  obtain⟨a,b⟩:=iT.mp nd
  rcases dE.mp hp with rfl|hp
  .show lY (cg H p.1 p.2) l p.1=_;rw[x8 λr c z=>a (cO.mpr ⟨r,c,z.symm⟩),cn]
  .exact Bw (l:=l) b hp
def vG{c d:Type}{F:c->d->Prop}{l:List c}{m:List d}{j:Nat}{a:c}(r:Paired F l m)(e:l[j]? =some a): ∃b,m[j]? =some b/\F a b:=by
 induction r generalizing j with
 |nil=>simp at e
 | cons h _ f=>
  cases j with
  |zero=>
   have z:=fH e;subst z;exact⟨_,rfl,h⟩
  |succ j=>exact f (by simpa using e)
section
variable{X:Cx}
theorem Inv.tracks{a:AO}{c:St}{h:Hp}{s s1:Sh}(I:Inv X a c h s): ∀(l:List (Ad×HO)) (H:Hp),Inv X a c H s1->(∀p∈l,s.heap.objs.size<=p.1/\H p.1=none/\ ∀i,ObjOk X.prog X.w i s1.heap p.1 p.2)->(l.map (·.1)).Nodup->
  Inv X a c (lY H l) s1
 | [],_,d,_,_=>d
 |p::l,H,d,ok,nd=>by
  obtain⟨j,k⟩:=iT.mp nd;obtain⟨f,n,o⟩:=ok p (dC ..);obtain⟨u,m,v,w,r,t⟩:=I.fpOk (b:=p.1) (H':=H) f n;refine Inv.tracks I l _ (d.track n (o _) (dt I.sz f) m r t) (λq g=>?_) k;obtain⟨x,y,z⟩:=ok q (eO _ g);exact⟨x,by rw[cw λe=>j (cO.mpr ⟨q,g,e⟩)];exact y,z⟩
structure Listed(H H':Hp)(kvs:List (List cZ×V))(l:Ad)(as:As):Prop where
 new:H l=none
 news: ∀a∈as,H a=none
 out:l∉as
 nd:as.Nodup
 len:as.length=kvs.length
 lst:H' l=some (.lst (as.map .ref))
 is: ∀(j:Nat) (a:Ad),as[j]? =some a-> ∃k v b,kvs[j]? =some (k,v)/\H b=some (.tup (k.map kV))/\H' a=some (.tup [.ref b,v])
 rest: ∀b,b≠l->b∉as->H' b=H b
def tQ(v d:Ad):HO:= .ext λh=>h.get? v=some (oX d)
def Lk:V->List V->Hp->VK->Prop:=λx c H Q=>c=[]/\ ∃a b,x= .ref a/\H a=some (.dT b)/\ ∀v,H v=none->Q (.ref v) (cg H v (tQ v a))
def FZ:o0 X "dict.items" Lk:=by
 intro n s p H x r u t Q I b c h;obtain⟨rfl,a,d,rfl,f,q⟩:=h;cases b;cases c;obtain⟨z,g,v,i,o,w,A,j,l,m,_⟩:=I.hok a _ f;refine Kk g ⟨o,j,l,m⟩ ⟨.ref s.heap.objs.size,_,I.laid (a:=s.heap.objs.size) (o:=tQ s.heap.objs.size a) (t':=s.toks) (λ_ _ q=>dj _ q) (cD _) ?_,rfl,q _ I.fresh⟩;have e:(s.heap.push (oX a)).get? s.heap.objs.size=some (oX a):=dZ _ rfl;exact⟨e,⟨_,e⟩,λB C y k=>k _ y⟩
def HY:List V->Hp->VK->Prop:=λd H Q=> ∃v a b,d=[.ref v]/\H v=some (tQ v a)/\H a=some (.dT b)/\ ∀l e c,Listed H c b l e->Q (.ref l) c
def Ka(hc:X.calm=true):gv X (.type "list") HY:=by
 intro za s σ H xs us Q I r h;obtain⟨v,a,t,rfl,hv,ha,q⟩:=h;obtain⟨u,rfl,ru⟩:=gc r;cases ru;obtain⟨ev,_,_⟩:=I.hok v _ hv;obtain⟨z,na,ys,E,o,es,ep,e1,e2,e3,e4,_⟩:=I.hok a _ ha;have el:es.size=t.length:=by rw[vx e4,<-lV E]
 refine K' (I.ok.hd hc) ev ⟨o,e1,e2,e3⟩ (by lia) λD f c tk ln M lS k=>?_;have I1:Inv X za σ H {s with heap:=D,toks:=tk}:=I.kept k;have big: ∀b,s.heap.objs.size<=b->H b=none:=λb n=>I.hok.fresh n;have nd:f.Nodup:=M.up.imp λz=>dH z;have A:s.heap.objs.size∉f:=λm=>i5 _ (M.far _ m);have G: ∀(j:Nat) (b:Ad),f[j]? =some b-> ∃k x y,t[j]? =some (k,x)/\H y=some (.tup (k.map kV))/\ ∃u,RelV x u/\D.get? b=some (iu (.ref y) u):=λj b d=>by
  obtain⟨en,ee,g⟩:=M.is j b d;obtain⟨jl,_⟩:=cA.mp d;obtain⟨⟨k,x⟩,ek⟩: ∃p,t[j]? =some p:=⟨_,ck (by lia)⟩;obtain⟨⟨k',y,u⟩,ey,p1,p2,p3⟩:=vG E ek;rw[entry_at e4,ey]at ee;cases ee;exact⟨k,x,y,ek,p2,u,p3,g⟩
 have w: ∀b,∃o:HO,∀j:Nat,f[j]? =some b-> ∃k x y,t[j]? =some (k,x)/\H y=some (.tup (k.map kV))/\o= .tup [.ref y,x]/\ ∃u,RelV x u/\D.get? b=some (iu (.ref y) u):=λb=>by
  by_cases n:b∈f
  .obtain⟨j,d⟩:=fi.mp n;obtain⟨k,x,y,L,N,u,O,T⟩:=G j b d;refine⟨.tup [.ref y,x],λi ei=>?_⟩;have ij:j=i:=g7 (cA.mp d).1 nd |>.mp (d.trans ei.symm)
   subst ij;exact⟨k,x,y,L,N,rfl,u,O,T⟩
  .exact⟨.tup [],λj d=>wC (cK d) n⟩
 let J:Ad->HO:=λb=>Classical.choose (w b)
 have B: ∀(j:Nat) (b:Ad),f[j]? =some b-> ∃k x y,t[j]? =some (k,x)/\H y=some (.tup (k.map kV))/\J b= .tup [.ref y,x]/\ ∃u,RelV x u/\D.get? b=some (iu (.ref y) u):=λj b d=>oF (w b) j d;have C:(f.map λb=>(b,J b)).map (·.1)=f:=by simp[List.map_map,Function.comp_def]
 have U: ∀b∈f,∀Y,ObjOk X.prog X.w Y D b (J b):=λb n Y=>by
  obtain⟨j,d⟩:=fi.mp n;obtain⟨k,x,y,L,N,O,u,T,h5⟩:=B j b d;rw[O];exact⟨by show 2<=sizeLine;decide,[.ref y,u],.cons rfl (.cons T .nil),_,h5,rfl,0,rfl,rfl⟩
 have vs: ∀l:As,Vals (l.map V.ref) (l.map Value.ref):=λl=>by
  induction l with
  |nil=>exact .nil
  |cons x l ih=>exact .cons rfl ih
 have I2:=Inv.tracks (s1:={s with heap:=D,toks:=tk}) I ((s.heap.objs.size,.lst (f.map .ref))::f.map λb=>(b,J b)) H I1 (λp hp=>by
   rcases dE.mp hp with rfl|hp
   .exact⟨cD _,big _ (cD _),λY=>⟨by rw[cj];lia,_,c,vs f,lS⟩⟩
   .obtain⟨b,n,rfl⟩:=cO.mp hp;exact⟨fj (M.far b n),big _ (fj (M.far b n)),U b n⟩) (by
   rw[fM,C];exact iT.mpr ⟨A,nd⟩)
 refine⟨.ref s.heap.objs.size,_,I2,rfl,q _ f _ ⟨big _ (cD _),λb n=>big _ (fj (M.far b n)),A,nd,by lia,?_,λj b d=>?_,λb L N=>?_⟩⟩
 .exact Bw (p:=(s.heap.objs.size,.lst (f.map .ref))) (by rw[fM,C];exact iT.mpr ⟨A,nd⟩) (dC ..)
 .obtain⟨k,x,y,g1,g2,g3,_⟩:=B j b d;refine⟨k,x,y,g1,g2,?_⟩;rw[<-g3];exact Bw (p:=(b,J b)) (by rw[fM,C];exact iT.mpr ⟨A,nd⟩) (eO _ (cO.mpr ⟨b,cK d,rfl⟩))
 .refine x8 λp hp=>?_
  rcases dE.mp hp with rfl|hp
  .exact L
  .obtain⟨y,hy,rfl⟩:=cO.mp hp;exact λe=>N (e▸hy)
end
def a3u(b:TW)(c:As):List (List cZ×V):=List.zipWith (λp a=>(nk p.1,V.ref a)) b c
def y9{ws:TW}{as:As}{p:cf×cf}{a:Ad}(h:as.length=ws.length):a3u (ws++[p]) (as++[a])=a3u ws as++[(nk p.1,.ref a)]:=by
 unfold a3u;rw[List.zipWith_append h.symm];rfl
def CO{a:TW}{b:As}(h:b.length=a.length):(a3u a b).length=a.length:=by
 unfold a3u;rw[List.length_zipWith];lia
def HU{b:TW}{c:As}{j:Nat}{p:cf×cf}{a:Ad}(d:b[j]? =some p)(e:c[j]? =some a):(a3u b c)[j]? =some (nk p.1,.ref a):=by
 unfold a3u;rw[List.getElem?_zipWith,d,e]
theorem oO: ∀{b:TW} {c:As} {x:cf},x∉b.map (·.1)->ge (a3u b c) (nk x)=none
 | [],_,_,_=>rfl
 |_::_,[],_,_=>rfl
 |p::b,a::c,x,h=>by
  have d: ¬(nk p.1:List cZ)=nk x:=λz=>h (cO.mpr ⟨p,dC ..,xz z⟩);exact(ss (p:=(nk p.1,V.ref a)) (r:=a3u b c) d).trans (oO λz=>h (eO _ z))
theorem wX: ∀{c:TW} {d:As} {j:Nat} {p:cf×cf} {a:Ad},(c.map (·.1)).Nodup->c[j]? =some p->d[j]? =some a->ge (a3u c d) (nk p.1)=some (.ref a)
 |q::c,b::d,0,p,a,_,e,f=>by
  cases e;cases f;exact wH (p:=(nk q.1,V.ref b)) (r:=a3u c d) rfl
 |q::c,b::d,j+1,p,a,nd,e,f=>by
  obtain⟨h,i⟩:=iT.mp nd;have g:c[j]? =some p:=by simpa using e
  have n: ¬(nk q.1:List cZ)=nk p.1:=λz=>h (cO.mpr ⟨p,cK g,(xz z).symm⟩);exact(ss (p:=(nk q.1,V.ref b)) (r:=a3u c d) n).trans (wX i g (by simpa using f))
 | [],_,_,_,_,_,e,_=>by simp at e
 |_::_,[],_,_,_,_,_,f=>by simp at f
structure WordsAt(H:Hp)(D:Ad)(ws:TW)(as:As):Prop where
 len:as.length=ws.length
 dict:H D=some (.dT (a3u ws as))
 list: ∀(j:Nat) (a:Ad) (p:cf×cf),as[j]? =some a->ws[j]? =some p->H a=some (.lst (p.2.map nv))
def WordsAt.same{H b:Hp}{D:Ad}{c:TW}{d:As}(W:WordsAt H D c d)(g:Same H b):WordsAt b D c d:=⟨W.len,g _ _ W.dict,λj a p e f=>g _ _ (W.list j a p e f)⟩
def WordsAt.word{H:Hp}{D:Ad}{b:TW}{c:As}{p:cf×cf}(W:WordsAt H D b c)(nd:(b.map (·.1)).Nodup)(f:p∈b): ∃a,ge (a3u b c) (nk p.1)=some (.ref a)/\H a=some (.lst (p.2.map nv)):=by
 obtain⟨j,e⟩:=fi.mp f;obtain⟨g,_⟩:=cA.mp e;obtain⟨a,d⟩: ∃a,c[j]? =some a:=⟨_,ck (by rw[W.len];exact g)⟩;exact⟨a,wX nd e d,W.list j a p d e⟩
def WordsAt.put{H:Hp}{D l:Ad}{c:TW}{e:As}{p:cf×cf}(W:WordsAt H D c e)(f:H l=some (.lst (p.2.map nv))):WordsAt (cg H D (.dT (a3u c e++[(nk p.1,.ref l)]))) D (c++[p]) (e++[l]):=by
 have g: ∀{a:Ad} {k:List V},H a=some (.lst k)->a≠D:=λh=>nE h W.dict;refine⟨by simp[W.len],by rw[cn,y9 W.len],λj a q d b=>?_⟩;by_cases i:j<c.length
 .rw[eV (by rw[W.len];exact i)]at d;rw[eV i]at b;have z:=W.list j a q d b;rw[cw (g z)];exact z
 .rw[eU (by rw[W.len];lia)]at d;rw[eU (by lia)]at b;have z:j-c.length=0:=by
   have:=(cA.mp b).1;simp at this;lia
  rw[W.len,z]at d;rw[z]at b;cases d;cases b;rw[cw (g f)];exact f
def noT(H:Hp):Hp:=λa=>match H a with
 |some (.tbl _)=>none
 |o=>o
def oM{H:Hp}{a:Ad}{o:HO}(h:H a=some o)(n: ∀b,o≠ .tbl b):noT H a=some o:=by
 unfold noT;rw[h];cases o<;>first|rfl|exact wC rfl (n _)
def Lu:HO->Bool
 | .tbl _=>true
 |_=>false
def nU{H:Hp}{a:Ad}{o:HO}(h:H a=some o)(d:Lu o=false:=by rfl):noT H a=some o:=oM h λb e=>by subst e;cases d
def sX{H:Hp}{a:Ad}{o:HO}(h:noT H a=some o):H a=some o/\ ∀b,o≠ .tbl b:=by
 unfold noT at h;split at h
 .cases h
 .rename_i n
  exact⟨h,λb z=>n b (by rw[h,z])⟩
def DU{H:Hp}{a:Ad}(h:H a=none):noT H a=none:=by
 unfold noT;rw[h]
def Keeps(H a:Hp):Prop:=Same (noT H) a
def Same.keeps{H b:Hp}(g:Same H b):Keeps H b:=λa o h=>g a o (sX h).1
def Keeps.refl(H:Hp):Keeps H H:=(Same.refl H).keeps
def Keeps.trans{H d e:Hp}(a:Keeps H d)(b:Keeps d e):Keeps H e:=λc o h=>b c o (oM (a c o h) (sX h).2)
def TabOk(a:Str)(pos:Pos)(H:Hp)(T:Ad):Prop:=H T=some (.tbl #[])∨ ∃b,H T=some (.tbl (im pos b))/\H b=some (iy b a)
def TabOk.same{a:Str}{pos:Pos}{H b:Hp}{T:Ad}(t:TabOk a pos H T)(g:Same H b):TabOk a pos b T:=by
 rcases t with t|⟨c,d,e⟩
 .exact .inl (g _ _ t)
 .exact .inr ⟨c,g _ _ d,g _ _ e⟩
def DefAt(K:W.Frag)(x:Str)(st:Stmt)(f:Ad)(b:Fd)(g e:Vl):Prop:=
 PySem.W.codeIn K e x=true/\(∃kV a pm h i,b=PySem.W.fnOf x x (iX st) (hE st) (cL st) g kV a pm h e i)/\ ∃c d sl,K.lookup f=some ⟨c,d,.func b,sl⟩
section
variable{P:Pg}{w:World}{K:W.Frag}{mg:SV}{base:Heap}{x:Str}{st:Stmt}{f:Ad}{fd:Fd}{dv cv:Vl}{N ps:Ss}{k:Nat}{sp:Sp}
def JK(P:Pg)(w:World)(K:W.Frag)(mg:SV)(base:Heap)(x:Str)(st:Stmt)(f:Ad)(cv:Vl)(N:Ss)(k:Nat)(sp:Sp):Prop:=
 ∀A a s H b Q E,sp b H Q E->Room k (A.deeper (envOfC x (cL st) s.heap.objs.size f cv))-> ∃t:TS,t ⟨λ_ c=>Q .non c,Q,λ_ _=>False,λ_ _=>False⟩ (start N b) H/\PSs (pc cQ P w K mg base N x (cL st) f cv A a s H E).nox (hE st) t
def DefAt.fnOk(d:DefAt K x st f fd dv cv)(i:FnScope N ps (cL st))(len: ∀e H Q E,sp e H Q E->e.length=ps.length)(b:JK P w K mg base x st f cv N k sp):FnOk P w K mg base cQ (k+1) f fd ps sp:=by
 obtain⟨a,⟨kV,j,pm,m,n,rfl⟩,_,_,_,lk⟩:=d;refine De lk a i len λA c s H e Q E l g=>?_;obtain⟨t,q,h⟩:=b A c s H e Q E g l;exact⟨t,h.nox,q⟩
def wU(P:Pg)(w:World)(K:W.Frag)(mg:SV)(base:Heap)(x:Str)(k:Nat)(ps:Ss)(sp:Sp)(a:List V):Prop:=
 ∃f fd b,FnOk P w K mg base cQ k f fd ps sp/\mg x=some (.ref f)/\PySem.W.keepIn K (.ref f)=true/\Binds K fd ps b/\Vals a b
def FG{X:Cx}{x y:Str}{k j:Nat}{ps:Ss}{sp:Sp}{c:Ad}{a:List V}{e:Expr}{b:List Expr}{t:TA}{p pos:Pos}(l:wU X.prog X.w X.K X.mg X.base x k ps sp a)(m:Room k X.A)(n:Gl X x)(o:X.N[j]? =some y)(q:X.env.cells.lookup y=some c)
  (d:X.env.scope.names.lookup y=some .cell) (g:X.fn y=true) (r:PA X (e::b) t) (h:(x==("__debug__":Str))=false:=by decide) (s:starEach (e::b) X.env=(false,eval e X.env)::starEach b X.env:=by rfl)
  (i:(backTo pos (starEach b X.env)).any (·.1)=false:=by rfl):PE X (.Call (.Name x p) (e::b) [] pos) (Fo sp a j c t):=by
 obtain⟨f,fd,B,F,u,v,z,A⟩:=l;exact HH F m n u v z A o q d g r h s i
end
section
variable{X:Cx}
def EB(d e:TE):TE:=λc H Q=> ∀p,H p=none->d c (cg H p (.dT [])) λx f=>e c f λy a=>a p=some (.dT [])/\ ∃b k,x= .ref b/\a b=some (.tup (k.map kV))/\Q (.ref p) (cg a p (.dT [(k,y)]))
def HC{k v:Expr}{A B:TE}{pos:Pos}(hu:X.A.units+1<cLine)(D:PE X k A)(E:PE X v B):PE X (.Dict [some k] [v] pos) (EB A B):=by
 intro J s L H Q I q;have M:=I.hok.fresh (cD s.heap.objs.size);have N:=I.laid (a:=s.heap.objs.size) (o:= .dT []) (h':=s.heap.push {cls:= .type "dict",data:= .dict #[]}) (t':=s.toks) (λ_ _ q=>dj _ q) (cD _) (DK s.heap I.big);have pairs:=JL (X:=X) (pos:=pos) D E Mq;have O:=q s.heap.objs.size M;rw[arm_eval_Dict];refine ci (vC ?_);have d:(evalEachOpt [some k] X.env).zip ((evalEach [v] X.env).map λv=>do let x <-v;standAt pos;pure x)=(pairTrees [some k] [v] X.env pos).map λp=>(some p.1,p.2):=rfl;rw[d,dictDisplay_pairs _ (by intro z;cases z) (by show 1<17;decide)];refine ci ?_;unfold subDict;refine ci (wpAny_alloc (ci (gQ ?_)));rw[wB (by show 1<=15;decide)]
 let G:List (V×V)->Hp->Prop:=λf i=>match f with| [(x,y)]=>i s.heap.objs.size=some (.dT [])/\ ∃b k,x= .ref b/\i b=some (.tup (k.map kV))/\Q (.ref s.heap.objs.size) (cg i s.heap.objs.size (.dT [(k,y)]))|_=>False
 refine ci (cG (pairs J _ L _ G N O) λT s2 ⟨f,i,l,m,g⟩=>?_);obtain⟨x,y,rfl⟩: ∃x y,f=[(x,y)]:=by
  cases f with
  |nil=>exact wE g
  |cons p f=>
   cases f with
   |nil=>exact⟨p.1,p.2,rfl⟩
   |cons _ _=>exact wE g
 obtain⟨e,b,c,rfl,n,U⟩:=g;obtain⟨u,r,rfl,Y,rr⟩: ∃u r,T=[(u,r)]/\RelV (.ref b) u/\RelV y r:=by
  cases m with
  | @cons _ q _ qs h t=>
   cases t;exact⟨q.1,q.2,rfl,h.1,h.2⟩
 cases Y;obtain⟨z,hd,xs,kt,dd⟩:=zR l.hok e;cases kt;refine gQ ?_;simp only[List.forIn_cons,List.forIn_nil];refine ci (ci (ci (wpAny_dictSet_heap (show X.A.units<cLine by lia) (qz l.hok n) dd (λh' w hs=>?_) (by show 0<=_;exact gN _))));refine cu (cu (cu (cu ?_)));obtain⟨o,es,ep,C,h2,h3,h4,_,h5⟩:=w;have j:cg i s.heap.objs.size (.dT [(c,y)]) b=some (.tup (c.map kV)):=by
  rw[cw (nE n e)];exact n
 have ok:ObjOk X.prog X.w (cg i s.heap.objs.size (.dT [(c,y)])) h' s.heap.objs.size (.dT [(c,y)]):=⟨by show 1<=sizeLine;decide,hd,_,.cons ⟨rfl,j,rr⟩ .nil,o,es,ep,C,h2,h3,h4,h5⟩;exact cu ⟨.ref s.heap.objs.size,_,Bv l (by rw[e];exact True.intro) hs ⟨o,C⟩ ok,rfl,U⟩
end
def xR:Sp:=λa H Q _=> ∃d:Ad,a=[.ref d,.non]/\Q .non H
def nK(G:Hp->Prop)(U:LN)(L:Nat)(g:cf->Nat->List Nat):Sp:=λa H Q _=> ∃(t:Ad) (x:cf) (l:Nat),a=[.ref t,nv l]/\G H/\H t=some (.tup (x.map nv))/\x∈U/\l<L/\sq H ((g x l).map nv) Q
def ThAt(H:Hp)(l:Ad)(b:TW):Prop:= ∃a:As,H l=some (.lst (a.map .ref))/\a.length=b.length/\ ∀(j:Nat) (t:Ad) (p:cf×cf),a[j]? =some t->b[j]? =some p->H t=some (.tup (p.1.map nv))
def ThAt.same{H a:Hp}{l:Ad}{b:TW}(h:ThAt H l b)(g:Same H a):ThAt a l b:=by
 obtain⟨c,d,e,f⟩:=h;exact⟨c,g _ _ d,e,λj t p i k=>g _ _ (f j t p i k)⟩
def ThAt.more{H:Hp}{l t:Ad}{c:TW}{d:As}{p:cf×cf}(i:H l=some (.lst (d.map .ref)))(f:d.length=c.length)(k: ∀(j:Nat) (t:Ad) (p:cf×cf),d[j]? =some t->c[j]? =some p->H t=some (.tup (p.1.map nv)))(ht:H t=some (.tup (p.1.map nv))):
  ThAt (cg H l (.lst (d.map .ref++[.ref t]))) l (c++[p]):=by
 have g: ∀{a:Ad} {m:List V},H a=some (.tup m)->a≠l:=λh=>nE h i;refine⟨d++[t],by rw[cn,dP];rfl,by simp[f],λj a q e b=>?_⟩;by_cases n:j<c.length
 .rw[eV (by lia)]at e;rw[eV n]at b;have z:=k j a q e b;rw[cw (g z)];exact z
 .rw[eU (by lia)]at e;rw[eU (by lia)]at b;have z:j-c.length=0:=by
   have:=(cA.mp b).1;simp at this;lia
  rw[f,z]at e;rw[z]at b;cases e;cases b;rw[cw (g ht)];exact ht
structure Srch(H0 H:Hp)(D wa fa:Ad)(ts:As)(ws wv fo:TW)(as:As):Prop where
 g:Same H0 H
 nD:H0 D=none
 nF:H0 fa=none
 W:WordsAt H D ws as
 wl:H wa=some (.lst (ts.map .ref))
 wt: ∀(j:Nat) (t:Ad) (p:cf×cf),ts[j]? =some t->wv[j]? =some p->H t=some (.tup (p.1.map nv))
 foll:ThAt H fa fo
 wf:wa≠fa
 fas:fa∉as
 new: ∀b∈as,H0 b=none
def Srch.same{a H b:Hp}{D c fa:Ad}{d:As}{e f g:TW}{h:As}(S:Srch a H D c fa d e f g h)(k:Same H b):Srch a b D c fa d e f g h:=
 ⟨S.g.trans k,S.nD,S.nF,S.W.same k,k _ _ S.wl,λj t p i l=>k _ _ (S.wt j t p i l),S.foll.same k,S.wf,S.fas,S.new⟩
def Srch.more{k H:Hp}{D n fa l t:Ad}{v:As}{f w g:TW}{i d:As}{p:cf×cf}(S:Srch k H D n fa v f w g i)(A:H l=some (.lst (p.2.map nv)))(x:l≠fa)(B:k l=none)(ht:H t=some (.tup (p.1.map nv)))
  (o:H fa=some (.lst (d.map .ref))) (C:d.length=g.length) (E: ∀(j:Nat) (t:Ad) (p:cf×cf),d[j]? =some t->g[j]? =some p->H t=some (.tup (p.1.map nv))):
  Srch k (cg (cg H D (.dT (a3u f i++[(nk p.1,.ref l)]))) fa (.lst (d.map .ref++[.ref t]))) D n fa v (f++[p]) w (g++[p]) (i++[l]):=by
 have y:fa≠D:=nE o S.W.dict;have r: ∀{a:Ad} {s:List V},H a=some (.tup s)->a≠D:=λh=>nE h S.W.dict;have G:n≠D:=nE S.wl S.W.dict;have I: ∀{a:Ad} {s:List V},H a=some (.tup s)->a≠fa:=λh=>nE h o;have u:=S.W.put (l:=l) (p:=p) A;have J:(cg H D (.dT (a3u f i++[(nk p.1,.ref l)]))) fa=some (.lst (d.map .ref)):=by rw[cw y];exact o
 refine⟨gZ (gZ S.g S.nD) S.nF,S.nD,S.nF,⟨u.len,?_,λj a q c e=>?_⟩,?_,λj a q c e=>?_,?_,S.wf,?_,λb L=>(di.mp L).elim (S.new b) λm=>by rw[cW.mp m];exact B⟩
 .rw[cw (eC y)];exact u.dict
 .have M:a≠fa:=λz=>by
   subst z
   rcases di.mp (cK c)with m|m
   .exact S.fas m
   .exact x (cW.mp m).symm
  rw[cw M];exact u.list j a q c e
 .rw[cw S.wf,cw G];exact S.wl
 .have z:=S.wt j a q c e;rw[cw (I z),cw (r z)];exact z
 .refine ThAt.more J C (λj a q c e=>?_) ?_
  .have z:=E j a q c e;rw[cw (r z)];exact z
  .rw[cw (r ht)];exact ht
 .intro m
  rcases di.mp m with m|m
  .exact S.fas m
  .exact x (cW.mp m).symm
section
variable{X:Cx}{H0:Hp}{a st D wa fa:Ad}{sd:Fd}{ps:Ss}{x0:cf}{L:Nat}{U:LN}{g:cf->Nat->List Nat}
abbrev Ev(X:Cx):TS:=lH (lO (EY X 2 (i0 (fy 7) (i0 (fy 8) iH))) (gV 9)) (tZ (tB (DN (fy 9) (fy 4)))
 (lH (EX (fy 4) (fy 9) (uS (Eu X.K) (Es (fy 4) (fy 7)) (sW (i0 (fy 8) iH)))) (lH (vR (vj xR [] E0 (i0 (fy 4) (i0 (fy 3) iH)))) (vR (wV X.K "list" CQ (fy 6) (i0 (fy 9) iH))))) Fx)
def HP{d i j:Nat}{k C y:TW}{O ts:As}{o:Ad}{t:cf×cf}{H:Hp}{En:Ends}{o9:Option V}(hr:Room 5 X.A)(E:H0 st=some (gJ st sd))(h0:x0∈U)(hU: ∀x∈U,∀l,l<L->g x l∈U)(few:U.length<=4000)
  (hF:FnOk X.prog X.w X.K X.mg X.base cQ 5 st sd ps (nK (Same H0) U L g)) (hB:Binds X.K sd ps []) (B:Bfs g L x0 d k C y i j) (ht:C[i]? =some t) (hj:j<L) (hd:d+1<=k.length) (S:Srch H0 H D wa fa ts k C y O) (G:H o=some (.tup (t.1.map nv)))
  (next: ∀s u aa H' v,Bfs g L x0 d s C u i (j+1)->Srch H0 H' D wa fa ts s C u aa->s.length+y.length=k.length+u.length->H' o=some (.tup (t.1.map nv))->En.nx [some (.ref a),some (nv L),some (.ref st),some .non,some (.ref D),some (.ref wa),some (.ref fa),some (.ref o),some (nv j),some v] H'):
  Ev X En [some (.ref a),some (nv L),some (.ref st),some .non,some (.ref D),some (.ref wa),some (.ref fa),some (.ref o),some (nv j),o9] H:=by
 have tw:=(B.wave t (cK ht)).1;have tU:t.1∈U:=by
  obtain⟨Q,T⟩:=B.run t tw;rw[<-T];exact pV h0 hU t.2 Q
 have af:k.length<=4000:=by
  have z:(k.map (·.1)).length<=U.length:=ko B.keys λx hx=>by
   obtain⟨p,n,rfl⟩:=cO.mp hx;obtain⟨Q,T⟩:=B.run p n;rw[<-T];exact pV h0 hU p.2 Q
  rw[cj]at z;lia
 refine⟨_,rfl,st,sd,rfl,S.g _ _ E,_,rfl,_,rfl,S.g _ _ E,5,ps,_,hF,hr,hB,o,t.1,j,rfl,S.g,G,tU,hj,λfn Y g1 A=>?_⟩;have r:=S.same g1;have m:=g1 _ _ G;refine⟨_,rfl,_,rfl,D,_,rfl,DGet.t r.W.dict (by rw[hZ];exact A),_,rfl,?_⟩;by_cases I:g t.1 j∈k.map (·.1)
 .obtain⟨p,n,e⟩:=cO.mp I;obtain⟨c,v1,_⟩:=r.W.word B.keys n;rw[<-e,v1];rw[wA (by simp)];exact next k y O Y _ (B.old ht I) r rfl m
 .rw[oO I];refine eY ?_;obtain⟨tw,tl⟩:=B.wave t (cK ht);obtain⟨c,v1,v2⟩:=r.W.word B.keys tw;have dg:DGet Y D (.ref o) (some (.ref c)):=v1▸DGet.t r.W.dict (by rw[hZ];exact m);refine⟨_,rfl,_,rfl,D,_,rfl,dg,_,rfl,by show 1<=sizeLine;decide,λp n=>?_⟩;have k2:=cB n (.lst [nv j]);refine⟨c,p,_,_,rfl,rfl,SqL.of (k2 _ _ v2),SqL.of cn,by rw[cj,tl,db];show d+1<=_;lia,λl hl=>?_⟩;have k3:=k2.trans (cB hl (.lst (t.2.map nv++[nv j])));have w:=r.same k3;have e3:=k3 _ _ A;have J:cg (cg Y p (.lst [nv j])) l (.lst (t.2.map nv++[nv j])) l=some (.lst ((t.2++[j]).map nv)):=by rw[cn,dP];rfl
  have b:=k3 _ _ m;obtain⟨tf,M,f2,f3⟩:=w.foll;have lf:l≠fa:=λz=>by
   obtain⟨_,q1,_⟩:=r.foll;have q2:=k2 _ _ q1;rw[<-z,hl]at q2;cases q2
  generalize cg (cg Y p (.lst [nv j])) l (.lst (t.2.map nv++[nv j]))=H3 at w e3 J b M f3⊢;refine⟨_,rfl,_,rfl,D,_,rfl,DPut.t w.W.dict (by rw[hZ];exact e3) (by rw[CO w.W.len,db];lia),?_⟩;rw[Bh _ (oO I)];have fD:fa≠D:=nE M w.W.dict;have ab:o≠D:=nE b w.W.dict;have ae:o≠fa:=nE b M;have N:(cg H3 D (.dT (a3u k O++[(nk (g t.1 j),.ref l)]))) fa=some (.lst (tf.map .ref)):=by rw[cw fD];exact M
  have fl:tf.length<=4000:=by
   have z:(y.map (·.1)).length<=k.length:=by
    rw[<-cj (f:=(·.1)) (as:=k)];refine ko ?_ λx hx=>?_
    .refine(nJ.mpr (B.fup.imp_of_mem λ{p q} n hq h z=>?_));have Q:=(B.run p (B.foll p n).1).2;have T:=(B.run q (B.foll q hq).1).2;obtain⟨i1,A⟩:=fi.mp (B.foll p n).1;obtain⟨i2,e2⟩:=fi.mp (B.foll q hq).1;have ii:i1=i2:=(g7 (by rw[cj];exact(cA.mp A).1) B.keys).mp (by rw[cF,cF,A,e2];exact dn some z);subst ii;rw[A]at e2;cases e2;exact xm h
    .obtain⟨p,n,rfl⟩:=cO.mp hx;exact cO.mpr ⟨p,(B.foll p n).1,rfl⟩
   rw[cj]at z;lia
  refine⟨_,rfl,_,rfl,D,rfl,_,rfl,.inl ⟨rfl,_,SqL.of N⟩,_,rfl,fa,_,_,rfl,rfl,N,by rw[cj,db];lia,?_⟩;exact next (k++[(g t.1 j,t.2++[j])]) (y++[(g t.1 j,t.2++[j])]) (O++[l]) _ _ (B.new ht hj I) (w.more (p:=(g t.1 j,t.2++[j])) J lf ((r.g.trans k2).free hl) e3 M f2 f3) (by simp;lia) (by rw[cw ae,cw ab];exact b)
abbrev BN(X:Cx):TS:=on (EK X.K (fy 5)) (gV 7) (on (CS (i0 (fy 1) iH)) (gV 8) (Ev X))
def Gg{d:Nat}{b f:TW}{s q:As}{H:Hp}{En:Ends}{r k m:Option V}(hr:Room 5 X.A)(I:H0 st=some (gJ st sd))(h0:x0∈U)(hU: ∀x∈U,∀l,l<L->g x l∈U)(few:U.length<=4000)(T:L<=4000)
  (hF:FnOk X.prog X.w X.K X.mg X.base cQ 5 st sd ps (nK (Same H0) U L g)) (hB:Binds X.K sd ps []) (B:Bfs g L x0 d b f [] 0 0) (hd:d+1<=b.length) (S:Srch H0 H D wa fa q b f [] s) (lt:q.length=f.length)
  (next: ∀c e h n r k m,Bfs g L x0 d c f e f.length 0->Srch H0 n D wa fa q c f e h->c.length=b.length+e.length->En.nx [some (.ref a),some (nv L),some (.ref st),some .non,some (.ref D),some (.ref wa),some (.ref fa),r,k,m] n):
  BN X En [some (.ref a),some (nv L),some (.ref st),some .non,some (.ref D),some (.ref wa),some (.ref fa),r,k,m] H:=by
 let Pv:Nat->L2.St->Hp->Prop:=λi o n=> ∃c e h r k m,Bfs g L x0 d c f e i 0/\Srch H0 n D wa fa q c f e h/\c.length=b.length+e.length/\
  o=[some (.ref a),some (nv L),some (.ref st),some .non,some (.ref D),some (.ref wa),some (.ref fa),r,k,m]
 refine⟨_,rfl,wa,rfl,⟨_,SqL.of S.wl⟩,ni (xs:=q.map .ref) Pv ⟨b,[],s,r,k,m,B,S,by simp,rfl⟩ (λi o n _ p=>?_) (λi x o n Y p=>?_) (λo n p=>?_)⟩
 .obtain⟨_,_,_,_,_,_,_,u,_⟩:=p;exact SqL.of u.wl
 .obtain⟨c,e,h,p7,J,M,E,u,N,rfl⟩:=p;rw[cF]at Y;obtain⟨th,w,rfl⟩:=dR.mp Y;obtain⟨hi,_⟩:=cA.mp w;obtain⟨t,ht⟩: ∃t,f[i]? =some t:=⟨_,ck (by lia)⟩
  let Pj:Nat->L2.St->Hp->Prop:=λj o O=> ∃c e h k m,Bfs g L x0 d c f e i j/\Srch H0 O D wa fa q c f e h/\c.length=b.length+e.length/\
   o=[some (.ref a),some (nv L),some (.ref st),some .non,some (.ref D),some (.ref wa),some (.ref fa),some (.ref th),k,m]
  refine⟨_,rfl,(L:Int),rfl,by lia,by lia,wR Pj ⟨c,e,h,J,M,E,u,N,rfl⟩ (λj o O hj p=>?_) (λo O p=>?_)⟩
  .obtain⟨y,A,C,q8,q9,Q,G,l2,rfl⟩:=p;have z:(0:Int)+((j:Nat):Int)=((j:Nat):Int):=by lia
   rw[z];refine HP (t:=t) hr I h0 hU few hF hB Q ht (by simpa using hj) (by lia) G (G.wt i th t w ht) λw3 f3 a3 H3 v B3 S3 l3 _=>⟨w3,f3,a3,_,_,B3,S3,by lia,rfl⟩
  .obtain⟨y,A,C,q8,q9,Q,G,l2,rfl⟩:=p;exact⟨y,A,C,_,_,_,Bfs.next (by simpa using Q) ht,G,l2,rfl⟩
 .obtain⟨c,e,h,p7,J,M,E,u,N,rfl⟩:=p;rw[cj,lt]at E;exact next c e h n p7 J M E u N
abbrev Ml(X:Cx):TS:=lH (lO (EB (fy 0) (sW iH)) (gV 4)) (lH (vR (vj xR [] E0 (i0 (fy 4) (i0 (fy 3) iH)))) (lH (lO (sW (i0 (fy 0) iH)) (gV 5))
 (lH (Cj (λd b Q=>fy 5 d b λx c=> ∃k,oB X.K x c k/\Q k c) (lH (lO (sW iH) (gV 6)) (lH (BN X) (lO (fy 6) (gV 5))))) (uP (fy 4)))))
def GV{d i j:Nat}{b c e:TW}(h:x0∈U)(k: ∀x∈U,∀l,l<L->g x l∈U)(B:Bfs g L x0 d b c e i j):b.length<=U.length:=by
 rw[<-cj (f:=(·.1)) (as:=b)];exact ko B.keys λx m=>by
  obtain⟨p,n,rfl⟩:=cO.mp m;obtain⟨o,q⟩:=B.run p n;rw[<-q];exact pV h k p.2 o
def L6{En:Ends}(hr:Room 5 X.A)(ha:H0 a=some (.tup (x0.map nv)))(J:H0 st=some (gJ st sd))(h0:x0∈U)(hU: ∀x∈U,∀l,l<L->g x l∈U)(few:U.length<=4000)(v:L<=4000)
  (hF:FnOk X.prog X.w X.K X.mg X.base cQ 5 st sd ps (nK (Same H0) U L g)) (hB:Binds X.K sd ps []) (q: ∀D f k u,Same H0 u->WordsAt u D f k->(∀b∈D::k,H0 b=none)->Told g L x0 f->En.rt (.ref D) u):
  Ml X En [some (.ref a),some (nv L),some (.ref st),some .non,none,none,none,none,none,none] H0:=by
 intro D C;have M:=cB C (.dT []);refine⟨_,rfl,by show 0<=sizeLine;decide,λl E=>?_⟩;have N:=cB E (.lst []);refine⟨N _ _ cn,a,nk x0,rfl,by rw[hZ];exact(M.trans N) _ _ ha,?_⟩;have lD:l≠D:=λz=>by
  subst z;rw[cn]at E;cases E
 have W0:WordsAt (cg (cg (cg H0 D (.dT [])) l (.lst [])) D (.dT [(nk x0,.ref l)])) D [(x0,[])] [l]:=⟨rfl,cn,λj b p n w=>by
  cases j with
  |zero=>
   cases n;cases w;rw[cw lD,cn];rfl
  |succ j=>simp at n⟩
 have g0:Same H0 (cg (cg (cg H0 D (.dT [])) l (.lst [])) D (.dT [(nk x0,.ref l)])):=gZ (M.trans N) C;generalize cg (cg (cg H0 D (.dT [])) l (.lst [])) D (.dT [(nk x0,.ref l)])=H1 at W0 g0⊢;refine⟨_,rfl,_,rfl,D,rfl,_,rfl,by show 1<=sizeLine;decide,λwa hw=>?_⟩;have O:=cB hw (.lst [.ref a])
 let Wv:Nat->L2.St->Hp->Prop:=λm σ H=> ∃(d:Nat) (f r:TW) (k:As) (wa:Ad) (i:As) (o6 o7 o8 o9:Option V),Bfs g L x0 d f r [] 0 0/\WordsAt H D f k/\H wa=some (.lst (i.map .ref))/\(∀(j:Nat) (t:Ad) (p:cf×cf),i[j]? =some t->r[j]? =some p->H t=some (.tup (p.1.map nv)))/\i.length=r.length/\Same H0 H/\(∀b∈k,H0 b=none)/\
   (r≠[]->d+1<=f.length)/\m=2 * (U.length-f.length)+(if r=[]then 0 else 1)/\σ=[some (.ref a),some (nv L),some (.ref st),some .non,some (.ref D),some (.ref wa),o6,o7,o8,o9]
 refine⟨Wv,⟨_,0,[(x0,[])],[(x0,[])],[l],wa,[a],none,none,none,none,Bfs.start,W0.same O,cn,?_,rfl,g0.trans O,λb Q=>(by rw[cW.mp Q];exact M.free E),λ_=>cD _,rfl,rfl⟩,λm σ H P=>?_⟩
 .intro j t p n w;cases j with
  |zero=>
   cases n;cases w;exact(g0.trans O) _ _ ha
  |succ j=>simp at n
 .obtain⟨d,f,r,k,wa,i,o6,o7,o8,o9,B,W,T,wt,lt,Y,nw,s,hm,rfl⟩:=P;refine⟨_,rfl,!(i.map V.ref).isEmpty,.inl ⟨_,SqL.of T,rfl⟩,?_⟩;by_cases c:r=[]
  .subst c;have e:i=[]:=m7.mp lt;subst e;rw[wA (by simp)];exact⟨_,rfl,q D f k H Y W (λb Q=>(dE.mp Q).elim (λe=>e▸C) (nw b)) B.told⟩
  .have ne:i≠[]:=λz=>c (m7.mp (by rw[<-lt,z];rfl));have c1:(!(i.map V.ref).isEmpty)=true:=by
    cases i with
    |nil=>exact wC rfl ne
    |cons=>rfl
   rw[c1];refine eY ?_;refine⟨λy u=> ∃m',m'<m/\Wv m' y u,λy u h=>h,by show 0<=sizeLine;decide,λfa o=>?_⟩;have G:=cB o (.lst []);have aa:fa∉k:=λm=>by
    obtain⟨j,e⟩:=fi.mp m;obtain⟨hj,_⟩:=cA.mp e;have z:=W.list j fa _ e (ck (by rw[<-W.len];exact hj));rw[o]at z;cases z
   have S:Srch H0 (cg H fa (.lst [])) D wa fa i f r [] k:=⟨Y.trans G,C,Y.free o,W.same G,G _ _ T,λj t p n w=>G _ _ (wt j t p n w),⟨[],cn,rfl,λj t p n _=>by simp at n⟩,dG T o,aa,nw⟩;refine Gg (En:={En with nx:=_,ct:=_,bk:=_}) hr J h0 hU few v hF hB B (s c) S lt λA fo ab u p7 p8 p9 B' I l'=>?_;obtain⟨tf,f1,f2,f3⟩:=I.foll;have z1:=GV h0 hU B';have z2:=s c;refine⟨_,rfl,2 * (U.length-A.length)+(if fo=[]then 0 else 1),?_,d+1,A,fo,ab,fa,tf,_,_,_,_,B'.wave',I.W,f1,f3,f2,I.g,I.new,λnf=>?_,rfl,rfl⟩
   .rw[hm,wA c];by_cases hf:fo=[]
    .subst hf;rw[wB rfl];simp at l';lia
    .have:=List.length_pos_iff.mpr hf;rw[wA hf];lia
   .have:=List.length_pos_iff.mpr nf;lia
end
def Kz{g:TW}{d:As}{k:List cZ}{a:Ad}(h:ge (a3u g d) k=some (.ref a)):a∈d:=by
 unfold ge at h;obtain⟨m,j,l⟩:=dR.mp h;obtain⟨i,c⟩:=fi.mp (List.mem_of_find?_eq_some j);unfold a3u at c;rw[List.getElem?_zipWith]at c;cases e:g[i]? with
 |none=>rw[e]at c;cases c
 | some p=>
  cases f:d[i]? with
  |none=>rw[e,f]at c;cases c
  |some b=>
   rw[e,f]at c;cases c;cases l;exact cK f
section
variable{X:Cx}
def zt(K:W.Frag)(a:Bool):R2:=λx y H Q=> ∃(l:Ad) (n:Nat) (d:Dt) (c:List Dt) (e:List V),y= .ref l/\SqL K H l e/\e.length=c.length/\Rep K H n d x/\(∀(i:Nat) f v,c[i]? =some f->e[i]? =some v->Rep K H n f v)/\n<=30/\ ∀b,(b=true↔d∈c)->Q (.bl (if a then !b else b)) H
def D7{K:W.Frag}{H:Hp}{n:Nat}{d f:Dt}{y z:V}{u:Vl}(g:Rep K H n d y)(j:Rep K H n f z)(k:RelV y u)(l:RelV z u):y=z:=by
 have c: ∀{y:V} {d:Dt},Rep K H n d y->RelV y u->(y= .non/\u= .none)∨(∃i t,y= .int i/\u= .int i t)∨(∃x t,y= .str x/\u= .str x t)∨ ∃a,y= .ref a/\u= .ref a:=λh r=>by
  cases h with
  |non=>exact .inl ⟨rfl,r⟩
  |int _ i=>
   obtain⟨t,e⟩:=r;exact .inr (.inl ⟨i,t,rfl,e⟩)
  |str _ x=>
   obtain⟨t,e⟩:=r;exact .inr (.inr (.inl ⟨x,t,rfl,e⟩))
  |lst=>exact .inr (.inr (.inr ⟨_,rfl,r⟩))
  |tup=>exact .inr (.inr (.inr ⟨_,rfl,r⟩))
 rcases c g k with⟨rfl,e⟩|⟨i,t,rfl,e⟩|⟨x,t,rfl,e⟩|⟨a,rfl,e⟩<;>rcases c j l with⟨rfl,b⟩|⟨o,m,rfl,b⟩|⟨p,m,rfl,b⟩|⟨q,rfl,b⟩<;>rw[e]at b<;>cases b<;>rfl
def KO{M:AO}{N:St}{H:Hp}{s:Sh}{x:V}{v:Vl}{n:Nat}{d:Dt}{k:List Dt}{l:List V}{c:Vs}(hu:X.A.units+64<cLine)(I:Inv X M N H s)(O:RelV x v)(r:Vals l c)(hl:l.length=k.length)(Q:Rep X.K H n d x)
  (q: ∀(i:Nat) a v,k[i]? =some a->l[i]? =some v->Rep X.K H n a v) (hn:n<=30): ∃e:Vl->Bool,(∀u∈c,SeqAt.EqAt X.A.in1 s u v (e u))/\(c.any e=true↔d∈k):=by
 have one: ∀(i:Nat) u,c[i]? =some u-> ∃b a,k[i]? =some a/\SeqAt.EqAt X.A.in1 s u v b/\(b=true↔a=d):=λi u g=>by
  obtain⟨C,_⟩:=cA.mp g;have t:=r.length;obtain⟨y,m⟩: ∃y,l[i]? =some y:=⟨_,ck (by lia)⟩;obtain⟨a,o⟩: ∃a,k[i]? =some a:=⟨_,ck (by lia)⟩;obtain⟨u',p,T⟩:=Vals.get r m;rw[g]at p;cases p;obtain⟨b,w,G⟩:=uk I n (A:=X.A.in1) (by show X.A.units+1+n<cLine;lia) (q i a y o m) Q T O;exact⟨b,a,o,w,G⟩
 have f: ∀u,∃b,(∃i:Nat,c[i]? =some u)->SeqAt.EqAt X.A.in1 s u v b/\ ∃(i:Nat) (a:Dt),c[i]? =some u/\k[i]? =some a/\(b=true↔a=d):=λu=>by
  by_cases h: ∃i:Nat,c[i]? =some u
  .obtain⟨i,B⟩:=h;obtain⟨b,a,C,t,w⟩:=one i u B;exact⟨b,λ_=>⟨t,i,a,B,C,w⟩⟩
  .exact⟨true,λz=>wC z h⟩
 refine⟨λu=>Classical.choose (f u),λu g=>(oF (f u) (fi.mp g)).1,?_⟩;rw[xv];constructor
 .rintro⟨u,g,U⟩;obtain⟨_,i,a,C,t,w⟩:=oF (f u) (fi.mp g);rw[<-w.mp U];exact cK t
 .intro Y;obtain⟨i,o⟩:=fi.mp Y;obtain⟨C,_⟩:=cA.mp o;have t:=r.length;obtain⟨u,p⟩: ∃u,c[i]? =some u:=⟨_,ck (by lia)⟩;refine⟨u,cK p,?_⟩;obtain⟨_,j,a,g1,D,g3⟩:=oF (f u) ⟨i,p⟩;refine g3.mpr ?_;obtain⟨y,m⟩: ∃y,l[i]? =some y:=⟨_,ck (by lia)⟩;obtain⟨G,_⟩:=cA.mp D;obtain⟨z,E⟩: ∃z,l[j]? =some z:=⟨_,ck (by lia)⟩;obtain⟨u1,J,r1⟩:=Vals.get r m;obtain⟨u2,L,r2⟩:=Vals.get r E;rw[p]at J;rw[g1]at L;cases J;cases L;have yz:y=z:=D7 (q i d y o m) (q j a z D E) r1 r2;subst yz;exact Am I n (q j a y D E) (q i d y o m)
def F7(b:X.A.units+64<cLine):OpR X (compareOp .NotIn) (zt X.K true):=by
 intro z s A H x y v u Q I c f h;obtain⟨l,n,d,B,C,rfl,g,i,j,k,m,q⟩:=h;cases f;obtain⟨a,r,o,D⟩:=I.list g;obtain⟨e,p,t⟩:=KO b I c r i j k m;refine SeqAt.notIn_listAt e o.isList (λw hw=>p w (by simpa using hw)) ⟨.bl _,H,I,rfl,?_⟩;rw[show a.toArray.any e=a.any e by simp];exact q _ t
def IG{x y:Str}{p q e:Pos}{k:Nat}{a:Scope}(S:CompScope X [x,y] a)(f:X.calm=true)(b:a.names.lookup x=some .local)(c:a.names.lookup y=some .local):
  ∀C s H d,PG (fO X [x,y] a C s H d) (.Tuple [.Name x p,.Name y q] k e) (sG X.K 2 (yp (gV 0) (yp (gV 1) sU))):=λC s H d=>
 qu f (iU (fh S.nd rfl (.inl (ro b)) (.inr (ro b))) (iU (fh S.nd rfl (.inl (ro c)) (.inr (ro c))) rg))
end
section
variable{X:Cx}
def Cb(K:W.Frag):V->List V->Hp->VK->Prop:=λx e H Q=> ∃(l:Ad) (y:V) (n:Nat) (d:Dt) (a:List Dt) (b:List V) (j:Nat),x= .ref l/\e=[y]/\SqL K H l b/\b.length=a.length/\Rep K H n d y/\(∀(i:Nat) c v,a[i]? =some c->b[i]? =some v->Rep K H n c v)/\n<=30/\a[j]? =some d/\(∀i:Nat,i<j->a[i]? ≠some d)/\Q (.int (j:Nat)) H
def LD{M:AO}{N:St}{H:Hp}{s:Sh}{x:V}{v:Vl}{n:Nat}{d:Dt}{k:List Dt}{l:List V}{c:Vs}(hu:X.A.units+64<cLine)(I:Inv X M N H s)(O:RelV x v)(r:Vals l c)(hl:l.length=k.length)(Q:Rep X.K H n d x)
  (p: ∀(i:Nat) a v,k[i]? =some a->l[i]? =some v->Rep X.K H n a v) (hn:n<=30): ∃e:Vl->Bool,(∀u∈c,SeqAt.EqAt X.A.in1 s u v (e u))/\ ∀(i:Nat) u a,c[i]? =some u->k[i]? =some a->(e u=true↔a=d):=by
 have E:=r.length;have one: ∀(i:Nat) u,c[i]? =some u-> ∃b a,k[i]? =some a/\SeqAt.EqAt X.A.in1 s u v b/\(b=true↔a=d):=λi u g=>by
  obtain⟨w,_⟩:=cA.mp g;obtain⟨y,m⟩: ∃y,l[i]? =some y:=⟨_,ck (by lia)⟩;obtain⟨a,o⟩: ∃a,k[i]? =some a:=⟨_,ck (by lia)⟩;obtain⟨u',q,T⟩:=Vals.get r m;rw[g]at q;cases q;obtain⟨b,B,G⟩:=uk I n (A:=X.A.in1) (by show X.A.units+1+n<cLine;lia) (p i a y o m) Q T O;exact⟨b,a,o,B,G⟩
 have f: ∀u,∃b,(∃i:Nat,c[i]? =some u)->SeqAt.EqAt X.A.in1 s u v b/\ ∃(i:Nat) (a:Dt),c[i]? =some u/\k[i]? =some a/\(b=true↔a=d):=λu=>by
  by_cases h: ∃i:Nat,c[i]? =some u
  .obtain⟨i,t⟩:=h;obtain⟨b,a,w,E,B⟩:=one i u t;exact⟨b,λ_=>⟨E,i,a,t,w,B⟩⟩
  .exact⟨true,λz=>wC z h⟩
 refine⟨λu=>Classical.choose (f u),λu g=>(oF (f u) (fi.mp g)).1,λi u d0 q o=>?_⟩;obtain⟨_,j,a,U,C,Y⟩:=oF (f u) ⟨i,q⟩;rw[Y];obtain⟨w,_⟩:=cA.mp o;obtain⟨y,m⟩: ∃y,l[i]? =some y:=⟨_,ck (by lia)⟩;obtain⟨G,_⟩:=cA.mp C;obtain⟨z,D⟩: ∃z,l[j]? =some z:=⟨_,ck (by lia)⟩;obtain⟨u1,J,r1⟩:=Vals.get r m;obtain⟨u2,L,r2⟩:=Vals.get r D;rw[q]at J;rw[U]at L;cases J;cases L;have yz:y=z:=D7 (p i d0 y o m) (p j a z C D) r1 r2;subst yz;have dd:a=d0:=Am I n (p j a y C D) (p i d0 y o m);rw[dd]
def AW(w:X.A.units+64<cLine):o0 X "list.index" (Cb X.K):=by
 intro za s σ H x vs v us Q I A B h;obtain⟨l,y,m,d,C,xs,j,rfl,rfl,D,E,G,J,L,f,no,q⟩:=h;cases A;obtain⟨u,rfl,M⟩:=B.one;obtain⟨a,r,⟨⟨c1,d1,k1,N⟩,n,e,g,i,o⟩,O⟩:=I.list D;simp only at g i o;subst g i o;obtain⟨b,T,p⟩:=LD w I M r E G J L;have lr:=r.length;have lj:=(cA.mp f).1;rw[db]at O;refine mQ F.slot_list_index ⟨_,e,rfl⟩ F.entry_list_index (F.args_list_index_2 _ _) (SeqAt.list_indexAt l a.toArray n none N u b j (by simp only[List.size_toArray];lia) (by lia) ?_ ?_)
  ⟨e,λy U=>T y (by simpa using U),⟨.int (j:Nat),H,I.tok _,⟨_,rfl⟩,q⟩⟩
 .show b a[j]=true;exact(p j _ d (ck (by lia)) f).mpr rfl
 .intro k Y c;show b a[k]=false;have t:k<C.length:=by lia
  cases z:b a[k]with
  |false=>rfl
  |true=>
   have z2:=(p k _ _ (ck (by lia)) (ck t)).mp z;exact wC (by rw[ck t,z2]) (no k c)
def Jr{X:Cx}{K:W.Frag}{e:Expr}{T:String}{to:TE}{t:TA}(r:W.Frag->V->List V->Hp->VK->Prop)(a:X.K=K)(h:PE X e (wV X.K T (r X.K) to t)):PE X e (wV K T (r K) to t):=a▸h
end
section
variable{P:Pg}{w:World}{A:Ar}{E:VP}{s:Sh}{it d:Ad}{i ep:Nat}{es:Array DictEntry}
abbrev nC(d:Ad)(i n ep:Nat):Obj:={cls:= .type "dict_keyiterator",data:= .fields #[.ref d,.int i 0,.int n 0,.int ep 0]}
def E3{c:DictEntry}{Q:Option Vl->Sh->Prop}(G:s.heap.get? it=some (nC d i es.size ep))(L:Lies s.heap d es ep)(m:es[i]? =some c)
  (q: ∀g,g.get? it=some (nC d (i+1) es.size ep)->Heap.SameBut it s.heap g->Q (some c.key) {s with heap:=g}):wpAny (model P w) A (pyNext (.ref it)) Q E s:=by
 obtain⟨o,k,_,l⟩:=L;have ty:s.TypeIs (.ref it) "dict_keyiterator":=⟨_,G,rfl⟩;unfold pyNext;refine ci (nM (oo (name:=Str.ofString "__next__") ty pz (iK pz ty E8 ?_ (B0 _))));refine ci (cu (ci (ci ?_)));refine ci (vh ty (cu (ci (qx G rfl ?_))));have a:Builtin.Dict_items.ownsTuple "dict_keyiterator"=false:=by decide
 simp only[a,Bool.false_eq_true,if_false];refine show wpAny _ _ (if(Value.ref d==Value.none)=true then _ else _) _ _ s from(wA (show ¬((Value.ref d==Value.none)=true)from e9))▸ci (cu (ci (oT k l ?_)))
 rw[wA (by simp)];refine ci (cu (ci (qk k l ?_)));rw[wA (by simp)];refine cu ?_;have h:(if((i:Nat):Int)<0 then none else es[((i:Nat):Int).toNat]?)=some c:=by
  rw[wA (by lia),gb];exact m
 show wpAny _ _ (match (if((i:Nat):Int)<0 then none else es[((i:Nat):Int).toNat]?)with|some e=>_|none=>_) _ _ s;rw[h];refine ci (ci (vh ty (cu (ci (wpAny_isOneOf_keyiter ty ?_)))));refine show wpAny _ _ (setField (.ref it) 1 (rawInt ((i:Int)+1)) >>= _) _ _ s from ci (lB G (by simp) λf n p=>wpAny_bind (wpAny_holding ?_))
 have b:f.get? it=some (nC d (i+1) es.size ep):=by
  have z:((i+1:Nat):Int)=(i:Int)+1:=by lia
  unfold nC;rw[z];simpa[rawInt]using n
 have j:Shared.TypeIs {s with heap:=f} (.ref it) "dict_keyiterator":=⟨_,b,rfl⟩;refine ci (wpAny_isOneOf_keyiter j ?_);exact show wpAny _ _ (pure c.key) _ _ {s with heap:=f}from cu (cu ⟨_,rfl,cu (q f b p)⟩)
def DQ{Q:Option Vl->Sh->Prop}(k:A.handled=none)(G:s.heap.get? it=some (nC d i es.size ep))(L:Lies s.heap d es ep)(l:es[i]? =none)
  (q: ∀g,Heap.ExtBut it s.heap g->Q none {s with heap:=g}):wpAny (model P w) A (pyNext (.ref it)) Q E s:=by
 obtain⟨o,h,_,j⟩:=L;have ty:s.TypeIs (.ref it) "dict_keyiterator":=⟨_,G,rfl⟩;unfold pyNext;refine ci (nM (oo (name:=Str.ofString "__next__") ty pz (iK pz ty E8 ?_ (B0 _))));refine ci (cu (ci (ci ?_)));refine ci (vh ty (cu (ci (qx G rfl ?_))));have c:Builtin.Dict_items.ownsTuple "dict_keyiterator"=false:=by decide
 simp only[c,Bool.false_eq_true,if_false];refine show wpAny _ _ (if(Value.ref d==Value.none)=true then _ else _) _ _ s from(wA (show ¬((Value.ref d==Value.none)=true)from e9))▸ci (cu (ci (oT h j ?_)))
 rw[wA (by simp)];refine ci (cu (ci (qk h j ?_)));rw[wA (by simp)];refine cu ?_;have f:(if((i:Nat):Int)<0 then none else es[((i:Nat):Int).toNat]?)=none:=by
  rw[wA (by lia),gb];exact l
 show wpAny _ _ (match (if((i:Nat):Int)<0 then none else es[((i:Nat):Int).toNat]?)with|some e=>_|none=>_) _ _ s;rw[f];refine ci (ci (vh ty (cu ?_)));refine show wpAny _ _ (setField (.ref it) 0 .none >>= _) _ _ s from ci (lB G (by simp) λr t n=>?_)
 refine ci (m:=newExc _ _) ?_;simp only[newExc,newTuple];refine ci (mh ?_ (by size_fits));refine ci (m:=firstArgMember _ _) (vf (a:=Value.none) (by first|rfl|(unfold firstArgMember;rfl)) (wpAny_newObj_type ?_ (by size_fits)));refine Ae (by simpa using k) (wpAny_bind (wpAny_isInstance (T:="StopIteration") (b:=true) ⟨_,Heap.get?_push_size _ rfl,rfl⟩ isSubtype_stop (wpAny_pure ?_)));exact q _ λb o p z=>dj _ (dj _ (n.extBut b o p z))
def EA{Q:VP}(nd:(d==sysModules)=false)(L:Lies s.heap d es ep)(q:Q (.ref s.heap.objs.size) {s with heap:=s.heap.push (nC d 0 es.size ep)}):wpAny (model P w) A (pyIter (.ref d)) Q E s:=by
 obtain⟨o,a,x,b⟩:=L;have ty:s.TypeIs (.ref d) "dict":=⟨o,a,x.1⟩;refine pR ty F.slot_dict_iter (iK F.slot_dict_iter ty F.entry_dict_iter ?_ (F.args_dict_iter_1 _));unfold Builtin.«dict.__iter__» Builtin.Dict.dictSlotNone;refine ci (ci (wpAny_notOrdered_dict ty ?_));refine show wpAny _ _ (pure (Value.ref d)) _ _ s from cu (show wpAny _ _ (Builtin.Dict.showsAll d >>= _) _ _ s from ?_)
 have all:Builtin.Dict.showsAll d=pure ():=by
  unfold Builtin.Dict.showsAll;rw[nd];rfl
 rw[all];refine ci (cu (ci (oT a b (ci (qk a b ?_)))));exact ci (mh (cu ⟨_,rfl,"dict_keyiterator",_,⟨_,dZ _ rfl,rfl⟩,pz.lookup,q⟩))
def GW(m:A.handled=none)(f:d≠it):Walks P w A it [it,d] [it] es.size (λi v=> ∃a,es[i]? =some a/\v=a.key) (λi h=>h.get? it=some (nC d i es.size ep)/\Lies h d es ep) where
 sub:=λb n=>dE.mpr (.inl (cW.mp n))
 frame:=λi h c st k=>⟨k it (dC ..) _ st.1,let⟨o,e,x⟩:=st.2;⟨o,k d (eO _ (cW.mpr rfl)) _ e,x⟩⟩
 item:=λi s Q E p st q=>by
  obtain⟨a,j⟩: ∃a,es[i]? =some a:=⟨_,iJ p⟩;refine E3 st.1 st.2 j λc r l=>q a.key c s.toks ⟨a,j,rfl⟩ ⟨r,let⟨o,e,x⟩:=st.2;⟨o,l.extBut _ _ f e,x⟩⟩ λb o g e=>l.extBut _ _ (λz=>g (cW.mpr z)) e
 done:=λs Q E st q=>DQ m st.1 st.2 (BB (cD _)) λc x=>q c s.toks λb o g e=>x b o (λz=>g (cW.mpr z)) e
 self:=λi s Q E st q=>by
  have ty:s.TypeIs (.ref it) "dict_keyiterator":=⟨_,st.1,rfl⟩;refine pR ty xO (iK xO ty Dc ?_ (Ca _));exact show wpAny _ _ (ret (.ref it)) _ _ s from cu ⟨_,rfl,"dict_keyiterator",_,ty,pz.lookup,q⟩
def uo(nd:(d==sysModules)=false):PySem.W.KdlSrc P w "dict" d d es.size (λi v=> ∃a,es[i]? =some a/\v=a.key) (λh=>Lies h d es ep) where
 type:=λ_ e=>e.typeIs
 there:=λ_ ⟨_,e,_⟩=>⟨cU e,cU e⟩
 keep:=λ_ _ ⟨o,e,x⟩ k=>⟨o,k d (.inl rfl) _ e,x⟩
 notList:=by decide
 notTuple:=by decide
 hint:=λ_ _ _ _ e q=>PySem.W.kdl_hint_dict e.typeIs q
 iter:=λ_ _ b e=>⟨_,_,λ_ _ q=>EA nd e q,GW b (dH (let⟨_,z,_⟩:=e;cU z)),dZ _ rfl,let⟨o,z,x⟩:=e;⟨o,dj _ z,x⟩⟩
end
open PySem PySem.W PyProof.Rows
section
variable(n:Nat)(k:Nat->Int)
def KOk{b:Type}:KasT b->(b->Prop)->Prop
 | .ret a,R=>R a
 | .ask i j f,R=>i<n/\j<n/\KOk (f (decide (k i<k j))) R
def Arr(p:Array Nat):Prop:=p.Perm (List.range n).toArray
def nA(p:Array Nat)(m:Nat):Prop:= ∀a b,a<b->b<m->k (p.getD a 0)<k (p.getD b 0)
def MJ(p:Array Nat)(m:Nat):Prop:= ∀a b,a<b->b<m->k (p.getD b 0)<k (p.getD a 0)
variable{n k}
theorem KOk.bind{b c:Type}{f:b->KasT c}{R:b->Prop}{d:c->Prop}(h: ∀a,R a->KOk n k (f a) d): ∀t:KasT b,KOk n k t R->KOk n k (t.bind f) d
 | .ret a,q=>h a q
 | .ask i j g,q=>⟨q.1,q.2.1,KOk.bind h (g _) q.2.2⟩
def Arr.size{p:Array Nat}(h:Arr n p):p.size=n:=by
 have z:=(kq.mp h).length_eq;simpa using z
def Arr.at{p:Array Nat}(h:Arr n p){i:Nat}(b:i<n):p.getD i 0<n/\p[i]? =some (p.getD i 0):=by
 have c:=h.size;have e:p[i]? =some (p.getD i 0):=by
  rw[nW,iJ (by lia)];rfl
 refine⟨?_,e⟩;have m:p.getD i 0∈p:=zd e;have a:=(AJ h).mp m;simpa using a
def Arr.inj{p:Array Nat}(h:Arr n p){i j:Nat}(b:i<n)(d:j<n)(e:p.getD i 0=p.getD j 0):i=j:=by
 have nd:p.toList.Nodup:=(kq.mp h).nodup_iff.mpr (by simpa using List.nodup_range);have c:=(h.at b).2;have a:=(h.at d).2;rw[<-e]at a;rw[<-iC]at c a;exact(g7 (by rw[dJ,h.size];exact b) nd).mp (c.trans a.symm)
variable(inj: ∀i j,i<n->j<n->k i=k j->i=j)
include inj
end
end L2
namespace L2
open PySem PySem.Spec PySem.W PyProof.Rows
section
variable{P:Pg}{w:World}{A:Ar}{E:VP}{s:Sh}{a:Ad}{vs ks:Vs}{k:Nat->Int}
def ya(P:Pg)(w:World)(A:Ar)(ks:Vs)(lt:Nat->Nat->Bool)(s:Sh):Prop:=
 wpAny (model P w) A (keyKind' ks.toArray) (λb c=>c=s/\ ∀i j (C:Bool->Sh->Prop),i<ks.length->j<ks.length->C (lt i j) s->kas_ask P w A b ks i j C s) (λ_ _=>False) s
abbrev fY(vs:Vs)(p:Array Nat):Vs:=p.toList.map λi=>vs.getD i Value.none
def BP(vs:Vs):fY vs (List.range vs.length).toArray=vs:=by
 unfold fY;refine lJ λi=>?_;rw[vB,cF];by_cases h:i<vs.length
 .rw[mj h,ck h];show some (vs.getD i Value.none)=_;rw[dI,ck h];rfl
 .rw[hG (by simp;lia),List.getElem?_eq_none (by lia)];rfl
def Dw(b:ks.length=vs.length):(ks.toArray.zip vs.toArray).map (·.2)=vs.toArray:=by
 apply Array.toList_inj.mp;rw[xD,ksk_zip];exact List.map_snd_zip (by simp[b])
def ve{c:Heap}{b:Ad}{x:Obj}(e:c.get? b=some x)(d f:Obj):((c.push d).push f).get? b=some x:=dj _ (dj _ e)
end
theorem yA{a:Type}{p q:a->Bool}: ∀{xs:List a},(∀z∈xs,p z=true->q z=true)->(∃z∈xs,p z=false/\q z=true)->xs.countP p<xs.countP q
 | [],_,h=>by obtain⟨z,hz,_⟩:=h;cases hz
 | x::xs,mono,h=>by
  have g:xs.countP p<=xs.countP q:=List.countP_mono_left λz hz=>mono z (eO _ hz);rw[vr,vr];obtain⟨z,hz,b,c⟩:=h
  rcases dE.mp hz with e|hz
  .subst e;rw[b,c];simp;lia
  .have i:=yA (xs:=xs) (λy d=>mono y (eO _ d)) ⟨z,hz,b,c⟩;have m:=mono x (dC ..);cases f:p x with
   |false=>cases q x<;>simp<;>lia
   |true=>rw[m f];simp;lia
structure Total{α:Type}(lt:α->α->Bool)(xs:List α):Prop where
 irr: ∀x,lt x x=false
 trans: ∀x y z,lt x y=true->lt y z=true->lt x z=true
 tot: ∀x∈xs,∀y∈xs,x≠y->lt x y=true∨lt y x=true
def iA{a:Type}(lt:a->a->Bool)(xs:List a)(x:a):Int:=((xs.countP λy=>lt y x):Nat)
section
variable{α:Type}{lt:α->α->Bool}{xs:List α}(T:Total lt xs)
include T
def Total.up{x y:α}(a:x∈xs)(h:lt x y=true):iA lt xs x<iA lt xs y:=by
 unfold iA;have z:=yA (xs:=xs) (p:=λz=>lt z x) (q:=λz=>lt z y) (λz _ b=>T.trans _ _ _ b h) ⟨x,a,T.irr x,h⟩;lia
def Total.asks{x y:α}(a:x∈xs)(b:y∈xs):decide (iA lt xs x<iA lt xs y)=lt x y:=by
 by_cases e:x=y
 .subst e;rw[T.irr];exact d9 (Int.lt_irrefl _)
 .rcases T.tot x a y b e with h|h
  .rw[h];exact dD (T.up a h)
  .have:=T.up b h;rw[d9 (by lia)];cases z:lt x y with
   |false=>rfl
   |true=>
    have:=T.up a z;lia
def Total.same{x y:α}(a:x∈xs)(b:y∈xs)(h:iA lt xs x=iA lt xs y):x=y:=by
 refine vd λe=>?_
 rcases T.tot x a y b e with z|z
 .have:=T.up a z;lia
 .have:=T.up b z;lia
end
theorem AT: ∀(a b:cf),a≠b->dM a b=true∨dM b a=true
 | [],[],h=>wC rfl h
 | [],y::b,_=> .inl (by unfold dM;rw[show fL [] (y::b)=none from rfl];simp)
 |x::a,[],_=> .inr (by unfold dM;rw[show fL [] (x::a)=none from rfl];simp)
 | x::a,y::b,h=>by
  by_cases e:x=y
  .subst e
   rcases AT a b (λz=>h (by rw[z]))with q|q
   .exact .inl (by rw[nG];exact q)
   .exact .inr (by rw[nG];exact q)
  .rw[ir e,ir (eC e)]
   rcases Nat.lt_or_gt_of_ne e with q|q
   .exact .inl (dD q)
   .exact .inr (dD q)
theorem xK: ∀(xs a zs:cf),dM xs a=true->dM a zs=true->dM xs zs=true
 | xs,a,[],_,b=>by
  have:dM a []=false:=by
   unfold dM;rw[show fL a []=none by cases a<;>rfl];simp
  rw[this]at b;cases b
 | [],a,z::zs,_,_=>by unfold dM;rw[show fL [] (z::zs)=none from rfl];simp
 | x::xs,[],z::zs,c,_=>by
  have:dM (x::xs) []=false:=by
   unfold dM;rw[show fL (x::xs) []=none from rfl];simp
  rw[this]at c;cases c
 | x::xs,y::a,z::zs,c,b=>by
  by_cases e:x=y
  .subst e;by_cases d:x=z
   .subst d;rw[nG]at c b⊢;exact xK xs a zs c b
   .rw[ir d]at b⊢;exact b
  .rw[ir e]at c;have f:=gE c;by_cases d:y=z
   .subst d;rw[ir e];exact c
   .rw[ir d]at b;have g:=gE b;rw[ir (by lia)];exact dD (by lia)
def LK(a:LN):Total dM a:=⟨mT,xK,λx _ y _ e=>AT x y e⟩
section
variable{P:Pg}{w:World}{A:Ar}{E:VP}{s:Sh}
def DS{i j:Int}{t u:Tok}(f:Bool){Q:Bool->Sh->Prop}(h:Q (decide (i<j)) s):wpAny (model P w) A (oneLt' f (.int i t) (.int j u)) Q E s:=by
 cases f with
 |true=>exact oneLt_int h
 |false=>exact kat_one _ _ (PyProof.Rows.lt_int h)
theorem C4{fin:Bool}{Q:Bool->Sh->Prop}: ∀{b a:cf} {c d:Vs} (i:Nat),Vals (b.map nv) c->Vals (a.map nv) d->Q ((fL b a).getD fin) s->KatLex P w A true fin Q (c.zip d) i s
 | [],a,_,_,i,.nil,_,q=>by
  rw[show fL [] a=none by cases a<;>rfl]at q;rw[List.zip_nil_left];exact kat_nil q
 |n::b,[],_,_,i,.cons _ _,.nil,q=>by
  rw[List.zip_nil_right];exact kat_nil q
 | n::b,m::a,_,_,i,.cons ⟨t,f⟩ g,.cons ⟨u,h⟩ k,q=>by
  subst f h;refine kat_cons ?_;have z:=eZ (A:=A) (s:=s) (i:=(n:Int)) (j:=(m:Int)) (t:=t) (u:=u);by_cases e:n=m
  .rw[dD (by lia)]at z;rw[fL,wB e]at q;exact z P w _ _ (kat_yes (C4 (i+1) g k q))
  .rw[d9 (by lia)]at z;rw[fL,wA e]at q;refine z P w _ _ (kat_no (DS _ ?_));have l:decide ((n:Int)<(m:Int))=decide (n<m):=by simp
   rw[l];exact q
def mv(h:Heap)(v:Vl)(d:cf):Prop:= ∃a o b c,v= .ref a/\h.get? a=some o/\o.cls= .type "tuple"/\o.data= .seq b c/\Vals (d.map nv) b.toList
theorem Em{h:Heap}: ∀{vs:Vs} {ts:LN},vs.length=ts.length->(∀(i:Nat) v t,vs[i]? =some v->ts[i]? =some t->mv h v t/\t≠[])-> ∃fs:Vs,KatTups h vs fs/\fs.length=vs.length/\ ∀f∈fs,∃i t,f= .int i t
 | [],[],_,_=>⟨[],.nil,rfl,λ_ z=>nomatch z⟩
 | [],_::_,l,_=>by simp at l
 |_::_,[],l,_=>by simp at l
 | v::vs,t::ts,l,g=>by
  obtain⟨fs,k,m,p⟩:=Em (h:=h) (vs:=vs) (ts:=ts) (by simpa using l) λi v t q u=>g (i+1) v t (by simpa using q) (by simpa using u);obtain⟨⟨a,o,d,c,rfl,x,y,B,C⟩,D⟩:=g 0 v t rfl rfl;obtain⟨n,b,rfl⟩: ∃n b,t=n::b:=by
   cases t with
   |nil=>exact wC rfl D
   |cons n b=>exact⟨n,b,rfl⟩
  obtain⟨j⟩:=d;cases C with
  | cons r _=>
   obtain⟨G,rfl⟩:=r;exact⟨_::fs,.cons x y B rfl k,by simp[m],λf hf=>by
    rcases dE.mp hf with e|hf
    .exact⟨_,_,e⟩
    .exact p f hf⟩
def Jl{a:Vs}{b:LN}(l:a.length=b.length)(N:1<=a.length)(e: ∀(i:Nat) v t,a[i]? =some v->b[i]? =some t->mv s.heap v t/\t≠[]):ya P w A a (λi j=>dM (b.getD i []) (b.getD j [])) s:=by
 obtain⟨fs,k,O,m⟩:=Em l e;refine kat_kind (T:= .type "int") k (by lia) (λf n=>?_) (by decide) ⟨rfl,λi j C d o p=>?_⟩
 .obtain⟨i,t,rfl⟩:=m f n;exact .now
 .have c: ∀{i:Nat},i<a.length->mv s.heap (a.getD i Value.none) (b.getD i []):=λ{i} d=>by
   have q:a[i]? =some (a.getD i Value.none):=by rw[dI,ck d];rfl
   have r:b[i]? =some (b.getD i []):=by rw[dI,ck (by lia)];rfl
   exact(e i _ _ q r).1
  obtain⟨x,Q,u,U,z,B,Y,D,g⟩:=c d;obtain⟨y,oy,G,ny,H,I,y2,J,h⟩:=c o;show wpAny (model P w) A (keyLt' _ (a.getD i Value.none) (a.getD j Value.none)) C _ s;rw[z,H];refine kat_lt B D I J (C4 0 g h ?_);have L:(b.getD i []).length=u.size:=by have:=g.length;simpa using this
  have M:(b.getD j []).length=G.size:=by have:=h.length;simpa using this
  rw[<-L,<-M];exact p
end
def Fb{b:Type}{a:List b}{p:Array Nat}{d:b}(c:Arr a.length p):(p.toList.map λi=>a.getD i d).Perm a:=by
 have z:=(kq.mp c).map λi=>a.getD i d;refine z.trans (.of_eq ?_);refine lJ λi=>?_;rw[vB,cF];by_cases h:i<a.length
 .rw[mj h,ck h];show some (a.getD i d)=_;rw[dI,ck h];rfl
 .rw[hG (by simp;lia),List.getElem?_eq_none (by lia)];rfl
def CJ{p:Array Nat}{n i:Nat}(a:Arr n p)(b:i<n):p.toList[i]? =some (p.getD i 0):=by
 rw[iC];exact(a.at b).2
def Fg{c:Type}{lt:c->c->Bool}{a:List c}{d:c}{p:Array Nat}(T:Total lt a)(b:Arr a.length p)(up:nA (λi=>iA lt a (a.getD i d)) p a.length):(p.toList.map λi=>a.getD i d).Pairwise λx y=>lt x y=true:=by
 rw[mB];intro i j e f o;have k:i<a.length:=by rw[cj,dJ,b.size]at e;exact e
 have g:j<a.length:=by rw[cj,dJ,b.size]at f;exact f
 have l:(p.toList.map λi=>a.getD i d)[i]? =some (a.getD (p.getD i 0) d):=by rw[cF,CJ b k];rfl
 have n:(p.toList.map λi=>a.getD i d)[j]? =some (a.getD (p.getD j 0) d):=by rw[cF,CJ b g];rfl
 rw[ck e]at l;rw[ck f]at n;rw[fH l,fH n];have u:=up i j o g;have m: ∀{i:Nat},i<a.length->a.getD (p.getD i 0) d∈a:=λ{i} h=>by
  have:=(b.at h).1;rw[dI,ck this];exact iZ _
 rw[<-T.asks (m k) (m g)];exact dD u
structure TupsAt(H:Hp)(bs:As)(us:LN):Prop where
 len:bs.length=us.length
 is: ∀(i:Nat) (b:Ad) (u:cf),bs[i]? =some b->us[i]? =some u->H b=some (.tup (u.map nv))
def TupsAt.same{H a:Hp}{bs:As}{c:LN}(h:TupsAt H bs c)(g:Same H a):TupsAt a bs c:=⟨h.len,λi b u d e=>g _ _ (h.is i b u d e)⟩
def TupsAt.pick{H:Hp}{bs:As}{a:LN}(h:TupsAt H bs a){p:Array Nat}(f:Arr a.length p):TupsAt H (p.toList.map λi=>bs.getD i 0) (p.toList.map λi=>a.getD i []):=by
 refine⟨by simp,λi b u d c=>?_⟩;rw[cF]at d c;obtain⟨j,e,rfl⟩:=dR.mp d;rw[e]at c;cases c;have g:j<a.length:=by
  have m:=(kq.mp f).mem_iff.mp (cK e);simpa using m
 have k:=h.len;refine h.is j _ _ ?_ ?_
 .rw[dI,ck (by lia)];rfl
 .show a[j]? =some (a.getD j []);rw[dI,ck g];rfl
section
variable{X:Cx}
def uJ{P:Pg}{w:World}{H:Hp}{h:Heap}{a:Ad}{t:cf}(ok:HOk P w H h)(e:H a=some (.tup (t.map nv))):mv h (.ref a) t:=by
 obtain⟨_,b,r,o,d,f,c,g,_⟩:=(show ObjOk P w H h a (.tup (t.map nv))from ok a _ e);exact⟨a,o,b.toArray,c,rfl,d,f,g,by simpa using r⟩
def lU{b:Type}{a:List b}{d:b}{i:Nat}(h:i<a.length):a[i]? =some (a.getD i d)/\a.getD i d∈a:=by
 have e:a[i]? =some (a.getD i d):=by
  rw[dI,ck h];rfl
 exact⟨e,cK e⟩
def CW{b:Type}{lt:b->b->Bool}{a:List b}{d:b}(T:Total lt a)(nd:a.Nodup): ∀i j,i<a.length->j<a.length->iA lt a (a.getD i d)=iA lt a (a.getD j d)->i=j:=λi j c f e=>by
 have z:=T.same (lU c).2 (lU f).2 e;refine(g7 c nd).mp ?_;rw[(lU (d:=d) c).1,(lU (d:=d) f).1,z]
end
abbrev d0:Keyed:=(Value.none,Value.none)
structure Asks(M:Model)(A:Ar)(s:Sh)(κ:SortKind)(r:Keyed->Int)(a₀:Array Keyed):Prop where
 lt: ∀(x y:Keyed) (C:Bool->Sh->Prop),x∈a₀->y∈a₀->C (decide (r x<r y)) s->wpAny M A (keyLt' κ x.1 y.1) C (λ_ _=>False) s
 ne: ∀i j,i<a₀.size->j<a₀.size->i≠j->r (a₀.getD i d0)≠r (a₀.getD j d0)
structure StOk(κ:SortKind)(a₀:Array Keyed)(st:SortSt):Prop where
 kind:kindOf st=κ
 perm:(arrOf st).Perm a₀
 ok:failedOf st=none
section
variable{M:Model}{A:Ar}{E:VP}{s:Sh}{κ:SortKind}{r:Keyed->Int}{a₀ xs ys:Array Keyed}
abbrev kx(r:Keyed->Int)(xs:Array Keyed)(i:Nat):Int:=r (xs.getD i d0)
def nh{i:Nat}(h:i<xs.size):xs[i]? =some (xs.getD i d0):=by
 rw[nW,iJ h];rfl
def cT{i:Nat}{x:Keyed}(h:xs[i]? =some x):xs.getD i d0=x:=by
 rw[nW,h];rfl
def mI{i j:Nat}(h:xs[i]? =ys[j]?):xs.getD i d0=ys.getD j d0:=by
 rw[nW,nW,h]
def nQ(p:xs.Perm a₀):xs.size=a₀.size:=by
 have z:=(kq.mp p).length_eq;simpa using z
def vQ(p:xs.Perm a₀){i:Nat}(h:i<a₀.size):xs.getD i d0∈a₀:=(AJ p).mp (zd (nh (by rw[nQ p];exact h)))
def Asks.pairs(K:Asks M A s κ r a₀):(a₀.toList.map r).Nodup:=by
 refine mB.mpr λi j a b c=>?_;rw[qw,qw];rw[cj,dJ]at a b;have z:=K.ne i j a b (by lia);rw[nW,nW,iJ a,iJ b]at z;exact z
def Asks.apart(K:Asks M A s κ r a₀)(p:xs.Perm a₀){i j:Nat}(a:i<a₀.size)(b:j<a₀.size)(c:i≠j):kx r xs i≠kx r xs j:=by
 have nd:(xs.toList.map r).Nodup:=((kq.mp p).map r).nodup_iff.mpr K.pairs;have sz:=nQ p;intro z;have e: ∀k,k<a₀.size->(xs.toList.map r)[k]? =some (kx r xs k):=λk d=>by
  rw[cF,iC,nh (by lia)];rfl
 exact c ((g7 (by rw[cj,dJ];lia) nd).mp (by rw[e i a,e j b,z]))
def rT{st:SortSt}{x y:Keyed}{Q:Option Bool->SortSt->Prop}(K:Asks M A s κ r a₀)(c:kindOf st=κ)(d:x∈a₀)(e:y∈a₀)(h:Q (some (decide (r x<r y))) st):wpS M A E s (lt' x y) Q st:=by
 rw[lt'_eq];refine cI (jj ?_);rw[c];refine cI (og (nM (gq (K.lt x y (λb a=>a=s/\b=decide (r x<r y)) d e ⟨rfl,rfl⟩) (λb a f=>?_) λ_ _ z=>z.elim)));obtain⟨rfl,rfl⟩:=f;exact⟨rfl,cN h⟩
def fR{a:SortSt}{i:Nat}{Q:Keyed->SortSt->Prop}(b:i<xs.size)(h:Q (xs.getD i d0) a):wpS M A E s (elem' xs i) Q a:=by
 rw[elem'_eq,nh b];exact cN h
def sJ{st:SortSt}{i j:Nat}{Q:Option Bool->SortSt->Prop}(K:Asks M A s κ r a₀)(B:StOk κ a₀ st)(a:i<a₀.size)(b:j<a₀.size)(h:Q (some (decide (kx r (arrOf st) i<kx r (arrOf st) j))) st):wpS M A E s (ltAt' i j) Q st:=by
 have sz:=nQ B.perm;rw[ltAt'_eq];refine cI (jj ?_);exact cI (fR (by lia) (cI (fR (by lia) (rT K B.kind (vQ B.perm a) (vQ B.perm b) h))))
def Ris(r:Keyed->Int)(xs:Array Keyed)(lo c:Nat):Prop:= ∀a b,lo<=a->a<b->b<c->kx r xs a<kx r xs b
def Fal(r:Keyed->Int)(xs:Array Keyed)(lo c:Nat):Prop:= ∀a b,lo<=a->a<b->b<c->kx r xs b<kx r xs a
def Out(xs ys:Array Keyed)(lo a:Nat):Prop:= ∀k,k<lo∨a<=k->ys[k]? =xs[k]?
def Out.refl(xs:Array Keyed)(lo a:Nat):Out xs xs lo a:=λ_ _=>rfl
def Out.trans{zs:Array Keyed}{lo a:Nat}(h:Out xs ys lo a)(b:Out ys zs lo a):Out xs zs lo a:=λk z=>(b k z).trans (h k z)
def Out.wide{lo c a b:Nat}(h:Out xs ys lo c)(d:a<=lo)(e:c<=b):Out xs ys a b:=λk z=>h k (by lia)
def Out.ris{lo c a b:Nat}(h:Out xs ys lo c)(e:Ris r xs a b)(d:b<=lo∨c<=a):Ris r ys a b:=λi j f g k=>by
 show r (ys.getD i d0)<r (ys.getD j d0);rw[mI (h i (by lia)),mI (h j (by lia))];exact e i j f g k
def Ris.one{lo:Nat}:Ris r xs lo (lo+1):=λa b c d e=>by lia
def Ris.snoc{lo c:Nat}(h:Ris r xs lo c)(i:lo<c)(l:kx r xs (c-1)<kx r xs c):Ris r xs lo (c+1):=λa b d f j=>by
 by_cases e:b=c
 .subst e;by_cases g:a=b-1
  .subst g;exact l
  .have:=h a (b-1) d (by lia) (by lia);lia
 .exact h a b d f (by lia)
def Fal.snoc{lo c:Nat}(h:Fal r xs lo c)(i:lo<c)(l:kx r xs c<kx r xs (c-1)):Fal r xs lo (c+1):=λa b d f j=>by
 by_cases e:b=c
 .subst e;by_cases g:a=b-1
  .subst g;exact l
  .have:=h a (b-1) d (by lia) (by lia);lia
 .exact h a b d f (by lia)
def StOk.set{st:SortSt}(B:StOk κ a₀ st)(p:ys.Perm (arrOf st)):StOk κ a₀ (setArr st ys):=⟨B.kind,p.trans B.perm,B.ok⟩
def CV{i j:Nat}(b:j<=xs.size)(k:Nat):kx r (mirror xs i j ((j-i) /2)) k=if i<=k/\k<j then kx r xs (i+j-1-k)else kx r xs k:=by
 have e:=getElem?_mirror_all (i:=i) b k;by_cases a:i<=k/\k<j
 .rw[wB a]at e⊢;exact dn r (mI e)
 .rw[wA a]at e⊢;exact dn r (mI e)
def He{st:SortSt}{lo f:Nat}{Q:Option Nat->SortSt->Prop}(K:Asks M A s κ r a₀)(B:StOk κ a₀ st)(hn:lo+f<=a₀.size)(C:1<=f)
  (h: ∀n g,StOk κ a₀ g->pendingOf g=pendingOf st->gallopOf g=gallopOf st->Out (arrOf st) (arrOf g) lo (lo+f)->1<=n->n<=f->Ris r (arrOf g) lo (lo+n)->Q (some n) g):wpS M A E s (countRun' lo f) Q st:=by
 rw[countRun'_eq];have v: ∀(m:Nat) (g:SortSt) (D:Option (Option Nat)×Nat->SortSt->Prop),StOk κ a₀ g->1<=m->m<=f->Ris r (arrOf g) lo (lo+m)->(∀n,m<=n->n<=f->Ris r (arrOf g) lo (lo+n)->(n<f->kx r (arrOf g) (lo+n)<kx r (arrOf g) (lo+n-1))->D (none,n) g)->
   wpS M A E s (forIn [m:f] ((none,m):Option (Option Nat)×Nat) λ_ l=>do
    let G <-ltAt' (lo+l.snd) (lo+l.snd-1)
    match G with
    |some o=>if o=true then pure (ForInStep.done (none,l.snd))else pure (ForInStep.yield (none,l.snd+1))
    |_=>pure (ForInStep.done (some none,l.snd))) D g:=λm g D O m1 H up q=>by
  refine hA (I:=λi c d=>d=g/\c=(none,i)/\Ris r (arrOf g) lo (lo+i)) (λi c d kh rS t=>?_) (λc d t=>?_) ⟨rfl,rfl,up⟩
  .obtain⟨rfl,rfl,p⟩:=t;refine cI (sJ K O (by show lo+i<_;lia) (by show lo+i-1<_;lia) ?_);by_cases c:kx r (arrOf d) (lo+i)<kx r (arrOf d) (lo+i-1)
   .rw[dD c];exact cN (q i kh (by lia) p λ_=>c)
   .rw[d9 c];have ne:=K.apart O.perm (i:=lo+i) (j:=lo+i-1) (by lia) (by lia) (by lia);exact cN ⟨rfl,rfl,p.snoc (by lia) (by lia)⟩
  .obtain⟨rfl,rfl,p⟩:=t;rw[show max m f=f by lia]at p⊢;exact q f H (cD _) p λz=>wC z (i5 _)
 refine cI (v 1 st _ B (cD _) C Ris.one λn J y up stop=>?_);dsimp only;by_cases e:n=f
 .rw[wB (by simpa using e)];exact cN (h n st B rfl rfl (Out.refl _ _ _) J y up)
 rw[wA (by simpa using e)];have L:=stop (by lia);by_cases T:n>1
 .rw[wB T];refine cI (sJ K B (by lia) (by lia) ?_);rw[dD (up lo (lo+n-1) (cD _) (by lia) (by lia))];exact cN (h n st B rfl rfl (Out.refl _ _ _) J y up)
 rw[wA T];have en:n=1:=by lia
 subst en;refine cI (og (lZ ⟨rfl,?_⟩));have w:Fal r (arrOf st) lo (lo+2):=λa b C U h3=>by
  have ea:a=lo:=by lia
  have eb:b=lo+1:=by lia
  subst ea eb;exact L
 refine cI (hX (hA (I:=λi c d=>d=st/\c=(none,i,0)/\Fal r (arrOf st) lo (lo+i)) (Q:=λc d=>d=st/\ ∃m,c=(none,m,0)/\2<=m/\m<=f/\Fal r (arrOf st) lo (lo+m)) (λi c d kh rS t=>?_) (λc d t=>?_) ⟨rfl,rfl,w⟩) ?_)
 .obtain⟨rfl,rfl,fa⟩:=t;refine cI (sJ K B (by show lo+i<_;lia) (by show lo+i-1<_;lia) ?_);by_cases c:kx r (arrOf d) (lo+i)<kx r (arrOf d) (lo+i-1)
  .rw[dD c];exact cN ⟨rfl,rfl,fa.snoc (by lia) c⟩
  .rw[d9 c];have ne:=K.apart B.perm (i:=lo+i) (j:=lo+i-1) (by lia) (by lia) (by lia);refine cI (sJ K B (by show lo+i-1<_;lia) (by show lo+i<_;lia) ?_);rw[dD (by show kx r (arrOf d) (lo+i-1)<kx r (arrOf d) (lo+i);lia)];exact cN ⟨rfl,i,rfl,by lia,by lia,fa⟩
 .obtain⟨rfl,rfl,fa⟩:=t;refine⟨rfl,_,rfl,by lia,by lia,fa⟩
 .rintro c d ⟨rfl,m,rfl,Y,H,fa⟩;dsimp only;obtain⟨m,rfl⟩: ∃k,m=k+1:=mL λz=>by rw[z]at Y;exact wC Y (by decide)
  rw[wA (i5 0)];rw[reverseSlice'_eq];have sz:=nQ B.perm;have u:lo+(m+1)<=(arrOf d).size:=by lia
  have B2:StOk κ a₀ (setArr d (mirror (arrOf d) lo (lo+(m+1)) ((lo+(m+1)-lo) /2))):=B.set (mirror_perm _ _ _ _);have N:Ris r (mirror (arrOf d) lo (lo+(m+1)) ((lo+(m+1)-lo) /2)) lo (lo+(m+1)):=λa b C U h3=>by
   rw[CV u,CV u,wB (by lia),wB (by lia)];exact fa _ _ (show lo<=lo+(lo+m)-b from yl (by lia)) (show lo+(lo+m)-b<lo+(lo+m)-a from Nat.sub_lt_sub_left (by lia) U) (show lo+(lo+m)-a<lo+(m+1)from ux (by lia) (by lia))
  have x:Out (arrOf d) (mirror (arrOf d) lo (lo+(m+1)) ((lo+(m+1)-lo) /2)) lo (lo+f):=λk hk=>by
   rw[getElem?_mirror_all u,wA (by lia)]
  refine cI (kg (cI (v (m+1) _ _ B2 (by lia) H N λn J y up stop=>?_)));exact cN (h n _ B2 rfl rfl x (by lia) y up)
end
section
variable{M:Model}{A:Ar}{E:VP}{s:Sh}{κ:SortKind}{r:Keyed->Int}{a₀ xs ys:Array Keyed}
def ES{a d:Nat}(f:a<xs.size)(g:d<=a)(k:Nat):kx r (bubble xs a d) k=if k=a-d then kx r xs a else if a-d<k/\k<=a then kx r xs (k-1)else kx r xs k:=by
 have e:=getElem?_bubble f d g k;by_cases b:k=a-d
 .rw[wB b]at e⊢;exact dn r (mI e)
 .rw[wA b]at e⊢;by_cases c:a-d<k/\k<=a
  .rw[wB c]at e⊢;exact dn r (mI e)
  .rw[wA c]at e⊢;exact dn r (mI e)
def HJ{st:SortSt}{lo n ok:Nat}{Q:Bool->SortSt->Prop}(K:Asks M A s κ r a₀)(B:StOk κ a₀ st)(hn:lo+n<=a₀.size)(Y:ok<=n)(hs:Ris r (arrOf st) lo (lo+ok))
  (h: ∀a,StOk κ a₀ a->pendingOf a=pendingOf st->gallopOf a=gallopOf st->Out (arrOf st) (arrOf a) lo (lo+n)->Ris r (arrOf a) lo (lo+n)->Q true a):wpS M A E s (binarySort' lo n ok) Q st:=by
 rw[binarySort'_eq];refine cI (hX (hA (I:=λk c a=>c=(none,())/\StOk κ a₀ a/\pendingOf a=pendingOf st/\gallopOf a=gallopOf st/\Out (arrOf st) (arrOf a) lo (lo+n)/\Ris r (arrOf a) lo (lo+min k n))
  (Q:=λc a=>c=(none,())/\StOk κ a₀ a/\pendingOf a=pendingOf st/\gallopOf a=gallopOf st/\Out (arrOf st) (arrOf a) lo (lo+n)/\Ris r (arrOf a) lo (lo+n)) ?step ?fin ?init) ?post)
 case post=>
  rintro c a ⟨rfl,v,D,G,o,u⟩;exact cN (h a v D G o u)
 case init=>
  refine⟨rfl,B,rfl,rfl,Out.refl _ _ _,λi j p w h3=>?_⟩;exact hs i j p w (by lia)
 case fin=>
  rintro c a ⟨hc,v,D,G,o,u⟩;refine⟨hc,v,D,G,o,?_⟩;rwa[show min (max (max ok 1) n) n=n by lia]at u
 case step=>
  rintro k c a aa ab ⟨rfl,v,D,G,o,t⟩;rw[show min k n=k by lia]at t;have sz:=nQ v.perm;refine cI (hX (hA (I:=λx c b=>b=a/\ ∃l q,c=(none,l,q)/\l<=q/\q<=k/\q+x<=k+l/\
    (∀i,i<l->kx r (arrOf a) (lo+i)<kx r (arrOf a) (lo+k))/\(∀i,q<=i->i<k->kx r (arrOf a) (lo+k)<kx r (arrOf a) (lo+i)))
   (Q:=λc b=>b=a/\ ∃l q,c=(none,l,q)/\l<=k/\
    (∀i,i<l->kx r (arrOf a) (lo+i)<kx r (arrOf a) (lo+k))/\(∀i,l<=i->i<k->kx r (arrOf a) (lo+k)<kx r (arrOf a) (lo+i))) ?istep ?ifin ?iinit) ?ipost)
  case iinit=>exact⟨rfl,0,k,rfl,by lia,by lia,by lia,λi hi=>by lia,λi p w=>by lia⟩
  case ifin=>
   rintro c b ⟨rfl,l,q,rfl,J,m,hm,f,g⟩;have:l=q:=by lia
   subst this;exact⟨rfl,l,l,rfl,m,f,g⟩
  case istep=>
   rintro x c b _ ae ⟨rfl,l,q,rfl,J,m,hm,f,g⟩;dsimp only;by_cases y:l≥q
   .rw[wB y];have:l=q:=by lia
    subst this;exact cN ⟨rfl,l,l,rfl,m,f,g⟩
   .rw[wA y];have T:l<=(l+q) /2:=by lia
    have L:(l+q) /2<q:=by lia
    clear y;generalize(l+q) /2=d at T L⊢;have U:d<k:=fN L m;refine cI (sJ K v (by lia) (by lia) ?_);by_cases e:kx r (arrOf b) (lo+k)<kx r (arrOf b) (lo+d)
    .simp only[e,decide_true,if_true];refine cN ⟨rfl,l,d,rfl,T,fj U,by lia,f,λi p w=>?_⟩;by_cases z:i=d
     .subst z;exact e
     .exact tm e (t (lo+d) (lo+i) (j5 ..) (vO (sV p (eC z)) _) (vO w _))
    .simp only[e,decide_false,Bool.false_eq_true,if_false];have ne:=K.apart v.perm (i:=lo+k) (j:=lo+d) (by lia) (by lia) (by lia);refine cN ⟨rfl,d+1,q,rfl,L,m,by lia,λi p=>?_,g⟩;by_cases z:i=d
     .subst z;exact Int.lt_iff_le_and_ne.mpr ⟨Int.not_lt.mp e,ne.symm⟩
     .exact Int.lt_of_lt_of_le (t (lo+i) (lo+d) (j5 ..) (vO (sV (wN p) z) _) (vO U _)) (Int.not_lt.mp e)
  case ipost=>
   rintro c b ⟨rfl,l,q,rfl,H,f,g⟩;show wpS _ _ _ _ (do moveDown' (lo+k) (lo+l);pure (ForInStep.yield (none,()))) _ _
   rw[moveDown'_eq];have C:lo+k<(arrOf b).size:=by lia
   refine cI (kg (cN ⟨rfl,v.set (bubble_perm _ _ _),D,G,o.trans λj hj=>?_,?_⟩))
   .show(bubble (arrOf b) (lo+k) (lo+k-(lo+l)))[j]? =_;rw[getElem?_bubble C _ (by lia),Nat.sub_sub_self (ul H lo),wA (by lia),wA (by lia)]
   .rw[show min (k+1) n=k+1 by lia];intro i j p w h3;show kx r (bubble (arrOf b) (lo+k) (lo+k-(lo+l))) i<kx r (bubble (arrOf b) (lo+k) (lo+k-(lo+l))) j
    rw[ES C (by lia),ES C (by lia),Nat.sub_sub_self (ul H lo)];have N: ∀i,lo<=i->i<lo+l->kx r (arrOf b) i<kx r (arrOf b) (lo+k):=λi p w=>by
     have:=f (i-lo) (by lia);rwa[show lo+(i-lo)=i by lia]at this
    have O: ∀i,lo+l<=i->i<lo+k->kx r (arrOf b) (lo+k)<kx r (arrOf b) i:=λi p w=>by
     have:=g (i-lo) (by lia) (by lia);rwa[show lo+(i-lo)=i by lia]at this
    repeat' split
    all_goals first
     |(exfalso;lia)
     |exact N _ (by lia) (by lia)
     |exact O _ (by lia) (by lia)
     |exact t _ _ (by lia) (by lia) (by lia)
def nt:Bool->Keyed->Array Keyed->Nat->Nat->Nat->StateT SortSt Sem (Option Nat):=sortPriv%PySem.Builtin.gallop
def Lf(left:Bool)(e:Keyed)(g:Array Keyed)(d n a:Nat):nt left e g d n a=(do
 let c (i:Nat):StateT SortSt Sem (Option Bool):=do
  let x <-elem' g (d+i)
  if left then lt' x e else return (<-lt' e x).map (!·)
 let mut lastofs:=0
 let mut ofs:=1
 let mut lo:=0
 let mut hi:=0
 let some right <-c a|return none
 if right then
  let b:=n-a
  for _ in[0:n] do
   if ofs≥b then break
   let some more <-c (a+ofs)|return none
   if !more then break
   lastofs:=ofs
   ofs:=2 * ofs+1
  lo:=a+lastofs+1
  hi:=a+min ofs b
 else
  let b:=a+1
  for _ in[0:n] do
   if ofs≥b then break
   let some f <-c (a-ofs)|return none
   if f then break
   lastofs:=ofs
   ofs:=2 * ofs+1
  lo:=a+1-min ofs b
  hi:=a-lastofs
 for _ in[0:n] do
  if lo≥hi then break
  let m:=lo+(hi-lo) /2
  let some more <-c m|return none
  if more then lo:=m+1 else hi:=m
 return some hi):=rfl
end
section
variable{M:Model}{A:Ar}{E:VP}{s:Sh}{κ:SortKind}{r:Keyed->Int}{a₀ xs ys:Array Keyed}
def pM{st:SortSt}{left:Bool}{m:Keyed}{d:Array Keyed}{a n b:Nat}{Q:Option Nat->SortSt->Prop}(K:Asks M A s κ r a₀)(hk:kindOf st=κ)(hz:a+n<=d.size)(mem: ∀i,i<n->d.getD (a+i) d0∈a₀)(mk:m∈a₀)(ne: ∀i,i<n->kx r d (a+i)≠r m)
  (up:Ris r d a (a+n)) (O:b<n) (q: ∀k,k<=n->(∀i,i<k->kx r d (a+i)<r m)->(∀i,k<=i->i<n->r m<kx r d (a+i))->Q (some k) st):wpS M A E s (nt left m d a n b) Q st:=by
 rw[Lf];have C: ∀(i:Nat) (Q:Option Bool->SortSt->Prop),i<n->Q (some (decide (kx r d (a+i)<r m))) st->wpS M A E s (do
   let x <-elem' d (a+i)
   if left then lt' x m else return (<-lt' m x).map (!·)) Q st:=λi Q u hQ=>by
  refine cI (fR (by lia) ?_);cases left with
  |true=>exact rT K hk (mem i u) mk hQ
  | false=>
   refine cI (rT K hk mk (mem i u) (cN ?_));have e:(!decide (r m<r (d.getD (a+i) d0)))=decide (kx r d (a+i)<r m):=by
    have:=ne i u;by_cases z:kx r d (a+i)<r m
    .rw[dD z,d9 (show ¬r m<r (d.getD (a+i) d0)from λy=>by have:r m<kx r d (a+i):=y;lia)];rfl
    .rw[d9 z,dD (show r m<r (d.getD (a+i) d0)from by show r m<kx r d (a+i);lia)];rfl
   show Q (some (!decide (r m<r (d.getD (a+i) d0)))) st;rw[e];exact hQ
 have U: ∀i j,i<=j->j<n->kx r d (a+j)<r m->kx r d (a+i)<r m:=λi j ij jn l=>by
  by_cases z:i=j
  .subst z;exact l
  .have:=up (a+i) (a+j) (by lia) (by lia) (by lia);lia
 have J: ∀i j,i<=j->j<n-> ¬kx r d (a+i)<r m->r m<kx r d (a+j):=λi j ij jn l=>by
  have n1:=ne i (by lia);by_cases z:i=j
  .subst z;lia
  .have:=up (a+i) (a+j) (by lia) (by lia) (by lia);lia
 have fin: ∀(lo u:Nat) (p:SortSt) (f:Nat->Option (Option Nat)×Nat×Nat->StateT SortSt Sem (ForInStep (Option (Option Nat)×Nat×Nat))) (g:Option (Option Nat)×Nat×Nat->StateT SortSt Sem (Option Nat)),p=st->lo<=u->u<=n->(∀i,i<lo->kx r d (a+i)<r m)->(∀i,u<=i->i<n->r m<kx r d (a+i))->
   (∀x l h (R:ForInStep (Option (Option Nat)×Nat×Nat)->SortSt->Prop),l≥h->R (.done (none,l,h)) st->wpS M A E s (f x (none,l,h)) R st)->
   (∀x l h (R:ForInStep (Option (Option Nat)×Nat×Nat)->SortSt->Prop),l<h->h<=n->R (.yield (if kx r d (a+(l+(h-l) /2))<r m then(none,l+(h-l) /2+1,h)else(none,l,l+(h-l) /2))) st->wpS M A E s (f x (none,l,h)) R st)->
   (∀h,Q (some h) st->wpS M A E s (g (none,h,h)) Q st)->wpS M A E s (forIn [0:n] (none,lo,u) f >>= g) Q p:=λlo u p f g e lh Y dl du f1 f2 f3=>by
  subst e;refine cI (hX (hA (I:=λx c t=>t=p/\ ∃l h,c=(none,l,h)/\l<=h/\h<=n/\h+x<=n+l/\(∀i,i<l->kx r d (a+i)<r m)/\ ∀i,h<=i->i<n->r m<kx r d (a+i))
   (Q:=λc t=>t=p/\ ∃h,c=(none,h,h)/\h<=n/\(∀i,i<h->kx r d (a+i)<r m)/\ ∀i,h<=i->i<n->r m<kx r d (a+i)) ?step ?stop ⟨rfl,lo,u,rfl,lh,Y,by lia,dl,du⟩) ?post)
  case step=>
   rintro x c t _ hx ⟨rfl,l,h,rfl,w,D,v,L,N⟩;by_cases z:l≥h
   .have:l=h:=by lia
    subst this;exact f1 x l l _ z ⟨rfl,l,rfl,D,L,N⟩
   .refine f2 x l h _ (by lia) D ?_;by_cases c:kx r d (a+(l+(h-l) /2))<r m
    .rw[wB c];exact⟨rfl,_,_,rfl,by lia,by lia,by lia,λi u=>U i _ (by lia) (by lia) c,N⟩
    .rw[wA c];exact⟨rfl,_,_,rfl,by lia,by lia,by lia,L,λi G H=>J _ i G H c⟩
  case stop=>
   rintro c t ⟨rfl,l,h,rfl,w,D,v,L,N⟩;have:l=h:=by lia
   subst this;exact⟨rfl,l,rfl,D,L,N⟩
  case post=>
   rintro c t ⟨rfl,h,rfl,H,L,N⟩;exact f3 h (q h H L N)
 refine cI (C b _ O ?_);by_cases T:kx r d (a+b)<r m
 .rw[dD T];dsimp only;rw[wB rfl];refine cI (hX (hA (I:=λx c p=>p=st/\ ∃l o,c=(none,l,o)/\l<o/\x+1<=o/\l<n-b/\kx r d (a+(b+l))<r m)
   (Q:=λc p=>p=st/\ ∃l o,c=(none,l,o)/\l<o/\l<n-b/\kx r d (a+(b+l))<r m/\(o<n-b-> ¬kx r d (a+(b+o))<r m)) ?step ?stop ⟨rfl,0,1,rfl,by lia,by lia,by lia,T⟩) ?post)
  case step=>
   rintro x c p _ hx ⟨rfl,l,o,rfl,w,D,v,l4⟩;dsimp only;by_cases z:o≥n-b
   .rw[wB z];exact cN ⟨rfl,l,o,rfl,w,v,l4,λy=>by lia⟩
   .rw[wA z];refine cI (C _ _ (by lia) ?_);by_cases c:kx r d (a+(b+o))<r m
    .rw[dD c];exact cN ⟨rfl,o,_,rfl,by lia,by lia,by lia,c⟩
    .rw[d9 c];exact cN ⟨rfl,l,o,rfl,w,v,l4,λ_=>c⟩
  case stop=>
   rintro c p ⟨rfl,l,o,rfl,w,D,v,l4⟩;exact⟨rfl,l,o,rfl,w,v,l4,λy=>by lia⟩
  case post=>
   rintro c p ⟨rfl,l,o,rfl,w,v,l4,l5⟩;dsimp only;refine fin (b+l+1) (b+min o (n-b)) _ _ _ rfl (ul (Nat.le_min.mpr ⟨w,v⟩) b) (dt (ul (Nat.min_le_right ..) b) (om (mJ (fj O)))) (λi u=>U i (b+l) (wN u) (Nat.add_lt_of_lt_sub' v) l4) (λi G H=>by
    by_cases z:o<n-b
    .exact J (b+o) i (by rw[pe (fj z)]at G;exact G) H (l5 z)
    .rw[Nat.min_eq_right (vD z),mJ (fj O)]at G;exact wC H (Nat.not_lt.mpr G)) (λx l h R z B=>?_) (λx l h R z Y B=>?_) (λh hq=>cN hq)
   .dsimp only;rw[wB z];exact cN B
   .dsimp only;rw[wA (by lia)];refine cI (C _ _ (by lia) ?_);by_cases c:kx r d (a+(l+(h-l) /2))<r m
    .rw[wB c]at B;rw[dD c];exact cN B
    .rw[wA c]at B;rw[d9 c];exact cN B
 .rw[d9 T];dsimp only;rw[wA (by decide)];refine cI (hX (hA (I:=λx c p=>p=st/\ ∃l o,c=(none,l,o)/\l<o/\x+1<=o/\l<b+1/\ ¬kx r d (a+(b-l))<r m)
   (Q:=λc p=>p=st/\ ∃l o,c=(none,l,o)/\l<o/\l<b+1/\ ¬kx r d (a+(b-l))<r m/\(o<b+1->kx r d (a+(b-o))<r m)) ?step ?stop ⟨rfl,0,1,rfl,by lia,by lia,by lia,T⟩) ?post)
  case step=>
   rintro x c p _ hx ⟨rfl,l,o,rfl,w,D,v,l4⟩;dsimp only;by_cases z:o≥b+1
   .rw[wB z];exact cN ⟨rfl,l,o,rfl,w,v,l4,λy=>by lia⟩
   .rw[wA z];refine cI (C _ _ (by lia) ?_);by_cases c:kx r d (a+(b-o))<r m
    .rw[dD c];exact cN ⟨rfl,l,o,rfl,w,v,l4,λ_=>c⟩
    .rw[d9 c];exact cN ⟨rfl,o,_,rfl,by lia,by lia,by lia,c⟩
  case stop=>
   rintro c p ⟨rfl,l,o,rfl,w,D,v,l4⟩;exact⟨rfl,l,o,rfl,w,v,l4,λy=>by lia⟩
  case post=>
   rintro c p ⟨rfl,l,o,rfl,w,v,l4,l5⟩;dsimp only;refine fin (b+1-min o (b+1)) (b-l) _ _ _ rfl (dt (Nat.sub_le_sub_left (Nat.le_min.mpr ⟨w,v⟩) _) (om (Nat.add_sub_add_right ..))) (dt (Nat.sub_le ..) (fj O)) (λi u=>by
    by_cases z:o<b+1
    .rw[pe (fj z),Nat.succ_sub (wN z)]at u;exact U i (b-o) (wN u) (uI (Nat.sub_le ..) O) (l5 z)
    .rw[Nat.min_eq_right (vD z),mF]at u;exact wC u (py _)) (λi G H=>J (b-l) i G H l4) (λx l h R z B=>?_) (λx l h R z Y B=>?_) (λh hq=>cN hq)
   .dsimp only;rw[wB z];exact cN B
   .dsimp only;rw[wA (by lia)];refine cI (C _ _ (by lia) ?_);by_cases c:kx r d (a+(l+(h-l) /2))<r m
    .rw[wB c]at B;rw[dD c];exact cN B
    .rw[wA c]at B;rw[d9 c];exact cN B
end
abbrev T5:Type:=Option (Array Keyed)×Array Keyed×Nat×Nat×Nat
abbrev T6:Type:=Option (Array Keyed)×Array Keyed×Nat×Nat×Nat×Nat
abbrev T7:Type:=Option (Array Keyed)×Array Keyed×Nat×Nat×Nat×Nat×Nat
def y7:Array Keyed->Array Keyed->StateT SortSt Sem (Array Keyed):=sortPriv%PySem.Builtin.mergeLo
def A6:Array Keyed->Array Keyed->StateT SortSt Sem (Array Keyed):=sortPriv%PySem.Builtin.mergeHi
def pP:Nat->StateT SortSt Sem Unit:=sortPriv%PySem.Builtin.setMinGallop
def F3(g:Nat):pP g=modify λst=>SortSt.mk' (kindOf st) (arrOf st) (pendingOf st) g (failedOf st):=rfl
section
variable(a b:Array Keyed)
abbrev iL(c:Array Keyed)(d e:Nat):Array Keyed:=c++a.extract d a.size++b.extract e b.size
abbrev mV(c:Array Keyed)(d e:Nat):Array Keyed:=c++b.extract e b.size++a.extract d a.size
def yH(mg:Nat)(c:T6):StateT SortSt Sem (ForInStep T6):=do
 let some d <-lt' (<-elem' b c.2.2.2.1) (<-elem' a c.2.2.1)|pure (.done (some (iL a b c.2.1 c.2.2.1 c.2.2.2.1),c.2.1,c.2.2.1,c.2.2.2.1,c.2.2.2.2.1,c.2.2.2.2.2))
 if d then
  let x <-elem' b c.2.2.2.1
  if c.2.2.2.1+1==b.size then pure (.done (some (iL a b (c.2.1.push x) c.2.2.1 (c.2.2.2.1+1)),c.2.1.push x,c.2.2.1,c.2.2.2.1+1,0,c.2.2.2.2.2+1))
  else if c.2.2.2.2.2+1≥mg then pure (.done (none,c.2.1.push x,c.2.2.1,c.2.2.2.1+1,0,c.2.2.2.2.2+1))
  else pure (.yield (none,c.2.1.push x,c.2.2.1,c.2.2.2.1+1,0,c.2.2.2.2.2+1))
 else
  let x <-elem' a c.2.2.1
  if c.2.2.1+1+1==a.size then pure (.done (some (mV a b (c.2.1.push x) (c.2.2.1+1) c.2.2.2.1),c.2.1.push x,c.2.2.1+1,c.2.2.2.1,c.2.2.2.2.1+1,0))
  else if c.2.2.2.2.1+1≥mg then pure (.done (none,c.2.1.push x,c.2.2.1+1,c.2.2.2.1,c.2.2.2.2.1+1,0))
  else pure (.yield (none,c.2.1.push x,c.2.2.1+1,c.2.2.2.1,c.2.2.2.2.1+1,0))
def l8(c:Array Keyed)(d e mg k f:Nat):StateT SortSt Sem (ForInStep T7):=do
 let x <-elem' a d
 if d+1+1==a.size then pure (.done (some (mV a b (c.push x) (d+1) e),c.push x,d+1,e,mg,k,f))
 else if k<7&&f<7 then pure (.done (none,c.push x,d+1,e,mg,k,f))
 else pure (.yield (none,c.push x,d+1,e,mg,k,f))
def lT(d:Array Keyed)(f c mg k g:Nat):StateT SortSt Sem (ForInStep T7):=do
 let y <-elem' b c
 if c+1==b.size then pure (.done (some (iL a b (d.push y) f (c+1)),d.push y,f,c+1,mg,k,g))
 else do
  let some e <-nt true (<-elem' a f) b (c+1) (b.size-(c+1)) 0|pure (.done (some (iL a b (d.push y) f (c+1)),d.push y,f,c+1,mg,k,g))
  if e>0 then
   if c+1+e==b.size then pure (.done (some (iL a b (d.push y++b.extract (c+1) (c+1+e)) f (c+1+e)),d.push y++b.extract (c+1) (c+1+e),f,c+1+e,mg,k,e))
   else l8 a b (d.push y++b.extract (c+1) (c+1+e)) f (c+1+e) mg k e
  else l8 a b (d.push y) f (c+1) mg k e
def mW(c:T7)(mg:Nat):StateT SortSt Sem (ForInStep T7):=do
 pP mg
 let some k <-nt false (<-elem' b c.2.2.2.1) a c.2.2.1 (a.size-c.2.2.1) 0|pure (.done (some (iL a b c.2.1 c.2.2.1 c.2.2.2.1),c.2.1,c.2.2.1,c.2.2.2.1,mg,c.2.2.2.2.2.1,c.2.2.2.2.2.2))
 if k>0 then
  if c.2.2.1+k+1==a.size then pure (.done (some (mV a b (c.2.1++a.extract c.2.2.1 (c.2.2.1+k)) (c.2.2.1+k) c.2.2.2.1),c.2.1++a.extract c.2.2.1 (c.2.2.1+k),c.2.2.1+k,c.2.2.2.1,mg,k,c.2.2.2.2.2.2))
  else if c.2.2.1+k==a.size then pure (.done (some (iL a b (c.2.1++a.extract c.2.2.1 (c.2.2.1+k)) (c.2.2.1+k) c.2.2.2.1),c.2.1++a.extract c.2.2.1 (c.2.2.1+k),c.2.2.1+k,c.2.2.2.1,mg,k,c.2.2.2.2.2.2))
  else lT a b (c.2.1++a.extract c.2.2.1 (c.2.2.1+k)) (c.2.2.1+k) c.2.2.2.1 mg k c.2.2.2.2.2.2
 else lT a b c.2.1 c.2.2.1 c.2.2.2.1 mg k c.2.2.2.2.2.2
def z5(c:T7):StateT SortSt Sem (ForInStep T7):=if c.2.2.2.2.1>1 then mW a b c (c.2.2.2.2.1-1)else mW a b c c.2.2.2.2.1
def A7(c:T5):StateT SortSt Sem (ForInStep T5):=do
 let e <-forIn [0:a.size+b.size] ((none,c.2.1,c.2.2.1,c.2.2.2.1,0,0):T6) λ_ e=>yH a b c.2.2.2.2 e
 match e.1 with
 |some r=>pure (.done (some r,e.2.1,e.2.2.1,e.2.2.2.1,c.2.2.2.2))
 | none=>do
  rule "list.sort.gallop"
  let d <-forIn [0:a.size+b.size] ((none,e.2.1,e.2.2.1,e.2.2.2.1,c.2.2.2.2+1,e.2.2.2.2.1,e.2.2.2.2.2):T7) λ_ d=>z5 a b d
  match d.1 with
  |some r=>pure (.done (some r,d.2.1,d.2.2.1,d.2.2.2.1,d.2.2.2.2.1))
  |none=>do
   pP (d.2.2.2.2.1+1)
   pure (.yield (none,d.2.1,d.2.2.1,d.2.2.2.1,d.2.2.2.2.1+1))
def Fz:StateT SortSt Sem (Array Keyed):=do
 rule "list.sort.merge-lo"
 let x <-elem' b 0
 if 1==b.size then pure (iL a b #[x] 0 1)
 else if 0+1==a.size then pure (mV a b #[x] 0 1)
 else do
  let st <-get
  let c <-forIn [0:a.size+b.size] ((none,#[x],0,1,gallopOf st):T5) λ_ c=>A7 a b c
  match c.1 with
  |some r=>pure r
  |none=>unsupported "internal:list.sort.merge-bound"
def IN:y7 a b=Fz a b:=by
 refine dn (bind _) (funext λ_=>?_);refine dn (bind (elem' b 0)) (funext λx=>?_);refine pZ rfl (λ_=>rfl) (λ_=>?_);refine pZ rfl (λ_=>rfl) (λ_=>?_);refine dn (bind get) (funext λst=>?_);refine congr (dn bind (dn (forIn [0:a.size+b.size] _) (funext λu=>funext λc=>?_))) (funext λc=>?_)
 .refine congr (dn bind (dn (forIn [0:a.size+b.size] _) (funext λu=>funext λd=>rfl))) (funext λd=>?_);obtain⟨e,f,h,i,j,k⟩:=d;cases e with
  |some e=>rfl
  | none=>
   refine dn (bind _) (funext λ_=>?_);refine congr (dn bind (dn (forIn [0:a.size+b.size] _) (funext λu=>funext λg=>?_))) (funext λg=>?_)
   .refine pZ rfl (λ_=>?_) (λ_=>?_)
    .rfl
    .rfl
   .obtain⟨l,_⟩:=g;cases l<;>rfl
 .obtain⟨r,_⟩:=c;cases r<;>rfl
end
abbrev Up(r:Keyed->Int)(l:List Keyed):Prop:=l.Pairwise λx y=>r x<r y
structure Mg(r:Keyed->Int)(la lb out:List Keyed)(ia ib:Nat):Prop where
 perm:(out++la.drop ia++lb.drop ib).Perm (la++lb)
 so:Up r out
 oa: ∀x∈out,∀y∈la.drop ia,r x<r y
 ob: ∀x∈out,∀y∈lb.drop ib,r x<r y
section
variable{r:Keyed->Int}{la lb out:List Keyed}{ia ib:Nat}
def u7{l:List Keyed}(h:Up r l)(i:Nat):Up r (l.drop i):=mR (List.drop_sublist i l) h
def BO{l:List Keyed}(h:Up r l)(i k:Nat):Up r ((l.drop i).take k)/\ ∀x∈(l.drop i).take k,∀y∈l.drop (i+k),r x<r y:=by
 have z:=u7 h i;rw[<-lF k (l.drop i)]at z;obtain⟨b,_,a⟩:=gS.mp z;rw[List.drop_drop]at a;exact⟨b,a⟩
def Mg.len(m:Mg r la lb out ia ib)(a:ia<=la.length)(b:ib<=lb.length):out.length+(la.length-ia)+(lb.length-ib)=la.length+lb.length:=by
 have z:=m.perm.length_eq;rw[dz,dz,dz,oj,oj]at z;exact z
def Mg.moveA(m:Mg r la lb out ia ib)(c:Up r la)(k:Nat)(h: ∀x∈(la.drop ia).take k,∀y∈lb.drop ib,r x<r y):Mg r la lb (out++(la.drop ia).take k) (ia+k) ib:=by
 obtain⟨d,f⟩:=BO c ia k;have e:(la.drop ia).take k++la.drop (ia+k)=la.drop ia:=by rw[<-List.drop_drop];exact lF k _
 have sub: ∀y∈la.drop (ia+k),y∈la.drop ia:=λy a=>by rw[<-e];exact di.mpr (.inr a)
 refine⟨?_,gS.mpr ⟨m.so,d,λx b y a=>m.oa x b y (oI a)⟩,λx b y a=>?_,λx b y a=>?_⟩
 .have z:=m.perm;rw[<-e,<-eX]at z;exact z
 .rcases di.mp b with z|z
  .exact m.oa x z y (sub y a)
  .exact f x z y a
 .rcases di.mp b with z|z
  .exact m.ob x z y a
  .exact h x z y a
def Mg.moveB(m:Mg r la lb out ia ib)(c:Up r lb)(k:Nat)(h: ∀x∈(lb.drop ib).take k,∀y∈la.drop ia,r x<r y):Mg r la lb (out++(lb.drop ib).take k) ia (ib+k):=by
 obtain⟨d,f⟩:=BO c ib k;have e:(lb.drop ib).take k++lb.drop (ib+k)=lb.drop ib:=by rw[<-List.drop_drop];exact lF k _
 have sub: ∀y∈lb.drop (ib+k),y∈lb.drop ib:=λy a=>by rw[<-e];exact di.mpr (.inr a)
 refine⟨?_,gS.mpr ⟨m.so,d,λx b y a=>m.ob x b y (oI a)⟩,λx b y a=>?_,λx b y a=>?_⟩
 .have z:=m.perm;rw[<-e]at z;refine List.Perm.trans ?_ z;rw[eX,eX,eX];refine sm _ ?_;rw[<-eX,<-eX];exact xp _ wk
 .rcases di.mp b with z|z
  .exact m.oa x z y a
  .exact h x z y a
 .rcases di.mp b with z|z
  .exact m.ob x z y (sub y a)
  .exact f x z y a
def fI(r:Keyed->Int)(la lb out:List Keyed):Prop:=out.Perm (la++lb)/\Up r out
def Mg.endB(m:Mg r la lb out ia ib)(a:Up r la)(h:lb.length<=ib):fI r la lb (out++la.drop ia++lb.drop ib):=by
 refine⟨m.perm,?_⟩;rw[List.drop_of_length_le h,gO];exact gS.mpr ⟨m.so,u7 a ia,m.oa⟩
def Mg.endA(m:Mg r la lb out ia ib)(a:Up r lb)(h:la.length<=ia):fI r la lb (out++la.drop ia++lb.drop ib):=by
 refine⟨m.perm,?_⟩;rw[List.drop_of_length_le h,gO];exact gS.mpr ⟨m.so,u7 a ib,m.ob⟩
def Mg.last(m:Mg r la lb out ia ib)(b:Up r lb)(h:ia+1=la.length)(top: ∀y∈lb,∀x∈la.drop ia,r y<r x):fI r la lb (out++lb.drop ib++la.drop ia):=by
 refine⟨List.Perm.trans ?_ m.perm,?_⟩
 .rw[eX,eX];exact sm _ wk
 .obtain⟨x,c⟩: ∃x,la.drop ia=[x]:=List.length_eq_one_iff.mp (by rw[oj];lia);refine gS.mpr ⟨gS.mpr ⟨m.so,u7 b ib,m.ob⟩,by rw[c];exact pC _ _,λy d x a=>?_⟩
  rcases di.mp d with z|z
  .exact m.oa y z x a
  .exact top y (AR z) x a
end
structure Eqv(st st':SortSt):Prop where
 kind:kindOf st'=kindOf st
 arr:arrOf st'=arrOf st
 pend:pendingOf st'=pendingOf st
 ok:failedOf st'=failedOf st
def Eqv.refl(st:SortSt):Eqv st st:=⟨rfl,rfl,rfl,rfl⟩
def Eqv.trans{a b c:SortSt}(h:Eqv a b)(d:Eqv b c):Eqv a c:=⟨d.kind.trans h.kind,d.arr.trans h.arr,d.pend.trans h.pend,d.ok.trans h.ok⟩
section
variable{M:Model}{A:Ar}{E:VP}{s:Sh}{κ:SortKind}{r:Keyed->Int}{a₀ a b out:Array Keyed}{ia ib:Nat}
def vt{g:Nat}{st:SortSt}{Q:Unit->SortSt->Prop}(h: ∀c,Eqv st c->Q () c):wpS M A E s (pP g) Q st:=by
 rw[F3];exact kg (h _ ⟨rfl,rfl,rfl,rfl⟩)
def uW(a:Array Keyed)(i:Nat):(a.extract i a.size).toList=a.toList.drop i:=by
 rw[vy,wK,xg (by rw[oj,dJ];exact cD _)]
def EC(a:Array Keyed)(i k:Nat):(a.extract i (i+k)).toList=(a.toList.drop i).take k:=by
 rw[vy,wK,uH]
def tM:(iL a b out ia ib).toList=out.toList++a.toList.drop ia++b.toList.drop ib:=by
 rw[je,je,uW,uW]
def xF:(mV a b out ia ib).toList=out.toList++b.toList.drop ib++a.toList.drop ia:=by
 rw[je,je,uW,uW]
def zh{i:Nat}(h:i<a.size):a.toList.drop i=a.getD i d0::a.toList.drop (i+1):=by
 have z:=nh h;rw[<-iC]at z;obtain⟨c,d⟩:=cA.mp z;rw[vI c,d]
def vA{i:Nat}{x:Keyed}(h:x∈a.toList.drop i): ∃j,i<=j/\j<a.size/\a.getD j d0=x:=by
 obtain⟨j,c⟩:=qr h;rw[uB,iC]at c;exact⟨i+j,by lia,(sI.mp c).1,cT c⟩
def yQ{i k:Nat}{x:Keyed}(h:x∈(a.toList.drop i).take k): ∃j,j<k/\i+j<a.size/\a.getD (i+j) d0=x:=by
 obtain⟨j,c⟩:=qr h;rw[yD]at c;split at c
 .next l=>
  rw[uB,iC]at c;exact⟨j,l,(sI.mp c).1,cT c⟩
 .cases c
def pN{lo c:Nat}(h:Up r a.toList)(o:c<=a.size):Ris r a lo c:=λi j _ d p=>by
 have e: ∀k,k<a.size->a.toList[k]? =some (a.getD k d0):=λk f=>by rw[iC];exact nh f
 obtain⟨g,l⟩:=cA.mp (e i (by lia));obtain⟨m,n⟩:=cA.mp (e j (by lia));have z:=mB.mp h i j g m d;rw[l,n]at z;exact z
def gC{i:Nat}(h:i<a.size):a.getD i d0∈a.toList:=by
 rw[AF];exact zd (nh h)
structure Two(κ:SortKind)(r:Keyed->Int)(a₀ a b:Array Keyed):Prop where
 ma: ∀x∈a.toList,x∈a₀
 mb: ∀x∈b.toList,x∈a₀
 sa:Up r a.toList
 sb:Up r b.toList
 ap: ∀x∈a.toList,∀y∈b.toList,r x≠r y
 a1:0<a.size
 b1:0<b.size
 lo: ∀x∈a.toList,r (b.getD 0 d0)<r x
 top: ∀y∈b.toList,r y<r (a.getD (a.size-1) d0)
abbrev Gd(r:Keyed->Int)(a b m:Array Keyed):Prop:=fI r a.toList b.toList m.toList
def Two.tops(t:Two κ r a₀ a b){i:Nat}(h:i+1=a.size): ∀y∈b.toList,∀x∈a.toList.drop i,r y<r x:=λy c x d=>by
 obtain⟨j,f,g,rfl⟩:=vA d;have e:j=a.size-1:=by lia
 subst e;exact t.top y c
def xj{x:Keyed}:(out.push x).toList=out.toList++[x]:=qi
def DR(t:Two κ r a₀ a b)(m:Mg r a.toList b.toList out.toList ia ib)(c:ia<a.size)(h: ∀y∈b.toList.drop ib,r (a.getD ia d0)<r y):Mg r a.toList b.toList (out.push (a.getD ia d0)).toList (ia+1) ib:=by
 have e:(a.toList.drop ia).take 1=[a.getD ia d0]:=by rw[zh c];rfl
 have z:=m.moveA t.sa 1 (by rw[e];intro x d;rw[cW.mp d];exact h);rw[e]at z;rw[xj];exact z
def A'(t:Two κ r a₀ a b)(m:Mg r a.toList b.toList out.toList ia ib)(c:ib<b.size)(h: ∀y∈a.toList.drop ia,r (b.getD ib d0)<r y):Mg r a.toList b.toList (out.push (b.getD ib d0)).toList ia (ib+1):=by
 have e:(b.toList.drop ib).take 1=[b.getD ib d0]:=by rw[zh c];rfl
 have z:=m.moveB t.sb 1 (by rw[e];intro x d;rw[cW.mp d];exact h);rw[e]at z;rw[xj];exact z
def below{x:Int}{i:Nat}(c:Up r a.toList)(g:i<a.size)(h:x<r (a.getD i d0)): ∀y∈a.toList.drop i,x<r y:=λy d=>by
 obtain⟨j,k,f,rfl⟩:=vA d;by_cases e:j=i
 .subst e;exact h
 .have:=pN (lo:=0) c (cD _) i j (gN _) (by lia) f;show x<kx r a j;have:x<kx r a i:=h;lia
def GO{e:SortSt}{mg old t:Nat}{c:T6}{st:SortSt}{Q:ForInStep T6->SortSt->Prop}(K:Asks M A s κ r a₀)(T:Two κ r a₀ a b)(n:Eqv e st)(o:kindOf e=κ)(p:c=(none,out,ia,ib,c.2.2.2.2.1,c.2.2.2.2.2))(m:Mg r a.toList b.toList out.toList ia ib)(q:ia+1<a.size)(d:ib<b.size)(B:old+t<=out.size)
  (k: ∀w rest,Gd r a b w->Q (.done (some w,rest)) st) (l: ∀out ia ib x y,Mg r a.toList b.toList out.toList ia ib->ia+1<a.size->ib<b.size->old+t+1<=out.size->Q (.done (none,out,ia,ib,x,y)) st/\Q (.yield (none,out,ia,ib,x,y)) st):wpS M A E s (yH a b mg c) Q st:=by
 have h:=n.kind.trans o;unfold yH;rw[p];dsimp only;have u:=T.ma _ (gC (show ia<a.size by lia));have v:=T.mb _ (gC d);refine cI (fR d (cI (fR (by lia) (cI (rT K h v u ?_)))));by_cases w:r (b.getD ib d0)<r (a.getD ia d0)
 .rw[dD w];refine cI (fR d ?_);have f:=A' T m d (below T.sa (by lia) w);by_cases z:ib+1=b.size
  .rw[wB (by simpa using z)];refine cN (k _ _ ?_);show fI r _ _ (iL a b _ _ _).toList
   rw[tM];exact f.endB T.sa (by rw[dJ];lia)
  .rw[wA (by simpa using z)];obtain⟨i,j⟩:=l _ _ _ 0 (c.2.2.2.2.2+1) f q (by lia) (by rw[mM];lia);by_cases g:c.2.2.2.2.2+1≥mg
   .rw[wB g];exact cN i
   .rw[wA g];exact cN j
 .rw[d9 w];refine cI (fR (by lia) ?_);have C:=T.ap _ (gC (show ia<a.size by lia)) _ (gC d);have f:=DR T m (by lia) (below T.sb d (by lia));by_cases z:ia+1+1=a.size
  .rw[wB (by simpa using z)];refine cN (k _ _ ?_);show fI r _ _ (mV a b _ _ _).toList
   rw[xF];exact f.last T.sb (by rw[dJ];lia) (T.tops (by lia))
  .rw[wA (by simpa using z)];obtain⟨i,j⟩:=l _ _ _ (c.2.2.2.2.1+1) 0 f (by lia) d (by rw[mM];lia);by_cases g:c.2.2.2.2.1+1≥mg
   .rw[wB g];exact cN i
   .rw[wA g];exact cN j
end
section
variable{M:Model}{A:Ar}{E:VP}{s:Sh}{κ:SortKind}{r:Keyed->Int}{a₀ a b out:Array Keyed}{ia ib:Nat}
structure Rnd(r:Keyed->Int)(a b:Array Keyed)(st0:SortSt)(old:Nat)(Q:ForInStep T7->SortSt->Prop):Prop where
 q1: ∀st w rest,Eqv st0 st->Gd r a b w->Q (.done (some w,rest)) st
 q2: ∀st (out:Array Keyed) ia ib x y z,Eqv st0 st->Mg r a.toList b.toList out.toList ia ib->ia+1<a.size->ib<b.size->old<=out.size->Q (.done (none,out,ia,ib,x,y,z)) st/\Q (.yield (none,out,ia,ib,x,y,z)) st
def E1{c st:SortSt}{mg k d old:Nat}{Q:ForInStep T7->SortSt->Prop}(T:Two κ r a₀ a b)(e:Eqv c st)(m:Mg r a.toList b.toList out.toList ia ib)(l:ia+1<a.size)(h:ib<b.size)(n:old<=out.size)(lt: ∀y∈b.toList.drop ib,r (a.getD ia d0)<r y)(q:Rnd r a b c old Q):wpS M A E s (l8 a b out ia ib mg k d) Q st:=by
 unfold l8;refine cI (fR (by lia) ?_);have f:=DR T m (by lia) lt;by_cases z:ia+1+1=a.size
 .rw[wB (by simpa using z)];refine cN (q.q1 _ _ _ e ?_);show fI r _ _ (mV a b _ _ _).toList;rw[xF];exact f.last T.sb (by rw[dJ];lia) (T.tops (by lia))
 .rw[wA (by simpa using z)];obtain⟨i,j⟩:=q.q2 st _ _ _ mg k d e f (by lia) h (by rw[mM];lia);by_cases g:(decide (k<7)&&decide (d<7))=true
  .rw[wB g];exact cN i
  .rw[wA g];exact cN j
def Cu{c st:SortSt}{mg k I old:Nat}{Q:ForInStep T7->SortSt->Prop}(K:Asks M A s κ r a₀)(J:kindOf c=κ)(T:Two κ r a₀ a b)(f:Eqv c st)(m:Mg r a.toList b.toList out.toList ia ib)(w:ia+1<a.size)(B:ib<b.size)(Y:old<=out.size)(lt: ∀y∈a.toList.drop ia,r (b.getD ib d0)<r y)(q:Rnd r a b c old Q):wpS M A E s (lT a b out ia ib mg k I) Q st:=by
 have p:=f.kind.trans J;unfold lT;refine cI (fR B ?_);have o:=A' T m B lt;have h:old<=(out.push (b.getD ib d0)).size:=by rw[mM];lia
 generalize out.push (b.getD ib d0)=l at o h;by_cases z:ib+1=b.size
 .rw[wB (by simpa using z)];refine cN (q.q1 _ _ _ f ?_);show fI r _ _ (iL a b _ _ _).toList;rw[tM];exact o.endB T.sa (by rw[dJ];lia)
 rw[wA (by simpa using z)];have C:=gC (show ia<a.size by lia);refine cI (fR (by lia) (cI (pM K p (by lia) (λi L=>T.mb _ (gC (by lia))) (T.ma _ C) (λi L=>(T.ap _ C _ (gC (show ib+1+i<b.size by lia))).symm) (pN T.sb (by lia)) (by lia) λd kn N O=>?_)));dsimp only;have D: ∀y∈b.toList.drop (ib+1+d),r (a.getD ia d0)<r y:=λy t=>by
  obtain⟨j,n,G,rfl⟩:=vA t;have:=O (j-(ib+1)) (yl (wP .. ▸n)) (Nat.sub_lt_sub_right (dt (j5 ..) n) G);rw[mJ (dt (j5 ..) n)]at this;exact this
 by_cases g:d>0
 .rw[wB g];have u:=o.moveB T.sb d (λx U y t=>by
   obtain⟨j,n,G,rfl⟩:=yQ U;exact below T.sa (by lia) (N j n) y t)
  rw[<-EC,<-je]at u;have v:old<=(l++b.extract (ib+1) (ib+1+d)).size:=by rw[u9];lia
  by_cases H:ib+1+d=b.size
  .rw[wB (by simpa using H)];refine cN (q.q1 _ _ _ f ?_);show fI r _ _ (iL a b _ _ _).toList
   rw[tM];exact u.endB T.sa (by rw[dJ];lia)
  .rw[wA (by simpa using H)];exact E1 T f u w (by lia) v D q
 .rw[wA g];have e:d=0:=Nat.eq_zero_of_not_pos g;subst e;exact E1 T f o w (by lia) h D q
def Ef{d st:SortSt}{c:T7}{mg old:Nat}{Q:ForInStep T7->SortSt->Prop}(K:Asks M A s κ r a₀)(o:kindOf d=κ)(T:Two κ r a₀ a b)(D:Eqv d st)(G:c.2.1=out/\c.2.2.1=ia/\c.2.2.2.1=ib)(m:Mg r a.toList b.toList out.toList ia ib)(H:ia+1<a.size)(f:ib<b.size)(I:old<=out.size)(q:Rnd r a b d old Q):wpS M A E s (mW a b c mg) Q st:=by
 obtain⟨J,L,N⟩:=G;unfold mW;rw[J,L,N];refine cI (vt λO U=>?_);have h:=D.trans U;have p:=h.kind.trans o;have v:=gC f;refine cI (fR f (cI (pM K p (by lia) (λi Y=>T.ma _ (gC (by lia))) (T.mb _ v) (λi Y=>T.ap _ (gC (show ia+i<a.size by lia)) _ v) (pN T.sa (by lia)) (by lia) λk kn k2 k3=>?_)));dsimp only;have w: ∀y∈a.toList.drop (ia+k),r (b.getD ib d0)<r y:=λy t=>by
  obtain⟨j,l,z,rfl⟩:=vA t;have:=k3 (j-ia) (yl (wP .. ▸l)) (Nat.sub_lt_sub_right (dt (j5 ..) l) z);rw[mJ (dt (j5 ..) l)]at this;exact this
 by_cases g:k>0
 .rw[wB g];have n:=m.moveA T.sa k (λx hx y t=>by
   obtain⟨j,l,z,rfl⟩:=yQ hx;exact below T.sb f (k2 j l) y t)
  rw[<-EC,<-je]at n;have u:old<=(out++a.extract ia (ia+k)).size:=by rw[u9];lia
  by_cases B:ia+k+1=a.size
  .rw[wB (by simpa using B)];refine cN (q.q1 _ _ _ h ?_);show fI r _ _ (mV a b _ _ _).toList
   rw[xF];exact n.last T.sb (by rw[dJ];lia) (T.tops (by lia))
  rw[wA (by simpa using B)];by_cases C:ia+k=a.size
  .rw[wB (by simpa using C)];refine cN (q.q1 _ _ _ h ?_);show fI r _ _ (iL a b _ _ _).toList
   rw[tM];exact n.endA T.sb (by rw[dJ];lia)
  rw[wA (by simpa using C)];exact Cu K o T h n (by lia) f u w q
 .rw[wA g];have e:k=0:=Nat.eq_zero_of_not_pos g;subst e;exact Cu K o T h m H f I w q
def JJ{d st:SortSt}{c:T7}{old:Nat}{Q:ForInStep T7->SortSt->Prop}(K:Asks M A s κ r a₀)(e:kindOf d=κ)(T:Two κ r a₀ a b)(f:Eqv d st)(g:c.2.1=out/\c.2.2.1=ia/\c.2.2.2.1=ib)(m:Mg r a.toList b.toList out.toList ia ib)(h:ia+1<a.size)(i:ib<b.size)(j:old<=out.size)(q:Rnd r a b d old Q):wpS M A E s (z5 a b c) Q st:=by
 unfold z5;split
 .exact Ef K e T f g m h i j q
 .exact Ef K e T f g m h i j q
def K9{f st:SortSt}{c:T5}{Q:ForInStep T5->SortSt->Prop}{mg:Nat}(K:Asks M A s κ r a₀)(hk:kindOf f=κ)(T:Two κ r a₀ a b)(e0:Eqv f st)(ec:c=(none,out,ia,ib,mg))(m:Mg r a.toList b.toList out.toList ia ib)(ha:ia+1<a.size)(hb:ib<b.size)
  (q1: ∀st w rest,Eqv f st->Gd r a b w->Q (.done (some w,rest)) st) (q2: ∀st (k:Array Keyed) ia ib g,Eqv f st->Mg r a.toList b.toList k.toList ia ib->ia+1<a.size->ib<b.size->out.size+1<=k.size->Q (.yield (none,k,ia,ib,g)) st):wpS M A E s (A7 a b c) Q st:=by
 subst ec;unfold A7;dsimp only;have aa:0<a.size+b.size:=by lia
 refine cI (hX (hA (I:=λx (q:T6) d=>Eqv f d/\ ∃(o:Array Keyed) (i j u v:Nat),q=(none,o,i,j,u,v)/\Mg r a.toList b.toList o.toList i j/\i+1<a.size/\j<b.size/\out.size+x<=o.size)
  (Q:=λq d=>Eqv f d/\((∃w rest,q=(some w,rest)/\Gd r a b w)∨ ∃(o:Array Keyed) (i j u v:Nat),q=(none,o,i,j,u,v)/\Mg r a.toList b.toList o.toList i j/\i+1<a.size/\j<b.size/\out.size+1<=o.size)) ?step ?stop ⟨e0,out,ia,ib,0,0,rfl,m,ha,hb,cD _⟩) ?post)
 case step=>
  rintro x q d _ hx ⟨p,o,i,j,u,v,rfl,C,D,G,h3⟩;refine GO (old:=out.size) (t:=x) K T p hk rfl C D G h3 (λw rest g=>⟨p,.inl ⟨w,rest,rfl,g⟩⟩) λH J L u' v' N l n y=>⟨⟨p,.inr ⟨H,J,L,u',v',rfl,N,l,n,by lia⟩⟩,⟨p,H,J,L,u',v',rfl,N,l,n,by lia⟩⟩
 case stop=>
  rintro q d ⟨p,o,i,j,u,v,rfl,C,D,G,h3⟩;exact⟨p,.inr ⟨o,i,j,u,v,rfl,C,D,G,by lia⟩⟩
 case post=>
  rintro q d ⟨p,h⟩
  rcases h with⟨w,rest,rfl,g⟩|⟨o,i,j,u,v,rfl,C,D,G,h3⟩
  .exact cN (q1 _ _ _ p g)
  dsimp only;refine cI (og (lZ ⟨rfl,?_⟩));refine cI (hX (hA (I:=λx (z:T7) d=>Eqv f d/\ ∃(o:Array Keyed) (i j u v w:Nat),z=(none,o,i,j,u,v,w)/\Mg r a.toList b.toList o.toList i j/\i+1<a.size/\j<b.size/\out.size+1<=o.size)
   (Q:=λz d=>Eqv f d/\((∃w rest,z=(some w,rest)/\Gd r a b w)∨ ∃(o:Array Keyed) (i j u v w:Nat),z=(none,o,i,j,u,v,w)/\Mg r a.toList b.toList o.toList i j/\i+1<a.size/\j<b.size/\out.size+1<=o.size)) ?step2 ?stop2 ⟨p,o,i,j,mg+1,u,v,rfl,C,D,G,h3⟩) ?post2)
  case step2=>
   rintro x z O _ hx ⟨B,o,i,j,u,v,w,rfl,U,Y,g2,g3⟩;exact JJ K hk T B ⟨rfl,rfl,rfl⟩ U Y g2 g3 ⟨λst w rest e g=>⟨e,.inl ⟨w,rest,rfl,g⟩⟩,λst H J L x' y' z' e N l n y=>⟨⟨e,.inr ⟨H,J,L,x',y',z',rfl,N,l,n,y⟩⟩,⟨e,H,J,L,x',y',z',rfl,N,l,n,y⟩⟩⟩
  case stop2=>
   rintro z O ⟨B,o,i,j,u,v,w,rfl,U,Y,g2,g3⟩;exact⟨B,.inr ⟨o,i,j,u,v,w,rfl,U,Y,g2,g3⟩⟩
  case post2=>
   rintro z O ⟨B,h⟩
   rcases h with⟨w,rest,rfl,g⟩|⟨o,i,j,u,v,w,rfl,U,Y,g2,g3⟩
   .exact cN (q1 _ _ _ B g)
   .dsimp only;exact cI (vt λab x3=>cN (q2 _ _ _ _ _ (B.trans x3) U Y g2 g3))
def Hy{st:SortSt}{Q:Array Keyed->SortSt->Prop}(K:Asks M A s κ r a₀)(C:kindOf st=κ)(T:Two κ r a₀ a b)(q: ∀m d,Eqv st d->Gd r a b m->Q m d):wpS M A E s (y7 a b) Q st:=by
 rw[IN];unfold Fz;refine cI (og (lZ ⟨rfl,cI (fR T.b1 ?_)⟩));have D:Mg r a.toList b.toList (#[]:Array Keyed).toList 0 0:=⟨by simp,List.Pairwise.nil,λx f=>(nomatch f),λx f=>(nomatch f)⟩;have k:Mg r a.toList b.toList (#[b.getD 0 d0]:Array Keyed).toList 0 1:=A' (out:= #[]) T D T.b1 (λy G=>T.lo y G);have a1:=T.a1;have b1:=T.b1;by_cases t:1=b.size
 .rw[wB (by simpa using t)];refine cN (q _ _ (Eqv.refl _) ?_);show fI r _ _ (iL a b _ _ _).toList;rw[tM];exact k.endB T.sa (by rw[dJ];lia)
 rw[wA (by simpa using t)];by_cases u:0+1=a.size
 .rw[wB (by simpa using u)];refine cN (q _ _ (Eqv.refl _) ?_);show fI r _ _ (mV a b _ _ _).toList;rw[xF];exact k.last T.sb (by rw[dJ];lia) (T.tops (by lia))
 rw[wA (by simpa using u)];refine cI (jj (cI (hX (hA (I:=λx (c:T5) d=>Eqv st d/\ ∃(o:Array Keyed) (i j g:Nat),c=(none,o,i,j,g)/\Mg r a.toList b.toList o.toList i j/\i+1<a.size/\j<b.size/\x+1<=o.size)
  (Q:=λc d=>Eqv st d/\ ∃w rest,c=(some w,rest)/\Gd r a b w) ?step ?stop ⟨Eqv.refl _,_,0,1,_,rfl,k,by lia,by lia,cD _⟩) ?post)))
 case step=>
  rintro x c d _ f ⟨h,o,i,j,g,rfl,l,v,B,H⟩;exact K9 K C T h rfl l v B (λst w rest e g=>⟨e,w,rest,rfl,g⟩) λd J L N O e U n p Y=>⟨e,J,L,N,O,rfl,U,n,p,by lia⟩
 case stop=>
  rintro c d ⟨h,o,i,j,g,rfl,l,v,B,H⟩;have z:=l.len (by rw[dJ];lia) (by rw[dJ];lia);rw[dJ,dJ,dJ]at z
  exfalso
  lia
 case post=>
  rintro c d ⟨h,w,rest,rfl,g⟩;exact cN (q _ _ h g)
end
abbrev U5:Type:=Option (Array Keyed)×Nat×Nat×Array Keyed×Nat
abbrev U6:Type:=Option (Array Keyed)×Nat×Nat×Array Keyed×Nat×Nat
abbrev U7:Type:=Option (Array Keyed)×Nat×Nat×Array Keyed×Nat×Nat×Nat
section
variable(a b:Array Keyed)
abbrev iR(c:Array Keyed)(d e:Nat):Array Keyed:=a.extract 0 d++b.extract 0 e++c.reverse
abbrev mO(c:Array Keyed)(d e:Nat):Array Keyed:=b.extract 0 e++a.extract 0 d++c.reverse
def kh(mg:Nat)(c:U6):StateT SortSt Sem (ForInStep U6):=do
 let some d <-lt' (<-elem' b (c.2.2.1-1)) (<-elem' a (c.2.1-1))|pure (.done (some (iR a b c.2.2.2.1 c.2.1 c.2.2.1),c.2.1,c.2.2.1,c.2.2.2.1,c.2.2.2.2.1,c.2.2.2.2.2))
 if d then
  let x <-elem' a (c.2.1-1)
  if c.2.1-1==0 then pure (.done (some (iR a b (c.2.2.2.1.push x) (c.2.1-1) c.2.2.1),c.2.1-1,c.2.2.1,c.2.2.2.1.push x,c.2.2.2.2.1+1,0))
  else if c.2.2.2.2.1+1≥mg then pure (.done (none,c.2.1-1,c.2.2.1,c.2.2.2.1.push x,c.2.2.2.2.1+1,0))
  else pure (.yield (none,c.2.1-1,c.2.2.1,c.2.2.2.1.push x,c.2.2.2.2.1+1,0))
 else
  let x <-elem' b (c.2.2.1-1)
  if c.2.2.1-1==1 then pure (.done (some (mO a b (c.2.2.2.1.push x) c.2.1 (c.2.2.1-1)),c.2.1,c.2.2.1-1,c.2.2.2.1.push x,0,c.2.2.2.2.2+1))
  else if c.2.2.2.2.2+1≥mg then pure (.done (none,c.2.1,c.2.2.1-1,c.2.2.2.1.push x,0,c.2.2.2.2.2+1))
  else pure (.yield (none,c.2.1,c.2.2.1-1,c.2.2.2.1.push x,0,c.2.2.2.2.2+1))
def mK(d e:Nat)(c:Array Keyed)(mg k f:Nat):StateT SortSt Sem (ForInStep U7):=do
 let x <-elem' a (d-1)
 if d-1==0 then pure (.done (some (iR a b (c.push x) (d-1) e),d-1,e,c.push x,mg,k,f))
 else if k<7&&f<7 then pure (.done (none,d-1,e,c.push x,mg,k,f))
 else pure (.yield (none,d-1,e,c.push x,mg,k,f))
def lQ(e d:Nat)(c:Array Keyed)(mg k f:Nat):StateT SortSt Sem (ForInStep U7):=do
 let y <-elem' b (d-1)
 if d-1==1 then pure (.done (some (mO a b (c.push y) e (d-1)),e,d-1,c.push y,mg,k,f))
 else do
  let some t <-nt true (<-elem' a (e-1)) b 0 (d-1) (d-1-1)|pure (.done (some (iR a b (c.push y) e (d-1)),e,d-1,c.push y,mg,k,f))
  if d-1-t>0 then
   if t==1 then pure (.done (some (mO a b (c.push y++(b.extract t (d-1)).reverse) e t),e,t,c.push y++(b.extract t (d-1)).reverse,mg,k,d-1-t))
   else if t==0 then pure (.done (some (iR a b (c.push y++(b.extract t (d-1)).reverse) e t),e,t,c.push y++(b.extract t (d-1)).reverse,mg,k,d-1-t))
   else mK a b e t (c.push y++(b.extract t (d-1)).reverse) mg k (d-1-t)
  else mK a b e (d-1) (c.push y) mg k (d-1-t)
def mG(c:U7)(mg:Nat):StateT SortSt Sem (ForInStep U7):=do
 pP mg
 let some t <-nt false (<-elem' b (c.2.2.1-1)) a 0 c.2.1 (c.2.1-1)|pure (.done (some (iR a b c.2.2.2.1 c.2.1 c.2.2.1),c.2.1,c.2.2.1,c.2.2.2.1,mg,c.2.2.2.2.2.1,c.2.2.2.2.2.2))
 if c.2.1-t>0 then
  if t==0 then pure (.done (some (iR a b (c.2.2.2.1++(a.extract t c.2.1).reverse) t c.2.2.1),t,c.2.2.1,c.2.2.2.1++(a.extract t c.2.1).reverse,mg,c.2.1-t,c.2.2.2.2.2.2))
  else lQ a b t c.2.2.1 (c.2.2.2.1++(a.extract t c.2.1).reverse) mg (c.2.1-t) c.2.2.2.2.2.2
 else lQ a b c.2.1 c.2.2.1 c.2.2.2.1 mg (c.2.1-t) c.2.2.2.2.2.2
def rS(c:U7):StateT SortSt Sem (ForInStep U7):=if c.2.2.2.2.1>1 then mG a b c (c.2.2.2.2.1-1)else mG a b c c.2.2.2.2.1
def x6(c:U5):StateT SortSt Sem (ForInStep U5):=do
 let e <-forIn [0:a.size+b.size] ((none,c.2.1,c.2.2.1,c.2.2.2.1,0,0):U6) λ_ e=>kh a b c.2.2.2.2 e
 match e.1 with
 |some r=>pure (.done (some r,e.2.1,e.2.2.1,e.2.2.2.1,c.2.2.2.2))
 | none=>do
  rule "list.sort.gallop"
  let d <-forIn [0:a.size+b.size] ((none,e.2.1,e.2.2.1,e.2.2.2.1,c.2.2.2.2+1,e.2.2.2.2.1,e.2.2.2.2.2):U7) λ_ d=>rS a b d
  match d.1 with
  |some r=>pure (.done (some r,d.2.1,d.2.2.1,d.2.2.2.1,d.2.2.2.2.1))
  |none=>do
   pP (d.2.2.2.2.1+1)
   pure (.yield (none,d.2.1,d.2.2.1,d.2.2.2.1,d.2.2.2.2.1+1))
def FM:StateT SortSt Sem (Array Keyed):=do
 rule "list.sort.merge-hi"
 let x <-elem' a (a.size-1)
 if a.size-1==0 then pure (iR a b #[x] (a.size-1) b.size)
 else if b.size==1 then pure (mO a b #[x] (a.size-1) b.size)
 else do
  let st <-get
  let c <-forIn [0:a.size+b.size] ((none,a.size-1,b.size,#[x],gallopOf st):U5) λ_ c=>x6 a b c
  match c.1 with
  |some r=>pure r
  |none=>unsupported "internal:list.sort.merge-bound"
def HV:A6 a b=FM a b:=by
 refine dn (bind _) (funext λ_=>?_);refine dn (bind (elem' a (a.size-1))) (funext λx=>?_);refine pZ rfl (λ_=>rfl) (λ_=>?_);refine pZ rfl (λ_=>rfl) (λ_=>?_);refine dn (bind get) (funext λst=>?_);refine congr (dn bind (dn (forIn [0:a.size+b.size] _) (funext λu=>funext λc=>?_))) (funext λc=>?_)
 .refine congr (dn bind (dn (forIn [0:a.size+b.size] _) (funext λu=>funext λd=>rfl))) (funext λd=>?_);obtain⟨e,f,h,i,j,k⟩:=d;cases e with
  |some e=>rfl
  | none=>
   refine dn (bind _) (funext λ_=>?_);refine congr (dn bind (dn (forIn [0:a.size+b.size] _) (funext λu=>funext λg=>?_))) (funext λg=>?_)
   .refine pZ rfl (λ_=>?_) (λ_=>?_)
    .rfl
    .rfl
   .obtain⟨l,_⟩:=g;cases l<;>rfl
 .obtain⟨r,_⟩:=c;cases r<;>rfl
end
structure Mh(r:Keyed->Int)(la lb out:List Keyed)(na nb:Nat):Prop where
 perm:(la.take na++lb.take nb++out.reverse).Perm (la++lb)
 so:Up r out.reverse
 ao: ∀x∈la.take na,∀y∈out,r x<r y
 bo: ∀x∈lb.take nb,∀y∈out,r x<r y
section
variable{r:Keyed->Int}{la lb out:List Keyed}{na nb:Nat}
def FC{l:List Keyed}(h:Up r l){n t:Nat}(ht:t<=n):l.take t++(l.take n).drop t=l.take n/\Up r ((l.take n).drop t)/\ ∀x∈l.take t,∀y∈(l.take n).drop t,r x<r y:=by
 have e:l.take t++(l.take n).drop t=l.take n:=by
  have z:=lF t (l.take n);rwa[List.take_take,pe ht]at z
 have z:Up r (l.take n):=mR (pQ n l) h;rw[<-e]at z;obtain⟨_,a,b⟩:=gS.mp z;exact⟨e,a,b⟩
def Mh.len(m:Mh r la lb out na nb)(a:na<=la.length)(b:nb<=lb.length):na+nb+out.length=la.length+lb.length:=by
 have z:=m.perm.length_eq;rw[dz,dz,dz,eF,eF,List.length_reverse]at z;lia
def Mh.moveA(m:Mh r la lb out na nb)(g:Up r la){t:Nat}(ht:t<=na)(h: ∀x∈lb.take nb,∀y∈(la.take na).drop t,r x<r y):Mh r la lb (out++((la.take na).drop t).reverse) t nb:=by
 obtain⟨e,u,c⟩:=FC g ht;have sub: ∀x∈la.take t,x∈la.take na:=λx a=>by rw[<-e];exact di.mpr (.inl a)
 have b: ∀x∈(la.take na).drop t,x∈la.take na:=λx a=>AR a;have f:(out++((la.take na).drop t).reverse).reverse=(la.take na).drop t++out.reverse:=by rw[List.reverse_append,List.reverse_reverse]
 refine⟨?_,?_,λx a y d=>?_,λx a y d=>?_⟩
 .rw[f];refine List.Perm.trans ?_ m.perm
  conv=>rhs;rw[<-e]
  rw[eX,eX,eX];refine sm _ ?_;rw[<-eX,<-eX];exact xp _ wk
 .rw[f];exact gS.mpr ⟨u,m.so,λx a y d=>m.ao x (b x a) y (jt.mp d)⟩
 .rcases di.mp d with z|z
  .exact m.ao x (sub x a) y z
  .exact c x a y (jt.mp z)
 .rcases di.mp d with z|z
  .exact m.bo x a y z
  .exact h x a y (jt.mp z)
def Mh.moveB(m:Mh r la lb out na nb)(g:Up r lb){t:Nat}(ht:t<=nb)(h: ∀x∈la.take na,∀y∈(lb.take nb).drop t,r x<r y):Mh r la lb (out++((lb.take nb).drop t).reverse) na t:=by
 obtain⟨e,u,c⟩:=FC g ht;have sub: ∀x∈lb.take t,x∈lb.take nb:=λx a=>by rw[<-e];exact di.mpr (.inl a)
 have b: ∀x∈(lb.take nb).drop t,x∈lb.take nb:=λx a=>AR a;have f:(out++((lb.take nb).drop t).reverse).reverse=(lb.take nb).drop t++out.reverse:=by rw[List.reverse_append,List.reverse_reverse]
 refine⟨?_,?_,λx a y d=>?_,λx a y d=>?_⟩
 .rw[f];refine List.Perm.trans ?_ m.perm
  conv=>rhs;rw[<-e]
  rw[eX,eX,eX]
 .rw[f];exact gS.mpr ⟨u,m.so,λx a y d=>m.bo x (b x a) y (jt.mp d)⟩
 .rcases di.mp d with z|z
  .exact m.ao x a y z
  .exact h x a y (jt.mp z)
 .rcases di.mp d with z|z
  .exact m.bo x (sub x a) y z
  .exact c x a y (jt.mp z)
def Mh.endA(m:Mh r la lb out na nb)(a:Up r lb)(h:na=0):fI r la lb (la.take na++lb.take nb++out.reverse):=by
 refine⟨m.perm,?_⟩;subst h;rw[List.take_zero,ub];exact gS.mpr ⟨mR (pQ nb lb) a,m.so,λx b y c=>m.bo x b y (jt.mp c)⟩
def Mh.endB(m:Mh r la lb out na nb)(a:Up r la)(h:nb=0):fI r la lb (la.take na++lb.take nb++out.reverse):=by
 refine⟨m.perm,?_⟩;subst h;rw[List.take_zero,gO];exact gS.mpr ⟨mR (pQ na la) a,m.so,λx b y c=>m.ao x b y (jt.mp c)⟩
def Mh.first(m:Mh r la lb out na nb)(c:Up r la)(d:Up r lb)(bot: ∀y∈lb.take nb,∀x∈la,r y<r x):fI r la lb (lb.take nb++la.take na++out.reverse):=by
 refine⟨List.Perm.trans (xp _ wk) m.perm,?_⟩;refine gS.mpr ⟨gS.mpr ⟨mR (pQ nb lb) d,mR (pQ na la) c,λy a x b=>bot y a x (oI b)⟩,m.so,λx b y a=>?_⟩
 rcases di.mp b with z|z
 .exact m.bo x z y (jt.mp a)
 .exact m.ao x z y (jt.mp a)
end
section
variable{M:Model}{A:Ar}{E:VP}{s:Sh}{κ:SortKind}{r:Keyed->Int}{a₀ a b out:Array Keyed}{na nb:Nat}
def wj(a:Array Keyed)(i:Nat):(a.extract 0 i).toList=a.toList.take i:=by
 rw[vy,wK,uV,Nat.sub_zero]
def yx(a:Array Keyed)(t n:Nat):(a.extract t n).toList=(a.toList.take n).drop t:=by
 rw[vy,wK,List.drop_take]
def uG:(iR a b out na nb).toList=a.toList.take na++b.toList.take nb++out.toList.reverse:=by
 rw[je,je,wj,wj,v0]
def vP:(mO a b out na nb).toList=b.toList.take nb++a.toList.take na++out.toList.reverse:=by
 rw[je,je,wj,wj,v0]
def vo{n:Nat}{x:Keyed}(h:x∈a.toList.take n): ∃j,j<n/\j<a.size/\a.getD j d0=x:=by
 obtain⟨j,e,c,d⟩:=yQ (i:=0) (k:=n) (by rw[uV];exact h);rw[qv]at c d;exact⟨j,e,c,d⟩
def vU{t n:Nat}{x:Keyed}(h:x∈(a.toList.take n).drop t): ∃j,t<=j/\j<n/\j<a.size/\a.getD j d0=x:=by
 obtain⟨j,c⟩:=qr h;rw[uB,yD]at c;split at c
 .next l=>
  rw[iC]at c;exact⟨t+j,by lia,l,(sI.mp c).1,cT c⟩
 .cases c
def xQ{n:Nat}(h:n<a.size):(a.toList.take (n+1)).drop n=[a.getD n d0]:=by
 rw[List.drop_take,zh h,uH];rfl
def wu{x:Int}{n:Nat}(c:Up r a.toList)(d:n<a.size)(h:r (a.getD n d0)<x): ∀y∈a.toList.take (n+1),r y<x:=λy f=>by
 obtain⟨j,g,i,rfl⟩:=vo f;by_cases e:j=n
 .subst e;exact h
 .have:=pN (lo:=0) c (cD _) j n (gN _) (by lia) d;show kx r a j<x;have:kx r a n<x:=h;lia
def x9(t:Two κ r a₀ a b)(m:Mh r a.toList b.toList out.toList (na+1) nb)(c:na<a.size)(h: ∀y∈b.toList.take nb,r y<r (a.getD na d0)):Mh r a.toList b.toList (out.push (a.getD na d0)).toList na nb:=by
 have z:=m.moveA t.sa (t:=na) (oA _) (by rw[xQ c];intro x d y e;rw[cW.mp e];exact h x d);rw[xQ c]at z;rw[xj];exact z
def E9(t:Two κ r a₀ a b)(m:Mh r a.toList b.toList out.toList na (nb+1))(c:nb<b.size)(h: ∀y∈a.toList.take na,r y<r (b.getD nb d0)):Mh r a.toList b.toList (out.push (b.getD nb d0)).toList na nb:=by
 have z:=m.moveB t.sb (t:=nb) (oA _) (by rw[xQ c];intro x d y e;rw[cW.mp e];exact h x d);rw[xQ c]at z;rw[xj];exact z
def Two.bot(t:Two κ r a₀ a b): ∀y∈b.toList.take 1,∀x∈a.toList,r y<r x:=λy c x d=>by
 obtain⟨j,f,g,rfl⟩:=vo c;have e:j=0:=by lia
 subst e;exact t.lo x d
def HA{h:SortSt}{mg old t:Nat}{c:U6}{st:SortSt}{Q:ForInStep U6->SortSt->Prop}(K:Asks M A s κ r a₀)(T:Two κ r a₀ a b)(p:Eqv h st)(q:kindOf h=κ)(u:c=(none,na+1,nb+2,out,c.2.2.2.2.1,c.2.2.2.2.2))(m:Mh r a.toList b.toList out.toList (na+1) (nb+2))(d:na<a.size)(e:nb+1<b.size)(C:old+t<=out.size)
  (n: ∀w rest,Gd r a b w->Q (.done (some w,rest)) st) (o: ∀na nb (out:Array Keyed) x y,Mh r a.toList b.toList out.toList (na+1) (nb+2)->na<a.size->nb+1<b.size->old+t+1<=out.size->Q (.done (none,na+1,nb+2,out,x,y)) st/\Q (.yield (none,na+1,nb+2,out,x,y)) st):wpS M A E s (kh a b mg c) Q st:=by
 have j:=p.kind.trans q;unfold kh;rw[u];dsimp only;have v:=T.ma _ (gC d);have B:=T.mb _ (gC e);rw[show nb+2-1=nb+1 by lia,show na+1-1=na by lia];refine cI (fR e (cI (fR d (cI (rT K j B v ?_)))));by_cases w:r (b.getD (nb+1) d0)<r (a.getD na d0)
 .rw[dD w];refine cI (fR d ?_);have i:=x9 T m d (wu T.sb e w);by_cases z:na=0
  .rw[wB (by simpa using z)];refine cN (n _ _ ?_);show fI r _ _ (iR a b _ _ _).toList
   rw[uG];exact i.endA T.sb z
  .rw[wA (by simpa using z)];obtain⟨f,rfl⟩: ∃f,na=f+1:=mL (by first|assumption|lia);obtain⟨k,l⟩:=o f nb _ (c.2.2.2.2.1+1) 0 i (by lia) e (by rw[mM];lia);by_cases g:c.2.2.2.2.1+1≥mg
   .rw[wB g];exact cN k
   .rw[wA g];exact cN l
 .rw[d9 w];refine cI (fR e ?_);have D:=T.ap _ (gC d) _ (gC e);have i:=E9 T m e (wu T.sa d (by lia));by_cases z:nb+1=1
  .rw[wB (by simpa using z)];refine cN (n _ _ ?_);show fI r _ _ (mO a b _ _ _).toList
   rw[vP];exact i.first T.sa T.sb (by rw[z];exact T.bot)
  .rw[wA (by simpa using z)];obtain⟨f,rfl⟩: ∃f,nb=f+1:=mL (by first|assumption|lia);obtain⟨k,l⟩:=o na f _ 0 (c.2.2.2.2.2+1) i d (by lia) (by rw[mM];lia);by_cases g:c.2.2.2.2.2+1≥mg
   .rw[wB g];exact cN k
   .rw[wA g];exact cN l
structure RndH(r:Keyed->Int)(a b:Array Keyed)(st0:SortSt)(old:Nat)(Q:ForInStep U7->SortSt->Prop):Prop where
 q1: ∀st w rest,Eqv st0 st->Gd r a b w->Q (.done (some w,rest)) st
 q2: ∀st na nb (out:Array Keyed) x y z,Eqv st0 st->Mh r a.toList b.toList out.toList (na+1) (nb+2)->na<a.size->nb+1<b.size->old<=out.size->Q (.done (none,na+1,nb+2,out,x,y,z)) st/\Q (.yield (none,na+1,nb+2,out,x,y,z)) st
def Cy{c st:SortSt}{mg k d old:Nat}{Q:ForInStep U7->SortSt->Prop}(T:Two κ r a₀ a b)(f:Eqv c st)(m:Mh r a.toList b.toList out.toList (na+1) (nb+2))(h:na<a.size)(j:nb+1<b.size)(o:old<=out.size)(lt: ∀y∈b.toList.take (nb+2),r y<r (a.getD na d0))(q:RndH r a b c old Q):wpS M A E s (mK a b (na+1) (nb+2) out mg k d) Q st:=by
 unfold mK;rw[show na+1-1=na by lia];refine cI (fR h ?_);have i:=x9 T m h lt;by_cases z:na=0
 .rw[wB (by simpa using z)];refine cN (q.q1 _ _ _ f ?_);show fI r _ _ (iR a b _ _ _).toList;rw[uG];exact i.endA T.sb z
 .rw[wA (by simpa using z)];obtain⟨e,rfl⟩: ∃e,na=e+1:=mL (by first|assumption|lia);obtain⟨l,n⟩:=q.q2 st e nb _ mg k d f i (by lia) j (by rw[mM];lia);by_cases g:(decide (k<7)&&decide (d<7))=true
  .rw[wB g];exact cN l
  .rw[wA g];exact cN n
def CK{c st:SortSt}{mg k J old:Nat}{Q:ForInStep U7->SortSt->Prop}(K:Asks M A s κ r a₀)(L:kindOf c=κ)(T:Two κ r a₀ a b)(d:Eqv c st)(m:Mh r a.toList b.toList out.toList (na+1) (nb+2))(f:na<a.size)(G:nb+1<b.size)(hz:old<=out.size)(lt: ∀y∈a.toList.take (na+1),r y<r (b.getD (nb+1) d0))(q:RndH r a b c old Q):wpS M A E s (lQ a b (na+1) (nb+2) out mg k J) Q st:=by
 have u:=d.kind.trans L;unfold lQ;rw[show nb+2-1=nb+1 by lia,show na+1-1=na by lia];refine cI (fR G ?_);have o:=E9 T m G lt;have h:old<=(out.push (b.getD (nb+1) d0)).size:=by rw[mM];lia
 generalize out.push (b.getD (nb+1) d0)=l at o h;by_cases z:nb+1=1
 .rw[wB (by simpa using z)];refine cN (q.q1 _ _ _ d ?_);show fI r _ _ (mO a b _ _ _).toList;rw[vP];exact o.first T.sa T.sb (by rw[z];exact T.bot)
 rw[wA (by simpa using z)];have H:=gC f;refine cI (fR f (cI (pM K u (by lia) (λi N=>T.mb _ (gC (by lia))) (T.ma _ H) (λi N=>(T.ap _ H _ (gC (show 0+i<b.size by lia))).symm) (pN T.sb (by lia)) (by lia) λt kn O U=>?_)));dsimp only;have I: ∀y∈b.toList.take t,r y<r (a.getD na d0):=λy v=>by
  obtain⟨j,w,Y,rfl⟩:=vo v;have:=O j w;rw[qv]at this;exact this
 by_cases g:nb+1-t>0
 .rw[wB g];have p:=o.moveB T.sb (t:=t) (by lia) (λx hx y v=>by
   obtain⟨j,w,Y,h3,rfl⟩:=vU v;have:=U j w (by lia)
   rw[qv]at this;exact wu T.sa f this x hx)
  rw[<-yx,<-v0,<-je]at p;have B:old<=(l++(b.extract t (nb+1)).reverse).size:=by rw[u9];lia
  by_cases C:t=1
  .rw[wB (by simpa using C)];refine cN (q.q1 _ _ _ d ?_);show fI r _ _ (mO a b _ _ _).toList
   rw[vP];exact p.first T.sa T.sb (by rw[C];exact T.bot)
  rw[wA (by simpa using C)];by_cases D:t=0
  .rw[wB (by simpa using D)];refine cN (q.q1 _ _ _ d ?_);show fI r _ _ (iR a b _ _ _).toList
   rw[uG];exact p.endB T.sa D
  rw[wA (by simpa using D)];obtain⟨n,rfl⟩: ∃n,t=n+2:=⟨t-2,by lia⟩;exact Cy T d p f (by lia) B I q
 .rw[wA g];have e:t=nb+1:=by lia
  obtain⟨n,rfl⟩: ∃n,nb=n+1:=mL (by first|assumption|lia);subst e;exact Cy T d o f (by lia) h I q
def Dk{d st:SortSt}{c:U7}{mg old:Nat}{Q:ForInStep U7->SortSt->Prop}(K:Asks M A s κ r a₀)(k:kindOf d=κ)(T:Two κ r a₀ a b)(C:Eqv d st)(D:c.2.1=na+1/\c.2.2.1=nb+2/\c.2.2.2.1=out)(m:Mh r a.toList b.toList out.toList (na+1) (nb+2))(G:na<a.size)(f:nb+1<b.size)(H:old<=out.size)(q:RndH r a b d old Q):wpS M A E s (mG a b c mg) Q st:=by
 obtain⟨I,J,L⟩:=D;unfold mG;rw[I,J,L];rw[show nb+2-1=nb+1 by lia,show na+1-1=na by lia];refine cI (vt λN O=>?_);have h:=C.trans O;have l:=h.kind.trans k;have w:=gC f;refine cI (fR f (cI (pM K l (by lia) (λi U=>T.ma _ (gC (by lia))) (T.mb _ w) (λi U=>T.ap _ (gC (show 0+i<a.size by lia)) _ w) (pN T.sa (by lia)) (by lia) λt kn Y k3=>?_)));dsimp only;have z: ∀y∈a.toList.take t,r y<r (b.getD (nb+1) d0):=λy n=>by
  obtain⟨j,o,h2,rfl⟩:=vo n;have:=Y j o;rw[qv]at this;exact this
 by_cases g:na+1-t>0
 .rw[wB g];have p:=m.moveA T.sa (t:=t) (by lia) (λx hx y n=>by
   obtain⟨j,o,h2,h3,rfl⟩:=vU n;have:=k3 j o (by lia)
   rw[qv]at this;exact wu T.sb f this x hx)
  rw[<-yx,<-v0,<-je]at p;have u:old<=(out++(a.extract t (na+1)).reverse).size:=by rw[u9];lia
  by_cases v:t=0
  .rw[wB (by simpa using v)];refine cN (q.q1 _ _ _ h ?_);show fI r _ _ (iR a b _ _ _).toList
   rw[uG];exact p.endA T.sb v
  rw[wA (by simpa using v)];obtain⟨B,rfl⟩: ∃B,t=B+1:=mL (by first|assumption|lia);exact CK K k T h p (by lia) f u z q
 .rw[wA g];have e:t=na+1:=by lia
  subst e;exact CK K k T h m G f H z q
def Ib{d st:SortSt}{c:U7}{old:Nat}{Q:ForInStep U7->SortSt->Prop}(K:Asks M A s κ r a₀)(e:kindOf d=κ)(T:Two κ r a₀ a b)(f:Eqv d st)(g:c.2.1=na+1/\c.2.2.1=nb+2/\c.2.2.2.1=out)(m:Mh r a.toList b.toList out.toList (na+1) (nb+2))(h:na<a.size)(i:nb+1<b.size)(j:old<=out.size)(q:RndH r a b d old Q):wpS M A E s (rS a b c) Q st:=by
 unfold rS;split
 .exact Dk K e T f g m h i j q
 .exact Dk K e T f g m h i j q
def Ig{f st:SortSt}{c:U5}{Q:ForInStep U5->SortSt->Prop}{mg:Nat}(K:Asks M A s κ r a₀)(hk:kindOf f=κ)(T:Two κ r a₀ a b)(e0:Eqv f st)(ec:c=(none,na+1,nb+2,out,mg))(m:Mh r a.toList b.toList out.toList (na+1) (nb+2))(ha:na<a.size)(hb:nb+1<b.size)
  (q1: ∀st w rest,Eqv f st->Gd r a b w->Q (.done (some w,rest)) st) (q2: ∀st na nb (k:Array Keyed) g,Eqv f st->Mh r a.toList b.toList k.toList (na+1) (nb+2)->na<a.size->nb+1<b.size->out.size+1<=k.size->Q (.yield (none,na+1,nb+2,k,g)) st):wpS M A E s (x6 a b c) Q st:=by
 subst ec;unfold x6;dsimp only;have aa:0<a.size+b.size:=by lia
 refine cI (hX (hA (I:=λx (q:U6) d=>Eqv f d/\ ∃(i j:Nat) (o:Array Keyed) (u v:Nat),q=(none,i+1,j+2,o,u,v)/\Mh r a.toList b.toList o.toList (i+1) (j+2)/\i<a.size/\j+1<b.size/\out.size+x<=o.size)
  (Q:=λq d=>Eqv f d/\((∃w rest,q=(some w,rest)/\Gd r a b w)∨ ∃(i j:Nat) (o:Array Keyed) (u v:Nat),q=(none,i+1,j+2,o,u,v)/\Mh r a.toList b.toList o.toList (i+1) (j+2)/\i<a.size/\j+1<b.size/\out.size+1<=o.size)) ?step ?stop ⟨e0,na,nb,out,0,0,rfl,m,ha,hb,cD _⟩) ?post)
 case step=>
  rintro x q d _ hx ⟨p,i,j,o,u,v,rfl,C,D,G,h3⟩;refine HA (old:=out.size) (t:=x) K T p hk rfl C D G h3 (λw rest g=>⟨p,.inl ⟨w,rest,rfl,g⟩⟩) λH J L u' v' N l n y=>⟨⟨p,.inr ⟨H,J,L,u',v',rfl,N,l,n,by lia⟩⟩,⟨p,H,J,L,u',v',rfl,N,l,n,by lia⟩⟩
 case stop=>
  rintro q d ⟨p,i,j,o,u,v,rfl,C,D,G,h3⟩;exact⟨p,.inr ⟨i,j,o,u,v,rfl,C,D,G,by lia⟩⟩
 case post=>
  rintro q d ⟨p,h⟩
  rcases h with⟨w,rest,rfl,g⟩|⟨i,j,o,u,v,rfl,C,D,G,h3⟩
  .exact cN (q1 _ _ _ p g)
  dsimp only;refine cI (og (lZ ⟨rfl,?_⟩));refine cI (hX (hA (I:=λx (z:U7) d=>Eqv f d/\ ∃(i j:Nat) (o:Array Keyed) (u v w:Nat),z=(none,i+1,j+2,o,u,v,w)/\Mh r a.toList b.toList o.toList (i+1) (j+2)/\i<a.size/\j+1<b.size/\out.size+1<=o.size)
   (Q:=λz d=>Eqv f d/\((∃w rest,z=(some w,rest)/\Gd r a b w)∨ ∃(i j:Nat) (o:Array Keyed) (u v w:Nat),z=(none,i+1,j+2,o,u,v,w)/\Mh r a.toList b.toList o.toList (i+1) (j+2)/\i<a.size/\j+1<b.size/\out.size+1<=o.size)) ?step2 ?stop2 ⟨p,i,j,o,mg+1,u,v,rfl,C,D,G,h3⟩) ?post2)
  case step2=>
   rintro x z O _ hx ⟨B,i,j,o,u,v,w,rfl,U,Y,g2,g3⟩;exact Ib K hk T B ⟨rfl,rfl,rfl⟩ U Y g2 g3 ⟨λst w rest e g=>⟨e,.inl ⟨w,rest,rfl,g⟩⟩,λst H J L x' y' z' e N l n y=>⟨⟨e,.inr ⟨H,J,L,x',y',z',rfl,N,l,n,y⟩⟩,⟨e,H,J,L,x',y',z',rfl,N,l,n,y⟩⟩⟩
  case stop2=>
   rintro z O ⟨B,i,j,o,u,v,w,rfl,U,Y,g2,g3⟩;exact⟨B,.inr ⟨i,j,o,u,v,w,rfl,U,Y,g2,g3⟩⟩
  case post2=>
   rintro z O ⟨B,h⟩
   rcases h with⟨w,rest,rfl,g⟩|⟨i,j,o,u,v,w,rfl,U,Y,g2,g3⟩
   .exact cN (q1 _ _ _ B g)
   .dsimp only;exact cI (vt λab x3=>cN (q2 _ _ _ _ _ (B.trans x3) U Y g2 g3))
def KI{st:SortSt}{Q:Array Keyed->SortSt->Prop}(K:Asks M A s κ r a₀)(L:kindOf st=κ)(T:Two κ r a₀ a b)(q: ∀m d,Eqv st d->Gd r a b m->Q m d):wpS M A E s (A6 a b) Q st:=by
 rw[HV];unfold FM;have a1:=T.a1;have b1:=T.b1;obtain⟨n,hn⟩: ∃n,a.size=n+1:=mL (by first|assumption|lia);have G:a.size-1=n:=by lia
 rw[G];refine cI (og (lZ ⟨rfl,cI (fR (by lia) ?_)⟩));have N:Mh r a.toList b.toList (#[]:Array Keyed).toList (n+1) b.size:=⟨by rw[xg (by rw[dJ];lia),xg (by rw[dJ];exact cD _)];simp,List.Pairwise.nil,λx _ y f=>(nomatch f),λx _ y f=>(nomatch f)⟩;have k:Mh r a.toList b.toList (#[a.getD n d0]:Array Keyed).toList n b.size:=x9 (out:= #[]) T N (by lia) (λy f=>by have:=T.top y (oI f);rw[G]at this;exact this);by_cases p:n=0
 .rw[wB (by simpa using p)];refine cN (q _ _ (Eqv.refl _) ?_);show fI r _ _ (iR a b _ _ _).toList;rw[uG];exact k.endA T.sb p
 rw[wA (by simpa using p)];by_cases t:b.size=1
 .rw[wB (by simpa using t)];refine cN (q _ _ (Eqv.refl _) ?_);show fI r _ _ (mO a b _ _ _).toList;rw[vP];exact k.first T.sa T.sb (by rw[t];exact T.bot)
 rw[wA (by simpa using t)];obtain⟨u,rfl⟩: ∃u,n=u+1:=mL (by first|assumption|lia);obtain⟨v,h⟩: ∃v,b.size=v+2:=⟨b.size-2,by lia⟩;rw[h]at k;refine cI (jj (cI (hX (hA (I:=λx (c:U5) d=>Eqv st d/\ ∃(i j:Nat) (o:Array Keyed) (g:Nat),c=(none,i+1,j+2,o,g)/\Mh r a.toList b.toList o.toList (i+1) (j+2)/\i<a.size/\j+1<b.size/\x+1<=o.size)
  (Q:=λc d=>Eqv st d/\ ∃w rest,c=(some w,rest)/\Gd r a b w) ?step ?stop ⟨Eqv.refl _,u,v,_,_,by rw[h],k,by lia,by lia,cD _⟩) ?post)))
 case step=>
  rintro x c d _ hx ⟨l,i,j,o,g,rfl,B,H,J,O⟩;exact Ig K L T l rfl B H J (λst w rest e g=>⟨e,w,rest,rfl,g⟩) λd U Y o' g' e m' C D aa=>⟨e,U,Y,o',g',rfl,m',C,D,by lia⟩
 case stop=>
  rintro c d ⟨l,i,j,o,g,rfl,B,H,J,O⟩;have z:=B.len (by rw[dJ];lia) (by rw[dJ];lia);rw[dJ,dJ,dJ]at z
  exfalso
  lia
 case post=>
  rintro c d ⟨l,w,rest,rfl,g⟩;exact cN (q _ _ l g)
end
def HF(i:Nat):mergeAt' i=(do
 let s <-get
 let(some (b,c,d),some (f,e,_)):=((pendingOf s)[i]?,(pendingOf s)[i+1]?)|unsupported "internal:list.sort.pending"
 set (setPending s (((pendingOf s).setIfInBounds i (b,c+e,d)).eraseIdxIfInBounds (i+1)))
 let some k <-nt false (<-elem' (arrOf s) f) (arrOf s) b c 0|return false
 let(b,c):=(b+k,c-k)
 if c==0 then return true
 let some e <-nt true (<-elem' (arrOf s) (b+c-1)) (arrOf s) f e (e-1)|return false
 if e==0 then return true
 let x:=(arrOf s).extract b f
 let y:=(arrOf s).extract f (f+e)
 let merged <-if c<=e then y7 x y else A6 x y
 modify λs=>setArr s (merged.toList.zipIdx.foldl (λa (p,j)=>a.setIfInBounds (b+j) p) (arrOf s))
 return (failedOf (<-get)).isNone):=rfl
section
variable{M:Model}{A:Ar}{E:VP}{s:Sh}{κ:SortKind}{r:Keyed->Int}{a₀ xs ys:Array Keyed}
def Jo{st a:SortSt}{Q:PUnit->SortSt->Prop}(h:Q ⟨⟩ a):wpS M A E s (set a:StateT SortSt Sem PUnit) Q st:=by
 unfold wpS;rw[StateT.run_set];exact cu ⟨rfl,h⟩
theorem laid: ∀(c:List Keyed) (j b:Nat) (xs:Array Keyed),b+j+c.length<=xs.size->((c.zipIdx j).foldl (λa (p,j)=>a.setIfInBounds (b+j) p) xs).toList=xs.toList.take (b+j)++c++xs.toList.drop (b+j+c.length)
 | [],j,b,xs,_=>by
  rw[gO,List.length_nil,uC];exact(lF _ _).symm
 | m::c,j,b,xs,h=>by
  rw[i9]at h;rw[List.zipIdx_cons,zj,laid c (j+1) b _ (by rw[Array.size_setIfInBounds];lia),ET,i9];have d:b+j<xs.toList.length:=by rw[dJ];lia
  have e:(xs.toList.set (b+j) m).take (b+(j+1))=xs.toList.take (b+j)++[m]:=by
   rw[show b+(j+1)=b+j+1 by lia,List.take_succ_eq_append_getElem (by rw[pi];exact d),List.getElem_set_self,List.take_set_of_le (cD _)]
  have f:(xs.toList.set (b+j) m).drop (b+(j+1)+c.length)=xs.toList.drop (b+j+(c.length+1)):=by
   rw[List.drop_set_of_lt (by lia)]
   congr 1
   lia
  rw[e,f,eX,eX,eX];rfl
def xw(xs:Array Keyed)(t n:Nat):(xs.extract t n).toList=(xs.toList.take n).drop t:=yx xs t n
def xk{t n:Nat}(h:n<=xs.size):(xs.extract t n).size=n-t:=by rw[Array.size_extract];lia
def z9{t n i:Nat}(h:n<=xs.size)(a:t+i<n):(xs.extract t n).getD i d0=xs.getD (t+i) d0:=by
 refine mI ?_;rw[Array.getElem?_extract,wB (by lia)]
def FA{l:List Keyed}{ys:Array Keyed}(h:ys.toList=l)(i:Nat):ys[i]? =l[i]? :=by rw[<-h,iC]
def JE{st:SortSt}{i b d pw O I af:Nat}{Q:Bool->SortSt->Prop}(K:Asks M A s κ r a₀)(B:StOk κ a₀ st)(h1:(pendingOf st)[i]? =some (b,d,pw))(h2:(pendingOf st)[i+1]? =some (O,I,af))(es:O=b+d)(ao:1<=d)(aq:1<=I)(hz:O+I<=a₀.size)
  (J:Ris r (arrOf st) b (b+d)) (L:Ris r (arrOf st) O (O+I))
  (q: ∀f,StOk κ a₀ f->pendingOf f=((pendingOf st).setIfInBounds i (b,d+I,pw)).eraseIdxIfInBounds (i+1)->Out (arrOf st) (arrOf f) b (O+I)->Ris r (arrOf f) b (O+I)->Q true f):wpS M A E s (mergeAt' i) Q st:=by
 have sz:=nQ B.perm;subst es;rw[HF];refine cI (jj ?_);rw[h1,h2];dsimp only;refine cI (Jo ?_);generalize hP:((pendingOf st).setIfInBounds i (b,d+I,pw)).eraseIdxIfInBounds (i+1)=P at q⊢;have B1:StOk κ a₀ (setPending st P):=⟨B.kind,B.perm,B.ok⟩;generalize w:arrOf st=xs at J L q sz⊢;have pm:xs.Perm a₀:=w▸B.perm;have mem: ∀j,j<a₀.size->xs.getD j d0∈a₀:=λj D=>vQ pm D;have ap: ∀i j,i<a₀.size->j<a₀.size->i≠j->kx r xs i≠kx r xs j:=λi j hi D ij=>K.apart pm hi D ij;refine cI (fR (by lia) (cI (pM K B1.kind (by lia) (λj D=>mem _ (by lia)) (mem _ (by lia)) (λj D=>ap _ _ (by lia) (by lia) (by lia)) J (by lia) λk kn k2 k3=>?_)));dsimp only;by_cases z0:d-k=0
 .rw[wB (by simpa using z0)];refine cN (q _ B1 rfl (by show Out xs (arrOf st) _ _;rw[w];exact Out.refl _ _ _) ?_);show Ris r (arrOf st) _ _;rw[w];intro i j o u C;by_cases U:j<b+d
  .exact J i j o u U
  by_cases c2:b+d<=i
  .exact L i j c2 u C
  have v:=k2 (i-b) (by lia);rw[mJ o]at v;have v:kx r xs i<kx r xs (b+d):=v;by_cases c3:j=b+d
  .rw[c3];exact v
  .exact tm v (L (b+d) j (cD _) (sV (Nat.not_lt.mp U) (eC c3)) C)
 rw[wA (by simpa using z0)];have kl:k<d:=by lia
 clear z0;have dk: ∀_:Unit,b+k+(d-k)=b+d:=λ_=>by lia
 rw[dk ()];refine cI (fR (by lia) (cI (pM K B1.kind (by lia) (λj D=>mem _ (by lia)) (mem _ (by lia)) (λj D=>ap _ _ (by lia) (by lia) (by lia)) L (by lia) λg nn ag ab=>?_)));dsimp only;have bk:kx r xs (b+d)<kx r xs (b+k):=by
  have:=k3 k (cD _) (by lia);exact this
 have Y:kx r xs (b+k)<=kx r xs (b+d-1):=by
  by_cases c:b+k=b+d-1
  .rw[c];exact Int.le_refl _
  .exact Int.le_of_lt (J (b+k) (b+d-1) (by lia) (by lia) (by lia))
 have ah:g≠0:=λz=>by
  subst z;have:=ab 0 (cD _) (by lia);rw[uC]at this;exact wC this (Int.not_lt.mpr (Int.le_trans (Int.le_of_lt bk) Y))
 rw[wA (by simpa using ah)];have sx:(xs.extract (b+k) (b+d)).size=d-k:=by rw[xk (by lia)];exact Nat.add_sub_add_left ..
 have sy:(xs.extract (b+d) (b+d+g)).size=g:=by rw[xk (by lia)];exact uH ..
 have mx: ∀x∈(xs.extract (b+k) (b+d)).toList,∃j,b+k<=j/\j<b+d/\xs.getD j d0=x:=λx w=>by
  rw[xw]at w;obtain⟨j,o,u,_,C⟩:=vU w;exact⟨j,o,u,C⟩
 have my: ∀x∈(xs.extract (b+d) (b+d+g)).toList,∃j,b+d<=j/\j<b+d+g/\xs.getD j d0=x:=λx w=>by
  rw[xw]at w;obtain⟨j,o,u,_,C⟩:=vU w;exact⟨j,o,u,C⟩
 have ae: ∀(t n:Nat),n<=xs.size->Ris r xs t n->Up r (xs.extract t n).toList:=λt n hn ur=>by
  refine mB.mpr λi j hi D ij=>?_;rw[dJ,xk hn]at hi D;have e: ∀c (hc:c<(xs.extract t n).toList.length),(xs.extract t n).toList[c]=xs.getD (t+c) d0:=λc hc=>by
   rw[dJ,xk hn]at hc;rw[<-z9 hn (by lia),Array.getElem_toList];exact(cT (iJ _)).symm
  rw[e,e];exact ur (t+i) (t+j) (by lia) (by lia) (by lia)
 have ai: ∀_:Unit,b+k+(d-k-1)=b+d-1:=λ_=>by rw[<-dk ()];exact(Nat.add_sub_assoc (Nat.sub_pos_of_lt kl) _).symm
 have G: ∀_:Unit,b+k+(d-k+g)=b+d+g:=λ_=>by rw[<-Nat.add_assoc,dk ()]
 have T:Two κ r a₀ (xs.extract (b+k) (b+d)) (xs.extract (b+d) (b+d+g)):=by
  refine⟨λx w=>?_,λx w=>?_,ae _ _ (by lia) λi j o u C=>J i j (by lia) u C,ae _ _ (by lia) λi j o u C=>L i j o u (by lia),λx w y hy=>?_,by lia,by lia,λx w=>?_,λy hy=>?_⟩
  .obtain⟨j,o,u,rfl⟩:=mx x w;exact mem j (by lia)
  .obtain⟨j,o,u,rfl⟩:=my x w;exact mem j (by lia)
  .obtain⟨j,o,u,rfl⟩:=mx x w;obtain⟨l,C,g4,rfl⟩:=my y hy;exact ap j l (by lia) (by lia) (by lia)
  .obtain⟨j,o,u,rfl⟩:=mx x w;rw[z9 (by lia) (by lia),uC];show kx r xs (b+d)<kx r xs j
   by_cases c:j=b+k
   .rw[c];exact bk
   .exact tm bk (J (b+k) j (j5 ..) (sV o (eC c)) u)
  .obtain⟨j,o,u,rfl⟩:=my y hy;rw[sx,z9 (by lia) (by lia),show b+k+(d-k-1)=b+d-1 from ai ()];have:=ag (j-(b+d)) (ux o u)
   rw[mJ o]at this;exact this
 have fin: ∀m f,Eqv (setPending st P) f->Gd r (xs.extract (b+k) (b+d)) (xs.extract (b+d) (b+d+g)) m->wpS M A E s (do
   modify λs=>setArr s (m.toList.zipIdx.foldl (λa (p,j)=>a.setIfInBounds (b+k+j) p) (arrOf s))
   return (failedOf (<-get)).isNone) Q f:=λm f ev gd=>by
  have ea:arrOf f=xs:=ev.arr.trans w;have ml:m.toList.length=d-k+g:=by
   have:=gd.1.length_eq;rw[dz,dJ (xs:=xs.extract _ _),dJ (xs:=xs.extract _ _),sx,sy]at this;exact this
  refine cI (kg (cI (jj ?_)));rw[ea];have tl:=laid m.toList 0 (b+k) xs (by rw[ml];lia);rw[uC,ml]at tl;generalize ar:m.toList.zipIdx.foldl (λa (p,j)=>a.setIfInBounds (b+k+j) p) xs=ys at tl⊢;have aj:(failedOf (setArr f ys)).isNone=true:=by
   show(failedOf f).isNone=true;rw[ev.ok];show(failedOf st).isNone=true
   rw[B.ok];rfl
  rw[aj];have mid:xs.toList=xs.toList.take (b+k)++((xs.extract (b+k) (b+d)).toList++(xs.extract (b+d) (b+d+g)).toList)++xs.toList.drop (b+k+(d-k+g)):=by
   rw[xw,xw];have e1:xs.toList.take (b+k)++(xs.toList.take (b+d)).drop (b+k)=xs.toList.take (b+d):=by
    have z:=lF (b+k) (xs.toList.take (b+d));rwa[List.take_take,pe (by lia)]at z
   have e2:xs.toList.take (b+d)++(xs.toList.take (b+d+g)).drop (b+d)=xs.toList.take (b+d+g):=by
    have z:=lF (b+d) (xs.toList.take (b+d+g));rwa[List.take_take,pe (by lia)]at z
   rw[<-eX,e1,e2,G (),lF]
  have ak:ys.Perm xs:=by
   refine kq.mpr ?_;rw[tl]
   conv=>rhs;rw[mid]
   exact xp _ (sm _ gd.1)
  have lx:xs.toList.length=a₀.size:=by rw[dJ];exact sz
  have mn:min (b+k) xs.toList.length=b+k:=pe (by lia);have N: ∀j,j<b+k∨b+d+g<=j->ys[j]? =xs[j]? :=λj D=>by
   rw[FA tl j,<-iC]
   rcases D with h|h
   .rw[eV (by rw[dz,eF,mn];exact Nat.lt_add_right _ h),eV (by rw[eF,mn];exact h),yD,wB h]
   .rw[eU (by rw[dz,eF,ml,mn,G ()];exact h),uB]
    congr 1
    rw[dz,eF,ml,mn,G ()];exact mJ h
  have aa: ∀j,b+k<=j->j<b+d+g-> ∃h:j-(b+k)<m.toList.length,ys.getD j d0=m.toList[j-(b+k)]:=λj o u=>by
   have hl:j-(b+k)<m.toList.length:=by rw[ml];exact ux o (by rw[G ()];exact u)
   refine⟨hl,cT ?_⟩;rw[FA tl j,eV (by rw[dz,eF,ml,mn,G ()];exact u),eU (by rw[eF,mn];exact o),eF,mn,ck hl]
  have H: ∀j,b+k<=j->j<b+d+g-> ∃l,b+k<=l/\l<b+d+g/\ys.getD j d0=xs.getD l d0:=λj o u=>by
   obtain⟨hl,e⟩:=aa j o u;have mm:ys.getD j d0∈(xs.extract (b+k) (b+d)).toList++(xs.extract (b+d) (b+d+g)).toList:=by
    rw[e];exact(List.Perm.mem_iff gd.1).mp (iZ hl)
   rcases di.mp mm with z|z
   .obtain⟨l,v,l2,l3⟩:=mx _ z;exact⟨l,v,by lia,l3.symm⟩
   .obtain⟨l,v,l2,l3⟩:=my _ z;exact⟨l,by lia,l2,l3.symm⟩
  refine cN (q _ ⟨ev.kind.trans B1.kind,ak.trans pm,by show failedOf f=none;rw[ev.ok];exact B.ok⟩ ev.pend (λj D=>N j (by lia)) λi j o u C=>?_);show kx r ys i<kx r ys j;have oe: ∀c,c<b+k∨b+d+g<=c->kx r ys c=kx r xs c:=λc hc=>dn r (mI (N c hc));have hd: ∀c l,b<=c->c<b+k->b+k<=l->l<b+d+I->kx r xs c<kx r xs l:=λc l U c2 c3 c4=>by
   by_cases c5:l<b+d
   .exact J c l U (by lia) c5
   .have v:=k2 (c-b) (ux U c2);rw[mJ U]at v;have v:kx r xs c<kx r xs (b+d):=v;by_cases c6:l=b+d
    .rw[c6];exact v
    .exact tm v (L (b+d) l (cD _) (sV (Nat.not_lt.mp c5) (eC c6)) c4)
  have al: ∀l c,b+k<=l->l<b+d+g->b+d+g<=c->c<b+d+I->kx r xs l<kx r xs c:=λl c U c2 c3 c4=>by
   by_cases c5:b+d<=l
   .exact L l c c5 (by lia) c4
   .have c0:=dt (j5 ..) c3;have v:=ab (c-(b+d)) (Nat.le_sub_of_add_le' c3) (ux c0 c4);rw[mJ c0]at v;have v:kx r xs (b+d-1)<kx r xs c:=v;by_cases c6:l=b+d-1
    .rw[c6];exact v
    .exact tm (J l (b+d-1) (by lia) (by lia) (by lia)) v
  by_cases i1:i<b+k
  .rw[oe i (.inl i1)];by_cases j1:j<b+k
   .rw[oe j (.inl j1)];exact J i j o u (by lia)
   .by_cases j2:j<b+d+g
    .obtain⟨l,v,l2,l3⟩:=H j (by lia) j2;show kx r xs i<r (ys.getD j d0);rw[l3];exact hd i l o i1 v (by lia)
    .rw[oe j (.inr (by lia))];exact hd i j o i1 (by lia) C
  .by_cases i2:i<b+d+g
   .by_cases j2:j<b+d+g
    .obtain⟨am,e1⟩:=aa i (by lia) i2;obtain⟨an,e2⟩:=aa j (by lia) j2;show r (ys.getD i d0)<r (ys.getD j d0)
     rw[e1,e2];exact mB.mp gd.2 _ _ am an (by lia)
    .obtain⟨l,v,l2,l3⟩:=H i (by lia) i2;rw[oe j (.inr (by lia))];show r (ys.getD i d0)<kx r xs j
     rw[l3];exact al l j v l2 (by lia) C
   .rw[oe i (.inr (by lia)),oe j (.inr (by lia))];exact L i j (by lia) u C
 by_cases c:d-k<=g
 .rw[wB c];exact cI (Hy K B1.kind T fin)
 .rw[wA c];exact cI (KI K B1.kind T fin)
end
def fB(r:Keyed->Int)(a:Array Keyed):Nat->List (Nat×Nat×Nat)->Nat->Prop
 |s,[],e=>s=e
 |s,u::l,e=>u.1=s/\1<=u.2.1/\Ris r a s (s+u.2.1)/\fB r a (s+u.2.1) l e
section
variable{r:Keyed->Int}{xs ys:Array Keyed}
theorem xr: ∀{l:List (Nat×Nat×Nat)} {s e:Nat},fB r xs s l e->s+l.length<=e
 | [],s,e,h=>by
  have:s=e:=h;simp;lia
 |u::l,s,e,h=>by
  have:=xr h.2.2.2;have:=h.2.1;rw[i9];lia
theorem dA: ∀{l c:List (Nat×Nat×Nat)} {s e:Nat},fB r xs s (l++c) e↔ ∃m,fB r xs s l m/\fB r xs m c e
 | [],c,s,e=>⟨λh=>⟨s,rfl,h⟩,λ⟨m,a,b⟩=>by have:s=m:=a;subst this;exact b⟩
 | u::l,c,s,e=>by
  constructor
  .rintro⟨a,b,d,i⟩;obtain⟨m,f,g⟩:=dA.mp i;exact⟨m,⟨a,b,d,f⟩,g⟩
  .rintro⟨m,⟨a,b,d,f⟩,g⟩;exact⟨a,b,d,dA.mpr ⟨m,f,g⟩⟩
theorem uK{lo a:Nat}(o:Out xs ys lo a): ∀{l:List (Nat×Nat×Nat)} {s e:Nat},fB r xs s l e->e<=lo∨a<=s->fB r ys s l e
 | [],_,_,h,_=>h
 |u::l,s,e,h,d=>by
  have:=xr h.2.2.2;exact⟨h.1,h.2.1,o.ris h.2.2.1 (by lia),uK o h.2.2.2 (by lia)⟩
def Jp{p:Array (Nat×Nat×Nat)}{i:Nat}(h:i+1<p.size): ∃a u v d,p.toList=a++u::v::d/\a.length=i/\p[i]? =some u/\p[i+1]? =some v:=by
 have e:p.toList.length=p.size:=dJ;refine⟨p.toList.take i,p[i]'(by lia),p[i+1],p.toList.drop (i+2),?_,by rw[eF];lia,iJ _,iJ _⟩;have b:p.toList.drop i=p.toList[i]'(by lia)::p.toList.drop (i+1):=vI (by lia);have c:p.toList.drop (i+1)=p.toList[i+1]'(by lia)::p.toList.drop (i+2):=vI (by lia);rw[Array.getElem_toList]at b c;rw[<-c,<-b,lF]
def Me{p:Array (Nat×Nat×Nat)}{i:Nat}{a b:List (Nat×Nat×Nat)}{u v w:Nat×Nat×Nat}(h:p.toList=a++u::v::b)(c:a.length=i):((p.setIfInBounds i w).eraseIdxIfInBounds (i+1)).toList=a++w::b:=by
 rw[Array.toList_eraseIdxIfInBounds,ET,h,List.set_append_right _ _ (by lia),c,mF,List.eraseIdx_append_of_length_le (by lia),c,uH];rfl
variable{M:Model}{A:Ar}{E:VP}{s:Sh}{κ:SortKind}{a₀:Array Keyed}
def Bx{st:SortSt}{i lo:Nat}{Q:Bool->SortSt->Prop}(K:Asks M A s κ r a₀)(B:StOk κ a₀ st)(t:i+1<(pendingOf st).size)(R:fB r (arrOf st) 0 (pendingOf st).toList lo)(x:lo<=a₀.size)
  (q: ∀a,StOk κ a₀ a->(pendingOf a).size+1=(pendingOf st).size->Out (arrOf st) (arrOf a) 0 lo->fB r (arrOf a) 0 (pendingOf a).toList lo->Q true a):wpS M A E s (mergeAt' i) Q st:=by
 obtain⟨T,u,v,y,e,z,C,D⟩:=Jp t;rw[e]at R;obtain⟨m,G,R2⟩:=dA.mp R;obtain⟨j,k,l,f,n,p,g⟩:=R2;obtain⟨b,d,H⟩:=u;obtain⟨I,c,J⟩:=v;dsimp only at j k l f n p g;subst j;have U:=xr g;refine JE K B C D f k n (by lia) l (by rw[f];exact p) λa L N o up=>?_;have h:=Me (w:=(b,d+c,H)) e z;rw[<-N]at h;refine q a L ?_ (o.wide (gN _) (by lia)) ?_
 .have O:(pendingOf a).toList.length+1=(pendingOf st).toList.length:=by
   rw[h,e];simp;lia
  rwa[dJ,dJ]at O
 .rw[h];refine dA.mpr ⟨b,uK o G (.inl (cD _)),rfl,by show 1<=d+c;lia,?_,?_⟩
  .show Ris r (arrOf a) b (b+(d+c));rw[show b+(d+c)=I+c by lia];exact up
  .show fB r (arrOf a) (b+(d+c)) y lo;rw[show b+(d+c)=b+d+c by lia];exact uK o g (.inr (by lia))
theorem Aw{f:Nat->Nat}: ∀{l:List (Nat×Nat×Nat)} {s e i:Nat},fB r xs s l e->fB r xs s (l.modify i λu=>(u.1,u.2.1,f u.2.2)) e
 | [],_,_,_,h=>by simpa using h
 |u::l,s,e,0,h=>h
 |u::l,s,e,i+1,h=>⟨h.1,h.2.1,h.2.2.1,Aw h.2.2.2⟩
def FO{st:SortSt}{Q:Unit->SortSt->Prop}(K:Asks M A s κ r a₀)(B:StOk κ a₀ st)(hp:pendingOf st= #[])(h1:1<=a₀.size)
  (q: ∀a,StOk κ a₀ a->Ris r (arrOf a) 0 a₀.size->Q () a):wpS M A E s sortRuns' Q st:=by
 have sz:=nQ B.perm;rw[sortRuns'_eq];refine cI (jj ?_);dsimp only;rw[sz];refine cI (hX (hA (I:=λx c a=> ∃lo,c=(none,lo)/\x<=lo/\lo<=a₀.size/\StOk κ a₀ a/\fB r (arrOf a) 0 (pendingOf a).toList lo)
  (Q:=λc a=>c=(none,a₀.size)/\StOk κ a₀ a/\fB r (arrOf a) 0 (pendingOf a).toList a₀.size) ?step ?stop ⟨0,rfl,cD _,gN _,B,by rw[hp];rfl⟩) ?post)
 case stop=>
  rintro c a ⟨lo,rfl,h1,h2,B',R⟩;have e:lo=a₀.size:=by lia
  subst e;exact⟨rfl,B',R⟩
 case step=>
  rintro x c U _ hx ⟨lo,rfl,ae,L,T,N⟩;dsimp only;by_cases z:lo≥a₀.size
  .rw[wB z];have e:lo=a₀.size:=by lia
   subst e;exact cN ⟨rfl,T,N⟩
  rw[wA z];refine cI (He K T (by lia) (by lia) λn d D p2 H o2 J nn O=>?_);dsimp only;have R2:fB r (arrOf d) 0 (pendingOf d).toList lo:=by rw[p2];exact uK o2 N (.inl (cD _))
  by_cases mr:n<minRun' a₀.size a₀.size 0
  .rw[wB mr];refine cI (og (lZ ⟨rfl,?_⟩));refine cI (HJ K D (by lia) (by lia) O λo v p3 g3 o3 p=>?_);rw[wA (by decide)];have G:fB r (arrOf o) 0 (pendingOf o).toList lo:=by rw[p3];exact uK o3 R2 (.inl (cD _))
   have J:1<=min (a₀.size-lo) (minRun' a₀.size a₀.size 0):=by lia
   have nn:lo+min (a₀.size-lo) (minRun' a₀.size a₀.size 0)<=a₀.size:=by lia
   generalize min (a₀.size-lo) (minRun' a₀.size a₀.size 0)=w at p J nn⊢;refine cI (jj ?_);cases eb:(pendingOf o).back? with
   |none=>
    dsimp only;refine cI (kg (cN ⟨lo+w,rfl,by lia,by lia,⟨v.kind,v.perm,v.ok⟩,?_⟩));show fB r (arrOf o) 0 ((pendingOf o).push (lo,w,0)).toList (lo+w)
    rw[qi];exact dA.mpr ⟨lo,G,rfl,J,p,rfl⟩
   | some u=>
    obtain⟨t,j,w1⟩:=u;dsimp only;refine cI (hX (hA (I:=λx c a=>c=(none,())/\StOk κ a₀ a/\fB r (arrOf a) 0 (pendingOf a).toList lo/\Ris r (arrOf a) lo (lo+w))
     (Q:=λc a=>c=(none,())/\StOk κ a₀ a/\fB r (arrOf a) 0 (pendingOf a).toList lo/\Ris r (arrOf a) lo (lo+w)) ?step2 ?stop2 ⟨rfl,v,G,p⟩) ?post2)
    case stop2=>
     rintro c b h;exact h
    case step2=>
     rintro y c b _ _ ⟨rfl,k,C,i⟩;refine cI (jj ?_);by_cases g:(pendingOf b).size>1
     .rw[wB g,iJ (by lia)];generalize(pendingOf b)[(pendingOf b).size-2]=Y;obtain⟨a2,b2,m⟩:=Y;dsimp only;by_cases H:m<=power' a₀.size (2 * t+j) (2 * t+j+j+w) a₀.size
      .rw[wB H];exact cN ⟨rfl,k,C,i⟩
      .rw[wA H];refine cI (Bx K k (by lia) C L λaa B5 _ o5 R5=>?_);exact cN ⟨rfl,B5,R5,o5.ris i (.inr (cD _))⟩
     .rw[wA g];exact cN ⟨rfl,k,C,i⟩
    case post2=>
     rintro c b ⟨rfl,k,C,i⟩;dsimp only;refine cI (kg (cI (kg (cN ⟨lo+w,rfl,by lia,by lia,⟨k.kind,k.perm,k.ok⟩,?_⟩))));show fB r (arrOf b) 0 (((pendingOf b).modify ((pendingOf b).size-1) λx=>(x.fst,x.2.fst,power' a₀.size (2 * t+j) (2 * t+j+j+w) a₀.size)).push (lo,w,0)).toList (lo+w)
     rw[qi,Array.toList_modify];exact dA.mpr ⟨lo,Aw (f:=λ_=>power' a₀.size (2 * t+j) (2 * t+j+j+w) a₀.size) C,rfl,J,i,rfl⟩
  .rw[wA mr];have v:=D;have G:=R2;have p:=O;refine cI (jj ?_);cases eb:(pendingOf d).back? with
   |none=>
    dsimp only;refine cI (kg (cN ⟨lo+n,rfl,by lia,by lia,⟨v.kind,v.perm,v.ok⟩,?_⟩));show fB r (arrOf d) 0 ((pendingOf d).push (lo,n,0)).toList (lo+n)
    rw[qi];exact dA.mpr ⟨lo,G,rfl,J,p,rfl⟩
   | some u=>
    obtain⟨t,j,w1⟩:=u;dsimp only;refine cI (hX (hA (I:=λx c a=>c=(none,())/\StOk κ a₀ a/\fB r (arrOf a) 0 (pendingOf a).toList lo/\Ris r (arrOf a) lo (lo+n))
     (Q:=λc a=>c=(none,())/\StOk κ a₀ a/\fB r (arrOf a) 0 (pendingOf a).toList lo/\Ris r (arrOf a) lo (lo+n)) ?step2 ?stop2 ⟨rfl,v,G,p⟩) ?post2)
    case stop2=>
     rintro c b h;exact h
    case step2=>
     rintro y c b _ _ ⟨rfl,k,C,i⟩;refine cI (jj ?_);by_cases g:(pendingOf b).size>1
     .rw[wB g,iJ (by lia)];generalize(pendingOf b)[(pendingOf b).size-2]=Y;obtain⟨a2,b2,m⟩:=Y;dsimp only;by_cases H:m<=power' a₀.size (2 * t+j) (2 * t+j+j+n) a₀.size
      .rw[wB H];exact cN ⟨rfl,k,C,i⟩
      .rw[wA H];refine cI (Bx K k (by lia) C L λaa B5 _ o5 R5=>?_);exact cN ⟨rfl,B5,R5,o5.ris i (.inr (cD _))⟩
     .rw[wA g];exact cN ⟨rfl,k,C,i⟩
    case post2=>
     rintro c b ⟨rfl,k,C,i⟩;dsimp only;refine cI (kg (cI (kg (cN ⟨lo+n,rfl,by lia,by lia,⟨k.kind,k.perm,k.ok⟩,?_⟩))));show fB r (arrOf b) 0 (((pendingOf b).modify ((pendingOf b).size-1) λx=>(x.fst,x.2.fst,power' a₀.size (2 * t+j) (2 * t+j+j+n) a₀.size)).push (lo,n,0)).toList (lo+n)
     rw[qi,Array.toList_modify];exact dA.mpr ⟨lo,Aw (f:=λ_=>power' a₀.size (2 * t+j) (2 * t+j+j+n) a₀.size) C,rfl,J,i,rfl⟩
 case post=>
  rintro c U ⟨rfl,T,N⟩;dsimp only;refine cI (hX (hA (I:=λx c a=>c=(none,())/\StOk κ a₀ a/\fB r (arrOf a) 0 (pendingOf a).toList a₀.size/\(pendingOf a).size+x<=a₀.size)
   (Q:=λc a=>c=(none,())/\StOk κ a₀ a/\fB r (arrOf a) 0 (pendingOf a).toList a₀.size/\(pendingOf a).size<=1) ?step3 ?stop3 ⟨rfl,T,N,by have:=xr N;rw[dJ]at this;lia⟩) ?post3)
  case stop3=>
   rintro c d ⟨hc,D,R2,hz⟩;exact⟨hc,D,R2,by lia⟩
  case step3=>
   rintro x c d _ hx ⟨rfl,D,R2,hz⟩;refine cI (jj ?_);by_cases g:(pendingOf d).size<=1
   .rw[wB g];exact cN ⟨rfl,D,R2,g⟩
   .rw[wA g];refine cI (Bx K D ?_ R2 (cD _) λo v z3 o3 G=>?_)
    .have ab: ∀(c:Prop) [Decidable c],(if c then(pendingOf d).size-2-1 else(pendingOf d).size-2)+1<(pendingOf d).size:=λc _=>by
      by_cases h:c
      .rw[wB h];lia
      .rw[wA h];lia
     exact ab _
    .exact cN ⟨rfl,v,G,by lia⟩
  case post3=>
   rintro c d ⟨rfl,D,R2,hz⟩;refine cN (q d D ?_);have hl:(pendingOf d).toList.length<=1:=by rw[dJ];exact hz
   generalize(pendingOf d).toList=l at R2 hl
   match l,R2,hl with
   | [],R2,_=>
    have:0=a₀.size:=R2;lia
   | [u],R2,_=>
    have e:0+u.2.1=a₀.size:=R2.2.2.2;rw[<-e];exact R2.2.2.1
end
section
variable{P:Pg}{w:World}{A:Ar}{E:VP}{s:Sh}{a:Ad}{vs ks:Vs}{k:Nat->Int}{κ:SortKind}
noncomputable def f' (ks:Vs) (x:Keyed):Nat:=Classical.epsilon λi=>ks[i]? =some x.1
def rW(nd:ks.Nodup){i:Nat}{x:Keyed}(h:ks[i]? =some x.1):f' ks x=i:=by
 have z:ks[f' ks x]? =some x.1:=Classical.epsilon_spec (p:=λi=>ks[i]? =some x.1) ⟨i,h⟩;exact(g7 (cA.mp z).1 nd).mp (z.trans h.symm)
def DM{Q:SortSt->Sh->Prop}(t:ks.length=vs.length)(M:1<=vs.length)(nd:ks.Nodup)(inj: ∀i j,i<vs.length->j<vs.length->k i=k j->i=j)
  (ask: ∀i j (C:Bool->Sh->Prop),i<ks.length->j<ks.length->C (decide (k i<k j)) s->kas_ask P w A κ ks i j C s)
  (G: ∀p b,Arr vs.length p->nA k p vs.length->(arrOf b).map (·.2)=(fY vs p).toArray->failedOf b=none->Q b s):
  wpAny (model P w) A ((sortRuns').run (SortSt.mk' κ (ks.toArray.zip vs.toArray) #[] 7 none)) (λr u=>Q r.2 u) E s:=by
 have sz:(ks.toArray.zip vs.toArray).size=vs.length:=by simp[t]
 have n: ∀i,i<vs.length->(ks.toArray.zip vs.toArray).getD i d0=(ks.getD i Value.none,vs.getD i Value.none):=λi c=>kat_item t i;have o: ∀i,i<vs.length->ks[i]? =some (ks.getD i Value.none):=λi c=>by
  rw[dI,ck (by lia)];rfl
 have f: ∀i,i<vs.length->f' ks ((ks.toArray.zip vs.toArray).getD i d0)=i:=λi c=>rW nd (by rw[n i c];exact o i c);have d: ∀x∈ks.toArray.zip vs.toArray,∃i,i<vs.length/\x=(ks.toArray.zip vs.toArray).getD i d0:=λx l=>by
  obtain⟨i,c,e⟩:=Array.getElem_of_mem l;exact⟨i,by lia,(cT (sI.mpr ⟨c,e⟩)).symm⟩
 have K:Asks (model P w) A s κ (λx=>k (f' ks x)) (ks.toArray.zip vs.toArray):=by
  refine⟨λx y C l H v=>?_,λi j c g I z=>?_⟩
  .obtain⟨i,c,rfl⟩:=d x l;obtain⟨j,g,rfl⟩:=d y H;have z:=ask i j C (by lia) (by lia) (by rw[f i c,f j g]at v;exact v);unfold kas_ask at z;rw[n i c,n j g];exact z
  .rw[sz]at c g;rw[f i c,f j g]at z;exact I (inj i j c g z)
 have run:=FO (E:=E) (st:=SortSt.mk' κ (ks.toArray.zip vs.toArray) #[] 7 none) (Q:=λ_ b=>Q b s) K ⟨rfl,zr _,rfl⟩ rfl (by lia) λb B up=>?_
 .unfold wpS at run;exact gq run (λr u h=>by obtain⟨rfl,h⟩:=h;exact h) λ_ _ e=>e
 .have q:=nQ B.perm;rw[sz]at up q;have mem: ∀i,i<vs.length->(arrOf b).getD i d0∈ks.toArray.zip vs.toArray:=λi c=>vQ B.perm (by lia);have J:Arr vs.length ((arrOf b).map (f' ks)):=by
   refine kq.mpr ?_;rw[xD];refine((kq.mp B.perm).map (f' ks)).trans (.of_eq ?_);refine lJ λi=>?_;rw[cF,iC,vB];by_cases c:i<vs.length
   .rw[nh (by lia),mj c];exact dn some (f i c)
   .rw[BB (by lia),hG (by simp;lia)];rfl
  have m: ∀i,i<vs.length->((arrOf b).map (f' ks)).getD i 0=f' ks ((arrOf b).getD i d0):=λi c=>by
   rw[nW,Array.getElem?_map,nh (by lia)];rfl
  refine G ((arrOf b).map (f' ks)) b J (λx y L D=>?_) ?_ B.ok
  .rw[m x (by lia),m y D];exact up x y (gN _) L D
  .apply Array.toList_inj.mp;rw[xD];show _=fY vs _
   unfold fY;rw[xD,hI];refine lK λx l=>?_;obtain⟨i,c,rfl⟩:=d x ((AJ B.perm).mp (AF.mp l));show((ks.toArray.zip vs.toArray).getD i d0).2=vs.getD (f' ks ((ks.toArray.zip vs.toArray).getD i d0)) Value.none
   rw[f i c,n i c]
def Mu{n:Nat}{R:PySem.Fin->Sh->Prop}(v:s.heap.get? a=some (seqObj "list" vs.toArray n))(few:vs.length<=4000)(nd:vs.Nodup)(inj: ∀i j,i<vs.length->j<vs.length->k i=k j->i=j)
  (ask: ∀m,(∀b o,b≠a->s.heap.get? b=some o->m.get? b=some o)->2<=vs.length->ya P w A vs (λi j=>decide (k i<k j)) {s with heap:=m})
  (q: ∀p m c,Arr vs.length p->nA k p vs.length->m.get? a=some (seqObj "list" (fY vs p).toArray c)->(∀b o,b≠a->s.heap.get? b=some o->m.get? b=some o)->R (.done (.ret .none)) {s with heap:=m}):
  wpAny (model P w) A (Builtin.«list.sort» ⟨[.ref a],[]⟩) R E s:=by
 have la:a<s.heap.objs.size:=cU v
 let C:=s.heap.update a (Obj.mapSeq λ_=>(#[]:AV))
 obtain⟨z,t⟩: ∃z,C.get? a=some (seqObj "list" #[] z):=⟨_,sR v λ_=> #[]⟩
 let g:=(C.push (seqObj "tuple" vs.toArray 0)).push (seqObj "list" #[] 0)
 have N: ∀b o,b≠a->s.heap.get? b=some o->C.get? b=some o:=λb o r e=>(iM _ _ (eC r)).trans e;have L: ∀b o,b≠a->s.heap.get? b=some o->g.get? b=some o:=λb o r e=>ve (N b o r e) _ _;have h:g.get? a=some (seqObj "list" #[] z):=ve t _ _;rw[list_sort_plain];refine ci (listItems_at v rfl ?_);refine ci (qd v rfl ?_ (by rw[dW,db];lia) (gN _));refine ci (wG t rfl ?_);refine ci (wpAny_newTuple ?_ (by show vs.length<=_;rw[db];lia));refine ci (uR ?_ (gN _));refine gQ ?_;show wpAny (model P w) A _ R E {s with heap:=g};dsimp only;have fin: ∀(st:SortSt) (p:Array Nat),Arr vs.length p->nA k p vs.length->(arrOf st).map (·.2)=(fY vs p).toArray->failedOf st=none-> ∀D,D=g->
   wpAny (model P w) A (do
    let d:=(<-seqEpoch a) != z
    Builtin.List.listUpdate (.ref a) λ_=>(arrOf st).map (·.2)
    if let some e:=failedOf st then rule "list.sort.comparison-raised";throw e
    if d then rule "list.sort.modified";raiseError "ValueError" "list modified during sort"
    ret .none) R E {s with heap:=D}:=λst p B up f G D O=>by
  subst O;rw[f];have sz:(fY vs p).toArray.size=vs.length:=by
   rw[dW,cj,dJ,B.size]
  obtain⟨H,I⟩: ∃H,(g.update a (Obj.mapSeq λ_=>(fY vs p).toArray)).get? a=some (seqObj "list" (fY vs p).toArray H):=⟨_,sR h λ_=>(fY vs p).toArray⟩;refine ci (wG h rfl ?_);refine ci (qd h rfl ?_ (gN _) (dt (om sz) (by rw[db];lia)));rw[G];simp only[bne_self_eq_false,Bool.false_eq_true,if_false];exact cu (q p _ H B up I λb o r e=>(iM _ _ (eC r)).trans (L b o r e))
 by_cases T:2<=vs.length
 .have u: ¬vs.toArray.size<2:=by rw[dW];lia
  rw[wA u,wA u];refine ci (gq (ask g L T) (λκ s0 J=>?_) λ_ _ x=>x.elim);obtain⟨rfl,J⟩:=J;refine ci (gq (DM (ks:=vs) (vs:=vs) (k:=k) (Q:=λl M=>M={s with heap:=g}/\ ∃p:Array Nat,Arr vs.length p/\nA k p vs.length/\(arrOf l).map (·.2)=(fY vs p).toArray/\failedOf l=none) rfl (by lia) nd inj J λp l U Y a3 a4=>⟨rfl,p,U,Y,a3,a4⟩) ?_ λ_ _ x=>x);rintro⟨⟨⟩,st⟩ M ⟨rfl,p,B,up,f,G⟩;exact fin st p B up f G _ rfl
 .have u:vs.toArray.size<2:=by rw[dW];lia
  rw[wB u,wB u];refine ci (cu (ci (cu ?_)));refine fin _ (List.range vs.length).toArray (zr _) (λx y xy yn=>by lia) ?_ rfl _ rfl;rw[BP];exact Dw rfl
end
def Jk{H:Hp}{e:As}{d:LN}(c:TupsAt H e d)(nd:d.Nodup):(e.map Value.ref).Nodup:=by
 refine mB.mpr λi j g k o z=>?_;rw[qw,qw]at z;rw[cj]at g k;have z:=Value.ref.inj z;have p:=c.len;have l:=c.is i e[i] (d[i]'(by lia)) (ck g) (ck _);have m:=c.is j e[j] (d[j]'(by lia)) (ck k) (ck _);rw[z,m]at l;have n:d[j]'(by lia)=d[i]'(by lia):=by
  have y:=fH l;injection y with y
  exact(List.map_inj_right (f:=nv) λa b h=>ti (V.int.inj h)).mp y
 have q:=(g7 (i:=j) (j:=i) (by lia) nd).mp (by rw[ck (by lia),ck (by lia),n]);lia
def fK(g:cf->Int)(t u:cf):Bool:=oR (g t) t (g u) u
def kX(g:cf->Int)(f:LN):Total (fK g) f:=by
 refine⟨λx=>?_,λx y z b a=>?_,λx _ y _ h=>?_⟩
 .unfold fK oR;rw[wB rfl,mT]
 .unfold fK oR at b a⊢;by_cases d:g x=g y
  .rw[wB d]at b;by_cases c:g y=g z
   .rw[wB c]at a;rw[wB (by lia)];exact xK _ _ _ b a
   .rw[wA c]at a;have:=gE a;rw[wA (by lia)];exact dD (by lia)
  .rw[wA d]at b;have i:=gE b;by_cases c:g y=g z
   .rw[wA (by lia)];exact dD (by lia)
   .rw[wA c]at a;have j:=gE a;rw[wA (by lia)];exact dD (by lia)
 .unfold fK oR;by_cases e:g x=g y
  .rw[wB e,wB e.symm];exact AT x y h
  .rw[wA e,wA λz=>e z.symm]
   rcases Int.lt_or_gt_of_ne e with q|q
   .exact .inl (dD q)
   .exact .inr (dD q)
def sk(H:Hp)(g:cf->Int)(b a:Ad)(t:cf):Prop:=H b=some (.tup [.int (g t),.ref a])/\H a=some (.tup (t.map nv))
structure KeysAt(H:Hp)(g:cf->Int)(κs as:As)(ts:LN):Prop where
 l1:κs.length=ts.length
 l2:as.length=ts.length
 is: ∀(i:Nat) κ a t,κs[i]? =some κ->as[i]? =some a->ts[i]? =some t->sk H g κ a t
section
variable{X:Cx}{za:AO}{σ:St}{H:Hp}{s:Sh}{g:cf->Int}
def xZ{e a:Ad}{t:cf}(I:Inv X za σ H s)(h:sk H g e a t): ∃o f b n,s.heap.get? e=some o/\o.cls= .type "tuple"/\o.data= .seq #[.int (g t) f,.ref a] n/\Vals (t.map nv) b/\SeqObj "tuple" s.heap a b:=by
 obtain⟨_,b,r,o,k,l,c,m,_⟩:=(show ObjOk X.prog X.w H s.heap e (.tup [.int (g t),.ref a])from I.hok e _ h.1);obtain⟨i,j,rfl,⟨f,rfl⟩,p⟩: ∃i j,b=i::j/\RelV (.int (g t)) i/\Vals [.ref a] j:=by
  cases r with
  |cons x y=>exact⟨_,_,rfl,x,y⟩
 obtain⟨w,rfl,q⟩:=gc p;cases q;obtain⟨d,u,v,_⟩:=I.tuple (SqT.of (K:=X.K) h.2);exact⟨o,f,d,c,k,l,m,u,Hh v⟩
def FP{A:Ar}{c a b d:Ad}{t u:cf}{Q:Bool->Sh->Prop}{E:VP}(O:A.units+8<cLine)(I:Inv X za σ H s)(f:sk H g c a t)(h:sk H g b d u)(q:Q (fK g t u) s):
  wpAny (model X.prog X.w) A (keyLt' (tuples' true) (.ref c) (.ref b)) Q E s:=by
 obtain⟨T,k,p,U,r,Y,v,l,w⟩:=xZ I f;obtain⟨o2,m,x,n2,y,y2,B,n,C⟩:=xZ I h;refine kat_lt r v y B ?_;show KatLex _ _ _ _ _ _ [(Value.int (g t) k,Value.int (g u) m),(Value.ref a,Value.ref d)] 0 s;have z:=eZ (A:=A) (s:=s) (i:=g t) (j:=g u) (t:=k) (u:=m);refine kat_cons ?_;unfold fK oR at q;by_cases e:g t=g u
 .rw[dD e]at z;rw[wB e]at q;refine z _ _ _ _ (kat_yes (kat_cons ?_));obtain⟨D,G,J⟩:=uk I 1 (A:=A) (by lia) (gW (SqT.of (K:=X.K) f.2)) (gW (SqT.of (K:=X.K) h.2)) rfl rfl;refine G _ _ _ _ ?_;cases D with
  |true=>
   have L:=dh.mp (J.mp rfl);subst L;rw[mT]at q;refine kat_yes (kat_nil ?_);exact q
  |false=>
   refine kat_no (kat_one _ _ ?_);have M:t.length=p.length:=by simpa using l.length
   have N:u.length=x.length:=by simpa using n.length
   have o:=Kv (A:=A) w C (by lia) (L7 l n);rw[<-M,<-N]at o;exact show wpAny _ _ (richCompare .Lt _ _) _ _ _ from o _ _ _ _ q
 .rw[d9 e]at z;rw[wA e]at q;exact z _ _ _ _ (kat_no (DS _ q))
theorem Cq{g:cf->Int}(I:Inv X za σ H s): ∀{κs as:As} {ts:LN},KeysAt H g κs as ts-> ∃fs:Vs,KatTups s.heap (κs.map Value.ref) fs/\fs.length=κs.length/\ ∀f∈fs,∃i t,f= .int i t
 | [],as,ts,_=>⟨[],.nil,rfl,λ_ z=>nomatch z⟩
 |κ::κs,[],ts,h=>by have:=h.l1;have:=h.l2;simp at *;lia
 |κ::κs,a::as,[],h=>by have:=h.l1;simp at this
 | κ::κs,a::as,t::ts,h=>by
  obtain⟨fs,b,c,d⟩:=Cq I (κs:=κs) (as:=as) (ts:=ts) ⟨by simpa using h.l1,by simpa using h.l2,λi κ a t j k l=>h.is (i+1) κ a t (by simpa using j) (by simpa using k) (by simpa using l)⟩;obtain⟨o,u,m,n,p,q,r,_⟩:=xZ I (h.is 0 κ a t rfl rfl rfl);exact⟨_::fs,.cons p q r rfl b,by simp[c],λf hf=>by
   rcases dE.mp hf with e|hf
   .exact⟨_,_,e⟩
   .exact d f hf⟩
def KN{A:Ar}{b n:As}{d:LN}(p:A.units+8<cLine)(I:Inv X za σ H s)(z:1<=d.length)(h:KeysAt H g b n d):ya X.prog X.w A (b.map Value.ref) (λi j=>fK g (d.getD i []) (d.getD j [])) s:=by
 obtain⟨fs,q,B,r⟩:=Cq I h;have D:=h.l1;have E:=h.l2;refine kat_kind (T:= .type "int") q (by lia) (λf u=>?_) (by decide) ⟨rfl,λi j C k o v=>?_⟩
 .obtain⟨i,t,rfl⟩:=r f u;exact .now
 .rw[cj]at k o;have e: ∀{i:Nat},i<b.length-> ∃c a,(b.map Value.ref).getD i Value.none= .ref c/\sk H g c a (d.getD i []):=λ{i} k=>by
   obtain⟨c,l⟩: ∃c,b[i]? =some c:=⟨_,ck k⟩;obtain⟨a,m⟩: ∃a,n[i]? =some a:=⟨_,ck (by lia)⟩;refine⟨c,a,?_,h.is i c a _ l m (lU (by lia)).1⟩;rw[dI,cF,l];rfl
  obtain⟨c,a,l,w⟩:=e k;obtain⟨x,G,m,y⟩:=e o;show wpAny (model X.prog X.w) A (keyLt' _ ((b.map Value.ref).getD i Value.none) ((b.map Value.ref).getD j Value.none)) C _ s;rw[l,m];exact FP p I w y v
end
def qc(g:cf->Int):Sp:=λd H Q _=> ∃(a:Ad) (t:cf),d=[.ref a]/\H a=some (.tup (t.map nv))/\ ∀c b,Same H b->b c=some (.tup [.int (g t),.ref a])->Q (.ref c) b
section
variable{X:Cx}{za:AO}{σ:St}{kk:Nat}{f:Ad}{fd:Fd}{ps:Ss}{g:cf->Int}
def Jh{c:Sp}{H:Hp}{s:Sh}{Q:VK}{us:Vs}{vs:List V}(F:FnOk X.prog X.w X.K X.mg X.base cQ kk f fd ps c)(d:Room kk X.A.in1.in1)(i:Binds X.K fd ps [])(I:Inv X za σ H s)(r:Vals vs us)(h:c vs H Q E0):
  wpAny (model X.prog X.w) X.A.in1.in1 (call (.ref f) us) (EP X za σ Q) (λ_ _=>False) s:=by
 have j:(us++[]).length=ps.length:=by rw[gO,<-r.length];exact F.len _ _ _ _ h
 have b:=i s us I.kIn j;rw[gO]at b;refine pH (jq (F.run X.A.in1.in1 X.stack s H ⟨us,[]⟩ us vs Q E0 d I.env0.in1.in1 b r h) λr l a=>?_);cases r with
 |error e=>exact a.elim
 |ok k=>
  cases k with
  |ret u=>exact I.after a
  |next=>exact wE a
  |brk=>exact wE a
  |cont=>exact wE a
def Inv.pin2{H:Hp}{s:Sh}{b c:Ad}{o u:Obj}(I:Inv X za σ H s)(a:FpOk X za H b)(d:FpOk X za H c)(e:s.heap.get? b=some o)(h:s.heap.get? c=some u)(i: ∀v,o.data≠ .cell v)(j: ∀v,u.data≠ .cell v):Inv X ((b,o)::(c,u)::za) σ H s:=
 I.pins_of λp hp=>by
  rcases dE.mp hp with rfl|hp
  .exact⟨e,a.1,a.2.1,a.2.2.1,i⟩
  .rcases dE.mp hp with rfl|hp
   .exact⟨h,d.1,d.2.1,d.2.2.1,j⟩
   .exact I.pin p (fE _ hp)
def Inv.unpin2{H:Hp}{s:Sh}{b c:Ad}{o u:Obj}(I:Inv X ((b,o)::(c,u)::za) σ H s):Inv X za σ H s:=
 I.pins_of λp a=>I.pin p (fE _ (eO _ (eO _ a)))
def FpOk.to{H a:Hp}{b:Ad}(h:FpOk X za H b)(e:a b=none):FpOk X za a b:=⟨e,h.2⟩
theorem BZ{E:VP}{l D:Ad}{w:Nat}{m:Vl->PUnit->Sem (ForInStep PUnit)}{Q:Sh->Prop}(F:FnOk X.prog X.w X.K X.mg X.base cQ kk f fd ps (qc g))(hr:Room kk X.A.in1.in1)(hb:Binds X.K fd ps [])(ne:l≠D)
  (n: ∀x (s:Sh) (C:VP) (Qy:Sh->Prop),wpAny (model X.prog X.w) X.A.in1.in1 (call (.ref f) [x]) C (λ_ _=>False) s->
   (∀k s',C k s'-> ∃O c,s'.heap.get? l=some (seqObj "list" O c)/\O.size<64/\Qy {s' with heap:=s'.heap.update l (Obj.mapSeq (·.push k))})->wpAny (model X.prog X.w) X.A.in1.in1 (m x ⟨⟩) (λr s'=>r= .yield ⟨⟩/\Qy s') E s):
  ∀(r:As) (rt:LN) (H:Hp) (d:As) (c:Nat) (s:Sh),Inv X za σ H s->TupsAt H r rt->s.heap.get? l=some (seqObj "list" (d.map Value.ref).toArray c)->s.heap.get? D=some (seqObj "list" #[] w)->FpOk X za H l->FpOk X za H D->d.length+r.length<64->
   (∀y p c2 M,Inv X za σ y M->Same H y->KeysAt y g p r rt->M.heap.get? l=some (seqObj "list" ((d++p).map Value.ref).toArray c2)->M.heap.get? D=some (seqObj "list" #[] w)->FpOk X za y l->FpOk X za y D->Q M)->
   wpAny (model X.prog X.w) X.A.in1.in1 (forIn (r.map Value.ref) PUnit.unit m) (λ_ s'=>Q s') E s
 | [],[],H,d,c,s,I,T,U,Y,A,N,_,q=>by
  rw[xG,List.forIn_nil];exact cu (q H [] c s I (Same.refl _) ⟨rfl,rfl,λi h a t e=>by simp at e⟩ (by rw[List.append_nil];exact U) Y A N)
 | [],_::_,H,d,c,s,I,T,U,Y,A,N,_,q=>by have:=T.len;simp at this
 |_::_,[],H,d,c,s,I,T,U,Y,A,N,_,q=>by have:=T.len;simp at this
 | a::r,t::rt,H,d,c,s,I,T,U,Y,A,N,ab,q=>by
  rw[i9]at ab;rw[fM,List.forIn_cons];have ha:H a=some (.tup (t.map nv)):=T.is 0 a t rfl rfl;have I1:=I.pin2 A N U Y (λ_ z=>nomatch z) (λ_ z=>nomatch z);have go:=Jh (Q:=λv j=> ∃h,v= .ref h/\Same H j/\j h=some (.tup [.int (g t),.ref a])) F hr hb I1 (us:=[.ref a]) (vs:=[.ref a]) (.cons rfl .nil) ⟨a,t,rfl,ha,λh j B e=>⟨h,rfl,B,e⟩⟩;refine ci (gq (n _ s _ (λs'=> ∃h j G,Inv X za σ j s'/\Same H j/\j h=some (.tup [.int (g t),.ref a])/\s'.heap.get? l=some (seqObj "list" ((d++[h]).map Value.ref).toArray G)/\s'.heap.get? D=some (seqObj "list" #[] w)/\FpOk X za j l/\FpOk X za j D) go λk s' hk=>?_) (λx s' hx=>?_) λ_ _ z=>z)
  .obtain⟨v,j,I',rv,h,rfl,B,J⟩:=hk;cases rv;obtain⟨p1,p2,p3,p4,_⟩:=I'.pin (l,_) (fE _ (dC ..));obtain⟨d1,d2,d3,d4,_⟩:=I'.pin (D,_) (fE _ (eO _ (dC ..)));obtain⟨G,ae⟩: ∃G,(s'.heap.update l (Obj.mapSeq (·.push (Value.ref h)))).get? l=some (seqObj "list" ((d++[h]).map Value.ref).toArray G):=by
    have ea:(List.map Value.ref d).toArray.push (.ref h)=((d++[h]).map Value.ref).toArray:=by simp
    rw[<-ea];exact⟨_,sR p1 (·.push (Value.ref h))⟩
   refine⟨_,_,p1,by rw[dW,cj];lia,h,j,G,?_,B,J,ae,?_,A.to p2,N.to d2⟩
   .obtain⟨_,w1,w2,w3,w4,w5⟩:=A;exact I'.unpin2.turned (t':=s'.toks) (λb o nb e=>(iM _ _ (eC nb)).trans e) p2 w1 w3 w4 w5
   .exact(iM _ _ ne).trans d1
  .obtain⟨rfl,h,j,G,I',B,J,af,ag,g1,g2⟩:=hx;show wpAny _ _ (forIn (r.map Value.ref) PUnit.unit m) _ E s';refine BZ F hr hb ne n r rt j (d++[h]) G s' I' ⟨by simpa using T.len,λi b u w e2=>B _ _ (T.is (i+1) b u (by simpa using w) (by simpa using e2))⟩ af ag g1 g2 (by rw[List.length_append];show d.length+1+r.length<64;lia) λy p c2 M I2 L K2 aa ah h1 h2=>?_;refine q y (h::p) c2 M I2 (B.trans L) ⟨by simp[K2.l1],by simp[K2.l2],λi ai b u w e2 e3=>?_⟩ (by rw[List.append_assoc]at aa;exact aa) ah h1 h2;cases i with
   |zero=>
    cases w;cases e2;cases e3;exact⟨L _ _ J,(B.trans L) _ _ ha⟩
   |succ i=>exact K2.is i ai b u (by simpa using w) (by simpa using e2) (by simpa using e3)
end
section
variable{X:Cx}{za:AO}{σ:St}{H:Hp}{s:Sh}{kk:Nat}{f D:Ad}{fd:Fd}{ps:Ss}{g:cf->Int}{as:As}{ts:LN}{E:VP}
def KE{R:PySem.Fin->Sh->Prop}{n:Nat}(F:FnOk X.prog X.w X.K X.mg X.base cQ kk f fd ps (qc g))(hr:Room kk X.A.in1.in1)(hb:Binds X.K fd ps [])(hu:X.A.units+64<cLine)(I:Inv X za σ H s)(T:TupsAt H as ts)(nd:ts.Nodup)(aj:ts.length<64)
  (ho:s.heap.get? D=some (seqObj "list" (as.map Value.ref).toArray n)) (fD:FpOk X za H D)
  (q: ∀B p s2 c,Inv X za σ B s2->Same H B->Arr ts.length p->nA (λi=>iA (fK g) ts (ts.getD i [])) p ts.length->s2.heap.get? D=some (seqObj "list" (fY (as.map Value.ref) p).toArray c)->FpOk X za B D->R (.done (.ret .none)) s2):
  wpAny (model X.prog X.w) X.A.in1.in1 (ksk_tree D (.ref f) false) R E s:=by
 have la:=T.len;have G:(as.map Value.ref).length=ts.length:=by rw[cj,la]
 have lD:D<s.heap.objs.size:=cU ho;obtain⟨d0,d1,d2,d3,d4,d5⟩:=fD
 let h1:=s.heap.update D (Obj.mapSeq λ_=>(#[]:AV))
 obtain⟨t,J⟩: ∃t,h1.get? D=some (seqObj "list" #[] t):=⟨_,sR ho λ_=> #[]⟩;have I1:Inv X za σ H {s with heap:=h1}:=I.turned (t':=s.toks) (λb o L e=>(iM _ _ (eC L)).trans e) d0 d1 d3 d4 d5
 let m:=h1.push (seqObj "tuple" (as.map Value.ref).toArray 0)
 have I3:Inv X za σ H {s with heap:=m.push (seqObj "list" #[] 0)}:=I1.kept (t':=s.toks) λb o e=>ve e _ _;have ab:(m.push (seqObj "list" #[] 0)).get? D=some (seqObj "list" #[] t):=ve J _ _;have ae:(m.push (seqObj "list" #[] 0)).get? m.objs.size=some (seqObj "list" ((([]:As)).map Value.ref).toArray 0):=dZ _ rfl;have lk:s.heap.objs.size<=m.objs.size:=by
  show _<=(h1.push _).objs.size;rw[size_push'];show _<=(s.heap.update D _).objs.size+1;rw[Heap.size_update];exact oA _
 have fk:FpOk X za H m.objs.size:=I.fpOk lk (I.hok.fresh lk);have ne:m.objs.size≠D:=j6 (fN lD lk);unfold ksk_tree;refine ci (listItems_at ho rfl ?_);refine ci (qd ho rfl ?_ (by rw[dW,db];lia) (gN _));refine ci (wG J rfl ?_);refine ci (wpAny_newTuple ?_ (by show(as.map Value.ref).length<=_;rw[db];lia));refine ci (uR ?_ (gN _));refine gQ ?_;show wpAny (model X.prog X.w) X.A.in1.in1 (ksk_rest D (.ref f) false (as.map Value.ref).toArray t (.ref m.objs.size)) R E {s with heap:=m.push (seqObj "list" #[] 0)};unfold ksk_rest;refine ci (lZ ?_);rw[List.forIn_toArray];refine ci (BZ F hr hb ne (λx s0 C Qy hx hC=>?_) as ts H [] 0 _ I3 T ae ab fk ⟨d0,d1,d2,d3,d4,d5⟩ (by simp;lia) λB r c2 s2 I2 gg M eS eD f1 f2=>?_)
 .refine ci (nM (gq hx (λk s' N=>?_) λ_ _ z=>z.elim));obtain⟨af,c,e,l,qy⟩:=hC k s' N;refine ci (qd e rfl ?_ (by rw[db];lia) (by show(af.push k).size<=_;rw[mM,db];lia));exact cu ⟨rfl,qy⟩
 rw[ub]at eS;have O:(r.map Value.ref).length=(as.map Value.ref).length:=by rw[cj,G,M.l1]
 refine ci (listItems_at eS rfl ?_);have fin: ∀(st:SortSt) (p:Array Nat),Arr ts.length p->nA (λi=>iA (fK g) ts (ts.getD i [])) p ts.length->(arrOf st).map (·.2)=(fY (as.map Value.ref) p).toArray->failedOf st=none->
   wpAny (model X.prog X.w) X.A.in1.in1 (ksk_tail D false t (.ref m.objs.size) st) R E s2:=λst p ar up u hf=>by
  have sz:(fY (as.map Value.ref) p).toArray.size=ts.length:=by
   rw[dW,cj,dJ,ar.size]
  unfold ksk_tail
  try dsimp only
  rw[u];have I4:Inv X za σ B {s2 with heap:=s2.heap.update m.objs.size (Obj.mapSeq λ_=>(#[]:AV))}:=by
   obtain⟨w0,w1,w2,w3,w4,w5⟩:=f1;exact I2.turned (t':=s2.toks) (λb o L e=>(iM _ _ (eC L)).trans e) w0 w1 w3 w4 w5
  have v:(s2.heap.update m.objs.size (Obj.mapSeq λ_=>(#[]:AV))).get? D=some (seqObj "list" #[] t):=(iM _ _ ne).trans eD;obtain⟨c5,ag⟩: ∃c5,((s2.heap.update m.objs.size (Obj.mapSeq λ_=>(#[]:AV))).update D (Obj.mapSeq λ_=>(fY (as.map Value.ref) p).toArray)).get? D=some (seqObj "list" (fY (as.map Value.ref) p).toArray c5):=⟨_,sR v λ_=>(fY (as.map Value.ref) p).toArray⟩;refine ci (qd eS rfl ?_ (by rw[dW,db];lia) (gN _));refine ci (wpAny_letGo ?_);refine ci (wG v rfl ?_);refine ci (qd v rfl ?_ (gN _) (by show(fY (as.map Value.ref) p).toArray.size<=_;rw[sz,db];lia));rw[hf];simp only[bne_self_eq_false,Bool.false_eq_true,if_false];refine cu (q B p _ c5 ?_ gg ar up ag f2);obtain⟨w0,w1,w2,w3,w4,w5⟩:=f2;exact I4.turned (t':=s2.toks) (λb o L e=>(iM _ _ (eC L)).trans e) w0 w1 w3 w4 w5
 unfold ksk_end;simp only[Bool.false_eq_true,if_false];by_cases ak:2<=ts.length
 .have U: ¬(as.map Value.ref).toArray.size<2:=by rw[dW];lia
  rw[wA U,wA U];have To:=kX g ts;have inj:=CW (d:=([]:cf)) To nd;refine ci (gq (KN (A:=X.A.in1.in1) (by show X.A.units+1+1+8<cLine;lia) I2 (by lia) M) (λκ s0 N=>?_) λ_ _ x=>x.elim);obtain⟨rfl,N⟩:=N;have ai:r.length=ts.length:=M.l1;have Y:(r.map Value.ref).Nodup:=by
   refine mB.mpr λi j hi hj ij z=>?_;rw[qw,qw]at z;rw[cj]at hi hj;have z:=Value.ref.inj z;have t:=M.is i r[i] (as[i]'(by lia)) (ts[i]'(by lia)) (ck hi) (ck _) (ck _);have e2:=M.is j r[j] (as[j]'(by lia)) (ts[j]'(by lia)) (ck hj) (ck _) (ck _);obtain⟨t,ah⟩:=t;obtain⟨e2,aa⟩:=e2;rw[z,e2]at t;have ea:as[j]'(by lia)=as[i]'(by lia):=by
    have y:=fH t;injection y with y
    injection y with _ y
    injection y with y
    exact V.ref.inj y
   rw[ea]at aa;have et:ts[j]'(by lia)=ts[i]'(by lia):=by
    have y:=fH (aa.symm.trans ah);injection y with y
    exact(List.map_inj_right (f:=nv) λa b h=>ti (V.int.inj h)).mp y
   have e4:=(g7 (i:=j) (j:=i) (by lia) nd).mp (by rw[ck (by lia),ck (by lia),et]);lia
  refine ci (gq (DM (ks:=r.map Value.ref) (vs:=as.map Value.ref) (k:=λi=>iA (fK g) ts (ts.getD i [])) (Q:=λw s'=>s'=s0/\ ∃p:Array Nat,Arr ts.length p/\nA (λi=>iA (fK g) ts (ts.getD i [])) p ts.length/\(arrOf w).map (·.2)=(fY (as.map Value.ref) p).toArray/\failedOf w=none) O (by lia) Y (by rw[G];exact inj) (λi j C li lj hC=>N i j C (by lia) (by lia) (by
   have e:=To.asks (lU (d:=([]:cf)) (show i<ts.length by lia)).2 (lU (d:=([]:cf)) (show j<ts.length by lia)).2;show C (fK g (ts.getD i []) (ts.getD j [])) _
   rw[<-e];exact hC)) λp w a1 a2 a3 a4=>⟨rfl,p,by rw[<-G];exact a1,by rw[<-G];exact a2,a3,a4⟩) ?_ λ_ _ x=>x)
  rintro⟨⟨⟩,st⟩ s' ⟨rfl,p,ar,up,u,hf⟩;exact fin st p ar up u hf
 .have U:(as.map Value.ref).toArray.size<2:=by rw[dW];lia
  rw[wB U,wB U];refine ci (cu (ci (cu ?_)));refine fin _ (List.range ts.length).toArray (zr _) (λx y xy yn=>by lia) ?_ rfl;rw[<-G,BP];exact Dw O
end
section
variable{X:Cx}{za:AO}{σ:St}{H:Hp}{s:Sh}{d:Ad}{kvs:List (List cZ×V)}{ts:LN}
def Dl(I:Inv X za σ H s)(h:H d=some (.dT kvs))(e:kvs.map (·.1)=ts.map nk): ∃E g x,Lies s.heap d g x/\(d==sysModules)=false/\TupsAt H E ts/\(∀(i:Nat) (A:DictEntry),g[i]? =some A-> ∃a,E[i]? =some a/\A.key= .ref a)/\g.size=ts.length/\ts.Nodup/\ts.length<=sizeLine:=by
 obtain⟨z,N,l,c,o,g,x,O,Q,T,G,nd⟩:=(show ObjOk X.prog X.w H s.heap d (.dT kvs)from I.hok d _ h);have U:kvs.length=l.length:=lV c;have l2:kvs.length=ts.length:=by rw[<-cj (f:=(·.1)) (as:=kvs),e,cj]
 have le:g.size=l.length:=vx G;have B: ∀(i:Nat) (t:cf),ts[i]? =some t-> ∃k v y u,kvs[i]? =some (k,v)/\l[i]? =some (k,y,u)/\k=nk t/\H y=some (.tup (t.map nv)):=λi t r=>by
  have li:=(cA.mp r).1;obtain⟨⟨k,v⟩,j⟩: ∃p,kvs[i]? =some p:=⟨_,ck (by lia)⟩;obtain⟨⟨Y,y,u⟩,m,C,p2,p3⟩:=vG c j;have J:k=nk t:=by
   have w:(kvs.map (·.1))[i]? =some k:=by rw[cF,j];rfl
   rw[e,cF,r]at w;exact(fH w).symm
  have D:k=Y:=C;subst D;refine⟨k,v,y,u,j,m,J,?_⟩;have n:H y=some (.tup (k.map kV)):=p2;rw[J,hZ]at n;exact n
 refine⟨l.map (·.2.1),g,x,⟨o,O,Q,T⟩,N,⟨by rw[cj];lia,λi b t L r=>?_⟩,λi A M=>?_,by lia,?_,by lia⟩
 .obtain⟨k,v,y,u,_,m,_,hy⟩:=B i t r;rw[cF,m]at L;cases L;exact hy
 .rw[entry_at G]at M;obtain⟨q,eq,rfl⟩:=dR.mp M;exact⟨q.2.1,by rw[cF,eq];rfl,rfl⟩
 .have w:(l.map (·.1))=ts.map nk:=by
   rw[<-e];refine lJ λi=>?_;rw[cF,cF];cases j:kvs[i]? with
   |none=>rw[hG (by rw[<-U];exact List.getElem?_eq_none_iff.mp j)];rfl
   |some p=>
    obtain⟨q,m,C,_⟩:=vG c j;rw[m];exact dn some C.symm
  rw[w]at nd;exact(nJ.mp nd).imp λh z=>h (dn nk z)
def FL{f:As}{e:Array DictEntry}{b:AV}(is: ∀(i:Nat) (c:DictEntry),e[i]? =some c-> ∃a,f[i]? =some a/\c.key= .ref a)(o:f.length=e.size)(g:ItemsOf (λi v=> ∃c,e[i]? =some c/\v=c.key) b e.size):b.toList=f.map Value.ref:=by
 refine lJ λi=>?_;by_cases h:i<e.size
 .obtain⟨v,j⟩: ∃v,b[i]? =some v:=⟨_,iJ (by rw[g.1];exact h)⟩;obtain⟨c,k,l⟩:=g.2 i v j;obtain⟨a,m,n⟩:=is i c k;rw[iC,j,cF,m,l,n];rfl
 .rw[hG (by rw[dJ,g.1];lia),hG (by rw[cj];lia)]
theorem Bf: ∀l:As,Vals (l.map V.ref) (l.map Value.ref)
 | []=> .nil
 |x::l=> .cons rfl (Bf l)
end
section
variable{X:Cx}
def Ao(g:cf->Int):List V->Hp->VK->Prop:=λf H Q=> ∃d a c,f=[V.ref d]/\H d=some (.dT a)/\a.map (·.1)=c.map nk/\c.length<64/\
 ∀D bs e b,Same H b->H D=none->b D=some (.lst (bs.map V.ref))->TupsAt b bs e->e.Perm c->e.Pairwise (λx y=>fK g x y=true)->Q (.ref D) b
def CB{a:As}{p:Array Nat}(b:Arr a.length p):fY (a.map Value.ref) p=(p.toList.map λi=>a.getD i 0).map Value.ref:=by
 unfold fY;rw[hI];refine lK λi c=>?_;have d:i<a.length:=by
  have m:=(kq.mp b).mem_iff.mp c;simpa using m
 show(a.map Value.ref).getD i Value.none=Value.ref (a.getD i 0);rw[dI,dI,cF,ck d];rfl
def IW{x:Nat}{f:Ad}{y:Fd}{B:Ss}{g:cf->Int}{k:AO}{n:St}{H:Hp}{s:Sh}{Q:VK}{d:Ad}(N:X.calm=true)(O:X.A.units+64<cLine)(F:FnOk X.prog X.w X.K X.mg X.base cQ x f y B (qc g))(U:Room x X.A.in1.in1)(Y:Binds X.K y B [])(I:Inv X k n H s)
  (h:Ao g [.ref d] H Q):wpAny (model X.prog X.w) X.A (call (.builtin "sorted") [.ref d] [(Str.ofString "key",.ref f)]) (EP X k n Q) X.xe s:=by
 obtain⟨d',aa,ts,e0,hd,e,u,q⟩:=h;cases e0;obtain⟨a,es,ep,L,nm,T,is,le,nd,v⟩:=Dl I hd e;refine call_function_entry_kw kind_sorted plain_sorted entry_sorted (ksk_s1 _ _) ?_;unfold Builtin.«sorted»;refine ci (m:=checkCount "sorted" 1 1 _) (cu ?_);refine ci (kdu_collect (A:=X.A.in1) (uo nm) (by simpa using I.ok.hd N) L (by lia) λj r ab keep it=>?_);have ea:=FL is (by rw[T.len,le]) it;rw[ea];have t:Inv X k n H {s with heap:=j,toks:=r}:=I.kept keep;refine ci (uR ?_ (by rw[cj,T.len,db];lia));have C:(j.push (seqObj "list" (a.map Value.ref).toArray 0)).get? j.objs.size=some (seqObj "list" (a.map Value.ref).toArray 0):=dZ _ rfl;have I2:Inv X k n H {s with heap:=j.push (seqObj "list" (a.map Value.ref).toArray 0),toks:=r}:=t.kept (t':=r) λb o z=>dj _ z;have D:H j.objs.size=none:=t.hok.fresh (cD _);have fD:FpOk X k H j.objs.size:=t.fpOk (cD _) D;refine ci (gQ (wpAny_call_entry_kw slot_list_sort ⟨_,C,rfl⟩ AS (KE (s:={s with heap:=j.push (seqObj "list" (a.map Value.ref).toArray 0),toks:=r}) F U Y O I2 T nd u C fD λH2 p s2 c Iz E l up G f2=>⟨_,rfl,?_⟩) (ksk_l1 _ _)));have w:Arr a.length p:=by rw[T.len];exact l
 rw[CB w]at G;have T2:=(T.same E).pick l;obtain⟨J,w1,w2,w3,w4,w5⟩:=f2;have few:((p.toList.map λi=>a.getD i 0).map V.ref).length<=sizeLine:=by
  rw[cj,cj,dJ,l.size];exact v
 have I5:=Iz.track (o:= .lst ((p.toList.map λi=>a.getD i 0).map V.ref)) J ⟨few,_,c,Bf _,G⟩ (dt t.sz (cD _)) w1 w4 w5;have M:=cB J (.lst ((p.toList.map λi=>a.getD i 0).map V.ref));exact cu ⟨_,rfl,.ref j.objs.size,_,I5,rfl,q _ _ _ _ (E.trans M) D cn (T2.same M) (Fb l) (Fg (kX g ts) l up)⟩
def Lc(g:cf->Int)(a:TE):TE:=λb H Q=>a b H λx c=> ∃d,x= .ref d/\Ao g [.ref d] c Q
def KA{m:Nat}{t:Ss}{g:cf->Int}{a:Str}{e:Expr}{b:TE}{p v w pos:Pos}(y:X.calm=true)(z:X.A.units+64<cLine)(A:dw X.prog X.w X.K X.mg X.base a m t (qc g))(B:Room (m+2) X.A)(C:Gl X "sorted")(D:X.mg "sorted"=none)(c:Gl X a)(E:PE X e b)
  (i:(a==("__debug__":Str))=false:=by decide) (j:starEach [e] X.env=[(false,eval e X.env)]:=by rfl):PE X (.Call (.Name "sorted" p) [e] [⟨some "key",.Name a v,w⟩] pos) (Lc g b):=by
 intro G s J H Q I h;obtain⟨f,O,F,k,T,L⟩:=A;refine pA (oZ I C D boot_sorted ?_);refine callWith_kw ?_ (by rw[j];rfl) (by rw[j];rfl);have M:PA X [e] (i0 b iH):=cE E cz j;refine cG (M pos G s J H (λl n=>match l with| [x]=> ∃d,x= .ref d/\Ao g [.ref d] n Q|_=>False) I h) λU Y ⟨l,n,o,r,q⟩=>?_
 match l,r,q with
 | [x],r,q=>
  obtain⟨d,rfl,q⟩:=q;obtain⟨u,rfl,N⟩:=gc r;cases N;refine kws_cons (we o c k (kws_nil ?_) i);exact IW y z F B.in1.in1 L o q
end
end L2
namespace L2
open PySem PySem.Spec PyProof.Rows
section
variable{X:Cx}{za:AO}{σ:St}{H:Hp}{s:Sh}{d:Ad}{kvs:List (List cZ×V)}{ts:LN}{o:Obj}
def Inv.freeze(I:Inv X za σ H s)(h:H d=some (.dT kvs))(e:s.heap.get? d=some o):Inv X za σ (cg H d (.frz o (.dT kvs))) s:=by
 obtain⟨z,b,c,a,f,g,i,j,k,l,m,nd⟩:=(show ObjOk X.prog X.w H s.heap d (.dT kvs)from I.hok d _ h);refine I.write (x:=d) (e:=d) (h':=s.heap) (t':=s.toks) (by rw[h];exact True.intro) (.inl rfl) (λ_ _ _ q=>q) ⟨o,e⟩ ⟨e,z,b,c,Paired.mapP a λp q r=>⟨r.1,?_,r.2.2⟩,f,g,i,j,k,l,m,nd⟩;rw[cw (nE r.2.1 h)];exact r.2.1
def xW(I:Inv X za σ H s)(h:H d=some (.frz o (.dT kvs)))(e:kvs.map (·.1)=ts.map nk): ∃r c l,s.heap.get? d=some o/\o.ExactDict/\o.data= .dict c l/\(d==sysModules)=false/\TupsAt H r ts/\(∀(i:Nat) (m:DictEntry),c[i]? =some m-> ∃a,r[i]? =some a/\m.key= .ref a)/\c.size=ts.length:=by
 obtain⟨w,z,J,n,g,U,c,l,x,L,M,A,nd⟩:=(show ObjOk X.prog X.w H s.heap d (.frz o (.dT kvs))from I.hok d _ h);rw[w]at x;cases x;have Y:kvs.length=n.length:=lV g;have l2:kvs.length=ts.length:=by rw[<-cj (f:=(·.1)) (as:=kvs),e,cj]
 have le:c.size=n.length:=vx A;refine⟨n.map (·.2.1),c,l,w,L,M,J,⟨by rw[cj];lia,λi b t B C=>?_⟩,λi m D=>?_,by lia⟩
 .have li:=(cA.mp C).1;obtain⟨⟨k,v⟩,E⟩: ∃p,kvs[i]? =some p:=⟨_,ck (by lia)⟩;obtain⟨⟨k',y,u⟩,N,p1,O,p3⟩:=vG g E;have Q:k=nk t:=by
   have G:(kvs.map (·.1))[i]? =some k:=by rw[cF,E];rfl
   rw[e,cF,C]at G;exact(fH G).symm
  rw[cF,N]at B;cases B;have j:H y=some (.tup (k.map kV)):=O;rw[Q,hZ]at j;exact j
 .rw[entry_at A]at D;obtain⟨q,T,rfl⟩:=dR.mp D;exact⟨q.2.1,by rw[cF,T];rfl,rfl⟩
end
def nZ(d:Ad)(o:Obj):It:=
  ⟨λi H=> ∃(b:List (List cZ×V)) (c:LN) (t:cf),H d=some (.frz o (.dT b))/\b.map (·.1)=c.map nk/\c[i]? =some t,
   λi H x e=>e=H/\ ∃a,x= .ref a/\ ∀(b:List (List cZ×V)) (c:LN),H d=some (.frz o (.dT b))->b.map (·.1)=c.map nk-> ∃t:cf,c[i]? =some t/\H a=some (.tup (t.map nv)),
   λi H=> ∃b,∃c:LN,H d=some (.frz o (.dT b))/\b.map (·.1)=c.map nk/\c.length<=i⟩
def K6{c d:LN}(h:c.map nk=d.map nk):c=d:=qb (λa b e=>xz e) h
def Hd{P:Pg}{w:World}{K:W.Frag}{tg:Expr}{d c:Ad}{o:Obj}{y:Array DictEntry}{ep:Nat}(ne:d≠c)(l:o.data= .dict y ep)(ox:o.ExactDict):Turn P w K tg (nZ d o) [c] c (λi h=>h.get? c=some (nC d i y.size ep)) where
 mem:=by simp
 obj:=λi h st b f=>by
  have e:b=c:=by simpa using f
  subst e;exact⟨_,st,λv z=>by
   have z':Data.fields _=Data.cell v:=z;cases z'⟩
 keep:=λi h m st k=>k c (by simp) _ st
 item:=by
  intro X A hw B hc i za s σ H E I p st C;subst A hw B;obtain⟨D,ts,t,r,u,x⟩:=C;obtain⟨as,G,J,L,e2,g,nm,T,is,le⟩:=xW I r u;rw[l]at g;cases g;obtain⟨M,N,f2,O,U,Y⟩:=p c (by simp);have li:=(cA.mp x).1;obtain⟨en,ee⟩: ∃en,y[i]? =some en:=⟨_,iJ (by lia)⟩;obtain⟨a,ea,ek⟩:=is i en ee;refine E3 st ⟨o,L,ox,l⟩ ee λm j sb=>?_;have I1:Inv X za σ H {s with heap:=m}:=I.turned (t':=s.toks) (λb o f e=>(sb.2 b f).trans e) M N O U Y;refine⟨_,rfl,wh (s:={s with heap:=m}) (n:="dict_keyiterator") j rfl rfl (by decide) ⟨.ref a,H,I1,ek,⟨rfl,a,rfl,λaa ab g1 g2=>?_⟩,j,λb f=>(p b f).1⟩⟩;rw[r]at g1;cases g1;have tt:=K6 (u.symm.trans g2);subst tt;exact⟨t,x,T.is i a t ea x⟩
 done:=by
  intro X A hw B hc i za s σ H E I p st C;subst A hw B;obtain⟨D,ts,r,u,x⟩:=C;obtain⟨as,G,J,L,e2,g,nm,T,is,le⟩:=xW I r u;rw[l]at g;cases g;obtain⟨M,N,f2,O,U,Y⟩:=p c (by simp);exact DQ (I.ok.hd hc) st ⟨o,L,ox,l⟩ (BB (by lia)) λm eb=>⟨rfl,I.turned (t':=s.toks) (λb o f e=>eb b o f e) M N O U Y⟩
 self:=λ_ i s Q E st q=>by
  have ty:s.TypeIs (.ref c) "dict_keyiterator":=⟨_,st,rfl⟩;refine pR ty xO (iK xO ty Dc ?_ (Ca _));exact show wpAny _ _ (ret (.ref c)) _ _ s from cu ⟨_,rfl,"dict_keyiterator",_,ty,pz.lookup,q⟩
section
variable{X:Cx}{tg:Expr}
def IY(H:Hp)(d:Ad)(o:Obj)(a:List (List cZ×V))(b:Hp):Prop:=(H d=some (.frz o (.dT a))/\b=H)∨(H d=some (.dT a)/\b=cg H d (.frz o (.dT a)))
def sT(e:TE):TI:=λf H R=>e f H λx b=> ∃d a,∃g:LN,x= .ref d/\a.map (·.1)=g.map nk/\(b d=some (.dT a)∨ ∃o,b d=some (.frz o (.dT a)))/\ ∀o c,IY b d o a c->R (nZ d o) c
def Ck{l:Expr}{tl:TE}(y:PE X l tl):PI X tg l (sT tl):=by
 intro k s m H R I h;refine cG (y k s m H _ I h) λv c ⟨x,p,n,z,A⟩=>?_;obtain⟨d,f,E,e,B,w,q⟩:=A;subst e;cases z;have go: ∀(g:Hp) (o:Obj),Inv X k m g c->g d=some (.frz o (.dT f))->R (nZ d o) g->wpAny (model X.prog X.w) X.A (pyIter (.ref d)) (yo X k m tg R) X.xe c:=λg o i a r=>by
  obtain⟨G,J,L,j,t,u,C,T,is,M⟩:=xW i a B;refine EA C ⟨o,j,t,u⟩ ?_;refine⟨c.heap.objs.size,[c.heap.objs.size],_,_,g,rfl,i.kept (t':=c.toks) λb o e=>dj _ e,Hd (dH (cU j)) u t,dZ _ rfl,λb D=>?_,r⟩;have e:b=c.heap.objs.size:=by simpa using D
  subst e;exact i.fpOk (cD _) (i.hok.fresh (cD _))
 rcases w with a|⟨o,a⟩
 .obtain⟨_,_,_,_,o,_,_,j,_⟩:=(show ObjOk X.prog X.w p c.heap d (.dT f)from n.hok d _ a);exact go _ o (n.freeze a j) cn (q o _ (.inr ⟨a,rfl⟩))
 .exact go p o n a (q o _ (.inl ⟨a,rfl⟩))
end
section
variable{d:Ad}{o:Obj}{kvs:List (List cZ×V)}{ts:LN}{vs:Ss}{g:TG}{tt:TT}{te:TE}{σ:St}{H:Hp}{Fin:List V->Hp->Prop}
def JI(j:kvs.map (·.1)=ts.map nk)(Pv:Nat->List V->Hp->Prop)(E:ts.length<=sizeLine)(l:Pv 0 [] H)(n: ∀i c H,i<=ts.length->Pv i c H->H d=some (.frz o (.dT kvs))/\c.length<=i)
  (r: ∀i a t c H,ts[i]? =some t->H a=some (.tup (t.map nv))->Pv i c H->g (.ref a) (iv vs σ) H λf s=>ov (iv vs σ) f/\tt f s λb k=>if b=true then te f k λy u=>Pv (i+1) (c++[y]) u else Pv (i+1) c k)
  (w: ∀c H,Pv ts.length c H->Fin c H):nS vs g tt te σ (nZ d o) H Fin:=by
 refine⟨λi m c H=>m=ts.length-i/\i<=ts.length/\Pv i c H,⟨ts.length,by simp,Nat.zero_le _,l⟩,?_⟩;rintro i m c H ⟨rfl,x,p⟩;obtain⟨q,G⟩:=n i c H x p;by_cases h:i<ts.length
 .refine .inr ⟨⟨kvs,ts,ts[i],q,j,by simp[h]⟩,by lia,Pv (i+1),λzs z A=>⟨ts.length-(i+1),Nat.sub_succ_lt_self _ _ h,rfl,h,A⟩,λv z y=>?_⟩;obtain⟨e,a,B,y⟩:=y;subst e B;obtain⟨t,C,D⟩:=y kvs ts q j;exact r i a t c _ C D p
 .have e:i=ts.length:=by lia
  subst e;exact .inl ⟨⟨kvs,ts,q,j,cD _⟩,by lia,w c H p⟩
end
section
variable{d:Ad}{o:Obj}{kvs:List (List cZ×V)}{ts:LN}{g:TG}{tb:TS}{D:Ends}{σ:St}{H:Hp}
def Ja(j:kvs.map (·.1)=ts.map nk)(Pv:Nat->St->Hp->Prop)(n:Pv 0 σ H)(r: ∀i σ H,i<=ts.length->Pv i σ H->H d=some (.frz o (.dT kvs)))
  (s: ∀i a t σ H,ts[i]? =some t->H a=some (.tup (t.map nv))->Pv i σ H->g (.ref a) σ H λb k=>tb {D with nx:=Pv (i+1),ct:=Pv (i+1),bk:=D.nx} b k) (u: ∀σ H,Pv ts.length σ H->D.nx σ H):
  ∃W:Nat->Nat->St->Hp->Prop,(∃m,W 0 m σ H)/\ ∀i m σ H,W i m σ H->
   ((nZ d o).stop i H/\D.nx σ H)∨((nZ d o).go i H/\ ∃N:St->Hp->Prop,(∀c f,N c f-> ∃l,l<m/\W (i+1) l c f)/\ ∀x f,(nZ d o).yld i H x f->g x σ f λb k=>tb {D with nx:=N,ct:=N,bk:=D.nx} b k):=by
 refine⟨λi m σ H=>m=ts.length-i/\i<=ts.length/\Pv i σ H,⟨ts.length,by simp,Nat.zero_le _,n⟩,?_⟩;rintro i m σ H ⟨rfl,v,p⟩;have q:=r i σ H v p;by_cases h:i<ts.length
 .refine .inr ⟨⟨kvs,ts,ts[i],q,j,by simp[h]⟩,Pv (i+1),λc f w=>⟨ts.length-(i+1),Nat.sub_succ_lt_self _ _ h,rfl,h,w⟩,λx f y=>?_⟩;obtain⟨e,a,z,y⟩:=y;subst e z;obtain⟨t,A,B⟩:=y kvs ts q j;exact s i a t σ _ A B p
 .have e:i=ts.length:=by lia
  subst e;exact .inl ⟨⟨kvs,ts,q,j,cD _⟩,u σ H p⟩
end
section
variable{X:Cx}{za:AO}{σ:St}{H:Hp}{s:Sh}{h':Heap}{t':Nat}
def Inv.turnedN{ch:As}(I:Inv X za σ H s)(k: ∀b o,b∉ch->s.heap.get? b=some o->h'.get? b=some o)(f: ∀b∈ch,FpOk X za H b):Inv X za σ H {s with heap:=h',toks:=t'}:=by
 have g: ∀b u,H b=some u->b∉ch:=λb u e a=>by rw[(f b a).1]at e;cases e
 refine I.step (h':=h') (H':=H) (g':=s.gens) (t':=t') (d':=s.drawn) (ch:=ch) (λb a=>?_) (λb o _ _ d e _=>k b o d e) (λb o _ _ d e _=>⟨o.slots,k b o d e⟩) (λb o _ _ n=>n) (λb o d e=>⟨o,k b o d e⟩)
  (λb t q=>q) (λb o u q=>q) (λb v q=>⟨#[],by rw[q];simp⟩) (λm h=>?_) (λb u q=>?_) I.bare
 .obtain⟨_,i,_,j,l,p⟩:=f b a;exact⟨j,i,l,p⟩
 .exact h.at' λo e=>k _ o (λa=>(f _ a).2.1 rfl) e
 .refine(I.hok b u q).stay (λc o r e=>k c o ?_ e) (λ_ z=>z) λ_ _ z=>z
  rcases r with z|z
  .rw[z];exact g b u q
  .exact g c _ z
end
structure ZipL(h:Heap)(z TI TO i1 i2 t1 t2:Ad)(f0:Vl)(i:Nat):Prop where
 zip:IsZip h z TI TO f0
 ins:IsPair h TI (.ref i1) (.ref i2)
 out: ∃a b,IsPair h TO a b
 one:h.IsListIter i1 t1 i
 two:h.IsListIter i2 t2 i
def KQ{n a b:Nat}(c:a<n)(d:b<n):ZipApart (n+4) (n+2) (n+3) n (n+1) a b:=by
 constructor<;>(intro h;have e:(_:Nat)=_:=h;lia)
def Dz{z TO a b c:Ad}(h:c∉[z,TO,a,b]):c≠z/\c≠TO/\c≠a/\c≠b:=by
 simp only[List.mem_cons,List.not_mem_nil,or_false,not_or]at h;exact h
def uD(K:W.Frag)(c d:Ad):It:=
  ⟨λi H=> ∃a b x y,SqL K H c a/\SqL K H d b/\a[i]? =some x/\b[i]? =some y,
   λi H v e=> ∃T x y,v= .ref T/\H T=none/\e=cg H T (.tup [x,y])/\(∀a,SqL K H c a->a[i]? =some x)/\ ∀b,SqL K H d b->b[i]? =some y,
   λi H=> ∃a b,SqL K H c a/\SqL K H d b/\(a.length<=i∨b.length<=i)⟩
def Ms{P:Pg}{w:World}{K:W.Frag}{t:List Expr}{x1:Nat}{pos:Pos}{z TI TO g j L M:Ad}(D:ZipApart z TI TO g j L M):
  Turn P w K (.Tuple t x1 pos) (uD K L M) [z,TI,TO,g,j] z (λi h=>ZipL h z TI TO g j L M .none i) where
 mem:=dC ..
 obj:=λi h Z b f=>by
  obtain⟨a0,b0,n⟩:=Z.out;simp only[List.mem_cons,List.not_mem_nil,or_false]at f
  rcases f with rfl|rfl|rfl|rfl|rfl
  .exact⟨_,Z.zip,λv q=>by cases q⟩
  .exact⟨_,Z.ins,λv q=>by cases q⟩
  .exact⟨_,n,λv q=>by cases q⟩
  .obtain⟨o,e,c,d⟩:=Z.one;exact⟨o,e,λv z=>by rw[d]at z;cases z⟩
  .obtain⟨o,e,c,d⟩:=Z.two;exact⟨o,e,λv z=>by rw[d]at z;cases z⟩
 keep:=λi h h' Z k=>⟨k z (by simp) _ Z.zip,k TI (by simp) _ Z.ins,let⟨a,b,o⟩:=Z.out;⟨a,b,k TO (by simp) _ o⟩,Z.one.at λo e=>k g (by simp) o e,Z.two.at λo e=>k j (by simp) o e⟩
 item:=by
  intro X Y hw hK hc i N s O H E I A Z hg;subst Y hw hK;obtain⟨xs,ys,x,y,Q,T,hx,hy⟩:=hg;obtain⟨aa,rv,p1,_⟩:=I.list Q;obtain⟨B,p,p2,_⟩:=I.list T;obtain⟨u,hu,ru⟩:=rv.get hx;obtain⟨v,hv,ab⟩:=p.get hy;obtain⟨ae,af,l⟩:=Z.out;refine wpAny_pyNext_zip_item D Z.zip Z.ins l Z.one Z.two p1.isList p2.isList (x:=u) (y:=v) (by simpa using hu) (by simpa using hv) λr c1 c2 c3 c4 pr _ U=>?_;have k1: ∀c o,c∉[z,TO,g,j]->s.heap.get? c=some o->r.get? c=some o:=λc o nc e=>let⟨n1,n2,n3,n4⟩:=Dz nc;U c o n1 n2 n3 n4 e
  have C:ZipL r z TI TO g j L M (rawInt s.heap.objs.size) (i+1):=⟨c1,U _ _ D.TIz D.TITO D.TIi1 D.TIi2 Z.ins,⟨_,_,c2⟩,c3,c4⟩;have sub: ∀b∈[z,TO,g,j],b∈[z,TI,TO,g,j]:=λb f=>by simp only[List.mem_cons,List.not_mem_nil,or_false]at f⊢;rcases f with e|e|e|e<;>simp[e]
  have I1:Inv X N O H {s with heap:=r}:=I.turnedN (t':=s.toks) k1 λb f=>A b (sub b f);have nT:H s.heap.objs.size=none:=I.hok.fresh (cD _);have ok:ObjOk X.prog X.w (cg H s.heap.objs.size (.tup [x,y])) r s.heap.objs.size (.tup [x,y]):=⟨by show 2<=sizeLine;decide,[u,v],.cons ru (.cons ab .nil),⟨_,pr,rfl,_,rfl,rfl⟩⟩;have I2:Inv X N O (cg H s.heap.objs.size (.tup [x,y])) {s with heap:=r}:=Inv.trackNew I I1 ok;refine⟨_,rfl,wpAny_letOwnedTupleGo_zip C.zip λh2 z2 G=>?_⟩;obtain⟨a0,b0,n⟩:=C.out;have old: ∀b∈[z,TI,TO,g,j],b≠s.heap.objs.size:=λb f=>by
   obtain⟨a1,b1,J⟩:=Z.out;simp only[List.mem_cons,List.not_mem_nil,or_false]at f
   rcases f with rfl|rfl|rfl|rfl|rfl
   .exact dH (cU Z.zip)
   .exact dH (cU Z.ins)
   .exact dH (cU J)
   .obtain⟨o,e,_⟩:=Z.one;exact dH (cU e)
   .obtain⟨o,e,_⟩:=Z.two;exact dH (cU e)
  have m: ∀b∈[z,TI,TO,g,j],cg H s.heap.objs.size (.tup [x,y]) b=none:=λb f=>by rw[cw (old b f)];exact(A b f).1
  obtain⟨f0,f1,f2,f3,f4,f5⟩:=A z (dC ..);have I3:Inv X N O (cg H s.heap.objs.size (.tup [x,y])) {s with heap:=h2}:=I2.turned (t':=s.toks) (λb o nb e=>G.extBut b o nb e) (m z (dC ..)) f1 f3 f4 f5;refine⟨.ref s.heap.objs.size,_,I3,rfl,⟨_,x,y,rfl,nT,rfl,λag h=>?_,λah h=>?_⟩,⟨z2,G.extBut _ _ D.TIz C.ins,⟨a0,b0,G.extBut _ _ D.TOz n⟩,C.one.at λo e=>G.extBut _ _ D.i1z e,C.two.at λo e=>G.extBut _ _ D.i2z e⟩,m⟩
  .rw[I.list_inj h Q];exact hx
  .rw[I.list_inj h T];exact hy
 done:=by
  intro X Y hw hK hc i N s O H E I A Z hg;subst Y hw hK;obtain⟨xs,ys,Q,T,he⟩:=hg;obtain⟨aa,rv,p1,_⟩:=I.list Q;obtain⟨B,p,p2,_⟩:=I.list T;have l1:=rv.length;have l2:=p.length;have sub: ∀b∈[z,TO,g,j],b∈[z,TI,TO,g,j]:=λb f=>by simp only[List.mem_cons,List.not_mem_nil,or_false]at f⊢;rcases f with e|e|e|e<;>simp[e]
  obtain⟨ae,af,l⟩:=Z.out;refine wpAny_pyNext_zip_end (I.ok.hd hc) D Z.zip Z.ins l Z.one Z.two p1.isList p2.isList ?_ λr U=>⟨rfl,I.turnedN (t':=s.toks) (λc o nc e=>let⟨n1,n2,n3,n4⟩:=Dz nc;U c o n1 n2 n3 n4 e) λb f=>A b (sub b f)⟩
  rcases he with h|h
  .exact .inl (by simp;lia)
  .exact .inr (by simp;lia)
 self:=λ_ _ _ _ _ Z q=>wpAny_pyIter_zip Z.zip q
section
variable{X:Cx}
def uz(K:W.Frag)(d:TA):TI:=λe H R=>d e H λf a=> ∃b c g h,f=[.ref b,.ref c]/\SqL K a b g/\SqL K a c h/\R (uD K b c) a
def HE{c:List Expr}{G:Nat}{J:Pos}{a b:Expr}{t:TA}{p pos:Pos}(L:Gl X "zip")(M:X.mg "zip"=none)(N:PA X [a,b] t)(O:starEach [a,b] X.env=[(false,eval a X.env),(false,eval b X.env)]:=by rfl)
  (d:starEach [b] X.env=[(false,eval b X.env)]:=by rfl):PI X (.Tuple c G J) (.Call (.Name "zip" p) [a,b] [] pos) (uz X.K t):=by
 intro u s v H R I h;refine Call_ (oZ I L M PyProof.Rows.boot_zip (vH (cG (N pos u s v H _ I h) λw s1 ⟨vs,x,f,Q,k⟩=>?_) (by rw[O,d]) (by rw[d];rfl)));obtain⟨i,j,xs,ys,e,k,T,q⟩:=k;subst e;obtain⟨l,w,rfl,m,U⟩: ∃l g,w=l::g/\RelV (.ref i) l/\Vals [.ref j] g:=by cases Q with|cons a b=>exact⟨_,_,rfl,a,b⟩
 obtain⟨u2,rfl,n⟩:=gc U;cases m;cases n;obtain⟨Y,rv,y,_⟩:=f.list k;obtain⟨z,aa,A,_⟩:=f.list T;have o:i<s1.heap.objs.size:=let⟨_,e,_⟩:=y.isList;cU e
 have r:j<s1.heap.objs.size:=let⟨_,e,_⟩:=A.isList;cU e
 refine call_zip_2 y.isList A.isList λB c1 c2 c3 c4 c5 _ all=>?_;have Z:ZipL B (s1.heap.objs.size+4) (s1.heap.objs.size+2) (s1.heap.objs.size+3) s1.heap.objs.size (s1.heap.objs.size+1) i j .none 0:=⟨c1,c2,⟨_,_,c3⟩,c4,c5⟩;refine wpAny_pyIter_zip Z.zip ?_;have I2:Inv X u v x {s1 with heap:=B}:=f.kept (t':=s1.toks) all;have D:ZipApart (s1.heap.objs.size+4) (s1.heap.objs.size+2) (s1.heap.objs.size+3) s1.heap.objs.size (s1.heap.objs.size+1) i j:=KQ o r;refine⟨_,_,_,_,x,rfl,I2,Ms D,Z,λb C=>?_,q⟩;have E:s1.heap.objs.size<=b:=by
  simp only[List.mem_cons,List.not_mem_nil,or_false]at C
  rcases C with e|e|e|e|e<;>(rw[e];first|exact cD _|exact j5 _ _)
 exact f.fpOk E (f.hok.fresh E)
end
def IX{K:W.Frag}{f h:Ad}{xs ys:List V}{g:TG}{n:TS}{D:Ends}{a:St}{H:Hp}(Pv:Nat->St->Hp->Prop)(q:Pv 0 a H)(r: ∀i a H,Pv i a H->SqL K H f xs/\SqL K H h ys)
  (s: ∀i x y T a H,xs[i]? =some x->ys[i]? =some y->H T=none->Pv i a H->g (.ref T) a (cg H T (.tup [x,y])) λb j=>n {D with nx:=Pv (i+1),ct:=Pv (i+1),bk:=D.nx} b j) (t: ∀a H,Pv (min xs.length ys.length) a H->D.nx a H):
  ∃W:Nat->Nat->St->Hp->Prop,(∃m,W 0 m a H)/\ ∀i m a H,W i m a H->
   ((uD K f h).stop i H/\D.nx a H)∨((uD K f h).go i H/\ ∃N:St->Hp->Prop,(∀c d,N c d-> ∃o,o<m/\W (i+1) o c d)/\ ∀x d,(uD K f h).yld i H x d->g x a d λb j=>n {D with nx:=N,ct:=N,bk:=D.nx} b j):=by
 refine⟨λi m a H=>m=min xs.length ys.length-i/\i<=min xs.length ys.length/\Pv i a H,⟨min xs.length ys.length,by simp,Nat.zero_le _,q⟩,?_⟩;rintro i m a H ⟨rfl,E,p⟩;obtain⟨k,l⟩:=r i a H p;by_cases lt:i<min xs.length ys.length
 .have u:i<xs.length:=by lia
  have w:i<ys.length:=by lia
  refine .inr ⟨⟨xs,ys,xs[i],ys[i],k,l,ck u,ck w⟩,Pv (i+1),λc d A=>⟨min xs.length ys.length-(i+1),by lia,rfl,lt,A⟩,λv d z=>?_⟩;obtain⟨T,x,y,rfl,hT,rfl,B,C⟩:=z;exact s i x y T a H (B xs k) (C ys l) hT p
 .have e:i=min xs.length ys.length:=by lia
  exact .inl ⟨⟨xs,ys,k,l,by lia⟩,t a H (e▸p)⟩
def ue(K:W.Frag)(l:Ad):It:=
  ⟨λi H=> ∃a x,SqL K H l a/\a[i]? =some x,
   λi H v b=> ∃T x,v= .ref T/\H T=none/\b=cg H T (.tup [.int (i:Nat),x])/\ ∀a,SqL K H l a->a[i]? =some x,
   λi H=> ∃a,SqL K H l a/\a.length<=i⟩
def LM(e a l:Ad)(i:Nat)(h:Heap):Prop:=(∃old,IsEnum h e a (i:Nat) old)/\h.IsListIter a l i
def IP{P:Pg}{w:World}{K:W.Frag}{m:List Expr}{x1:Nat}{pos:Pos}{e d l:Ad}(T:e≠d):Turn P w K (.Tuple m x1 pos) (ue K l) [e,d] e (λi h=>LM e d l i h) where
 mem:=dC ..
 obj:=λi h Z b f=>by
  obtain⟨⟨old,c⟩,o,g,r,B⟩:=Z;simp only[List.mem_cons,List.not_mem_nil,or_false]at f
  rcases f with rfl|rfl
  .exact⟨_,c,λv q=>by cases q⟩
  .exact⟨_,g,λv q=>by rw[B]at q;cases q⟩
 keep:=λi h n Z k=>by
  obtain⟨⟨old,c⟩,o,g,r,B⟩:=Z;exact⟨⟨old,k e (by simp) _ c⟩,o,k d (by simp) _ g,r,B⟩
 item:=by
  intro X C hw D U i t s y H E I p Z G;subst C hw D;obtain⟨xs,x,A,Y⟩:=G;obtain⟨⟨old,c⟩,g⟩:=Z;obtain⟨J,L,M,_⟩:=I.list A;obtain⟨u,hu,ru⟩:=L.get Y;refine wpAny_pyNext_enum_item c g M.isList (x:=u) (by simpa using hu) T λn ho N hT hs k=>?_;have I1:Inv X t y H {s with heap:=n,toks:=s.toks+1}:=I.turnedN (ch:=[e,d]) (t':=s.toks+1) (λb o j O=>k b o (λz=>j (by simp[z])) (λz=>j (by simp[z])) O) p;have nT:H s.heap.objs.size=none:=I.hok.fresh (cD _);have ok:ObjOk X.prog X.w (cg H s.heap.objs.size (.tup [.int (i:Nat),x])) n s.heap.objs.size (.tup [.int (i:Nat),x]):=⟨by show 2<=sizeLine;decide,[_,u],.cons ⟨_,rfl⟩ (.cons ru .nil),⟨_,hT,rfl,_,rfl,rfl⟩⟩;have I2:Inv X t y (cg H s.heap.objs.size (.tup [.int (i:Nat),x])) {s with heap:=n,toks:=s.toks+1}:=Inv.trackNew I I1 ok;refine⟨_,rfl,wpAny_letOwnedTupleGo_enum ho λr Q sb=>?_⟩;have le:e<s.heap.objs.size:=cU c;have li:d<s.heap.objs.size:=by obtain⟨_,z,_⟩:=g;exact cU z
  have a: ∀b∈[e,d],cg H s.heap.objs.size (.tup [.int (i:Nat),x]) b=none:=λb f=>by
   have j:b≠s.heap.objs.size:=by
    simp only[List.mem_cons,List.not_mem_nil,or_false]at f
    rcases f with rfl|rfl
    .exact dH le
    .exact dH li
   rw[cw j];exact(p b f).1
  obtain⟨f0,f1,f2,f3,f4,f5⟩:=p e (dC ..);have I3:Inv X t y (cg H s.heap.objs.size (.tup [.int (i:Nat),x])) {s with heap:=r,toks:=s.toks+1}:=I2.turned (t':=s.toks+1) (λb o j e=>sb.extBut b o j e) (a e (dC ..)) f1 f3 f4 f5;refine⟨.ref s.heap.objs.size,_,I3,rfl,⟨_,x,rfl,nT,rfl,λaa h=>?_⟩,⟨⟨_,Q⟩,?_⟩,a⟩
  .rw[I.list_inj h A];exact Y
  .obtain⟨o,z1,z2,z3⟩:=N;exact⟨o,sb.extBut _ _ (eC T) z1,z2,z3⟩
 done:=by
  intro X C hw D U i t s y H E I p Z G;subst C hw D;obtain⟨xs,A,he⟩:=G;obtain⟨⟨old,c⟩,g⟩:=Z;obtain⟨J,L,M,_⟩:=I.list A;have l1:=L.length;refine wpAny_pyNext_enum_end (I.ok.hd U) c g M.isList (by simp;lia) λn k=>⟨rfl,?_⟩;exact I.turnedN (ch:=[d]) (t':=s.toks) (λb o j O=>k b o (λz=>j (by simp[z])) O) λb f=>p b (by rw[List.mem_singleton.mp f];simp)
 self:=λ_ _ _ _ _ Z q=>by
  obtain⟨⟨old,c⟩,_⟩:=Z;exact wpAny_pyIter_enum c q
section
variable{X:Cx}
def sC(K:W.Frag)(b:TA):TI:=λc H R=>b c H λd a=> ∃l e,d=[.ref l]/\SqL K a l e/\R (ue K l) a
def BR{c:List Expr}{v:Nat}{w:Pos}{a:Expr}{j:TA}{p pos:Pos}(x:Gl X "enumerate")(y:X.mg "enumerate"=none)(z:PA X [a] j)(A:starEach [a] X.env=[(false,eval a X.env)]:=by rfl):PI X (.Tuple c v w) (.Call (.Name "enumerate" p) [a] [] pos) (sC X.K j):=by
 intro m s n H R I h;refine Call_ (oZ I x y PyProof.Rows.boot_enumerate (vH (cG (z pos m s n H _ I h) λL s1 ⟨M,o,d,B,f⟩=>?_) (by rw[A];rfl) (by rfl)));obtain⟨l,N,e,f,q⟩:=f;subst e;obtain⟨O,rfl,g⟩:=gc B;cases g;obtain⟨C,Q,D,_⟩:=d.list f;have i:=D.isList;refine call_enumerate_list i λE r G sz k=>wpAny_pyIter_enum r ?_;have J:Inv X m n o {s1 with heap:=E}:=d.kept (t':=s1.toks) k;refine⟨_,_,_,_,o,rfl,J,IP (l:=l) (j6 (mH _)),⟨⟨_,r⟩,G⟩,λb t=>?_,q⟩;have u:s1.heap.objs.size<=b:=by
  simp only[List.mem_cons,List.not_mem_nil,or_false]at t
  rcases t with e|e<;>(rw[e];first|exact cD _|exact j5 _ _)
 exact d.fpOk u (d.hok.fresh u)
end
section
variable{K:W.Frag}{l:Ad}{xs:List V}{g:TG}{tb:TS}{D:Ends}{σ:St}{H:Hp}
def DX(Pv:Nat->St->Hp->Prop)(j:Pv 0 σ H)(k: ∀i σ H,i<=xs.length->Pv i σ H->SqL K H l xs)
  (n: ∀i T x σ H,xs[i]? =some x->H T=none->Pv i σ H->g (.ref T) σ (cg H T (.tup [.int (i:Nat),x])) λa f=>tb {D with nx:=Pv (i+1),ct:=Pv (i+1),bk:=D.nx} a f) (o: ∀σ H,Pv xs.length σ H->D.nx σ H):
  ∃W:Nat->Nat->St->Hp->Prop,(∃m,W 0 m σ H)/\ ∀i m σ H,W i m σ H->
   ((ue K l).stop i H/\D.nx σ H)∨((ue K l).go i H/\ ∃N:St->Hp->Prop,(∀b c,N b c-> ∃h,h<m/\W (i+1) h b c)/\ ∀x c,(ue K l).yld i H x c->g x σ c λa f=>tb {D with nx:=N,ct:=N,bk:=D.nx} a f):=by
 refine⟨λi m σ H=>m=xs.length-i/\i<=xs.length/\Pv i σ H,⟨xs.length,by simp,Nat.zero_le _,j⟩,?_⟩;rintro i m σ H ⟨rfl,r,p⟩;have q:=k i σ H r p;by_cases d:i<xs.length
 .refine .inr ⟨⟨xs,xs[i],q,by simp[d]⟩,Pv (i+1),λb c s=>⟨xs.length-(i+1),Nat.sub_succ_lt_self _ _ d,rfl,d,s⟩,λv c y=>?_⟩;obtain⟨T,x,rfl,t,rfl,y⟩:=y;exact n i T x σ _ (y xs q) t p
 .have e:i=xs.length:=by lia
  subst e;exact .inl ⟨⟨xs,q,cD _⟩,o σ H p⟩
end
open PySem PySem.Spec PySem.W PyProof.Rows
section
variable{X:Cx}
def Bn:List V->Hp->VK->Prop:=λe H Q=> ∃d a b,e=[V.ref d]/\H d=some (.dT a)/\a.map (·.1)=b.map nk/\(∀t∈b,t≠[])/\b.length<=4000/\
 ∀D bs c,H D=none->TupsAt H bs c->c.Perm b->c.Pairwise (λx y=>dM x y=true)->Q (.ref D) (cg H D (.lst (bs.map V.ref)))
def Hr(hc:X.calm=true):gv X (.builtin "sorted") Bn:=by
 intro G s J H xs us Q I rr h;obtain⟨d,ae,g,rfl,hd,e,ne,few,q⟩:=h;obtain⟨u,rfl,ru⟩:=gc rr;cases ru;obtain⟨n,es,ep,L,nm,f,is,le,nd,M⟩:=Dl I hd e;refine Ag kind_sorted plain_sorted entry_sorted (args_sorted1 _) ?_;unfold Builtin.«sorted»;refine ci (m:=checkCount "sorted" 1 1 _) (cu ?_);refine ci (kdu_collect (A:=X.A.in1) (uo nm) (by simpa using I.ok.hd hc) L (by rw[sizeLine_eq];lia) λl y af keep it=>?_);have N:=FL is (by rw[f.len,le]) it;rw[N];have D:(n.map Value.ref).length=g.length:=by rw[cj,f.len]
 refine ci (uR ?_ (by rw[D,db];lia));have T:=LK g;have inj:=CW (d:=([]:cf)) T nd;have O:=Jk f nd;have eD:(l.push (seqObj "list" (n.map Value.ref).toArray 0)).get? l.objs.size=some (seqObj "list" (n.map Value.ref).toArray 0):=dZ _ rfl;have B: ∀{b:Ad} {o:Obj},s.heap.get? b=some o->b≠l.objs.size:=λz=>dH (cU (keep _ _ z));refine ci (gQ (iK slot_list_sort ⟨_,eD,rfl⟩ AS (Mu (s:={s with heap:=l.push (seqObj "list" (n.map Value.ref).toArray 0),toks:=y}) (k:=λi=>iA dM g (g.getD i [])) eD (by rw[D];exact few) O (λi j hi hj z=>inj i j (by lia) (by lia) z) (λE U h2=>?_) λp E c r up e U=>⟨_,rfl,?_⟩) (args_list_sort _)))
 .have Y:Inv X G J H {s with heap:=E,toks:=y}:=I.kept λb o z=>U b o (B z) (dj _ (keep b o z));have z:=Jl (P:=X.prog) (w:=X.w) (A:=X.A.in1.in1) (s:={s with heap:=E,toks:=y}) D (by lia) (λi v t e1 e2=>by
   rw[cF]at e1;obtain⟨a,N,rfl⟩:=dR.mp e1;exact⟨uJ Y.hok (f.is i a t N e2),ne t (cK e2)⟩)
  refine gq z (λκ s' hk=>⟨hk.1,λi j C li lj hC=>hk.2 i j C li lj ?_⟩) λ_ _ x=>x;have e:=T.asks (lU (d:=([]:cf)) (show i<g.length by lia)).2 (lU (d:=([]:cf)) (show j<g.length by lia)).2;show C (dM (g.getD i []) (g.getD j [])) _;rw[<-e];exact hC
 .rw[D]at r up;have Y:Inv X G J H {s with heap:=E,toks:=y}:=I.kept λb o z=>U b o (B z) (dj _ (keep b o z));have I0:Inv X G J H {s with heap:=l,toks:=y}:=I.kept keep;have hD:H l.objs.size=none:=I0.hok.fresh (cD _);have aa:=f.pick r;obtain⟨f0,f1,f2,f3,f4,f5⟩:=I0.fpOk (b:=l.objs.size) (H':=H) (cD _) hD;have ab:Arr n.length p:=by rw[f.len];exact r
  rw[CB ab]at e;have fw:((p.toList.map λi=>n.getD i 0).map V.ref).length<=sizeLine:=by
   rw[cj,cj,dJ,r.size];exact M
  exact cu ⟨_,rfl,.ref l.objs.size,_,Y.track (o:= .lst ((p.toList.map λi=>n.getD i 0).map V.ref)) hD ⟨fw,_,c,Bf _,e⟩ I0.sz f1 f4 f5,rfl,q _ _ _ hD aa (Fb r) (Fg T r up)⟩
end
def Gw(l:Ad)(a:AV)(n:Nat)(v:Option Ad)(sl:Array (Option Vl))(x:Vl)(e:Vl->Bool)(j:Nat)(M:j<a.size)(p:e a[j]=true)(q: ∀m (N:m<a.size),m<j->e a[m]=false):
  Meets (Builtin.«tuple.index» ⟨[.ref l,x],[]⟩)
   (λA R s=>s.heap.get? l=some {cls:= .type "tuple",dict:=v,data:= .seq a n,slots:=sl}/\(∀y,y∈a->SeqAt.EqAt A.in1 s y x (e y))/\R (.ok (.ret (.int j s.toks))) {s with toks:=s.toks+1}):=
 .of_wp λf w A R s h=>by
  obtain⟨B,g,d,C,os⟩:=s;obtain⟨D,E,h⟩:=h;unfold Builtin.«tuple.index»;simp only[Std.Legacy.Range.forIn_eq_forIn_range'];have G: ∀k:Nat,([:k]:Std.Legacy.Range).size=k:=λk=>by simp[Std.Legacy.Range.size]
  wp_walk using kS D,wpAny_forIn_list _ (λrest b r=>r=⟨B,g,d,C,os⟩/\b=(none,())/\ ∃i,i<=j/\rest=List.range' i (a.size-i)) _
  case h=>exact⟨rfl,rfl,0,gN _,by rw[G,Nat.min_self];rfl⟩
  case turn=>
   rintro i rest b r ⟨rfl,rfl,u,H,o⟩;have I:a.size-u=(a.size-(u+1))+1:=by lia
   rw[I,List.range'_succ]at o;injection o with J L
   subst J;have t:i<a.size:=by lia
   rw[iJ t];refine ci (E _ (Array.getElem_mem t) f w _ _ ?_);by_cases c:i=j
   .subst c;rw[p];exact ci (ci (wpAny_mkInt (cu (cu (cu ⟨_,rfl,h⟩)))))
   .rw[q i t (by lia)];exact cu ⟨rfl,rfl,i+1,by lia,L⟩
  case fin=>
   rintro b r ⟨rfl,rfl,i,H,o⟩;have z:=dn List.length o;rw[List.length_range']at z;simp at z;lia
section
variable{X:Cx}
def Kr(K:W.Frag):V->List V->Hp->VK->Prop:=λx b H Q=> ∃(l:Ad) (a:Zs) (i:Int),x= .ref l/\b=[.int i]/\SqT K H l (a.map V.int)/\i∈a/\Q (.int (a.idxOf i:Nat)) H
def JQ:o0 X "tuple.index" (Kr X.K):=by
 intro E s G H x J v L Q I j m h;obtain⟨l,b,i,rfl,rfl,o,p,q⟩:=h;cases j;obtain⟨u,rfl,t,rfl⟩:=m.one;obtain⟨a,r,w,M⟩:=I.tuple o;obtain⟨⟨N,z,O,A⟩,e,f,n,g⟩:=w;simp only at f g;subst f g;have c:IntsAre a b:=KR r;have T:=c.length;have B:b.idxOf i<b.length:=sO.mpr p;refine mQ F.slot_tuple_index ⟨_,e,rfl⟩ F.entry_tuple_index (F.args_tuple_index_2 _ _) (Gw l a.toArray n z A (.int i t) (isInt i) (b.idxOf i) (by simp only[List.size_toArray];lia) ?_ ?_)
  ⟨e,λy C=>(eq_isInt i t c y (by simpa using C)).at _ _,⟨.int (b.idxOf i:Nat),H,I.tok _,⟨_,rfl⟩,q⟩⟩
 .show isInt i a[b.idxOf i]=true;rw[isInt_at i c _ (by lia) B];simp
 .intro k D d;show isInt i a[k]=false;rw[isInt_at i c _ (by lia) (by lia)];exact ne_of_lt_idxOf d _
end
def zO(r:V->List V->Hp->VK->Prop)(to:TE)(t:TA):TE:=λa H Q=>to a H λx b=>(∃p c,x= .ref p/\b p=some (.tup c))/\t a b λd e=>r x d e Q
def LV{X:Cx}{o e:Expr}{c:List Expr}{to:TE}{t:TA}{name:Str}{d b:Pos}{id:String}{r:V->List V->Hp->VK->Prop}(i:Slot "tuple" name id)(k:typeOf (.builtin id)=pure (.type "method_descriptor"))(A:o0 X id r)(B:PE X o to)(C:PA X (e::c) t)
  (f:attributeBase o name X.env (eval o X.env)=eval o X.env:=by rfl)
  (j:((backTo b (starEach (e::c) X.env)).all (λx=> !x.1)&&(backToKw b (keywordEach [] X.env)).all (λx=>x.1.isSome)&&decide ((e::c).length+([]:List Keyword).length+(if([]:List Keyword).isEmpty then 0 else 1)<30))=true:=by rfl)
  (g:(d.endLine==b.line)=true:=by rfl) (D:starEach (e::c) X.env=(false,eval e X.env)::starEach c X.env:=by rfl) (E:(backTo b (starEach c X.env)).any (·.1)=false:=by rfl):
  PE X (.Call (.Attribute o name d) (e::c) [] b) (zO r to t):=by
 intro l s m H Q I h;refine wpAny_Call_method_late f j g rfl (cG (B l s m H _ I h) λv n ⟨x,q,u,G,⟨p,J,L,M⟩,N⟩=>?_);subst L;cases(show v=Value.ref p from G);obtain⟨_,_,_,w,y,O,_,_,T⟩:=(show ObjOk X.prog X.w q n.heap p (.tup J)from u.hok p _ M);refine⟨"tuple",id,F.plainAttrs_tuple,i,k,⟨w,y,O⟩,λa U=>?_,?_⟩
 .cases U;exact⟨w,y,T⟩
 have z:=C b l n m q _ u N;rw[D]at z⊢;refine yu (show(false || (backTo b (starEach c X.env)).any λx=>x.1)=false by rw[E];rfl) (Calls.evalArgs_plain ?_);exact cG z λY s2 ⟨vs,H2,I2,r2,q2⟩=>A l s2 m H2 (.ref p) vs (.ref p) Y Q I2 rfl r2 q2
end L2
namespace L2
open PySem PySem.Spec PyProof.Rows
def NoAs(K:W.Frag)(C:Ad):Ss->Prop
 | []=>True
 |f::fs=>PySem.W.findIn K (.ref C) f=some none/\NoAs K C fs
structure OwnC(K:W.Frag)(C:Ad)(fs:Ss):Prop where
 cl:Cls K C
 na:NoAs K C fs
theorem NoAs.get{K:W.Frag}{C:Ad}{f:Str}: ∀{fs:Ss},NoAs K C fs->f∈fs->NoAttr K C f
 | [],_,h=>nomatch h
 | g::fs,n,h=>by
  rcases dE.mp h with e|e
  .subst e;exact n.1
  .exact NoAs.get n.2 e
def OwnC.no{K:W.Frag}{C:Ad}{fs:Ss}(o:OwnC K C fs){f:Str}(h:fs.contains f=true:=by rfl):NoAttr K C f:=o.na.get (fT.mp h)
def NoAs.nil{K:W.Frag}{C:Ad}:NoAs K C []:=True.intro
def NoAs.cons{K:W.Frag}{C:Ad}{f:Str}{fs:Ss}(h:PySem.W.findIn K (.ref C) f=some none)(n:NoAs K C fs):NoAs K C (f::fs):=⟨h,n⟩
abbrev iY(K:W.Frag)(C:Ad)(m q:Str)(st:Stmt)(f:Ad)(a:Fd):Prop:=PySem.W.findIn K (.ref C) m=some (some (.ref f))/\PySem.W.isFn K (.ref f)=true/\Fun K m q st f a
def e7(P:Pg)(w:World)(K:W.Frag)(mg:SV)(a:Heap)(C:Ad)(m:Str)(k:Nat)(b:Ss)(d:Sp):Prop:=
 ∃f c,FnOk P w K mg a cQ k f c b d/\Meth K C m f/\Binds K c b []
def tL(P:Pg)(w:World)(K:W.Frag)(mg:SV)(a:Heap)(x:Str)(C:Ad)(k:Nat)(b:Ss)(d:Sp):Prop:=
 ∃f c,FnOk P w K mg a cQ k f c b d/\Mk K C f/\mg x=some (.ref C)/\Binds K c b []
def iW{X:Cx}{o e:Expr}{d:List Expr}{i:TE}{t:TA}{C:Ad}{m:Str}{k:Nat}{n:Ss}{j:Sp}{a pos:Pos}{p:Sem Bool}(q:PE X o i)(c:Cls X.K C)(r:e7 X.prog X.w X.K X.mg X.base C m k n j)(s:Room k X.A)(u:PA X (e::d) t)
  (g:starEach (e::d) X.env=(false,eval e X.env)::starEach d X.env:=by rfl) (h:(backTo pos (starEach d X.env)).any (·.1)=false:=by rfl)
  (ht:eval (.Call (.Attribute o m a) (e::d) [] pos) X.env=(do
   let l <-eval o X.env
   standAt a.atName
   let(f,first) <-holding [l] (getMethod l m p)
   callWith pos f first (backTo pos (starEach (e::d) X.env)) (backToKw pos (keywordEach [] X.env))):=by rfl):
  PE X (.Call (.Attribute o m a) (e::d) [] pos) (wL C m j [] E0 i t):=by
 obtain⟨f,v,F,M,b⟩:=r;exact Ik q c M F s b .nil tW u g h ht
def uw{X:Cx}{o:Expr}{d:TE}{C:Ad}{m:Str}{k:Nat}{h:Ss}{e:Sp}{a pos:Pos}{i:Sem Bool}(j:PE X o d)(c:Cls X.K C)(l:e7 X.prog X.w X.K X.mg X.base C m k h e)(n:Room k X.A)
  (ht:eval (.Call (.Attribute o m a) [] [] pos) X.env=(do
   let g <-eval o X.env
   standAt a.atName
   let(f,first) <-holding [g] (getMethod g m i)
   callWith pos f first (backTo pos (starEach [] X.env)) (backToKw pos (keywordEach [] X.env))):=by rfl):
  PE X (.Call (.Attribute o m a) [] [] pos) (wL C m e [] E0 d iH):=by
 obtain⟨f,p,F,M,b⟩:=l;exact Gh j c M F n b .nil tW ht
def Cn{X:Cx}{x:Str}{e:Expr}{a:List Expr}{t:TA}{C:Ad}{k:Nat}{g:Ss}{d:Sp}{p pos:Pos}(c:tL X.prog X.w X.K X.mg X.base x C k g d)(h:Room (k+1) X.A)(i:Gl X x)(j:PA X (e::a) t)
  (l:(x==("__debug__":Str))=false:=by decide) (n:starEach (e::a) X.env=(false,eval e X.env)::starEach a X.env:=by rfl) (o:(backTo pos (starEach a X.env)).any (·.1)=false:=by rfl):
  PE X (.Call (.Name x p) (e::a) [] pos) (BK C d [] E0 t):=by
 obtain⟨f,q,F,M,m,b⟩:=c;exact Iy M F h i m b .nil tW j l n o
section
variable{X:Cx}
theorem EV: ∀{bs:List Bool} {a:Vs},Vals (bs.map V.bl) a->a=bs.map Value.bool
 | [],_,h=>by cases h;rfl
 | b::bs,_,h=>by
  cases h with
  |cons r t=>
   obtain rfl:=r;rw[EV t];rfl
def zS:Vl->Bool
 | .bool b=>b
 |_=>false
def GQ(K:W.Frag):V->List V->Hp->VK->Prop:=λx a H Q=> ∃(l:Ad) (bs:List Bool),x= .ref l/\a=[.bl true]/\SqL K H l (bs.map V.bl)/\true∈bs/\Q (.int (bs.idxOf true:Nat)) H
def Ii:o0 X "list.index" (GQ X.K):=by
 intro L s M H x N v O Q I j m h;obtain⟨l,bs,rfl,rfl,o,t,q⟩:=h;cases j;obtain⟨u,rfl,w⟩:=m.one;obtain rfl:u=Value.bool true:=w;obtain⟨B,r,⟨⟨T,U,Y,C⟩,n,e,c,d,f⟩,D⟩:=I.list o;simp only at c d f;subst c d f;have E:=EV r;subst E;have g:bs.idxOf true<bs.length:=sO.mpr t;rw[cj,db]at D;refine mQ F.slot_list_index ⟨_,e,rfl⟩ F.entry_list_index (F.args_list_index_2 _ _) (SeqAt.list_indexAt l (bs.map Value.bool).toArray n none C (.bool true) zS (bs.idxOf true) (by simp only[List.size_toArray,List.length_map];exact g) (by lia) ?_ ?_)
  ⟨e,λy G=>?_,⟨.int (bs.idxOf true:Nat),H,I.tok _,⟨_,rfl⟩,q⟩⟩
 .simp[zS,List.getElem_idxOf g]
 .intro k J a;have hk:k<bs.length:=by lia
  have z:bs[k]≠true:=λe=>by
   have y:=List.not_of_lt_findIdx (p:=(· ==true)) (xs:=bs) (i:=k) a;rw[e]at y;cases y
  simp only[List.getElem_toArray,List.getElem_map];exact uc.mpr z
 .obtain⟨b,_,rfl⟩:=cO.mp (show y∈bs.map Value.bool by simpa using G);have z:=SeqAt.EqAt.bool_bool (A:=X.A.in1) (s:=s) b true;rw[show(b==true)=zS (.bool b) by cases b<;>rfl]at z;exact z
end
theorem Co: ∀{b:Zs} {a:Vs},Vals (b.map V.int) a-> ∃zs:List (Int×Tok),zs.map (·.1)=b/\a=zs.map λp=>Value.int p.1 p.2
 | [],_,h=>by
  cases h;exact⟨[],rfl,rfl⟩
 | n::b,_,h=>by
  cases h with
  |cons c d=>
   obtain⟨t,rfl⟩:=c;obtain⟨zs,e,rfl⟩:=Co d;exact⟨(n,t)::zs,by rw[fM,e],rfl⟩
section
variable{X:Cx}
def GU{zs:List (Int×Tok)}{k:Nat}{v:Vl}(h:(intItems zs.toArray)[k]? =some v): ∃t,v= .int (numAt zs.toArray k) t/\numAt zs.toArray k∈zs.map (·.1):=by
 have a:(zs.map λp=>Value.int p.1 p.2)[k]? =some v:=by simpa[intItems]using h
 rw[cF]at a;obtain⟨⟨n,t⟩,e,rfl⟩:=dR.mp a;have b:numAt zs.toArray k=n:=by
  rw[numAt_eq,dI,cF];show(Option.map _ zs[k]?).getD 0=n;rw[e];rfl
 rw[b];exact⟨t,rfl,cO.mpr ⟨_,cK e,rfl⟩⟩
end
section
variable{X:Cx}
def BX(K:W.Frag):List V->Hp->VK->Prop:=λb H Q=> ∃(p:Ad) (a:Zs),b=[.ref p]/\SqT K H p (a.map V.int)/\a≠[]/\ ∀M,M∈a->Q (.int M) H
def Fa{g:AO}{s:Sh}{h:St}{H:Hp}{p:Ad}{c:Zs}(u:X.calm=true)(I:Inv X g h H s)(w:SqT X.K H p (c.map V.int))(x:c≠[]){j:CmpOp}{bt:(Nat->Int)->Nat->Nat->Bool}
  (d: ∀(zs:List (Int×Tok)),CmpOf X.prog X.w X.A.in1 j (λi v=>(intItems zs.toArray)[i]? =some v) (bt (numAt zs.toArray))) (E:VP)
  {Q:VP} (q: ∀M k t,M∈c->Inv X g h H k->Q (.int M t) k):
  wpAny (model X.prog X.w) X.A.in1 (pyIter (.ref p)) (λy s₂=> ∃I l m n P St bt,y= .ref I/\Walks X.prog X.w X.A.in1 I l m n P St/\St 0 s₂.heap/\(∀b∈l,b<s₂.heap.objs.size)/\0<n/\CmpOf X.prog X.w X.A.in1 j P bt/\
   ∀v f r,P (argBest bt (n-1)) v->(∀b o,b∉m->s₂.heap.get? b=some o->f.get? b=some o)->Q v {s₂ with heap:=f,toks:=r}) E s:=by
 obtain⟨B,C,a,_⟩:=I.tuple w;obtain⟨zs,rfl,rfl⟩:=Co C;have pos:0<zs.length:=by
  cases zs with
  |nil=>exact wC rfl x
  |cons=>simp
 have D:(zs.map λp=>Value.int p.1 p.2).toArray=intItems zs.toArray:=by simp[intItems]
 rw[D]at a;have lt:p<s.heap.objs.size:=let⟨_,e,_⟩:=a;cU e
 refine yB a ⟨s.heap.objs.size,_,_,_,_,_,_,rfl,Walks.tuple (A:=X.A.in1) (by simpa using I.ok.hd u) _ p (Nat.ne_of_lt lt) _,⟨⟨_,Heap.get?_push_size _ rfl,rfl,rfl⟩,a.push _⟩,λb hb=>?_,by simpa[intItems]using pos,d zs,λv f r G J=>?_⟩
 .show b<(s.heap.push _).objs.size;rw[oi]
  rcases dE.mp hb with rfl|hb
  .exact mH _
  .rw[cW.mp hb];exact sf lt
 .obtain⟨t,rfl,mem⟩:=GU G;refine q _ _ t mem (I.kept λb o e=>J b o (λz=>?_) (dj _ e));rw[cW.mp z]at e;exact wC (cU e) (i5 _)
def JD(a:X.calm=true):gv X (.builtin "max") (BX X.K):=by
 intro g s k H l m Q I r h;obtain⟨p,n,rfl,b,c,q⟩:=h;obtain⟨u,rfl,d⟩:=gc r;cases d;exact call_max_walk (Fa (bt:=λf i j=>decide (f i>f j)) a I b c (λzs=>CmpOf.ints_gt (numAt zs.toArray) (λ_ _=>intItems_at)) _ λM o t mem e=>⟨.int M,H,e,⟨t,rfl⟩,q M mem⟩)
def Gj(a:X.calm=true):gv X (.builtin "min") (BX X.K):=by
 intro g s k H l m Q I r h;obtain⟨p,n,rfl,b,c,q⟩:=h;obtain⟨u,rfl,d⟩:=gc r;cases d;exact call_min_walk (Fa (bt:=λf i j=>decide (f i<f j)) a I b c (λzs=>CmpOf.ints_lt (numAt zs.toArray) (λ_ _=>intItems_at)) _ λM o t mem e=>⟨.int M,H,e,⟨t,rfl⟩,q M mem⟩)
end
def gP(a:Zs)(x:Int):Zs:=if x∈a then a else a++[x]
def ky(a:Zs):Zs:=a.foldl gP []
def IsSetI(P:Pg)(w:World)(h:Heap)(a:Ad)(b:Zs):Prop:=h.SetOf (intKind P w) a (λk=>decide (k∈b)) b.length
section
variable{P:Pg}{w:World}{A:Ar}{E:VP}{S it l:Ad}{xs:Zs}{vs:Vs}
def IsSetI.ext{h h':Heap}{a:Zs}(b:IsSetI P w h S a)(k: ∀o,h.get? S=some o->h'.get? S=some o):IsSetI P w h' S a:=by
 obtain⟨o,c,d,t,e,r⟩:=b;exact⟨o,c,d,t,k _ e,r⟩
theorem ER{R:Result->Sh->Prop}(M:A.handled=none)(j:S≠it)(N:S≠l)(O:it≠l)(r:Vals (xs.map V.int) vs)(few:xs.length<=4000):
  ∀(rest:Zs) (i:Nat) (a:Zs) (s:Sh),xs.drop i=rest->a.length<=i->s.heap.IsTupleIter it l i->s.heap.IsTuple l vs.toArray->IsSetI P w s.heap S a->
   (∀c v,IsSetI P w c S (rest.foldl gP a)->(∀b o,b≠S->b≠it->s.heap.get? b=some o->c.get? b=some o)->R (.ok (.ret .none)) {s with heap:=c,toks:=v})->
   codeAny (model P w) A (.builtin "set.update.loop" ⟨[.ref S,.ref it],[]⟩) R s
 | [],i,a,s,m,Y,B,n,C,q=>by
  have Q:vs.length<=i:=by
   have D:vs.length=xs.length:=by simpa using r.length.symm
   have p:=List.drop_eq_nil_iff.mp m;lia
  refine lM u5 ?_;rw[nR pE _];show wpAny _ A.in1 (pyNext (.ref it) >>= _) _ _ s;refine ci (wpAny_pyNext_tuple_end (by simpa using M) B n (by simp;lia) λc keep=>?_);exact cu (q c s.toks (C.ext λo e=>keep _ _ j e) λb o _ p e=>keep b o p e)
 | x::rest,i,a,s,m,Y,B,n,C,q=>by
  have g:xs[i]? =some x:=by rw[<-List.head?_drop,m];rfl
  have next:xs.drop (i+1)=rest:=by rw[<-List.tail_drop,m];rfl
  have il:i<xs.length:=(cA.mp g).1;obtain⟨u,hu,t,rfl⟩:=r.get (i:=i) (x:=V.int x) (by rw[cF,g];rfl);refine lM u5 ?_;rw[nR pE _];show wpAny _ A.in1 (pyNext (.ref it) >>= _) _ _ s;refine ci (wpAny_pyNext_tuple_item B n (x:= .int x t) (by simpa using hu) λD kh d=>?_);show wpAny _ A.in1 (holding [Value.int x t] (setAdd S (.int x t)) >>= _) _ _ _;refine ci (gQ ?_);unfold setAdd;have h:(intKind P w).is x (.int x t)=true:=qf _ _ _ _;refine gQ (ci ((intKind P w).pyHash (k:=x) h ?_));have G:IsSetI P w D S a:=C.ext λo e=>d.extBut _ _ j e;refine wpAny_setAddHashed_of (knd:=intKind P w) h rfl (s:=⟨D,_,_,_,_⟩) G (by show a.length+1<4096;lia) λp f H=>?_;have I:IsSetI P w p S (gP a x):=by
   unfold IsSetI;refine SetOf_congr H (λk=>?_) ?_
   .unfold gP;by_cases e:x∈a
    .rw[wB e,iw];simp only[Bool.or_eq_true,decide_eq_true_iff];exact⟨λz=>z.elim id λy=>y▸e,.inl⟩
    .rw[wA e,iw];simp only[Bool.or_eq_true,decide_eq_true_iff,List.mem_append,List.mem_singleton]
   .unfold gP;by_cases e:x∈a
    .rw[wB e,wB (by simpa using e)]
    .rw[wA e,wA (by simpa using e),List.length_append];rfl
  have J:(gP a x).length<=i+1:=by
   unfold gP;split
   .lia
   .rw[dz];show a.length+1<=_;lia
  refine cu ⟨oY pE _,ER M j N O r few rest (i+1) (gP a x) _ next J (kh.extBut f.extBut j.symm) ((n.extBut d.extBut O.symm).extBut f.extBut N.symm) I λc v L keep=>?_⟩;exact q c v L λb o T U e=>keep b o T U (f.extBut _ _ T (d.extBut _ _ U e))
set_option maxHeartbeats 4000000 in
def Kx{h:Heap}{j:Obj}{m:Array GenState}{n:Drawn}{k:Nat}{os:OsState}{R:PySem.Fin->Sh->Prop}(x: ∃a,j={cls:= .type "set",dict:=none,data:= .set #[] 0 (.fresh 0 0 a)})(y:A.handled=none)(p:h.IsTuple l vs.toArray)(z:Vals (xs.map V.int) vs)(few:xs.length<=4000)
  (q: ∀c f,IsSetI P w c h.objs.size (ky xs)->(∀b o,h.get? b=some o->c.get? b=some o)->R (.done (.ret .none)) ⟨c,m,n,f,os⟩):
  wpAny (model P w) A (Builtin.«set.__init__» ⟨[.ref h.objs.size,.ref l],[]⟩) R E ⟨h.push j,m,n,k,os⟩:=by
 obtain⟨a,rfl⟩:=x;obtain⟨⟨J,dl,B,sl⟩,r,s,C,t⟩:=id p;simp only at s t;subst s t;have L:(h.push {cls:= .type "set",dict:=none,data:= .set #[] 0 (.fresh 0 0 a)}).get? l=some ⟨.type "tuple",dl,.seq vs.toArray C,sl⟩:=dj _ r;have D:(h.push {cls:= .type "set",dict:=none,data:= .set #[] 0 (.fresh 0 0 a)}).get? h.objs.size=some {cls:= .type "set",dict:=none,data:= .set #[] 0 (.fresh 0 0 a)}:=dZ _ rfl;have M:=F.sub_tuple_set;have N:=F.sub_tuple_frozenset;have O:(Value.type "tuple"==Value.type "dict")=false:=by decide
 unfold Builtin.«set.__init__» noKeywords Builtin.Frozenset.updateFrom;generalize g:pyIter=u
 wp_walk
 subst g;have d:(h.push {cls:= .type "set",dict:=none,data:= .set #[] 0 (.fresh 0 0 a)}).IsTuple l vs.toArray:=p.push _;refine yB d (ci (wpAny_runValue ?_));have lt:l<h.objs.size:=cU r;have sz:(h.push {cls:= .type "set",dict:=none,data:= .set #[] 0 (.fresh 0 0 a)}).objs.size=h.objs.size+1:=oi ..;have i:IsSetI P w ((h.push {cls:= .type "set",dict:=none,data:= .set #[] 0 (.fresh 0 0 a)})) h.objs.size []:=by
  refine⟨_,_,_,_,D,⟨rfl,rfl,rfl⟩,rfl,λe G=>?_,λk=>?_,by decide,by cases a<;>rfl,rfl⟩
  .simp at G
  .simp
 refine ER (vs:=vs) (xs:=xs) (by simpa using y) (by rw[sz];exact Nat.ne_of_lt (Nat.lt_succ_self _)) (Nat.ne_of_gt lt) (by rw[sz];exact Nat.ne_of_gt (Nat.lt_succ_of_lt lt)) z few xs 0 [] _ rfl (Nat.le_refl _) ⟨_,Heap.get?_push_size _ rfl,rfl,rfl⟩ (d.push _) (i.ext λo e=>Heap.get?_push_of_some _ e) λc f H I=>?_;refine cu (cu (q c f H λb o e=>?_));have v:=cU e;exact I b o (dH v) (by rw[sz];exact dH (sf v)) (dj _ (dj _ e))
def F5{s:Sh}{Q:VP}(B:A.handled=none)(x:s.heap.IsTuple l vs.toArray)(C:Vals (xs.map V.int) vs)(few:xs.length<=4000)
  (q: ∀a d,IsSetI P w a s.heap.objs.size (ky xs)->(∀b o,s.heap.get? b=some o->a.get? b=some o)->Q (.ref s.heap.objs.size) {s with heap:=a,toks:=d}):
  wpAny (model P w) A (call (.type "set") [.ref l]) Q E s:=by
 have lt:l<s.heap.objs.size:=let⟨_,e,_⟩:=x;cU e
 obtain⟨c,tl,D⟩:=ie.mro;have made:=ie.made;have sub:=ie.sub;have j:=ie.notType;have G:=ie.canCreate;have args:=F.typeCall_set_1 (.ref l);have look:=ie.init.lookup;have H:=ie.init.bind (.ref s.heap.objs.size);refine pH (Ak (show wpAny _ _ (callAny (.type "set") _) _ _ _ from cu ⟨Code.quiet_builtin _ (by decide+kernel),lM F.entry_type_call ?_⟩));rw[Around.under_plain (weight_type_call_type "set" [.ref l] []) rfl]
 repeat (any_goals (first|assumption|wp_step))
 refine jq (code_set_new_1 (.ref l) (E:=E) (Q₁:=λk i=> ∃g,(∃h,g={cls:= .type "set",dict:=none,data:= .set #[] 0 (.fresh 0 0 h)})/\k= .ref s.heap.objs.size/\i={s with heap:=s.heap.push g}) λh=>⟨_,⟨h,rfl⟩,rfl,rfl⟩) λr L z=>?_;cases r with
 |error _=>exact z
 | ok f=>
  cases f<;>first|exact z.elim|skip
  obtain⟨g,m,n,p⟩:=z;subst n p;have I:g.cls= .type "set":=by obtain⟨_,rfl⟩:=m;rfl
  have J:(s.heap.push g).get? s.heap.objs.size=some g:=dZ _ (by obtain⟨_,rfl⟩:=m;rfl);have ty:Shared.TypeIs {s with heap:=s.heap.push g} (.ref s.heap.objs.size) "set":=⟨_,J,I⟩
  repeat (any_goals (first|assumption|wp_step))
  refine jq (codeAny_call_builtin (R:=wants (λv y=>v= .none/\ ∃a d,y={s with heap:=a,toks:=d}/\IsSetI P w a s.heap.objs.size (ky xs)/\ ∀b o,s.heap.get? b=some o->a.get? b=some o) E)
   ie.init.plain F.entry_set_init (check_set_init_1 ty ?_)) λr y z=>?_
  .exact Kx (A:=A.in1.in1) m (by simpa using B) x C few λa d t u=>⟨rfl,a,d,rfl,t,u⟩
  .cases r with
   |error _=>exact z
   |ok f=>
    cases f<;>first|exact z.elim|skip
    obtain⟨n,a,d,p,t,u⟩:=z;subst n p
    repeat (any_goals (first|assumption|wp_step))
    exact q a d t u
end
section
variable{X:Cx}
def tN(a:Ad)(b:Zs):HO:= .ext λh=> ∃P w,IsSetI P w h a (ky b)
def uy(K:W.Frag):List V->Hp->VK->Prop:=λc H Q=> ∃p b,c=[.ref p]/\SqT K H p (b.map V.int)/\b.length<=4000/\ ∀a,H a=none->Q (.ref a) (cg H a (tN a b))
def EG(c:X.calm=true):gv X (.type "set") (uy X.K):=by
 intro d s f H A B Q I r h;obtain⟨p,a,rfl,g,few,q⟩:=h;obtain⟨u,rfl,i⟩:=gc r;cases i;obtain⟨j,l,m,_⟩:=I.tuple g;refine F5 (I.ok.hd c) m l few λb n z keep=>?_;have v:Inv X d f H {s with heap:=b,toks:=n}:=I.kept keep;obtain⟨o,C,D,t,x,r⟩:=id z;have ok:ObjOk X.prog X.w (cg H s.heap.objs.size (tN s.heap.objs.size a)) b s.heap.objs.size (tN s.heap.objs.size a):=⟨⟨_,_,z⟩,⟨_,x⟩,λE G ⟨P,w,y⟩ k=>⟨P,w,y.ext λo e=>k _ e⟩⟩;exact⟨.ref s.heap.objs.size,_,Inv.trackNew I v ok,rfl,q _ I.fresh⟩
def sA:List V->Hp->VK->Prop:=λc H Q=> ∃a b,c=[.ref a]/\H a=some (tN a b)/\Q (.int (ky b).length) H
def Fk:gv X (.builtin "len") sA:=by
 intro k s l H m n Q I r h;obtain⟨a,b,rfl,c,q⟩:=h;obtain⟨u,rfl,d⟩:=gc r;cases d;obtain⟨⟨_,_,o,p,v,t,e,f,g,_,_,w,i,j⟩,_⟩:=(show ObjOk X.prog X.w H s.heap a (tN a b)from I.hok a _ c);refine call_len_set e f g i (by have:scanBound=4096:=rfl;lia) ?_;exact⟨.int (ky b).length,H,I.tok _,⟨_,by rw[j]⟩,q⟩
end
end L2
namespace My
open PySem L2 PyProof.Rows
def top(i:Nat):Stmt:=PySem.Challenge.pw_cascade_k91_whole_each_move_is_of_its_ki.main.body.getD i (.Pass ⟨0,0,0,0⟩)
abbrev si:Stmt:=top 0
abbrev ou:Stmt:=top 5
abbrev zI:Stmt:=top 7
abbrev mZ:Stmt:=top 8
abbrev Be:Stmt:=top 10
abbrev yZ:Stmt:=top 11
abbrev wD:Stmt:=top 12
abbrev uZ:Stmt:=top 13
abbrev lG:Stmt:=top 14
abbrev AE:Stmt:=top 16
abbrev wT:Stmt:=top 17
abbrev yf:Stmt:=top 19
abbrev qo:Stmt:=top 20
abbrev vN:Stmt:=top 21
abbrev rz:Stmt:=top 22
abbrev zo:Stmt:=top 24
abbrev wp:Stmt:=top 25
abbrev Bq:Stmt:=top 26
abbrev vz:Stmt:=top 27
abbrev su:Stmt:=top 28
abbrev u6:Stmt:=top 29
abbrev Av:Stmt:=top 30
abbrev wS:Stmt:=top 31
abbrev xT:Stmt:=top 33
abbrev Ax:Stmt:=top 34
abbrev lL:Stmt:=top 35
abbrev xY:Stmt:=top 40
abbrev AN:Stmt:=top 41
abbrev wJ:Stmt:=top 42
abbrev Ac:Stmt:=top 43
abbrev vq:Stmt:=top 44
abbrev yq:Stmt:=top 45
abbrev w6:Stmt:=top 46
abbrev xc:Stmt:=top 47
abbrev Az:Stmt:=top 48
abbrev oJ:Stmt:=top 49
def i6:Stmt->List Stmt
 | .ClassDef _ _ _ b _ _ _ _ _ _ _=>b
 |_=>[]
abbrev w9:Stmt:=(i6 (top 37)).getD 0 (.Pass ⟨0,0,0,0⟩)
abbrev zZ:Stmt:=(i6 (top 37)).getD 1 (.Pass ⟨0,0,0,0⟩)
abbrev zf:Stmt:=(i6 (top 37)).getD 2 (.Pass ⟨0,0,0,0⟩)
abbrev va:Stmt:=(i6 (top 37)).getD 3 (.Pass ⟨0,0,0,0⟩)
abbrev yP:Stmt:=(i6 (top 37)).getD 4 (.Pass ⟨0,0,0,0⟩)
abbrev zg:Stmt:=(i6 (top 37)).getD 5 (.Pass ⟨0,0,0,0⟩)
abbrev y3:Stmt:=(i6 (top 37)).getD 6 (.Pass ⟨0,0,0,0⟩)
abbrev yC:Stmt:=(i6 (top 37)).getD 7 (.Pass ⟨0,0,0,0⟩)
abbrev vM:Stmt:=(i6 (top 38)).getD 0 (.Pass ⟨0,0,0,0⟩)
abbrev AL:Stmt:=(i6 (top 38)).getD 1 (.Pass ⟨0,0,0,0⟩)
abbrev Ai:Stmt:=(i6 (top 38)).getD 2 (.Pass ⟨0,0,0,0⟩)
abbrev zV:Stmt:=(i6 (top 38)).getD 5 (.Pass ⟨0,0,0,0⟩)
abbrev rZ:Stmt:=(i6 (top 38)).getD 7 (.Pass ⟨0,0,0,0⟩)
def rJ:FnScope ["machine","room","word","letter"] ["machine","room","word"] (cL ou):={}
def G3:FnScope ["things","most"] ["things","most"] (cL zI):={}
def kB:FnScope ["start","letters","step","most","words","wave","following","thing","letter","found"] ["start","letters","step","most"] (cL mZ):={}
def Jw:FnScope ["rooms"] ["rooms"] (cL Be):={}
def qY:FnScope ["sets","once","rooms"] ["sets"] (cL yZ):={}
def Mi:FnScope ["one","other"] ["one","other"] (cL wD):={}
def Lg:FnScope ["machine","rooms","word"] ["machine","rooms","word"] (cL uZ):={}
def Gs:FnScope ["machine","rooms"] ["machine","rooms"] (cL lG):={}
def F8:FnScope ["rooms"] ["rooms"] (cL AE):={}
def JN:FnScope ["one","other"] ["one","other"] (cL wT):={}
def rA:FnScope ["machine","words"] ["machine"] (cL yf):={}
def rE:FnScope ["machine","singles"] ["machine"] (cL qo):={}
def K0:FnScope ["part","sets"] ["part","sets"] (cL vN):={}
def rH:FnScope ["machine","rooms","within"] ["machine","rooms"] (cL rz):={}
def kR:FnScope ["machine","words","rooms"] ["machine"] (cL zo):={}
def Mm:FnScope ["words","rooms"] ["words","rooms"] (cL wp):={}
def kF:FnScope ["words","found","rooms","sets"] ["words"] (cL Bq):={}
def Ko:FnScope ["words","sets","waiting"] ["words","sets","waiting"] (cL vz):={}
def jX:FnScope ["words","waiting","told","free"] ["words","waiting"] (cL su):={}
def qB:FnScope ["machine","words","told","sets","face","ways"] ["machine"] (cL u6):={}
def Lx:FnScope ["machine","level","k","j"] ["machine","level","k","j"] (cL Av):={}
def Ga:FnScope ["machine","level","k"] ["machine","level","k"] (cL wS):={}
def kY:FnScope ["machine","level","k","letter","there","ends"] ["machine","level","k","letter"] (cL xT):={}
def jN:FnScope ["machine","level","found","k","letter","turn"] ["machine","level"] (cL Ax):={}
def qW:FnScope ["machine","level","makers"] ["machine","level"] (cL lL):={}
def Mf:FnScope ["_law_script","_law_k"] ["_law_script","_law_k"] (cL xY):={}
def kC:FnScope ["_law_cell","_law_rooms","_law_number","_law_turn_here","_law_k","_law_other","_law_kept"] ["_law_cell","_law_rooms"] (cL AN):={}
def qE:FnScope ["_law_script","_law_rooms","_law_many"] ["_law_script"] (cL wJ):={}
def Lb:FnScope ["_law_found"] ["_law_found"] (cL Ac):={}
def HL:FnScope ["_law_found"] ["_law_found"] (cL vq):={}
def kU:FnScope ["_law_parts","_law_cells","_law_cell","_law_found","_law_word","_law_number","_law_many","_law_k"] ["_law_parts","_law_cells","_law_cell"] (cL yq):={}
def JH:FnScope ["_law_one","_law_other"] ["_law_one","_law_other"] (cL w6):={}
def qO:FnScope ["_law_found","_law_group","_law_by"] ["_law_found","_law_group"] (cL xc):={}
def J1:FnScope ["_law_found"] ["_law_found"] (cL Az):={}
def qN:FnScope ["_law_script","_law_machine_here","_law_some","_law_parts","_law_groups_of","_law_cells","_law_cell","_law_n","_law_found","_law_word","_law_number","_law_many"] ["_law_script"] (cL oJ):={}
def kK:FnScope ["self","machine","level","k","rooms"] ["self","machine","level"] (cL w9):={}
def JC:FnScope ["self"] ["self"] (cL zZ):={}
def K7:FnScope ["self","here","pair"] ["self","here","pair"] (cL zf):={}
def GX:FnScope ["self","here","rooms"] ["self","here","rooms"] (cL va):={}
def jY:FnScope ["self","here","there","letter","still_turn","end"] ["self","here","there","letter"] (cL yP):={}
def JW:FnScope ["self","deed","turning"] ["self","deed","turning"] (cL zg):={}
def IS:FnScope ["self","deed","turning","bringing"] ["self","deed","turning","bringing"] (cL y3):={}
def Kd:FnScope ["self","deed","pair"] ["self","deed","pair"] (cL yC):={}
def MB:FnScope ["self","machine"] ["self","machine"] (cL vM):={}
def qF:FnScope ["self","found","number","step"] ["self"] (cL AL):={}
def jR:FnScope ["self","row","pairs","place","step","turning"] ["self","row"] (cL Ai):={}
def jK:FnScope ["self","pairs","letter","here","there","ends","step","pair","end"] ["self","pairs","letter"] (cL zV):={}
def kL:FnScope ["self","n","ahead","letter","part","step","pairs","sets","deed","turning"] ["self","n","ahead","letter"] (cL rZ):={}
def Cf(K:W.Frag):Sp:=λb H Q _=> ∃(a:Ad) (d:Zs) (k:Int),b=[.ref a,.int k]/\0<=k/\SqL K H a (d.map V.int)/\ ∀c,Q (.int c) H
variable{P:Pg}{w:World}{K:W.Frag}{mg:SV}{base:Heap}{f:Ad}{fd:Fd}
def Mw(F:Fun K "_law_cell_at" "_law_cell_at" xY f fd)(i:mg "len"=none):FnOk P w K mg base cQ 1 f fd ["_law_script","_law_k"] (Cf K):=by
 refine F.ok Mf (λj H Q E h=>?_) (λl A d s H j Q E o h=>?_)
 .obtain⟨a,b,k,rfl,_⟩:=h;rfl
 obtain⟨a,b,k,rfl,p,g,q⟩:=h;refine⟨_,(cH (fS (fA tD (pv 1) (dS fJ rfl i fc (cE (pv 0) cz)) (eI _)) (cM (dr (cY fe (pv 0) (pv 1) (λ_ _=>rfl)))) gn) (cM (dr cS))),?_⟩;refine⟨_,rfl,_,rfl,a,_,rfl,.inl g,_,_,rfl,rfl,_,rfl,?_⟩;refine lR (λc=>?_) (λc=>?_)
 .have m:k<((b.map V.int).length:Nat):=gE c;rw[cj]at m;have n:k.toNat<b.length:=by lia
  have e:k=((k.toNat:Nat):Int):=by lia
  refine⟨_,rfl,_,rfl,a,_,_,.int (b.getD k.toNat 0),rfl,rfl,g,?_,q _⟩;rw[e];exact Kf n
 .exact q _
structure Mach(H:Hp)(m:Ad)(ts:LN)(n:Nat):Prop where
 refs: ∃rs:As,H m=some (.tup (rs.map V.ref))/\rs.length=ts.length/\ ∀(i:Nat) r t,rs[i]? =some r->ts[i]? =some t->H r=some (.tup (t.map nv))
 some1:1<=ts.length
 few:ts.length<=4
 n1:1<=n
 n5:n<=5
 each: ∀t∈ts,t.length=n/\ ∀x∈t,x<n
def Mach.same{H a:Hp}{m:Ad}{b:LN}{n:Nat}(M:Mach H m b n)(g:Same H a):Mach a m b n:=
 ⟨let⟨c,d,e,h⟩:=M.refs;⟨c,g _ _ d,e,λi r t j k=>g _ _ (h i r t j k)⟩,M.some1,M.few,M.n1,M.n5,M.each⟩
def Mach.at{H:Hp}{m:Ad}{ts:LN}{n:Nat}(M:Mach H m ts n){l:Nat}(b:l<ts.length):
  ∃(a:As) (r:Ad),H m=some (.tup (a.map V.ref))/\a.length=ts.length/\iI (a.map V.ref) (l:Int)=some (.ref r)/\H r=some (.tup ((ts.getD l []).map nv))/\(ts.getD l []).length=n/\ ∀x∈ts.getD l [],x<n:=by
 obtain⟨a,d,g,h⟩:=M.refs;have c:l<a.length:=by lia
 have e:ts.getD l []=ts[l]:=by rw[dI,ck b];rfl
 rw[e];obtain⟨i,j⟩:=M.each ts[l] (iZ b);exact⟨a,a[l],d,g,fF (by rw[cF,ck c];rfl),h l _ _ (by simp[c]) (by simp[b]),i,j⟩
def dX(a:LN)(r:Nat)(word:cf):Nat:=word.foldl (λr l=>(a.getD l []).getD r 0) r
def MF(a:LN)(r:Nat)(word:cf)(l:Nat):dX a r (word++[l])=(a.getD l []).getD (dX a r word) 0:=by
 unfold dX;rw[nP];rfl
theorem me{H:Hp}{m:Ad}{a:LN}{n:Nat}(M:Mach H m a n): ∀(word:cf) (r:Nat),r<n->(∀l∈word,l<a.length)->dX a r word<n
 | [],_,b,_=>b
 |l::word,r,b,h=>by
  obtain⟨_,_,_,_,_,_,e,c⟩:=M.at (h l (dC ..));exact me M word _ (t0 c (by lia)) λx d=>h x (eO _ d)
def qh(a:LN)(n:Nat)(word:cf):cf:=(List.range n).map λr=>dX a r word
def G5(a:LN)(n:Nat)(word:cf):(qh a n word).length=n:=by simp[qh]
def Cs:Sp:=λd H Q _=> ∃(c:Int) (n:Nat),d=[.int c,nv n]/\1<=n/\n<=5/\
 ∀(a:cf) r b,Same H b->b r=some (.tup (a.map nv))->a.length=n->(∀y∈a,y<n)->Q (.ref r) b
def Fy(K:W.Frag):Sp:=λc H Q _=> ∃(a:Ad) (d:Zs),c=[.ref a]/\SqL K H a (d.map V.int)/\ ∀m e n b,Same H b->Mach b m e n->Q (.ref m) b
def xu(H:Hp)(c:Int)(n:Nat)(d:L2.St)(b:Hp):Prop:=Same H b/\ ∃(l:Ad) (a:cf) (num:Int) (e g h:Option V),d=[some (.int c),some (nv n),some (.int num),some (.ref l),e,g,h]/\
 b l=some (.lst (a.map nv))/\H l=none/\a.length=n/\ ∀y∈a,y<n
def Hk(F:Fun K "_law_turn" "_law_turn" AN f fd)(Y:mg "range"=none)(jD:mg "tuple"=none)(kZ:mg "list"=none):FnOk P w K mg base cQ 1 f fd ["_law_cell","_law_rooms"] Cs:=by
 refine F.ok kC (λvs H Q E h=>?_) (λaa A D s H vs Q E hr h=>?_)
 .obtain⟨c,n,rfl,_⟩:=h;rfl
 obtain⟨c,n,rfl,G,h5,q⟩:=h;refine⟨_,(cH (df (i:=2) kC.nd rfl (Or.inl rfl) (ez rn (pv 0) cS)) (cH (df (i:=3) kC.nd rfl (Or.inl rfl) (gD (C5 rfl) rfl kZ boot_list (cE (gD yF rfl Y boot_range (cE (pv 1) cz)) cz))) (cH (hR gT rfl (jy rfl Y (cE (pv 1) cz)) (fh (i:=4) kC.nd rfl (Or.inl rfl)) (cH (df (i:=5) kC.nd rfl (Or.inl rfl) (ez iE (pv 2) (pv 1))) (cH (df (i:=2) kC.nd rfl (Or.inl rfl) (ez rn (pv 2) (pv 1))) (cM (fS (fA tD (ez iE (pv 0) cS) cS (eI _)) (cM (uF (pv 5) (wn (pv 3) (pv 4) uX))) (cM (fS (fA tD (ez iE (pv 0) cS) cS (eI _)) (cH (df (i:=6) kC.nd rfl (Or.inl rfl) (cY fe (pv 3) (pv 4) (λ_ _=>rfl))) (cH (uF (cY fe (pv 3) (pv 5) (λ_ _=>rfl)) (wn (pv 3) (pv 4) uX)) (cM (uF (pv 6) (wn (pv 3) (pv 5) uX))))) (cM (fS (PW.pt (m9 (fA nY (ez iE (pv 0) cS) cS (eI _)) (nr (fA tD (pv 4) cS (eI _))))) (cM (uF (ez iE (pv 2) (pv 1)) (wn (pv 3) (pv 5) uX))) gn))))))))) (cH (AH (fS (fA nY (ez iE (pv 0) cS) cS (eI _)) (cM (df (i:=3) kC.nd rfl (Or.inl rfl) (ez Kw (fX (cE (ez iE (ez rn (pv 0) cS) (pv 1)) cz)) (pv 1)))) gn)) (cM (dr (gD mC rfl jD jz (cE (pv 3) cz)))))))),?_⟩;have I:(0:Int)<(n:Int):=by lia
 refine⟨_,rfl,_,_,rfl,rfl,⟨by decide,by decide⟩,?_⟩;refine⟨_,rfl,(n:Int),rfl,λp1 r=>⟨p1,(n:Int),rfl,cn,by lia,by lia,λl b=>?_⟩⟩;have g1:=(cB r (.rng 0 (n:Int))).trans (cB b (.lst (iB (n:Int).toNat)));have s1: ∀num,xu H c n [some (.int c),some (nv n),some (.int num),some (.ref l),none,none,none] (cg (cg H p1 (.rng 0 (n:Int))) l (.lst (iB (n:Int).toNat))):=
  λnum=>⟨g1,l,List.range n,num,none,none,none,rfl,by rw[cn];rfl,(cB r _).free b,by simp,λy d=>List.mem_range.mp d⟩
 refine⟨_,rfl,(n:Int),rfl,by lia,by lia,wR (λi J B=>xu H c n J B) (s1 _) (λi J B hi p=>?_) (λJ B p=>?_)⟩
 .obtain⟨g,l,L,num,j,m,o,rfl,e,b,a,d⟩:=p;have ab:i<n:=by lia
  have M:(0+(i:Int))=((i:Nat):Int):=by lia
  obtain⟨N,C⟩:=eA num G;obtain⟨m3,m4⟩:=eA (num/ (n:Int)) G;refine⟨_,rfl,_,rfl,_,_,rfl,rfl,I,?_⟩
  try dsimp only
  rw[N];generalize(num%(n:Int)).toNat=k at C;refine⟨_,rfl,_,rfl,_,_,rfl,rfl,⟨by lia,by lia⟩,?_⟩;refine⟨_,rfl,_,_,rfl,rfl,(by decide:(0:Int)<6),_,_,rfl,rfl,_,rfl,lR (λc1=>?_) (λc1=>?_)⟩
  .refine⟨_,rfl,_,rfl,_,rfl,l,_,_,i,rfl,rfl,e,(by rw[M,cj];exact v8 (by lia)),?_⟩
   try dsimp only
   rw[vF];exact⟨gZ g b,l,_,_,_,_,_,rfl,cn,b,by rw[pi,a],xA d C⟩
  refine⟨_,rfl,_,_,rfl,rfl,(by decide:(0:Int)<6),_,_,rfl,rfl,_,rfl,lR (λc2=>?_) (λc2=>?_)⟩
  .refine⟨_,rfl,_,rfl,l,_,_,_,rfl,rfl,SqL.of e,(by rw[M];exact ki (by lia)),?_⟩;refine⟨_,rfl,_,rfl,l,_,_,_,rfl,rfl,SqL.of e,ki (by lia),_,rfl,_,rfl,l,_,_,i,rfl,rfl,e,(by rw[M,cj];exact v8 (by lia)),?_⟩;try dsimp only
   rw[vF];refine⟨_,rfl,_,rfl,_,rfl,l,_,_,k,rfl,rfl,cn,(by rw[cj,pi];exact v8 (by lia)),?_⟩;try dsimp only
   rw[vF,IA];exact⟨gZ g b,l,_,_,_,_,_,rfl,cn,b,by rw[pi,pi,a],xA (xA d (t0 d (by lia))) (t0 d (by lia))⟩
  have stay: ∀j m o,xu H c n [some (.int c),some (nv n),some (.int (num/ (n:Int))),some (.ref l),j,m,o] B:=λj m o=>⟨g,l,L,_,j,m,o,rfl,e,b,a,d⟩;refine⟨_,rfl,_,_,rfl,rfl,(by decide:(0:Int)<6),rfl,_,rfl,lR (λc3=>?_) (λc3=>dU (stay _ _ _))⟩;refine⟨_,rfl,_,_,rfl,rfl,_,rfl,lR (λc4=>?_) (λc4=>stay _ _ _)⟩;refine⟨_,rfl,_,rfl,_,_,rfl,rfl,I,?_⟩
  try dsimp only
  rw[m3];refine⟨_,rfl,_,rfl,l,_,_,k,rfl,rfl,e,(by rw[cj];exact v8 (by lia)),?_⟩
  try dsimp only
  rw[vF];exact⟨gZ g b,l,_,_,_,_,_,rfl,cn,b,by rw[pi,a],xA d m4⟩
 .obtain⟨g,l,L,num,j,m,o,rfl,e,b,a,d⟩:=p;refine⟨xu H c n,?_,λae H4 p4=>?_⟩
  .refine⟨_,rfl,_,_,rfl,rfl,(by decide:(0:Int)<6),rfl,_,rfl,lR (λc5=>?_) (λc5=>⟨g,l,L,num,j,m,o,rfl,e,b,a,d⟩)⟩;obtain⟨N,C⟩:=eA (c/6) G;refine⟨_,rfl,_,_,rfl,rfl,⟨by decide,by decide⟩,_,rfl,_,_,rfl,rfl,I,by show 1<=sizeLine;decide,λl2 u=>?_⟩;have e1:(n:Int).toNat=n:=gb n;refine⟨_,rfl,l2,_,_,rfl,rfl,cn,by lia,by lia,by rw[e1,db];show 1 * n<=_;lia,λl3 v=>?_⟩;have e2:(List.replicate (n:Int).toNat [V.int (c/6%(n:Int))]).flatten=(List.replicate n (c/6%(n:Int)).toNat).map nv:=by
    rw[e1,N,Bp]
    induction n with
    |zero=>rfl
    |succ n _=>simp[List.replicate_succ]
   refine⟨g.trans ((cB u _).trans (cB v _)),l3,List.replicate n (c/6%(n:Int)).toNat,num,_,_,_,rfl,?_,?_,by simp,λy d=>?_⟩
   .rw[cn];exact dn (λz=>some (HO.lst z)) e2
   .exact(g.trans (cB u _)).free v
   .rw[List.eq_of_mem_replicate d];exact C
  .obtain⟨g4,l4,O,num,j,m,o,rfl,T,af,x,U⟩:=p4;exact⟨_,rfl,l4,_,rfl,.inl ⟨SqL.of T,λt ht=>q O t _ (g4.trans (cB ht _)) cn x U⟩⟩
def Ho(F:Fun K "_law_machine" "_law_machine" wJ f fd)(J:dw P w K mg base "_law_cell_at" 1 ["_law_script","_law_k"] (Cf K))(qP:dw P w K mg base "_law_turn" 1 ["_law_cell","_law_rooms"] Cs)
  (jC:mg "range"=none) (jD:mg "tuple"=none):FnOk P w K mg base cQ 3 f fd ["_law_script"] (Fy K):=by
 refine F.ok qE (λvs H Q E h=>?_) (λaa A L s H vs Q E D h=>?_)
 .obtain⟨a,G,rfl,_⟩:=h;rfl
 obtain⟨a,G,rfl,M,q⟩:=h;refine⟨_,(cH (df (i:=1) qE.nd rfl (Or.inr rfl) (ez qg cS (ez iE (dB J D.m rfl (c7 (cq (pv 0) (cq cS c8 rfl) rfl))) cS))) (cH (df (i:=2) qE.nd rfl (Or.inl rfl) (ez qg cS (ez iE (dB J D.m rfl (c7 (cq (pv 0) (cq cS c8 rfl) rfl))) cS))) (cM (dr (gD mC rfl jD jz (cE (gh (CompSc.to (N:=["_law_script","_law_rooms","_law_many"]) (osc:=cL wJ) (vs:=["_law_k"]) {}) rfl rfl (jy rfl jC (cE (pv 2) cz)) (λ_ _ _ _=>gR) (λ_ _ _ _=>(dB qP D.m rfl (c7 (cq (dB J D.m rfl (c7 (cq (pv 1) (cq (ez qg cS (pv 0)) c8 rfl) rfl))) (cq (pv 2) c8 rfl) rfl))))) cz)))))),?_⟩;refine⟨_,rfl,a,G,0,rfl,Int.le_refl 0,M,λc=>⟨_,_,rfl,rfl,(by decide:(0:Int)<5),_,_,rfl,rfl,?_⟩⟩;obtain⟨n,en,n1,n5⟩: ∃n:Nat,(1+c%5:Int)=(n:Int)/\1<=n/\n<=5:=⟨(1+c%5).toNat,by lia,by lia,by lia⟩
 try dsimp only
 rw[en];refine⟨_,rfl,a,G,1,rfl,by decide,M,λc'=>⟨_,_,rfl,rfl,(by decide:(0:Int)<4),_,_,rfl,rfl,?_⟩⟩;obtain⟨k,ek,k1,k4⟩: ∃n:Nat,(1+c'%4:Int)=(n:Int)/\1<=n/\n<=4:=⟨(1+c'%4).toNat,by lia,by lia,by lia⟩
 try dsimp only
 rw[ek];refine⟨_,rfl,(k:Int),rfl,by lia,by lia,oK (λi zs y=>Same H y/\ ∃(b:As) (o:LN),zs=b.map V.ref/\b.length=i/\o.length=i/\(∀(j:Nat) r t,b[j]? =some r->o[j]? =some t->y r=some (.tup (t.map nv)))/\ ∀t∈o,t.length=n/\ ∀x∈t,x<n)
  (small (by lia)) ⟨Same.refl _,[],[],rfl,rfl,rfl,(λj r t e=>wC e (by simp)),(λt ht=>wC ht (by simp))⟩ (λi zs y _ p=>?_) (λi zs y hi p=>?_) (λzs y p l hl=>?_)⟩
 .obtain⟨_,b,o,rfl,e,_⟩:=p;rw[cj];lia
 .obtain⟨g,b,o,rfl,d,u,v,ht⟩:=p;refine⟨gm,iz ?_⟩;refine⟨_,rfl,_,rfl,_,_,rfl,rfl,a,G,_,rfl,by lia,g.seq M,λc=>⟨_,rfl,c,n,rfl,n1,n5,λys r H2 B O T hy=>?_⟩⟩;refine⟨g.trans B,b++[r],o++[ys],by simp,by simp[d],by simp[u],λj r' t' C I=>?_,λt U=>?_⟩
  .by_cases hj:j<i
   .rw[eV (by lia)]at C I;exact B _ _ (v j r' t' C I)
   .have Y:j=i:=by
     have:=(cA.mp C).1;rw[dz,d]at this;have:j<i+1:=this
     lia
    subst Y;rw[eU (by lia),d,mF]at C;rw[eU (by lia),u,mF]at I;cases C;cases I;exact O
  .rcases di.mp U with z|z
   .exact ht t z
   .have e:t=ys:=by simpa using z
    rw[e];exact⟨T,hy⟩
 .obtain⟨g,b,o,rfl,d,u,v,ht⟩:=p;have g1:=cB hl (.lst (b.map V.ref));refine⟨l,_,rfl,.inl ⟨SqL.of cn,λm hm=>?_⟩⟩;have B:=g1.trans (cB hm (.tup (b.map V.ref)));have hk:(k:Int).toNat=k:=gb k;exact q m o n _ (g.trans B) ⟨⟨b,cn,by lia,λi r t e1 O=>B _ _ (v i r t e1 O)⟩,by lia,by lia,n1,n5,ht⟩
def Dm(K:W.Frag):Sp:=λc H Q _=> ∃(m b:Ad) (a:LN) (n r:Nat) (word:cf),c=[.ref m,nv r,.ref b]/\Mach H m a n/\r<n/\SqL K H b (word.map nv)/\(∀l∈word,l<a.length)/\Q (nv (dX a r word)) H
def GY(F:Fun K "led" "led" ou f fd):FnOk P w K mg base cQ 1 f fd ["machine","room","word"] (Dm K):=by
 refine F.ok rJ (λu H Q E h=>?_) (λv A g s H u Q E G h=>?_)
 .obtain⟨m,b,j,n,r,word,rfl,_⟩:=h;rfl
 obtain⟨m,b,j,n,r,word,rfl,M,k,t,hw,q⟩:=h;refine⟨_,(cH (hR gT rfl (gF (pv 2)) (fh (i:=3) rJ.nd rfl (Or.inl rfl)) (cM (df (i:=1) rJ.nd rfl (Or.inl rfl) (cY dO (cY dO (pv 0) (pv 3) (λ_ _=>rfl)) (pv 1) (λ_ _=>rfl))))) (cM (dr (pv 1)))),?_⟩;refine⟨_,rfl,b,rfl,⟨_,t⟩,ni (xs:=word.map nv) (λi c d=>d=H/\ ∃o,c=[some (.ref m),some (nv (dX j r (word.take i))),some (.ref b),o]) ⟨rfl,none,rfl⟩ (λi c d _ p=>by obtain⟨rfl,_⟩:=p;exact t) (λi x c d a p=>?_) (λc d p=>?_)⟩
 .obtain⟨rfl,o,rfl⟩:=p;rw[cF]at a;cases e:word[i]? with
  |none=>rw[e]at a;cases a
  | some l=>
   rw[e]at a;cases a;obtain⟨I,y,z,J,B,C,D,L⟩:=M.at (hw l (cK e));refine⟨_,rfl,_,rfl,m,_,_,_,rfl,rfl,SqT.of z,B,_,rfl,y,_,_,_,rfl,rfl,SqT.of C,ki ?_,rfl,some (nv l),?_⟩
   .rw[D];exact me M _ _ k λx a=>hw x (oI a)
   .rw[h9,e];show _=[some (.ref m),some (nv (dX j r (word.take i++[l]))),some (.ref b),some (nv l)];rw[MF];rfl
 .obtain⟨rfl,o,rfl⟩:=p;refine⟨_,rfl,?_⟩;rw[cj,gI];exact q
def nO(b:LN)(a word:cf):cf:=a.map λr=>dX b r word
def LG{n:Nat}{a:cf}(c:n<=5)(h: ∀x∈a,x<n):eM a=(List.range n).filter λi=>a.contains i:=by
 unfold eM;have e:List.range 5=List.range n++(List.range (5-n)).map (n+ ·):=by rw[<-List.range_add];congr 1;lia
 rw[e,pT];have no:((List.range (5-n)).map (n+ ·)).filter (λi=>a.contains i)=[]:=by
  rw[List.filter_eq_nil_iff];intro y b z;obtain⟨k,_,rfl⟩:=cO.mp b;have:=h _ (fT.mp z);lia
 rw[no,gO]
def wy{a:cf}{x:Nat}(h:x∈eM a):x∈a:=fT.mp (dq.mp h).2
def D3{a:cf}{x:Nat}(h:x∈a)(b:x<5):x∈eM a:=dq.mpr ⟨eE.mpr b,fT.mpr h⟩
def G9(a:cf):(eM a).length<=5:=dt (gX _ _) (by simp)
def sQ(i:Nat)(a:cf):u4 (nv i) (a.map nv)=a.contains i:=by
 unfold u4;rw[v9]
 induction a with
 |nil=>rfl
 | cons x a b=>
  rw[pF,List.contains_cons,b]
  congr 1
  show jr (.int (x:Int)) (.int (i:Int))=(i==x);by_cases h:x=i
  .subst h;show((x:Int)==(x:Int))=(x==x);simp
  .have c: ¬(x:Int)=(i:Int):=by lia
   have d: ¬i=x:=by lia
   show((x:Int)==(i:Int))=(i==x);rw[mz.mpr c,mz.mpr d]
def IJ(a:cf):(a.map nv).all gY=true:=by
 rw[List.all_map,pY];intro x _;rfl
def ql(K:W.Frag):Sp:=λd H Q _=> ∃(m p b:Ad) (c:LN) (n:Nat) (a word:cf),d=[.ref m,.ref p,.ref b]/\Mach H m c n/\SqT K H p (a.map nv)/\a.length<=5/\(∀r∈a,r<n)/\SqL K H b (word.map nv)/\(∀l∈word,l<c.length)/\
 sq H ((eM (nO c a word)).map nv) Q
def GK(F:Fun K "carried" "carried" uZ f fd)(y:dw P w K mg base "led" 1 ["machine","room","word"] (Dm K))(z:mg "tuple"=none)(B:mg "sorted"=none)(C:mg "set"=none):FnOk P w K mg base cQ 3 f fd ["machine","rooms","word"] (ql K):=by
 refine F.ok Lg (λD H Q E h=>?_) (λG A j s H D Q E I h=>?_)
 .obtain⟨m,p,b,d,n,c,word,rfl,_⟩:=h;rfl
 obtain⟨m,p,b,d,n,c,word,rfl,M,u,J,g,L,hw,q⟩:=h;refine⟨_,(cM (dr (gD mC rfl z jz (cE (dS (Gu rfl) rfl B boot_sorted (cE (gD (Kh rfl) rfl C Bz (cE (gh (CompSc.to (N:=["machine","rooms","word"]) (osc:=cL uZ) (vs:=["room"]) {}) rfl rfl (tS (pv 1)) (λ_ _ _ _=>gR) (λ_ _ _ _=>(dB y I.m rfl (c7 (cq (pv 1) (cq (pv 0) (cq (pv 3) c8 rfl) rfl) rfl))))) cz)) cz)) cz)))),?_⟩;have n5:=M.n5;refine⟨_,rfl,p,rfl,⟨_,u⟩,uY (f:=λv=>match v with| .int i=>nv (dX d i.toNat word)|v=>v) (by rw[cj];exact small (by lia)) u (λv Q O q=>?_) (λl T=>?_)⟩
 .obtain⟨r,k,rfl⟩:=cO.mp O;exact⟨_,rfl,_,rfl,_,rfl,m,b,d,n,r,word,rfl,M,g r k,L,hw,q⟩
 .have e:(c.map nv).map (λv=>match v with| .int i=>nv (dX d i.toNat word)|v=>v)=(nO d c word).map nv:=by
   unfold nO;rw[hI,hI];rfl
  try dsimp only
  rw[e];have U:=cB T (.lst ((nO d c word).map nv));refine⟨l,_,rfl,SqL.of cn,λx Y=>?_,λa ha=>⟨a,_,rfl,cn,λo ho=>?_⟩⟩
  .obtain⟨r,k,rfl⟩:=cO.mp Y;have:=me M word r (g r k) hw;lia
  .try dsimp only
   rw[E'];exact⟨o,_,rfl,.inl ⟨SqL.of cn,λt ht=>q t _ (U.trans ((cB ha _).trans ((cB ho _).trans (cB ht _)))) cn⟩⟩
def tX(P:Pg)(w:World)(K:W.Frag)(mg:SV)(base:Heap):Sp:=λj H Q _=> ∃(a st:Ad) (fd:Fd) (e:Ss) (c:cf) (L:Nat) (U:LN) (g:cf->Nat->List Nat),
 j=[.ref a,nv L,.ref st,.non]/\H a=some (.tup (c.map nv))/\H st=some (gJ st fd)/\c∈U/\(∀x∈U,∀l,l<L->g x l∈U)/\U.length<=4000/\L<=4000/\FnOk P w K mg base cQ 5 st fd e (nK (Same H) U L g)/\Binds K fd e []/\
 ∀D h i d,Same H d->WordsAt d D h i->(∀b∈D::i,H b=none)->Told g L c h->Q (.ref D) d
def J4(F:Fun K "refuse_more" "refuse_more" zI f fd)(b:mg "len"=none):FnOk P w K mg base cQ 1 f fd ["things","most"] xR:=by
 refine F.ok G3 (λc H Q E h=>?_) (λe A a s H c Q E g h=>?_)
 .obtain⟨d,rfl,_⟩:=h;rfl
 obtain⟨d,rfl,q⟩:=h;refine⟨_,(cM (fS (PW.pt (m9 (fA DW (pv 1) pO (eI _)) (nr (fA Bj (dS K3 rfl b fc (cE (pv 0) cz)) (pv 1) (eI _))))) (cM Jc) gn)),?_⟩;exact⟨_,rfl,rfl,_,rfl,q⟩
def IC{e m:Vl}(F:DefAt K "reached" mZ f fd e m)(l:dw P w K mg base "refuse_more" 1 ["things","most"] xR)(n:mg "range"=none):FnOk P w K mg base cQ 8 f fd ["start","letters","step","most"] (tX P w K mg base):=by
 refine F.fnOk kB (λo H Q E h=>?_) (λA j s H o Q E h d=>?_)
 .obtain⟨a,st,fd,p,r,L,U,g,rfl,_⟩:=h;rfl
 obtain⟨a,st,z,p,r,L,U,g,rfl,t,k,u,v,few,c,x,y,q⟩:=h;have b:=iG d;exact⟨_,L6 d.m t k u v few c x y q,(cH (df (i:=4) kB.nd rfl (Or.inl rfl) (HC b (pv 0) (fX cz))) (cH (jb (dB l d.m rfl (c7 (cq (pv 4) (cq (pv 3) c8 rfl) rfl)))) (cH (df (i:=5) kB.nd rfl (Or.inl rfl) (fX (cE (pv 0) cz))) (cH (Fe gT (Eb (pv 5) (λ_=>rfl)) (cH (df (i:=6) kB.nd rfl (Or.inl rfl) (fX cz)) (cH (hR gT rfl (gF (pv 5)) (fh (i:=7) kB.nd rfl (Or.inl rfl)) (cM (hR gT rfl (jy rfl n (cE (pv 1) cz)) (fh (i:=8) kB.nd rfl (Or.inl rfl)) (cH (df (i:=9) kB.nd rfl (Or.inl rfl) (Kl 2 (pv 2) (c7 (cq (pv 7) (cq (pv 8) c8 rfl) rfl)))) (cM (fS (qq (yJ b (pv 9) (pv 4))) (cH (tK b (pv 4) (pv 9) (ez wY (mS b (pv 4) (pv 7) (λ_ _=>rfl)) (fX (cE (pv 8) cz))) rfl) (cH (jb (dB l d.m rfl (c7 (cq (pv 4) (cq (pv 3) c8 rfl) rfl)))) (cM (jb (iN iF lA ku lI (pv 6) (cE (pv 9) cz)))))) gn)))))) (cM (df (i:=5) kB.nd rfl (Or.inl rfl) (pv 6)))))) (cM (dr (pv 4)))))))⟩
def eQ:List (Str×Pos×Ad):=[("sets_reached.<locals>.<lambda>",(⟨49,40,49,93⟩:Pos),101),("level_group.<locals>.<lambda>",(⟨121,61,121,110⟩:Pos),200)]
def GJ:(eQ.map (·.2.2)).Nodup:=by decide
def Tabs(H:Hp):Prop:= ∀q∈eQ,TabOk q.1 q.2.1 H q.2.2
def _root_.L2.TabOk.most{a:Str}{pos:Pos}{H d:Hp}{T:Ad}(t:TabOk a pos H T)(g: ∀b u,(∀c,u≠HO.dT c)->(∀h,u≠HO.lst h)->H b=some u->d b=some u):TabOk a pos d T:=by
 rcases t with t|⟨i,j,k⟩
 .exact .inl (g _ _ (λ_ e=>nomatch e) (λ_ e=>nomatch e) t)
 .exact .inr ⟨i,g _ _ (λ_ e=>nomatch e) (λ_ e=>nomatch e) j,g _ _ (λ_ e=>nomatch e) (λ_ e=>nomatch e) k⟩
def Tabs.same{H a:Hp}(t:Tabs H)(g:Same H a):Tabs a:=λq b=>(t q b).same g
def Tabs.most{H c:Hp}(t:Tabs H)(g: ∀b u,(∀a,u≠HO.dT a)->(∀d,u≠HO.lst d)->H b=some u->c b=some u):Tabs c:=λq e=>(t q e).most g
def KeepsBut(T:Ad)(H a:Hp):Prop:= ∀b o,b≠T->H b=some o->a b=some o
def KeepsBut.keeps{T:Ad}{H a:Hp}{c:AV}(g:KeepsBut T H a)(hT:H T=some (.tbl c)):Keeps H a:=λb o d=>by
 obtain⟨z,h⟩:=sX d;exact g b o (i7 z hT λe=>h _ e) z
theorem CA: ∀{l:List (Str×Pos×Ad)} {p q:Str×Pos×Ad},(l.map (·.2.2)).Nodup->p∈l->q∈l->p.2.2=q.2.2->p=q
 | [],_,_,_,hp,_,_=>nomatch hp
 | r::l,p,q,nd,hp,hq,e=>by
  obtain⟨b,d⟩:=iT.mp nd
  rcases dE.mp hp with c|hp
  .rcases dE.mp hq with a|hq
   .rw[c,a]
   .exact wC (cO.mpr ⟨q,hq,by rw[<-c];exact e.symm⟩) b
  .rcases dE.mp hq with a|hq
   .exact wC (cO.mpr ⟨p,hp,by rw[<-a];exact e⟩) b
   .exact CA d hp hq e
def Tabs.but{a:Str}{pos:Pos}{T:Ad}{H c:Hp}{i:AV}(j:(a,pos,T)∈eQ)(t:Tabs H)(hT:H T=some (.tbl i))(g:KeepsBut T H c)(k:TabOk a pos c T):Tabs c:=λd b=>by
 by_cases e:d.2.2=T
 .have:=CA GJ b j e;subst this;exact k
 .rcases t d b with t|⟨l,m,h⟩
  .exact .inl (g _ _ e t)
  .exact .inr ⟨l,g _ _ e m,g _ _ (nE h hT) h⟩
def Ff{H:Hp}{T d a:Ad}(pos:Pos)(c:Str)(hT:H T=some (.tbl #[]))(e:H d=none)(g:H a=none)(h:d≠a)(lo:HO):KeepsBut T H (cg (cg (cg H T (.tbl (im pos a))) a (iy a c)) d lo)/\
  (cg (cg (cg H T (.tbl (im pos a))) a (iy a c)) d lo) T=some (.tbl (im pos a))/\(cg (cg (cg H T (.tbl (im pos a))) a (iy a c)) d lo) a=some (iy a c):=by
 refine⟨λb o i z=>?_,?_,?_⟩
 .rw[cw (dG z e),cw (dG z g),cw i];exact z
 .rw[cw (dG hT e),cw (dG hT g),cn]
 .rw[cw (eC h),cn]
def cr(a:LN)(x:cf)(l:Nat):cf:=eM (nO a x [l])
def dF(n:Nat):LN:=((List.range 32).map cC).filter λx=>x.all λr=>decide (r<n)
def zE(T:Ad)(pos:Pos):Sp:=λh H Q _=> ∃(m p:Ad) (d:LN) (n:Nat) (a:cf),h=[.ref m,.ref p]/\Mach H m d n/\H p=some (.tup (a.map nv))/\a∈dF n/\Tabs H/\
 ∀D e g c,Keeps H c->Tabs c->WordsAt c D e g->(∀b∈D::g,noT H b=none)->Told (cr d) d.length a e->Q (.ref D) c
def cm{n:Nat}{x:cf}:x∈dF n↔eM x=x/\ ∀r∈x,r<n:=by
 unfold dF;rw[dq,cO,pY];constructor
 .rintro⟨⟨k,a,rfl⟩,h⟩;refine⟨?_,λr c=>gE (h r c)⟩;have z: ∀k:Fin 32,eM (cC k)=cC k:=by decide+kernel
  exact z ⟨k,eE.mp a⟩
 .rintro⟨d,e⟩;refine⟨⟨j3 0 (eM x),eE.mpr ?_,by rw[E',d];exact d⟩,λr c=>dD (e r c)⟩;have z: ∀(b:cf) (k:Nat),(∀n∈b,n<5)->k<32->j3 k b<32:=by
   intro b
   induction b with
   |nil=>intro k _ a;exact a
   |cons n b g=>intro k h a;exact g _ (λy i=>h y (eO _ i)) (Fs ⟨k,a⟩ ⟨n,h n (dC ..)⟩)
  exact z _ 0 (λn j=>eE.mp (dq.mp j).1) (by decide)
def Ek(a:cf):eM (eM a)=eM a:=by
 unfold eM;refine pW λi b=>?_;rw[iw,fT,fT,dq,fT];exact⟨λh=>h.2,λh=>⟨b,h⟩⟩
def Mach.noT{H:Hp}{m:Ad}{a:LN}{n:Nat}(M:Mach H m a n):Mach (L2.noT H) m a n:=
 ⟨let⟨b,c,d,e⟩:=M.refs;⟨b,nU c,d,λi r t g h=>nU (e i r t g h)⟩,M.some1,M.few,M.n1,M.n5,M.each⟩
def Mach.keeps{H a:Hp}{m:Ad}{b:LN}{n:Nat}(M:Mach H m b n)(g:Keeps H a):Mach a m b n:=M.noT.same g
def Mach.drop{H:Hp}{m c:Ad}{a:LN}{n:Nat}{e:Heap->Prop}(M:Mach H m a n)(b:H c=some (.ext e)):Mach (L2.drop H c) m a n:=by
 obtain⟨g,d,h,j⟩:=M.refs;refine⟨⟨g,?_,h,λi r t k l=>?_⟩,M.some1,M.few,M.n1,M.n5,M.each⟩
 .rw[fb (nE d b)];exact d
 .have z:=j i r t k l;rw[fb (nE z b)];exact z
def Fu{v c m j:Ad}{O:Obj}{u:LN}{n:Nat}{p:Hp}{pm B:Vl}{a:Arguments}{i:Expr}{d:Scope}{fx a1 a2:Expr}{kw:List Keyword}{lp cp rp:Pos}(e:hE lG=[.Return (some (.Call fx [a1,a2,.Lambda a i d lp] kw cp)) rp])
  (jH:dw P w K mg base "carried" 3 ["machine","rooms","word"] (ql K)) (M:Mach p m u n) (h1:p v=some (gJ v (fW "sets_reached.<locals>.<lambda>" a i d "machine" c pm (.ref j) B))) (T:p c=some (fP c m O)) (h3:p j=some (iy j "sets_reached.<locals>.<lambda>")):
  FnOk P w K mg base cQ 5 v (fW "sets_reached.<locals>.<lambda>" a i d "machine" c pm (.ref j) B) ["here","letter"] (nK (Same p) (dF n) u.length (cr u))/\Binds K (fW "sets_reached.<locals>.<lambda>" a i d "machine" c pm (.ref j) B) ["here","letter"] []:=by
 cases e;refine⟨Ei (k:=4) (m:=m) (oc:=O) ⟨rfl,rfl,rfl,by decide+kernel,by decide+kernel,rfl,by decide+kernel⟩ (λU H Q E h=>?_) (λU H Q E h=>?_) (λA C s H U Q E hr h=>?_),.all λus D=>match us,D with| [_,_],_=>rfl⟩
 .obtain⟨t,x,l,rfl,_⟩:=h;rfl
 .obtain⟨t,x,l,rfl,g,_⟩:=h;exact⟨g _ _ h1,g _ _ T,g _ _ h3⟩
 .obtain⟨t,x,l,rfl,g,ht,hx,D,q⟩:=h;refine⟨_,(dB jH hr.m rfl (c7 (cq (pv 2) (cq (pv 0) (cq (fX (cE (pv 1) cz)) c8 rfl) rfl) rfl))),?_⟩;obtain⟨x1,x2⟩:=cm.mp hx;have G:=g _ _ T;refine⟨_,rfl,_,rfl,_,rfl,by show 1<=sizeLine;decide,λb hb=>?_⟩;have I:=cB hb (.lst [nv l]);have M1:=((M.same g).drop G).same I;have J:(cg (L2.drop H c) b (.lst [nv l])) t=some (.tup (x.map nv)):=I _ _ (by rw[fb (nE ht G)];exact ht);refine⟨m,t,b,u,n,x,[l],rfl,M1,SqT.of J,by rw[<-x1];exact G9 x,x2,SqL.of cn,λz hz=>by rw[cW.mp hz];exact D,λr H3 g3 Y free=>q r _ (λy o L=>?_) ?_⟩
  .by_cases N:y=c
   .subst N;rw[G]at L;cases L;exact cn
   .rw[cw N];exact g3 _ _ (I _ _ (by rw[fb N];exact L))
  .rw[cw (dG Y free)];exact Y
def Hv{cd T:Ad}(F:DefAt K "sets_reached" lG f fd .none (.ref cd))(hC:PySem.W.CodeHd base cd T)(bm:lX mg base)(hq:(("sets_reached.<locals>.<lambda>":Str),(⟨49,40,49,93⟩:Pos),T)∈eQ)(jH:dw P w K mg base "carried" 3 ["machine","rooms","word"] (ql K))
  (kQ:wU P w K mg base "reached" 8 ["start","letters","step","most"] (tX P w K mg base) [.non]) (jB:mg "len"=none):FnOk P w K mg base cQ 10 f fd ["machine","rooms"] (zE T (⟨49,40,49,93⟩:Pos)):=by
 refine F.fnOk Gs (λvs H Q E h=>?_) (λA af s H vs Q E h hr=>?_)
 .obtain⟨m,p,Y,n,v,rfl,_⟩:=h;rfl
 obtain⟨m,p,Y,n,v,rfl,M,hp,hU,hT,q⟩:=h;refine⟨_,?_,(cM (dr (FG kQ hr.m rfl (j:=0) rfl rfl rfl rfl (c7 (cq (pv 1) (cq (dS fJ rfl jB fc (cE (pv 0) cz)) (cq (DC (qual:="sets_reached.<locals>.<lambda>") rfl hC bm (λ_ _ _ _ _=>rfl) rfl rfl) c8 rfl) rfl) rfl)))))⟩;obtain⟨rs,hm,ag,_⟩:=M.refs;refine⟨_,rfl,_,rfl,m,_,rfl,.inr (SqT.of hm),?_⟩
 try dsimp only
 rw[cj,ag];have go: ∀(B t:Ad) (J:Vl) (L:Hp) (aa:AV),H T=some (.tbl aa)->KeepsBut T H L->L T=some (.tbl (im (⟨49,40,49,93⟩:Pos) t))->L t=some (iy t "sets_reached.<locals>.<lambda>")-> ∀(d:Arguments) (k:Expr) (e:Scope) (pm:Vl) (c:Ad),L B=some (gJ B (fW "sets_reached.<locals>.<lambda>" d k e "machine" c pm (.ref t) J))->
   ∀C,L c=none->(FnOk P w K mg base cQ 5 B (fW "sets_reached.<locals>.<lambda>" d k e "machine" c pm (.ref t) J) ["here","letter"] (nK (Same (cg L c (fP c m C))) (dF n) Y.length (cr Y)))->Binds K (fW "sets_reached.<locals>.<lambda>" d k e "machine" c pm (.ref t) J) ["here","letter"] []->
   tX P w K mg base [.ref p,nv Y.length,.ref B,.non] (cg L c (fP c m C)) (λr H2=>H2 c=some (fP c m C)/\Q r (L2.drop H2 c)) E0:=λB t J L aa ab kb h1 h2 d k e pm c h3 C G hF hB=>by
  have u:=kb.keeps ab;have i:=cB G (fP c m C);have n5:=M.n5;refine⟨p,B,_,_,v,Y.length,dF n,cr Y,rfl,i _ _ (u _ _ (nU hp)),i _ _ h3,hU,λx hx l hl=>?_,?_,?_,hF,hB,λD ws as H2 N W nw TT=>⟨N _ _ cn,q D ws as _ (λb o O=>?_) (hT.but hq ab (λb o nb O=>?_) (.inr ⟨t,?_,?_⟩)) ⟨W.len,?_,λj a r e1 e2=>?_⟩ (λb O=>?_) TT⟩⟩
  .obtain⟨x1,x2⟩:=cm.mp hx;refine cm.mpr ⟨Ek _,λr hr=>?_⟩;obtain⟨y,h4,rfl⟩:=cO.mp (wy hr);exact me M [l] y (x2 y h4) λz hz=>by rw[cW.mp hz];exact hl
  .exact dt (gX _ _) (by rw[cj,fV];decide)
  .have:=M.few;lia
  .have z:=u b o O;rw[fb (dG z G)];exact N _ _ (i _ _ z)
  .have z:=kb b o nb O;rw[fb (dG z G)];exact N _ _ (i _ _ z)
  .rw[fb (dG h1 G)];exact N _ _ (i _ _ h1)
  .rw[fb (dG h2 G)];exact N _ _ (i _ _ h2)
  .rw[fb (nE W.dict (N _ _ cn))];exact W.dict
  .have z:=W.list j a r e1 e2;rw[fb (nE z (N _ _ cn))];exact z
  .have z:=nw b O;cases y:L2.noT H b with
   |none=>rfl
   |some o=>
    have z2:=i _ _ (u _ _ y);rw[z]at z2;cases z2
 rcases hT _ hq with g|⟨t,g,I⟩
 .refine .inl ⟨g,λB t J U I ne=>⟨m,rfl,λC G=>?_⟩⟩;obtain⟨u,ah,ae⟩:=Ff (⟨49,40,49,93⟩:Pos) "sets_reached.<locals>.<lambda>" g U I ne _;have i:=cB G (fP (s.heap.objs.size+1) m C);obtain⟨F1,F2⟩:=Fu rfl jH ((M.keeps (u.keeps g)).same i) (i _ _ cn) cn (i _ _ ae);exact go B t J _ _ g u ah ae _ _ _ _ _ cn C G F1 F2
 .refine .inr ⟨t,g,I,λB J U=>⟨m,rfl,λC G=>?_⟩⟩;have u: ∀lo,Same H (cg H B lo):=λlo=>cB U lo;have i:=cB G (fP (s.heap.objs.size+1) m C);obtain⟨F1,F2⟩:=Fu rfl jH ((M.same (u _)).same i) (i _ _ cn) cn (i _ _ (u _ _ _ I));exact go B t J _ _ g (λb o _ O=>u _ _ _ O) (u _ _ _ g) (u _ _ _ I) _ _ _ _ _ cn C G F1 F2
def vm:Sp:=λa H Q _=> ∃n:Nat,a=[nv n]/\n<=1000/\sq H ((List.range n).map nv) Q
def J5(F:Fun K "still" "still" AE f fd)(b:mg "tuple"=none)(c:mg "range"=none):FnOk P w K mg base cQ 1 f fd ["rooms"] vm:=by
 refine F.ok F8 (λd H Q E h=>?_) (λe A a s H d Q E i h=>?_)
 .obtain⟨n,rfl,_⟩:=h;rfl
 obtain⟨n,rfl,j,q⟩:=h;refine⟨_,(cM (dr (gD (LO rfl) rfl b jz (cE (gD yF rfl c boot_range (cE (pv 0) cz)) cz)))),?_⟩;refine⟨_,rfl,(n:Int),rfl,λp g=>⟨p,(n:Int),rfl,cn,by lia,by lia,λt ht=>?_⟩⟩;exact q t _ ((cB g _).trans (cB ht _)) cn
def dL(xs a:cf):cf:=xs.map λx=>a.getD x 0
def tI:Sp:=λe H Q _=> ∃(a b:Ad) (c d:cf),e=[.ref a,.ref b]/\H a=some (.tup (c.map nv))/\H b=some (.tup (d.map nv))/\(∀x∈c,x<d.length)/\c.length<=1000/\sq H ((dL c d).map nv) Q
def IF(F:Fun K "behind" "behind" wT f fd)(l:mg "tuple"=none):FnOk P w K mg base cQ 1 f fd ["one","other"] tI:=by
 refine F.ok JN (λm H Q E h=>?_) (λn A d s H m Q E B h=>?_)
 .obtain⟨a,b,g,c,rfl,_⟩:=h;rfl
 obtain⟨a,b,g,c,rfl,k,o,j,r,q⟩:=h;refine⟨_,(cM (dr (gD mC rfl l jz (cE (gh (CompSc.to (N:=["one","other"]) (osc:=cL wT) (vs:=["room"]) {}) rfl rfl (tS (pv 0)) (λ_ _ _ _=>gR) (λ_ _ _ _=>(cY (IxR.k (K:=K) mY dO rfl) (pv 2) (pv 0) (λ_ _=>rfl)))) cz)))),?_⟩;have e:(g.map nv).map (λv=>match v with| .int i=>nv (c.getD i.toNat 0)|v=>v)=(dL g c).map nv:=by
  unfold dL;rw[hI,hI];rfl
 refine⟨_,rfl,a,rfl,⟨_,SqT.of k⟩,uY (f:=λv=>match v with| .int i=>nv (c.getD i.toNat 0)|v=>v) (by rw[cj];exact small r) (SqT.of k) (λv Q u q=>?_) (λp y=>?_)⟩
 .obtain⟨x,z,rfl⟩:=cO.mp u;exact⟨_,rfl,_,rfl,b,_,_,_,rfl,rfl,SqT.of o,ki (j x z),q⟩
 .rw[e];exact⟨p,_,rfl,.inl ⟨SqL.of cn,λt ht=>q t _ ((cB y _).trans (cB ht _)) cn⟩⟩
def iP(n:Nat):Nat->List cf
 |0=>[[]]
 |k+1=>(iP n k).flatMap λx=>(List.range n).map λr=>x++[r]
theorem de{n:Nat}: ∀{k:Nat} {x:cf},x∈iP n k↔x.length=k/\ ∀r∈x,r<n
 | 0,x=>by
  show x∈[[]]↔_;rw[cW];constructor
  .rintro rfl;exact⟨rfl,λr a=>nomatch a⟩
  .rintro⟨h,_⟩;exact m7.mp h
 | k+1,x=>by
  show x∈(iP n k).flatMap _↔_;rw[List.mem_flatMap];constructor
  .rintro⟨y,e,g⟩;obtain⟨r,a,rfl⟩:=cO.mp g;obtain⟨b,c⟩:=de.mp e;refine⟨by simp[b],λz i=>?_⟩
   rcases di.mp i with m|m
   .exact c z m
   .rw[cW.mp m];exact eE.mp a
  .rintro⟨b,c⟩;have d:x≠[]:=λz=>by rw[z]at b;cases b
   refine⟨x.dropLast,de.mpr ⟨by rw[List.length_dropLast,b];rfl,λr a=>c r (List.dropLast_subset _ a)⟩,cO.mpr ⟨x.getLast d,eE.mpr (c _ (List.getLast_mem d)),Dv d⟩⟩
theorem Ce{n:Nat}: ∀k,(iP n k).length=n ^ k
 |0=>rfl
 | k+1=>by
  show((iP n k).flatMap _).length=_;rw[List.length_flatMap];have z: ∀l:LN,(l.map λx=>((List.range n).map λr=>x++[r]).length).sum=l.length * n:=by
   intro l
   induction l with
   |nil=>simp
   |cons a l b=>rw[fM,List.sum_cons,b,cj,fV,i9,Nat.succ_mul,wP]
  rw[z,Ce k,Nat.pow_succ]
def Gf{n:Nat}(h:n<=5):(iP n n).length<=4000:=by
 rw[Ce];have z: ∀k:Fin 6,(k:Nat) ^ (k:Nat)<=4000:=by decide
 exact z ⟨n,by lia⟩
def Ll(n:Nat):List.range n∈iP n n:=de.mpr ⟨fV,λr a=>eE.mp a⟩
def gl(t:cf):Int:= -((t.length:Nat):Int)
def jm(a:LN)(t:cf):LN:=if a.contains t then a else a++[t]
def uniq(a:LN):LN:=a.foldl jm []
def JB(a:LN)(t:cf):uniq (a++[t])=jm (uniq a) t:=by
 unfold uniq;rw[nP];rfl
def J0{a:LN}{t x:cf}:x∈jm a t↔x∈a∨x=t:=by
 unfold jm;by_cases h:a.contains t=true
 .rw[wB h];constructor
  .exact .inl
  .rintro(b|rfl)
   .exact b
   .exact fT.mp h
 .rw[wA h,di,cW]
def Ir{a:LN}{t:cf}(nd:a.Nodup):(jm a t).Nodup:=by
 unfold jm;by_cases h:a.contains t=true
 .rw[wB h];exact nd
 .rw[wA h,xC];refine⟨nd,by simp,λx b y c z=>h (List.contains_iff_mem.mpr ?_)⟩;rw[<-cW.mp c,<-z];exact b
def Aj(b:LN):(uniq b).Nodup/\ ∀x,x∈uniq b↔x∈b:=by
 have go: ∀(b a:LN),a.Nodup->(b.foldl jm a).Nodup/\ ∀x,x∈b.foldl jm a↔x∈a∨x∈b:=by
  intro b
  induction b with
  |nil=>intro a nd;exact⟨nd,λx=>by simp⟩
  |cons t b e=>
   intro a nd;obtain⟨c,d⟩:=e (jm a t) (Ir nd);refine⟨c,λx=>?_⟩;rw[zj,d x,J0,dE,or_assoc]
 obtain⟨c,d⟩:=go b [] List.nodup_nil;exact⟨c,λx=>by rw[show uniq b=b.foldl jm []from rfl,d x];simp⟩
def JG{b:List (List cZ×V)}{d:LN}{t:cf}{v:V}(h:b.map (·.1)=d.map nk):(hO b (nk t) v).map (·.1)=(jm d t).map nk:=by
 have e:(b.any λa=>decide (a.1=nk t))=d.contains t:=by
  rw[iw,xv,fT];constructor
  .rintro⟨a,g,i⟩;have m:a.1∈d.map nk:=by rw[<-h];exact cO.mpr ⟨a,g,rfl⟩
   obtain⟨u,j,k⟩:=cO.mp m;have z:=xz (k.trans (gE i));rw[<-z];exact j
  .intro ht;have m:nk t∈b.map (·.1):=by rw[h];exact cO.mpr ⟨t,ht,rfl⟩
   obtain⟨a,g,i⟩:=cO.mp m;exact⟨a,g,dD i⟩
 unfold hO jm;rw[e];by_cases c:d.contains t=true
 .rw[wB c,wB c,<-h,hI];refine lK λa _=>?_;show(if a.1=nk t then(a.1,v)else a).1=a.1;split<;>rfl
 .rw[wA c,wA c,dP,dP,h];rfl
theorem Ba{i:Type}{lt:i->i->Bool}(j: ∀x,lt x x=false)(k: ∀x y z,lt x y=true->lt y z=true->lt x z=true): ∀{c d:List i},c.Pairwise (λx y=>lt x y=true)->d.Pairwise (λx y=>lt x y=true)->(∀x,x∈c↔x∈d)->c=d
 | [],[],_,_,_=>rfl
 | [],q::d,_,_,h=>wC ((h q).mpr (dC ..)) (by simp)
 |p::c,[],_,_,h=>wC ((h p).mp (dC ..)) (by simp)
 | p::c,q::d,n,o,h=>by
  obtain⟨l,s⟩:=pG.mp n;obtain⟨m,t⟩:=pG.mp o;have no: ∀{x y:i},lt x y=true->lt y x=true->False:=λ{x y} a b=>by
   have:=k _ _ _ a b;rw[j]at this;cases this
  have u:p=q:=by
   rcases dE.mp ((h p).mp (dC ..))with e|e
   .exact e
   .rcases dE.mp ((h q).mpr (dC ..))with e'|e'
    .exact e'.symm
    .exact(no (m p e) (l q e')).elim
  subst u;have rest:c=d:=Ba j k s t λr=>by
   constructor
   .intro g
    rcases dE.mp ((h r).mp (eO _ g))with e|e
    .subst e;have:=l r g;rw[j]at this;cases this
    .exact e
   .intro g
    rcases dE.mp ((h r).mpr (eO _ g))with e|e
    .subst e;have:=m r g;rw[j]at this;cases this
    .exact e
  rw[rest]
def Di:Sp:=λe H Q _=> ∃(l:Ad) (d:As) (a U:LN),e=[.ref l]/\H l=some (.lst (d.map .ref))/\TupsAt H d a/\(∀t∈a,t∈U)/\U.length<64/\a.length<=4000/\
 ∀D bs c b,Same H b->H D=none->b D=some (.lst (bs.map .ref))->TupsAt b bs c->(∀x,x∈c↔x∈a)->c.Pairwise (λx y=>fK gl x y=true)->Q (.ref D) b
def Ju(F:Fun K "place_of" "place_of" Be f fd)(d:mg "len"=none):FnOk P w K mg base cQ 1 f fd ["rooms"] (qc gl):=by
 refine F.ok Jw (λe H Q E h=>?_) (λg A b s H e Q E k h=>?_)
 .obtain⟨a,t,rfl,_⟩:=h;rfl
 obtain⟨a,t,rfl,i,q⟩:=h;refine⟨_,(cM (dr (jg (c7 (cq (t7 Kj (dS fJ rfl d fc (cE (pv 0) cz))) (cq (pv 0) c8 rfl) rfl))))),?_⟩;refine⟨_,rfl,a,_,rfl,.inr (SqT.of i),_,rfl,_,rfl,by show 2<=sizeLine;decide,λj c=>?_⟩;refine q j _ (cB c _) ?_;rw[cn,cj];rfl
def Gp(F:Fun K "in_order" "in_order" yZ f fd)(N:dw P w K mg base "place_of" 1 ["rooms"] (qc gl))(O:mg "sorted"=none):FnOk P w K mg base cQ 5 f fd ["sets"] Di:=by
 refine F.ok qY (λY H Q E h=>?_) (λaa A r s H Y Q E u h=>?_)
 .obtain⟨l,z,c,U,rfl,_⟩:=h;rfl
 obtain⟨l,z,c,U,rfl,B,T,inU,few,C,q⟩:=h;have hu:=u.units;have v:=iG u;refine⟨_,(cH (df (i:=1) qY.nd rfl (Or.inl rfl) vK) (cH (hR gT rfl (gF (pv 0)) (fh (i:=2) qY.nd rfl (Or.inl rfl)) (cM (tK v (pv 1) (pv 2) pU rfl))) (cM (dr (KA rfl hu N u.m rfl O rfl (pv 1)))))),?_⟩;intro d G;have I:=cB G (.dT []);have la:=T.len;obtain⟨un,J⟩:=Aj c;refine⟨_,rfl,l,rfl,⟨_,SqL.of (I _ _ B)⟩,ni (xs:=z.map .ref) (λi n j=>Same H j/\ ∃b o,j d=some (.dT b)/\b.map (·.1)=(uniq (c.take i)).map nk/\n=[some (.ref l),some (.ref d),o]) ⟨I,[],none,cn,rfl,rfl⟩ (λi n j _ p=>SqL.of (p.1 _ _ B)) (λi x n j e p=>?_) (λn j p=>?_)⟩
 .obtain⟨g,b,o,y,k,rfl⟩:=p;rw[cF]at e;obtain⟨a,L,rfl⟩:=dR.mp e;have li:=(cA.mp L).1;obtain⟨t,M⟩: ∃t,c[i]? =some t:=⟨_,ck (by lia)⟩;have ha:=g _ _ (T.is i a t L M);have lk:b.length<=c.length:=by
   rw[<-cj (f:=(·.1)) (as:=b),k,cj];refine dt (ko (Aj _).1 (U:=c) λx e=>?_) (cD _);exact oI (((Aj _).2 x).mp e)
  refine⟨_,rfl,_,rfl,d,_,rfl,DPut.t y (by rw[hZ];exact ha) (by rw[db];lia),?_⟩;refine⟨gZ g G,_,_,cn,?_,rfl⟩;rw[JG k,h9,M];show _=(uniq (c.take i++[t])).map nk;rw[JB]
 .obtain⟨g,b,o,y,k,rfl⟩:=p;rw[cj,la,gI]at k;have lu:(uniq c).length<64:=uI (ko un λx e=>inU x ((J x).mp e)) few;refine⟨_,rfl,d,rfl,d,b,uniq c,rfl,y,k,lu,λD bs us H2 g2 hD eD T2 m pw=>?_⟩;exact q D bs us H2 (g.trans g2) (g.free hD) eD T2 (λx=>(m.mem_iff).trans (J x)) pw
def PicsAt(H:Hp)(l:Ad)(d:As)(e:TW):Prop:=H l=some (.lst (d.map .ref))/\d.length=e.length/\ ∀(j:Nat) (a:Ad) (p:cf×cf),d[j]? =some a->e[j]? =some p-> ∃b c,c≠l/\H a=some (.tup [.ref b,.ref c])/\H b=some (.tup (p.1.map nv))/\H c=some (.lst (p.2.map nv))
def BS(T:Ad)(pos:Pos):Sp:=λd H Q _=> ∃(m:Ad) (b:LN) (n:Nat),d=[.ref m]/\Mach H m b n/\Tabs H/\
 ∀l e c a,Keeps H a->Tabs a->PicsAt a l e c->Told (cr b) b.length (List.range n) c->Q (.ref l) a
def gB(a:cf):List Dt:=(a.map λ(n:Nat)=>(n:Int)).map Dt.int
def AK{a b:cf}(h:gB a=gB b):a=b:=dh.mp (dn Dt.tup h)
def DE{n:Nat}(h:n<=5):List.range n∈dF n:=by
 have z: ∀k:Fin 6,eM (List.range k)=List.range k:=by decide+kernel
 exact cm.mpr ⟨z ⟨n,by lia⟩,λr a=>eE.mp a⟩
def JU{T:Ad}(F:Fun K "pictures" "pictures" yf f fd)(kP:dw P w K mg base "still" 1 ["rooms"] vm)(jO:dw P w K mg base "sets_reached" 10 ["machine","rooms"] (zE T (⟨49,40,49,93⟩:Pos)))(jB:mg "len"=none)(kZ:mg "list"=none):
  FnOk P w K mg base cQ 12 f fd ["machine"] (BS T (⟨49,40,49,93⟩:Pos)):=by
 refine F.ok rA (λvs H Q E h=>?_) (λaa A g s H vs Q E G h=>?_)
 .obtain⟨m,I,n,rfl,_⟩:=h;rfl
 obtain⟨m,I,n,rfl,M,hT,q⟩:=h;have t1:=M.some1;have n5:=M.n5;obtain⟨_,r0,b1,b2,b3,b4,b5,b6⟩:=M.at (l:=0) (by lia);refine⟨_,(cH (df (i:=1) rA.nd rfl (Or.inl rfl) (dB jO G.m rfl (c7 (cq (pv 0) (cq (dB kP G.m rfl (cE (dS fJ rfl jB fc (cE (cY dO (pv 0) cS (λ_ _=>rfl)) cz)) cz)) c8 rfl) rfl)))) (cM (dr (gD (Ka rfl) rfl kZ boot_list (cE (LR PySem.F.plainAttrs_dict PySem.F.slot_dict_items PySem.F.type_dict_items FZ (pv 1)) cz))))),?_⟩;refine⟨_,rfl,_,rfl,m,_,_,_,rfl,rfl,SqT.of b1,b3,r0,_,rfl,.inr (SqT.of b4),?_⟩
 try dsimp only
 rw[cj,b5];refine⟨n,rfl,by lia,λst H1 r t=>⟨m,st,I,n,List.range n,rfl,M.same r,t,DE n5,hT.same r,λD ws as J k2 T2 W _ TT=>?_⟩⟩;refine⟨_,rfl,.inr (.inr (.inl ⟨rfl,.inr ⟨_,W.dict⟩⟩)),rfl,D,_,rfl,W.dict,λv hv=>?_⟩;have u:=cB hv (tQ v D);refine⟨v,D,_,rfl,cn,u _ _ W.dict,λl ps y d=>?_⟩;have B:Same (cg J v (tQ v D)) y:=λb o e=>by
  rw[d.rest b (dG e d.new) λz=>by rw[d.news b z]at e;cases e];exact e
 have L:Same J y:=u.trans B;refine q l ps ws y ((r.keeps.trans k2).trans L.keeps) (T2.same L) ⟨d.lst,by rw[d.len,CO W.len],λj a p t C=>?_⟩ TT;obtain⟨k,x,b,N,O,f3⟩:=d.is j a t;obtain⟨hj,_⟩:=cA.mp C;obtain⟨c,U⟩: ∃c,as[j]? =some c:=⟨_,ck (by rw[W.len];exact hj)⟩;rw[HU C U]at N;cases N;have Y:=u _ _ (W.list j c p U C);rw[hZ]at O;exact⟨b,c,dG Y d.new,f3,B _ _ O,B _ _ Y⟩
def BL{a b:cf}(h: ∀r,r∈a↔r∈b):eM a=eM b:=by
 unfold eM;refine pW λi _=>?_;rw[iw,fT,fT];exact h i
def ry{H:Hp}{m:Ad}{a:LN}{n:Nat}(M:Mach H m a n){x:cf}{l:Nat}(b:x∈dF n)(c:l<a.length):cr a x l∈dF n:=by
 obtain⟨i,d⟩:=cm.mp b;refine cm.mpr ⟨Ek _,λr e=>?_⟩;obtain⟨y,g,rfl⟩:=cO.mp (wy e);exact me M [l] y (d y g) λz h=>by rw[cW.mp h];exact c
theorem xP{H:Hp}{m:Ad}{a:LN}{n:Nat}(M:Mach H m a n): ∀(word:cf) (x:cf),x∈dF n->(∀l∈word,l<a.length)->cV (cr a) x word=eM (nO a x word)
 | [],x,c,_=>by
  show x=eM (x.map λr=>dX a r []);rw[show(λr=>dX a r [])=id from rfl,vS];exact(cm.mp c).1.symm
 | l::word,x,c,h=>by
  have e:=h l (dC ..);have g:=M.n5;show cV (cr a) (cr a x l) word=_;rw[xP M word _ (ry M c e) λy b=>h y (eO _ b)];refine BL λr=>?_;unfold nO;rw[cO,cO];constructor
  .rintro⟨y,b,rfl⟩;obtain⟨z,d,rfl⟩:=cO.mp (wy b);exact⟨z,d,rfl⟩
  .rintro⟨z,d,rfl⟩;have i:=me M [l] z ((cm.mp c).2 z d) λy b=>by rw[cW.mp b];exact e
   exact⟨dX a z [l],D3 (cO.mpr ⟨z,d,rfl⟩) (by lia),rfl⟩
theorem AD{b:Type}{P:Nat->b->Prop}: ∀{n:Nat},(∀j,j<n-> ∃x,P j x)-> ∃a:List b,a.length=n/\ ∀(j:Nat) (x:b),a[j]? =some x->P j x
 |0,_=>⟨[],rfl,λj x e=>by simp at e⟩
 | n+1,h=>by
  obtain⟨a,c,d⟩:=AD (n:=n) λj g=>h j (by lia);obtain⟨x,i⟩:=h n (by lia);refine⟨a++[x],by simp[c],λj y e=>?_⟩;by_cases g:j<n
  .rw[eV (by lia)]at e;exact d j y e
  .rw[eU (by lia)]at e;have z:j-a.length=0:=by
    have:=(cA.mp e).1;simp at this;lia
   rw[z]at e;cases e;have k:j=n:=by lia
   subst k;exact i
structure Prs(H:Hp)(l:Ad)(as:As)(bc:List (Ad×Ad))(ws:TW):Prop where
 lst:H l=some (.lst (as.map .ref))
 la:as.length=ws.length
 lb:bc.length=ws.length
 is: ∀(j:Nat) (a:Ad) (q:Ad×Ad) (p:cf×cf),as[j]? =some a->bc[j]? =some q->ws[j]? =some p->q.2≠l/\H a=some (.tup [.ref q.1,.ref q.2])/\H q.1=some (.tup (p.1.map nv))/\H q.2=some (.lst (p.2.map nv))
def PicsAt.prs{H:Hp}{l:Ad}{i:As}{d:TW}(h:PicsAt H l i d): ∃o,Prs H l i o d:=by
 obtain⟨r,s,t⟩:=h;obtain⟨o,u,v⟩:=AD (n:=d.length) (P:=λj (q:Ad×Ad)=> ∀a p,i[j]? =some a->d[j]? =some p->q.2≠l/\H a=some (.tup [.ref q.1,.ref q.2])/\H q.1=some (.tup (p.1.map nv))/\H q.2=some (.lst (p.2.map nv))) λj x=>by
  obtain⟨a,k⟩: ∃a,i[j]? =some a:=⟨_,ck (by lia)⟩;obtain⟨p,m⟩: ∃p,d[j]? =some p:=⟨_,ck x⟩;obtain⟨b,c,y,z,A,B⟩:=t j a p k m;refine⟨(b,c),λD E e g=>?_⟩;rw[k]at e;rw[m]at g;cases e;cases g;exact⟨y,z,A,B⟩
 exact⟨o,r,s,u,λj a q p k C m=>v j q C a p k m⟩
def Prs.at{H:Hp}{l:Ad}{as:As}{c:List (Ad×Ad)}{b:TW}(h:Prs H l as c b){j:Nat}(i:j<b.length): ∃a q p,as[j]? =some a/\c[j]? =some q/\b[j]? =some p/\q.2≠l/\H a=some (.tup [.ref q.1,.ref q.2])/\H q.1=some (.tup (p.1.map nv))/\H q.2=some (.lst (p.2.map nv)):=by
 have k:=h.la;have m:=h.lb;obtain⟨a,d⟩: ∃a,as[j]? =some a:=⟨_,ck (by lia)⟩;obtain⟨q,e⟩: ∃q,c[j]? =some q:=⟨_,ck (by lia)⟩;obtain⟨p,g⟩: ∃p,b[j]? =some p:=⟨_,ck i⟩;exact⟨a,q,p,d,e,g,h.is j a q p d e g⟩
def zc(a:LN)(n:Nat)(x:cf):Prop:= ∃word:cf,(∀l∈word,l<a.length)/\cV (cr a) (List.range n) word=x
structure FamOf(ts:LN)(n:Nat)(us:LN):Prop where
 up:us.Pairwise λx y=>fK gl x y=true
 mem: ∀x,x∈us↔(zc ts n x∨ ∃r,r<n/\x=[r])
def FamOf.uniq{b:LN}{n:Nat}{a c:LN}(d:FamOf b n a)(e:FamOf b n c):a=c:=Ba (kX gl a).irr (kX gl a).trans d.up e.up λx=>(d.mem x).trans (e.mem x).symm
def By{a:LN}{n:Nat}{b:TW}(T:Told (cr a) a.length (List.range n) b)(x:cf):x∈b.map (·.1)↔zc a n x:=by
 constructor
 .intro h;obtain⟨p,c,rfl⟩:=cO.mp h;obtain⟨d,e⟩:=T.run p c;exact⟨p.2,d,e⟩
 .rintro⟨word,g,rfl⟩;obtain⟨u,i,_⟩:=T.least _ word rfl g;exact cO.mpr ⟨_,i,rfl⟩
def tJ{n r:Nat}(b:n<=5)(h:r<n):[r]∈dF n:=by
 have z: ∀k:Fin 5,eM [(k:Nat)]=[(k:Nat)]:=by decide+kernel
 exact cm.mpr ⟨z ⟨r,by lia⟩,λx a=>by rw[cW.mp a];exact h⟩
def z8{H:Hp}{m:Ad}{a:LN}{n:Nat}(M:Mach H m a n){x:cf}(h:zc a n x):x∈dF n:=by
 obtain⟨word,b,rfl⟩:=h;exact pV (DE M.n5) (λy c l d=>ry M c d) word b
def At(n:Nat):(dF n).length<=32:=dt (gX _ _) (by rw[cj,fV];decide)
def FamOf.inU{H:Hp}{m:Ad}{a:LN}{n:Nat}{b:LN}(M:Mach H m a n)(h:FamOf a n b){x:cf}(c:x∈b):x∈dF n:=by
 rcases (h.mem x).mp c with z|⟨r,d,rfl⟩
 .exact z8 M z
 .exact tJ M.n5 d
def FamOf.few{H:Hp}{m:Ad}{d:LN}{n:Nat}{c:LN}(M:Mach H m d n)(h:FamOf d n c):c.length<=32:=by
 refine dt (ko (U:=dF n) ?_ λx g=>h.inU M g) (At n);exact h.up.imp λ{a b} z e=>by
  subst e;rw[(kX gl c).irr]at z;cases z
def oN{n:Nat}(a:n<=5){x:cf}(h:x∈dF n):x.length<=n:=by
 obtain⟨b,c⟩:=cm.mp h;rw[<-b,LG a c];exact dt (gX _ _) (by simp)
def m8{H:Hp}{d:Ad}{o c:HO}{bs:As}{a:LN}(T:TupsAt H bs a)(h:H d=some o)(no: ∀g,o≠ .tup g):TupsAt (cg H d c) bs a:=⟨T.len,λi b u j k=>by
 have z:=T.is i b u j k;rw[cw (i7 z h λe=>no _ e.symm)];exact z⟩
def rV{H:Hp}{bs:As}{d:LN}{p:Ad}{u:cf}(h:TupsAt H bs d)(e:H p=some (.tup (u.map nv))):TupsAt H (bs++[p]) (d++[u]):=by
 refine⟨by simp[h.len],λi b v c a=>?_⟩;have l:=h.len;by_cases g:i<d.length
 .rw[eV (by lia)]at c a;exact h.is i b v c a
 .rw[eU (by lia)]at c a;have z:i-d.length=0:=by
   have:=(cA.mp a).1;simp at this;lia
  rw[l,z]at c;rw[z]at a;cases c;cases a;exact e
def Kp{H:Hp}{bs e:As}{d g:LN}(h:TupsAt H bs d)(j:TupsAt H e g):TupsAt H (bs++e) (d++g):=by
 refine⟨by simp[h.len,j.len],λi b v a c=>?_⟩;have l:=h.len;by_cases k:i<d.length
 .rw[eV (by lia)]at a c;exact h.is i b v a c
 .rw[eU (by lia)]at a c;rw[l]at a;exact j.is _ b v a c
def Fw{c d:LN}(h:(Dt.lst (c.map λu=> .tup (gB u)))=Dt.lst (d.map λu=> .tup (gB u))):c=d:=by
 injection h with h
 exact qb (λa b e=>by injection e with e;exact AK e) h
def A8(T:Ad)(pos:Pos):Sp:=λd H Q _=> ∃(m:Ad) (b:LN) (n:Nat),d=[.ref m]/\Mach H m b n/\Tabs H/\
 ∀D bs c a,Keeps H a->Tabs a->L2.noT H D=none->a D=some (.lst (bs.map .ref))->TupsAt a bs c->FamOf b n c->Q (.ref D) a
def FR{T:Ad}(F:Fun K "family" "family" qo f fd)(qS:dw P w K mg base "pictures" 12 ["machine"] (BS T (⟨49,40,49,93⟩:Pos)))(qT:dw P w K mg base "in_order" 5 ["sets"] Di)(jB:mg "len"=none)(jC:mg "range"=none):FnOk P w K mg base cQ 14 f fd ["machine"] (A8 T (⟨49,40,49,93⟩:Pos)):=by
 refine F.ok rE (λvs H Q E h=>?_) (λak A aa s H vs Q E hr h=>?_)
 .obtain⟨m,ts,n,rfl,_⟩:=h;rfl
 obtain⟨m,ts,n,rfl,M,hT,q⟩:=h;have t1:=M.some1;have n1:=M.n1;have n5:=M.n5;obtain⟨_,r0,b1,b2,b3,b4,b5,b6⟩:=M.at (l:=0) (by lia);refine⟨_,(cH (yM (CompSc.to (N:=["machine","singles"]) (osc:=cL qo) (vs:=["room"]) {}) rfl rfl rE.nd (j:=1) rfl rfl (jy rfl jC (cE (dS fJ rfl jB fc (cE (cY dO (pv 0) cS (λ_ _=>rfl)) cz)) cz)) (λ_ _ _ _=>gR) (λ_ _ _ _=>(jg (cE (pv 0) cz)))) (cM (dr (dB qT hr.m rfl (cE (ez wY (Cz (CompSc.to (N:=["machine","singles"]) (osc:=cL qo) (vs:=["rooms","word"]) {}) rfl (gF (dB qS hr.m rfl (cE (pv 0) cz))) (IG (CompSc.to (N:=["machine","singles"]) (osc:=cL qo) (vs:=["rooms","word"]) {}) rfl rfl rfl) (λ_ _ _ _=>gR) (λ_ _ _ _=>(pv 0))) (pv 1)) cz))))),?_⟩;refine⟨_,rfl,m,_,_,_,rfl,rfl,SqT.of b1,b3,r0,_,rfl,.inr (SqT.of b4),(n:Int),by rw[cj,b5],by lia,by lia,oK (λi d c=>Same H c/\ ∃a,d=a.map V.ref/\a.length=i/\TupsAt c a ((List.range i).map λr=>[r])) (by rw[gb];exact small (by lia)) ⟨Same.refl _,[],rfl,rfl,rfl,λi b u e=>by simp at e⟩ (λi d c _ p=>?_) (λi d c hi p=>?_) (λd H1 p U ab=>?_)⟩
 .obtain⟨_,a,rfl,e,_⟩:=p;rw[cj];lia
 .obtain⟨g,a,rfl,e,Y⟩:=p;have e0:V.int (0+(i:Int))=nv i:=by show V.int (0+(i:Int))=V.int (i:Int);rw[nI]
  refine⟨gm,iz ⟨_,rfl,by show 1<=sizeLine;decide,λp hp=>?_⟩⟩;have k:=cB hp (.tup [V.int (0+(i:Int))]);refine⟨g.trans k,a++[p],by simp,by simp[e],?_⟩;rw[yX,dP];refine rV (Y.same k) ?_;rw[cn,e0];rfl
 obtain⟨g1,a,rfl,er,Y⟩:=p;rw[gb]at Y er;have k1:=cB ab (.lst (a.map V.ref));have I:cg H1 U (.lst (a.map V.ref)) U=some (.lst (a.map V.ref)):=cn;have T2:=Y.same k1;have B:=g1.trans k1;generalize cg H1 U (.lst (a.map V.ref))=H2 at k1 I T2 B⊢;refine⟨_,rfl,m,ts,n,rfl,M.same B,hT.same B,λl as ws H3 k3 T3 ae TT=>?_⟩;obtain⟨bc,C⟩:=ae.prs;have aj:=(M.same B);have few:ws.length<=32:=by
  rw[<-cj (f:=(·.1)) (as:=ws)];exact dt (ko TT.keys λx hx=>z8 M ((By TT x).mp hx)) (At n)
 refine⟨l,rfl,⟨_,SqL.of C.lst⟩,jc (xs:=as.map .ref) (λi d c=>c=H3/\ ∃bs,d=bs.map V.ref/\bs.length=i/\TupsAt H3 bs ((ws.take i).map (·.1))) (by rw[cj,C.la,db];lia) ⟨rfl,[],rfl,rfl,rfl,λi b u e=>by simp at e⟩ (λi d c _ p=>?_) (λi v d c hv p=>?_) (λd c p c1 af=>?_)⟩
 .obtain⟨rfl,bs,rfl,e,_⟩:=p;exact⟨SqL.of C.lst,by rw[cj];lia⟩
 .obtain⟨rfl,bs,rfl,e,J⟩:=p;rw[cF]at hv;obtain⟨a1,ea,rfl⟩:=dR.mp hv;obtain⟨a',q',p',L,al,ag,f0,f1,f2,f3⟩:=C.at (j:=i) (by have:=(cA.mp ea).1;rw[<-C.la];exact this);rw[ea]at L;cases L;refine⟨a1,_,rfl,SqT.of f1,rfl,_,_,rfl,_,_,rfl,rfl,FT,iz ⟨_,rfl,rfl,bs++[q'.1],by simp,by simp[e],?_⟩⟩;rw[h9,ag,dP];exact rV J f2
 obtain⟨rfl,bs,rfl,e,J⟩:=p;rw[cj,C.la,gI]at J;have G:=cB af (.lst (bs.map V.ref));have O:=G _ _ (k3 _ _ (nU I));have T5:TupsAt (cg c c1 (.lst (bs.map V.ref))) a ((List.range n).map λr=>[r]):=⟨T2.len,λi b u e1 e2=>G _ _ (k3 _ _ (nU (T2.is i b u e1 e2)))⟩;have lb:bs.length=ws.length:=by rw[J.len,cj]
 refine⟨_,rfl,c1,U,_,_,rfl,rfl,SqL.of cn,SqL.of O,by rw[cj,cj,lb,er,db];lia,λl2 ah=>?_⟩;have k2:=cB ah (.lst (bs.map V.ref++a.map V.ref));have T6:=(Kp (J.same G) T5).same k2;refine⟨l2,bs++a,_,dF n,rfl,by rw[cn,dP],T6,λt ht=>?_,uI (At n) (by decide),by rw[dz,cj,cj,fV];lia,λD ds us H5 g5 hD eD T7 mem up=>?_⟩
 .rcases di.mp ht with z|z
  .exact z8 M ((By TT t).mp z)
  .obtain⟨r,ai,rfl⟩:=cO.mp z;exact tJ n5 (eE.mp ai)
 .have kk:Keeps H H5:=((B.keeps.trans k3).trans (G.trans k2).keeps).trans g5.keeps;refine q D ds us H5 kk (T3.same ((G.trans k2).trans g5)) ?_ eD T7 ⟨up,λx=>?_⟩
  .cases y:L2.noT H D with
   |none=>rfl
   |some o=>
    have z:=(G.trans k2) _ _ ((B.keeps.trans k3) _ _ y);rw[hD]at z;cases z
  .rw[mem x,di,By TT x];refine or_congr Iff.rfl ?_;rw[cO];constructor
   .rintro⟨r,h1,rfl⟩;exact⟨r,eE.mp h1,rfl⟩
   .rintro⟨r,h1,rfl⟩;exact⟨r,eE.mpr h1,rfl⟩
def sub(x y:cf):Bool:=x.all λr=>y.contains r
def vv:Sp:=λd H Q _=> ∃(a b:Ad) (x y:cf),d=[.ref a,.ref b]/\H a=some (.tup (x.map nv))/\H b=some (.tup (y.map nv))/\x.length<=5/\ ∀c,Same H c->Q (.bl (sub x y)) c
def gy(a:LN)(x:cf):LN:=a.filter λu=>decide (u≠x)&&sub u x
def jo(a:LN)(u:cf):Bool:=a.any λv=>decide (v≠u)&&sub u v
def gL(a:LN)(x:cf):LN:=(gy a x).filter λu=> !jo (gy a x) u
def EE:Sp:=λd H Q _=> ∃(a l:Ad) (x:cf) (bs:As) (b:LN),d=[.ref a,.ref l]/\H a=some (.tup (x.map nv))/\H l=some (.lst (bs.map .ref))/\TupsAt H bs b/\x.length<=5/\b.length<=32/\ ∀c,Same H c->Q (.bl (jo b x)) c
def Ej(T:Ad)(pos:Pos):Sp:=λe H Q _=> ∃(m p:Ad) (c:LN) (n:Nat) (x:cf),e=[.ref m,.ref p]/\Mach H m c n/\H p=some (.tup (x.map nv))/\Tabs H/\
 ∀D bs d a b,Keeps H b->Tabs b->L2.noT H D=none->b D=some (.lst (bs.map .ref))->TupsAt b bs d->FamOf c n a->d=gL a x->Q (.ref D) b
def v6{H:Hp}{d:As}{b:LN}{f:cf->Bool}{i:Nat}{a:Ad}{t:cf}(T:TupsAt H d ((b.take i).filter f))(e:b[i]? =some t)(g:H a=some (.tup (t.map nv))):if f t=true then TupsAt H (d++[a]) ((b.take (i+1)).filter f)else TupsAt H d ((b.take (i+1)).filter f):=by
 have h:(b.take (i+1)).filter f=(b.take i).filter f++(if f t=true then[t]else[]):=by
  rw[h9,e,pT];cases c:f t with
  |true=>simp[c]
  |false=>simp[c]
 rw[h];cases c:f t with
 |true=>exact rV T g
 |false=>
  rw[wA (by decide),wA (by decide),gO];exact T
def Li(F:Fun K "lies_in" "lies_in" wD f fd)(g:mg "all"=none):FnOk P w K mg base cQ 1 f fd ["one","other"] vv:=by
 refine F.ok Mi (λj H Q E h=>?_) (λk A c s H j Q E t h=>?_)
 .obtain⟨a,b,x,y,rfl,_⟩:=h;rfl
 obtain⟨a,b,x,y,rfl,d,m,u,q⟩:=h;refine⟨_,(cM (dr (dS (LI rfl) rfl g boot_all (cE (gh (CompSc.to (N:=["one","other"]) (osc:=cL wD) (vs:=["room"]) {}) rfl rfl (tS (pv 0)) (λ_ _ _ _=>gR) (λ_ _ _ _=>(nL (OpR.k (K:=K) (λK=>B9 K false) Gk rfl) (pv 0) (pv 2) (by with_unfolding_all rfl)))) cz)))),?_⟩;refine⟨_,rfl,a,rfl,⟨_,SqT.of d⟩,uY (f:=λv=>match v with| .int i=> .bl (y.contains i.toNat)|v=>v) (by rw[cj];exact small (by lia)) (SqT.of d) (λv Q n q=>?_) (λl o=>?_)⟩
 .obtain⟨r,z,rfl⟩:=cO.mp n;refine⟨_,rfl,_,rfl,b,_,rfl,.inr (SqT.of m),rfl,IJ _,?_⟩
  try dsimp only
  rw[sQ];exact q
 .have e:(x.map nv).map (λv=>match v with| .int i=>V.bl (y.contains i.toNat)|v=>v)=(x.map λr=>y.contains r).map V.bl:=by
   rw[hI,hI];rfl
  try dsimp only
  rw[e];refine⟨l,_,rfl,SqL.of cn,?_⟩;have p:(x.map λr=>y.contains r).all id=sub x y:=by
   unfold sub;rw[List.all_map];rfl
  try dsimp only
  rw[p];exact q _ (cB o _)
def J7(F:Fun K "is_covered" "is_covered" vN f fd)(L:dw P w K mg base "lies_in" 1 ["one","other"] vv)(M:mg "any"=none):FnOk P w K mg base cQ 3 f fd ["part","sets"] EE:=by
 refine F.ok K0 (λO H Q E h=>?_) (λU A n s H O Q E r h=>?_)
 .obtain⟨a,l,x,bs,d,rfl,_⟩:=h;rfl
 obtain⟨a,l,x,bs,d,rfl,Y,t,T,l5,few,q⟩:=h;have hu:=r.units;have lb:=T.len;refine⟨_,(cM (dr (dS (BE rfl) rfl M boot_any (cE (gh (CompSc.to (N:=["part","sets"]) (osc:=cL vN) (vs:=["other"]) {}) rfl rfl (gF (pv 1)) (λ_ _ _ _=>gR) (λ_ _ _ _=>(xx (nL (OpR.k (K:=K) (λK=>ph K true) (qa hu) rfl) (pv 0) (pv 1) (eI _)) (uN (dB L r.m rfl (c7 (cq (pv 1) (cq (pv 0) c8 rfl) rfl))))))) cz)))),?_⟩;refine⟨_,rfl,l,rfl,⟨_,SqL.of t⟩,jc (xs:=bs.map .ref) (λi k m=>Same H m/\k=((d.take i).map λv=>decide (v≠x)&&sub x v).map V.bl) (by rw[cj,db];lia) ⟨Same.refl _,rfl⟩ (λi k m hi p=>?_) (λi v k m y p=>?_) (λk m p c1 o=>?_)⟩
 .obtain⟨g,rfl⟩:=p;exact⟨SqL.of (g _ _ t),by simp;lia⟩
 .obtain⟨g,rfl⟩:=p;rw[cF]at y;obtain⟨b,B,rfl⟩:=dR.mp y;have li:=(cA.mp B).1;obtain⟨u,C⟩: ∃u,d[i]? =some u:=⟨_,ck (by lia)⟩;have D:=g _ _ (T.is i b u B C);have G:=g _ _ Y;have I:((d.take (i+1)).map λv=>decide (v≠x)&&sub x v).map V.bl=((d.take i).map λv=>decide (v≠x)&&sub x v).map V.bl++[V.bl (decide (u≠x)&&sub x u)]:=by
   rw[h9,C,dP,dP];rfl
  refine⟨gm,iz ?_⟩;refine⟨_,rfl,_,rfl,b,a,0,_,_,rfl,rfl,gW (SqT.of D),gW (SqT.of G),by decide,λc J=>?_⟩;by_cases e:u=x
  .have j:c=true:=J.mpr (dh.mpr e);subst j;refine⟨_,rfl,dU ⟨g,?_⟩⟩;rw[I,d9 (λz=>z e)];rfl
  .have j:c=false:=by
    cases c with
    |false=>rfl
    |true=>exact wC (dh.mp (J.mp rfl)) e
   subst j;refine⟨_,rfl,eY ⟨_,rfl,_,rfl,a,b,x,u,rfl,G,D,l5,λH4 g4=>⟨g.trans g4,?_⟩⟩⟩;rw[I,dD e,sN]
 .obtain⟨g,rfl⟩:=p;rw[cj,lb,gI];have e2:(d.map λv=>decide (v≠x)&&sub x v).any id=jo d x:=by
   unfold jo;rw[v9];rfl
  refine⟨c1,_,rfl,SqL.of cn,?_⟩
  try dsimp only
  rw[e2];exact q _ (g.trans (cB o _))
def Gm{T:Ad}(F:Fun K "tiles" "tiles" rz f fd)(qC:dw P w K mg base "family" 14 ["machine"] (A8 T (⟨49,40,49,93⟩:Pos)))(jW:dw P w K mg base "lies_in" 1 ["one","other"] vv)(qG:dw P w K mg base "is_covered" 3 ["part","sets"] EE):FnOk P w K mg base cQ 16 f fd ["machine","rooms"] (Ej T (⟨49,40,49,93⟩:Pos)):=by
 refine F.ok rH (λvs H Q E h=>?_) (λag A ab s H vs Q E hr h=>?_)
 .obtain⟨m,p,ts,n,x,rfl,_⟩:=h;rfl
 obtain⟨m,p,ts,n,x,rfl,M,hp,hT,q⟩:=h;have hu:=hr.units;have n5:=M.n5;refine⟨_,(cH (df (i:=2) rH.nd rfl (Or.inr rfl) (gh (CompSc.to (N:=["machine","rooms","within"]) (osc:=cL rz) (vs:=["part"]) {}) rfl rfl (gF (dB qC hr.m rfl (cE (pv 0) cz))) (λ_ _ _ _=>ow (PW.pt (m9 (fA (OpR.k (K:=K) (λK=>ph K true) (qa hu) rfl) (pv 0) (pv 2) (eI _)) (nr (l7 (dB jW hr.m rfl (c7 (cq (pv 0) (cq (pv 2) c8 rfl) rfl)))))))) (λ_ _ _ _=>(pv 0)))) (cM (dr (gh (CompSc.to (N:=["machine","rooms","within"]) (osc:=cL rz) (vs:=["part"]) {}) rfl rfl (gF (pv 2)) (λ_ _ _ _=>ow (re (l7 (dB qG hr.m rfl (c7 (cq (pv 0) (cq (pv 3) c8 rfl) rfl)))))) (λ_ _ _ _=>(pv 0)))))),?_⟩;refine⟨_,rfl,m,ts,n,rfl,M,hT,λl bs a H1 k1 T1 nl el Tf ff=>?_⟩;have few:=ff.few M;have lb:=Tf.len;have ae:=k1 _ _ (nU hp);have l5: ∀u∈a,u.length<=5:=λu h=>dt (oN n5 (ff.inU M h)) n5;refine⟨l,rfl,⟨_,SqL.of el⟩,jc (xs:=bs.map .ref) (λi k r=>Same H1 r/\ ∃d,k=d.map V.ref/\d.length<=i/\TupsAt r d ((a.take i).filter λu=>decide (u≠x)&&sub u x)) (by rw[cj,db];lia) ⟨Same.refl _,[],rfl,cD _,rfl,λi b u e=>by simp at e⟩ (λi k r hi p=>?_) (λi v k r L p=>?_) (λk H2 p O af=>?_)⟩
 .obtain⟨g,d,rfl,e,_⟩:=p;exact⟨SqL.of (g _ _ el),by rw[cj];exact e⟩
 .obtain⟨g,d,rfl,e,U⟩:=p;rw[cF]at L;obtain⟨b,Y,rfl⟩:=dR.mp L;have li:=(cA.mp Y).1;obtain⟨u,B⟩: ∃u,a[i]? =some u:=⟨_,ck (by lia)⟩;have C:=g _ _ (Tf.is i b u Y B);have hx:=g _ _ ae;refine⟨gm,_,rfl,_,rfl,b,_,0,_,_,rfl,rfl,gW (SqT.of C),gW (SqT.of hx),by decide,λc hc=>⟨_,rfl,?_⟩⟩;by_cases ex:u=x
  .have G:c=true:=hc.mpr (dh.mpr ex);subst G;have z:=v6 U B C;rw[d9 (λz=>z ex),wm,wA (by decide)]at z;refine dU (dU ⟨g,d,rfl,by lia,z⟩)
  .have G:c=false:=by
    cases c with
    |false=>rfl
    |true=>exact wC (dh.mp (hc.mp rfl)) ex
   subst G;refine eY ⟨_,rfl,_,rfl,b,_,u,x,rfl,C,hx,l5 u (cK B),λH4 I=>⟨_,rfl,?_⟩⟩;have z:=v6 (U.same I) B (I _ _ C);rw[dD ex,sN]at z;cases c2:sub u x with
   |true=>
    rw[c2,wB rfl]at z;exact eY ⟨_,rfl,g.trans I,d++[b],by simp,by simp;exact e,z⟩
   |false=>
    rw[c2,wA (by decide)]at z;exact dU ⟨g.trans I,d,rfl,by lia,z⟩
 obtain⟨g2,d,rfl,_,U⟩:=p;rw[cj,lb,gI]at U;have Tw:TupsAt H2 d (gy a x):=U;have kw:=cB af (.lst (d.map V.ref));have t:cg H2 O (.lst (d.map V.ref)) O=some (.lst (d.map V.ref)):=cn;have J:=Tw.same kw;have g3:=g2.trans kw;generalize cg H2 O (.lst (d.map V.ref))=H3 at kw t J g3⊢;have lw:(gy a x).length<=32:=dt (gX _ _) few;have lc:=Tw.len;have aa: ∀u∈gy a x,u∈a:=λu h=>(dq.mp h).1;refine⟨_,rfl,O,rfl,⟨_,SqL.of t⟩,jc (xs:=d.map .ref) (λi k r=>Same H3 r/\ ∃j,k=j.map V.ref/\j.length<=i/\TupsAt r j (((gy a x).take i).filter λu=> !jo (gy a x) u)) (by rw[cj,db];lia) ⟨Same.refl _,[],rfl,cD _,rfl,λi b u e=>by simp at e⟩ (λi k r hi p=>?_) (λi v k r L p=>?_) (λk H4 p D hD=>?_)⟩
 .obtain⟨g,j,rfl,e,_⟩:=p;exact⟨SqL.of (g _ _ t),by rw[cj];exact e⟩
 .obtain⟨g,j,rfl,e,Td⟩:=p;rw[cF]at L;obtain⟨b,Y,rfl⟩:=dR.mp L;have li:=(cA.mp Y).1;obtain⟨u,B⟩: ∃u,(gy a x)[i]? =some u:=⟨_,ck (by lia)⟩;have C:=g _ _ (J.is i b u Y B);refine⟨gm,_,rfl,_,rfl,b,O,u,d,gy a x,rfl,C,g _ _ t,J.same g,l5 u (aa u (cK B)),lw,λH5 g5=>⟨_,rfl,?_⟩⟩;have z:=v6 (Td.same g5) B (g5 _ _ C);cases c2:jo (gy a x) u with
  |true=>
   rw[c2,wA (by decide)]at z;exact dU ⟨g.trans g5,j,rfl,by lia,z⟩
  |false=>
   rw[c2,wB (by decide)]at z;exact eY ⟨_,rfl,g.trans g5,j++[b],by simp,by simp;exact e,z⟩
 obtain⟨I,j,rfl,_,Td⟩:=p;rw[cj,lc,gI]at Td;have kD:=cB hD (.lst (j.map V.ref));have gg:=g3.trans (I.trans kD);refine q D j _ a _ (k1.trans gg.keeps) (T1.same gg) ?_ cn (Td.same kD) ff rfl;cases y:L2.noT H D with
 |none=>rfl
 |some o=>
  have z:=(g3.trans I) _ _ (k1 _ _ y);rw[hD]at z;cases z
def Rch(ts:LN)(x y:cf):Prop:= ∃word:cf,(∀l∈word,l<ts.length)/\cV (cr ts) x word=y
open Classical in
noncomputable def dQ (a:LN) (x y:cf):Bool:=decide (Rch a x y)
def cy{a:LN}{x y:cf}:dQ a x y=true↔Rch a x y:=by
 unfold dQ;exact @decide_eq_true_iff _ (Classical.propDecidable _)
def Rch.refl(ts:LN)(x:cf):Rch ts x x:=⟨[],λ_ h=>(nomatch h),rfl⟩
def Rch.trans{ts:LN}{x y z:cf}(a:Rch ts x y)(b:Rch ts y z):Rch ts x z:=by
 obtain⟨u,c,rfl⟩:=a;obtain⟨v,d,rfl⟩:=b;refine⟨u++v,λl e=>(di.mp e).elim (c l) (d l),?_⟩;unfold cV;rw[nP]
def xV{a:LN}{x:cf}{b:TW}(T:Told (cr a) a.length x b)(y:cf):y∈b.map (·.1)↔Rch a x y:=by
 constructor
 .intro h;obtain⟨p,c,rfl⟩:=cO.mp h;obtain⟨d,e⟩:=T.run p c;exact⟨p.2,d,e⟩
 .rintro⟨word,g,rfl⟩;obtain⟨u,i,_⟩:=T.least _ word rfl g;exact cO.mpr ⟨_,i,rfl⟩
abbrev WE:=Ad×TW×As
def fq(a:LN)(ys:List WE):List (List cZ×V):=a3u (a.map λx=>(x,[])) (ys.map (·.1))
structure WB(H:Hp)(D:Ad)(ts:LN)(xs:LN)(ys:List WE):Prop where
 len:ys.length=xs.length
 each: ∀(i:Nat) (x:cf) (y:WE),xs[i]? =some x->ys[i]? =some y->WordsAt H y.1 y.2.1 y.2.2/\Told (cr ts) ts.length x y.2.1/\y.1≠D
 nd:xs.Nodup
def WB.same{H c:Hp}{D:Ad}{d e:LN}{ys:List WE}(h:WB H D d e ys)(g:Same H c):WB c D d e ys:=⟨h.len,λi x y j k=>let⟨a,b⟩:=h.each i x y j k;⟨a.same g,b⟩,h.nd⟩
def Jb{H b:Hp}{D:Ad}{c:TW}{d:As}(W:WordsAt H D c d)(g:Keeps H b):WordsAt b D c d:=⟨W.len,g _ _ (nU W.dict),λj a p e h=>g _ _ (nU (W.list j a p e h))⟩
def WB.keeps{H c:Hp}{D:Ad}{d e:LN}{ys:List WE}(h:WB H D d e ys)(g:Keeps H c):WB c D d e ys:=⟨h.len,λi x y j k=>let⟨a,b⟩:=h.each i x y j k;⟨Jb a g,b⟩,h.nd⟩
def sK{a:LN}{ys:List WE}(h:ys.length=a.length):(fq a ys).map (·.1)=a.map nk:=by
 unfold fq L2.a3u
 induction a generalizing ys with
 |nil=>rfl
 | cons x a b=>
  cases ys with
  |nil=>simp at h
  |cons y ys=>
   have z:=b (ys:=ys) (by simpa using h);simp only[List.map_cons,List.zipWith_cons_cons];rw[z]
def WB.off{H:Hp}{D:Ad}{e g:LN}{ys:List WE}{d:List (List cZ×V)}{o:HO}(h:WB H D e g ys)(k:H D=some (.dT d)):WB (cg H D o) D e g ys:=by
 refine⟨h.len,λi x y m n=>?_,h.nd⟩;obtain⟨a,b,c⟩:=h.each i x y m n;refine⟨⟨a.len,by rw[cw c];exact a.dict,λj l p q r=>?_⟩,b,c⟩;have z:=a.list j l p q r;rw[cw (nE z k)];exact z
def tH(a:LN):((a.map λx=>((x,[]):cf×cf)).map (·.1))=a:=by
 rw[hI];exact List.map_id' a
def WB.get{H:Hp}{D b:Ad}{e c:LN}{ys:List WE}{x:cf}(h:WB H D e c ys)(l:Rd H D (.dT (fq c ys)))(m:x∈c)(n:H b=some (.tup (x.map nv))): ∃W g k,DGet H D (.ref b) (some (.ref W))/\WordsAt H W g k/\Told (cr e) e.length x g/\ ∃i:Nat,c[i]? =some x/\ys[i]? =some (W,g,k):=by
 obtain⟨i,d⟩:=fi.mp m;have o:=(cA.mp d).1;have q:=h.len;obtain⟨y,j⟩: ∃y,ys[i]? =some y:=⟨_,ck (by lia)⟩;obtain⟨a,t,_⟩:=h.each i x y d j;have v:ge (fq c ys) (nk x)=some (.ref y.1):=wX (p:=(x,[])) (by rw[tH];exact h.nd) (by rw[cF,d];rfl) (by rw[cF,j];rfl);exact⟨y.1,y.2.1,y.2.2,.inr ⟨_,_,b,l,rfl,by rw[hZ];exact n,v.symm⟩,a,t,i,d,j⟩
def yg{H:Hp}{W c:Ad}{b:LN}{d:TW}{g:As}{x y:cf}(a:WordsAt H W d g)(t:Told (cr b) b.length x d)(h:H c=some (.tup (y.map nv))): ∃o,DGet H W (.ref c) o/\o.isSome=dQ b x y:=by
 refine⟨_,.inr ⟨_,nk y,c,.inl a.dict,rfl,by rw[hZ];exact h,rfl⟩,?_⟩;by_cases m:y∈d.map (·.1)
 .rw[cy.mpr ((xV t y).mp m)];obtain⟨p,i,rfl⟩:=cO.mp m;obtain⟨l,e,_⟩:=a.word t.keys i;rw[e];rfl
 .rw[oO m];cases z:dQ b x y with
  |false=>rfl
  |true=>exact wC ((xV t y).mpr (cy.mp z)) m
noncomputable def cR (ts a:LN) (x:cf):LN:=a.filter λy=>dQ ts x y&&dQ ts y x
noncomputable def cP (ts a:LN):gi:=(a.filter λx=>(cR ts a x).head? ==some x).map (cR ts a)
def big(a:LN):LN:=a.filter λx=>decide (1<x.length)
def Dp(T:Ad)(pos:Pos):Sp:=λg H Q _=> ∃(m:Ad) (e:LN) (n:Nat),g=[.ref m]/\Mach H m e n/\Tabs H/\
 ∀D a d c,Keeps H c->Tabs c->L2.noT H D=none->FamOf e n a->c D=some (.dT (fq (big a) d))->WB c D e (big a) d->(∀y∈d,∀b∈y.2.2,L2.noT H b=none)->d.Pairwise (λp q=> ∀b∈p.2.2,b∉q.2.2)->Q (.ref D) c
def Dj:Sp:=λe H Q _=> ∃(D p:Ad) (o:Obj) (c a:LN) (d:List WE) (x:cf),e=[.ref D,.ref p]/\H D=some (.frz o (.dT (fq a d)))/\WB H D c a d/\H p=some (.tup (x.map nv))/\x∈a/\a.length<=32/\
 ∀l bs b,Same H b->H l=none->b l=some (.lst (bs.map .ref))->TupsAt b bs (cR c a x)->Q (.ref l) b
def L9{T:Ad}(F:Fun K "words_between" "words_between" zo f fd)(qC:dw P w K mg base "family" 14 ["machine"] (A8 T (⟨49,40,49,93⟩:Pos)))(jO:dw P w K mg base "sets_reached" 10 ["machine","rooms"] (zE T (⟨49,40,49,93⟩:Pos)))(jB:mg "len"=none):FnOk P w K mg base cQ 16 f fd ["machine"] (Dp T (⟨49,40,49,93⟩:Pos)):=by
 refine F.ok kR (λvs H Q E h=>?_) (λau A ah s H vs Q E hr h=>?_)
 .obtain⟨m,ts,n,rfl,_⟩:=h;rfl
 obtain⟨m,ts,n,rfl,M,hT,q⟩:=h;have hu:=hr.units;have ai:=iG hr;refine⟨_,(cH (df (i:=1) kR.nd rfl (Or.inl rfl) vK) (cH (hR gT rfl (gF (dB qC hr.m rfl (cE (pv 0) cz))) (fh (i:=2) kR.nd rfl (Or.inl rfl)) (cM (fS (fA Bj (dS fJ rfl jB fc (cE (pv 2) cz)) cS (eI _)) (cM (tK ai (pv 1) (pv 2) (dB jO hr.m rfl (c7 (cq (pv 0) (cq (pv 2) c8 rfl) rfl))) rfl)) gn))) (cM (dr (pv 1))))),?_⟩;intro D hD;have kD:=cB hD (.dT []);refine⟨_,rfl,m,ts,n,rfl,M.same kD,hT.same kD,λso fs d H1 k1 T1 av aa Tf ff=>?_⟩;have aj:=k1 _ _ (nU (cn:cg H D (.dT []) D=_));have ak:=kD.keeps.trans k1;have lf:=Tf.len;have few:=ff.few M;have al:d.Nodup:=ff.up.imp λ{a b} z e=>by
  subst e;rw[(kX gl d).irr]at z;cases z
 have ab:=DU hD
 let Pv:Nat->L2.St->Hp->Prop:=λi σ N=>Keeps H N/\Tabs N/\N so=some (.lst (fs.map .ref))/\TupsAt N fs d/\ ∃k o2,N D=some (.dT (fq (big (d.take i)) k))/\WB N D ts (big (d.take i)) k/\(∀y∈k,∀b∈y.2.2,L2.noT H b=none)/\k.Pairwise (λp q=> ∀b∈p.2.2,b∉q.2.2)/\σ=[some (.ref m),some (.ref D),o2]
 refine⟨so,rfl,⟨_,SqL.of aa⟩,ni (xs:=fs.map .ref) Pv ⟨ak,T1,aa,Tf,[],none,aj,⟨rfl,λi x y e=>by simp[big]at e,List.nodup_nil⟩,λ_ h=>(nomatch h),.nil,rfl⟩ (λi σ N _ p=>SqL.of p.2.2.1) (λi v σ H2 hv p=>?_) (λσ H2 p=>?_)⟩
 .obtain⟨Y,T2,O,C,k,o2,r,B,nw,ap,rfl⟩:=p;rw[cF]at hv;obtain⟨b,eb,rfl⟩:=dR.mp hv;have li:=(cA.mp eb).1;obtain⟨x,ex⟩: ∃x,d[i]? =some x:=⟨_,ck (by lia)⟩;have hb:=C.is i b x eb ex;have mx:=cK ex;have G:big (d.take (i+1))=big (d.take i)++(if 1<x.length then[x]else[]):=by
   unfold big;rw[h9,ex,pT];by_cases c:1<x.length
   .rw[wB c];simp[c]
   .rw[wA c];simp[c]
  refine⟨_,rfl,b,_,rfl,.inr (SqT.of hb),_,_,rfl,rfl,_,rfl,lR (λc=>?_) (λc=>?_)⟩
  .have c1:1<x.length:=by
    have z:=gE c;rw[cj]at z;lia
   rw[wB c1]at G;refine⟨_,rfl,_,rfl,m,b,ts,n,x,rfl,M.keeps Y,hb,ff.inU M mx,T2,λW ws as H3 k3 T3 Wd U TT=>?_⟩;have t:=k3 _ _ (nU r);have am:=k3 _ _ (nU hb);have an:=B.keeps k3;have WD:W≠D:=λz=>by
    subst z;have z2:=U W (dC ..);rw[nU r]at z2;cases z2
   have xn:x∉big (d.take i):=λh=>by
    have h1:=(dq.mp h).1;obtain⟨j,ej⟩:=fi.mp h1;have lj:=(cA.mp ej).1;rw[eF]at lj;rw[oG (by lia)]at ej;have:=(g7 (by lia) al).mp (ej.trans ex.symm)
    lia
   have vn:ge (fq (big (d.take i)) k) (nk x)=none:=oO (by rw[tH];exact xn);have lk:(fq (big (d.take i)) k).length<sizeLine:=by
    rw[<-cj (f:=(·.1)),sK B.len,cj,db];have z1:(big (d.take i)).length<=(d.take i).length:=gX _ _;rw[eF]at z1;lia
   refine⟨_,rfl,_,rfl,D,_,rfl,DPut.t t (by rw[hZ];exact am) lk,?_⟩;have ae:=k3 _ _ (nU O);have ao:TupsAt H3 fs d:=⟨C.len,λi b u I J=>k3 _ _ (nU (C.is i b u I J))⟩;have ek:hO (fq (big (d.take i)) k) (nk x) (.ref W)=fq (big (d.take (i+1))) (k++[(W,ws,as)]):=by
    rw[Bh _ vn,G];unfold fq;rw[dP,dP];exact(y9 (ws:=(big (d.take i)).map λx=>(x,[])) (as:=k.map (·.1)) (p:=(x,[])) (a:=W) (by simp[B.len])).symm
   have wo:=an.off (o:= .dT (fq (big (d.take (i+1))) (k++[(W,ws,as)]))) t;have Wo:WordsAt (cg H3 D (.dT (fq (big (d.take (i+1))) (k++[(W,ws,as)])))) W ws as:=⟨Wd.len,by rw[cw WD];exact Wd.dict,λj l p h1 h2=>by
    have z:=Wd.list j l p h1 h2;rw[cw (nE z t)];exact z⟩
   rw[ek];refine⟨λL o g=>?_,?_,?_,?_,k++[(W,ws,as)],_,cn,⟨?_,λj x' y' I J=>?_,?_⟩,?_,?_,rfl⟩
   .rw[cw λz=>?_]
    .exact(Y.trans k3) _ _ g
    .subst z;rw[ab]at g;cases g
   .exact T3.most λL u nd _ g=>by rw[cw (i7 g t λe=>nd _ e)];exact g
   .rw[cw (nE ae t)];exact ae
   .exact m8 ao t λ_ e=>nomatch e
   .rw[G,dz,dz,B.len];rfl
   .rw[G]at I;have hl:=B.len;by_cases hj:j<k.length
    .rw[eV (by lia)]at I;rw[eV hj]at J;exact wo.each j x' y' I J
    .rw[eU (by lia)]at I J;have z:j-k.length=0:=by
      have:=(cA.mp J).1;simp at this;lia
     rw[<-hl,z]at I;rw[z]at J;cases I;cases J;exact⟨Wo,TT,WD⟩
   .rw[G,xC];refine⟨B.nd,by simp,λa ha c hc e=>xn ?_⟩;rw[cW.mp hc]at e;rw[<-e];exact ha
   .intro y hy L g
    rcases di.mp hy with h|h
    .exact nw y h L g
    .rw[cW.mp h]at g;have z:=U L (.tail _ g);cases y2:L2.noT H L with
     |none=>rfl
     |some o=>
      have z3:=Y _ _ y2;rw[oM z3 (sX y2).2]at z;cases z
   .rw[gS];refine⟨ap,pC _ _,λp hp q' hq L g af=>?_⟩;rw[cW.mp hq]at af;have z:=U L (.tail _ af);obtain⟨j,ej⟩:=fi.mp hp;have lj:=(cA.mp ej).1;have hl:=B.len;obtain⟨x',aq⟩: ∃x',(big (d.take i))[j]? =some x':=⟨_,ck (by lia)⟩;obtain⟨a',_⟩:=B.each j x' p aq ej;obtain⟨j2,ag⟩:=fi.mp g;have ar:=(cA.mp ag).1;have z2:=a'.list j2 L _ ag (ck (by rw[<-a'.len];exact ar));rw[nU z2]at z;cases z
  .have c1: ¬1<x.length:=by
    have z:=Aa (uc.mpr c);rw[cj]at z;lia
   rw[wA c1,gO]at G;refine⟨Y,T2,O,C,k,_,?_,?_,nw,ap,rfl⟩
   .rw[G];exact r
   .rw[G];exact B
 .obtain⟨Y,T2,O,C,k,o2,r,B,nw,ap,rfl⟩:=p;rw[cj,lf,gI]at r B;exact⟨_,rfl,q D d k H2 Y T2 ab ff r B nw ap⟩
def LC(F:Fun K "alike_sets" "alike_sets" wp f fd):FnOk P w K mg base cQ 1 f fd ["words","rooms"] Dj:=by
 refine F.ok Mm (λvs H Q E h=>?_) (λaa A I s H vs Q E T h=>?_)
 .obtain⟨D,p,o,j,n,U,x,rfl,_⟩:=h;rfl
 obtain⟨D,p,o,j,n,U,x,rfl,k,r,Y,hx,few,q⟩:=h;have hu:=T.units;have d:=iG T;refine⟨_,(cM (dr (gh (CompSc.to (N:=["words","rooms"]) (osc:=cL wp) (vs:=["other"]) {}) rfl rfl (Ck (pv 0)) (λ_ _ _ _=>ow (PW.pt (m9 (qq (xS d (pv 0) (mS d (pv 1) (pv 2) (λ_ _=>rfl)))) (nr (qq (xS d (pv 2) (mS d (pv 1) (pv 0) (λ_ _=>rfl)))))))) (λ_ _ _ _=>(pv 0))))),?_⟩;refine⟨_,rfl,D,_,n,rfl,sK r.len,.inr ⟨o,k⟩,λo' v fz=>?_⟩;have e2:o'=o/\v=H:=by
  rcases fz with⟨e,rfl⟩|⟨e,_⟩
  .rw[k]at e;injection e with e
   injection e with e _
   exact⟨e.symm,rfl⟩
  .rw[k]at e;cases e
 obtain⟨rfl,rfl⟩:=e2;have rd:Rd v D (.dT (fq n U)):= .inr ⟨_,k⟩;refine JI (sK r.len) (λi g B=>B=v/\ ∃c,g=c.map V.ref/\c.length<=i/\TupsAt v c ((n.take i).filter λy=>dQ j x y&&dQ j y x)) (by rw[db];lia) ⟨rfl,[],rfl,cD _,rfl,λi b u e=>by simp at e⟩ (λi g B _ l=>?_) (λi a t g B et J l=>?_) (λg B l C m=>?_)
 .obtain⟨rfl,c,rfl,e,_⟩:=l;exact⟨k,by rw[cj];exact e⟩
 .obtain⟨rfl,c,rfl,e,G⟩:=l;have z:=v6 (f:=λy=>dQ j x y&&dQ j y x) G et J;obtain⟨W,ws,as,dg,wa,tt,_⟩:=r.get rd hx Y;obtain⟨o1,d1,s1⟩:=yg wa tt J;have ht:=cK et;obtain⟨W2,ab,ae,L,M,O,_⟩:=r.get rd ht J;obtain⟨o2,d2,s2⟩:=yg M O Y;refine⟨gm,_,rfl,_,rfl,_,rfl,D,_,rfl,dg,W,o1,rfl,d1,_,rfl,?_⟩;rw[s1];cases C:dQ j x t with
  |false=>
   rw[C,wm,wA (by decide)]at z;exact dU (dU ⟨rfl,c,rfl,by lia,z⟩)
  | true=>
   rw[C,sN]at z;refine eY ⟨_,rfl,_,rfl,_,rfl,D,_,rfl,L,W2,o2,rfl,d2,_,rfl,?_⟩;rw[s2];cases c2:dQ j t x with
   |true=>
    rw[c2,wB rfl]at z;exact eY ⟨_,rfl,rfl,c++[a],by simp,by simp;exact e,z⟩
   |false=>
    rw[c2,wA (by decide)]at z;exact dU ⟨rfl,c,rfl,by lia,z⟩
 .obtain⟨rfl,c,rfl,_,G⟩:=l;rw[gI]at G;have kc:=cB m (.lst (c.map V.ref));exact q C c _ kc m cn (G.same kc)
structure LsAt(H:Hp)(as:As)(cs:gi):Prop where
 len:as.length=cs.length
 is: ∀(i:Nat) (a:Ad) (c:LN),as[i]? =some a->cs[i]? =some c-> ∃bs:As,H a=some (.lst (bs.map .ref))/\TupsAt H bs c
def LsAt.same{H b:Hp}{d:As}{e:gi}(h:LsAt H d e)(g:Same H b):LsAt b d e:=⟨h.len,λi a c j k=>let⟨bs,l,m⟩:=h.is i a c j k;⟨bs,g _ _ l,m.same g⟩⟩
def LsAt.off{H:Hp}{l:Ad}{j:List V}{o:HO}{b:As}{d:gi}(h:LsAt H b d)(k:H l=some (.lst j))(no:l∉b):LsAt (cg H l o) b d:=⟨h.len,λi a c g m=>by
 obtain⟨bs,n,p⟩:=h.is i a c g m;refine⟨bs,?_,m8 p k λ_ e=>nomatch e⟩;rw[cw λ(z:a=l)=>no (by rw[<-z];exact cK g)];exact n⟩
def LsAt.snoc{H:Hp}{j:As}{g:gi}{a:Ad}{c:LN}{bs:As}(h:LsAt H j g)(k:H a=some (.lst (bs.map .ref)))(T:TupsAt H bs c):LsAt H (j++[a]) (g++[c]):=by
 refine⟨by simp[h.len],λi b v e d=>?_⟩;have l:=h.len;by_cases m:i<g.length
 .rw[eV (by lia)]at e d;exact h.is i b v e d
 .rw[eU (by lia)]at e d;have z:i-g.length=0:=by
   have:=(cA.mp d).1;simp at this;lia
  rw[l,z]at e;rw[z]at d;cases e;cases d;exact⟨bs,k,T⟩
def zX{ts a:LN}{x:cf}(b:x∈a):x∈cR ts a x:=dq.mpr ⟨b,by rw[cy.mpr (Rch.refl ts x)];rfl⟩
def CG:Sp:=λh H Q _=> ∃(D:Ad) (g b:LN) (d:List WE),h=[.ref D]/\H D=some (.dT (fq b d))/\WB H D g b d/\b.length<=32/\
 ∀l o e c,Same (cg H D (.frz o (.dT (fq b d)))) c->H l=none->c l=some (.lst (e.map .ref))->LsAt c e (cP g b)->(∀a∈e,H a=none)->Q (.ref l) c
def JR(F:Fun K "sets_of_levels" "sets_of_levels" Bq f fd)(qH:dw P w K mg base "alike_sets" 1 ["words","rooms"] Dj):FnOk P w K mg base cQ 3 f fd ["words"] CG:=by
 refine F.ok kF (λvs H Q E h=>?_) (λaj A aa s H vs Q E hr h=>?_)
 .obtain⟨D,g,d,m,rfl,_⟩:=h;rfl
 obtain⟨D,g,d,m,rfl,hD,wb,few,q⟩:=h;have hu:=hr.units;have ak:=iG hr;refine⟨_,(cH (df (i:=1) kF.nd rfl (Or.inl rfl) (fX cz)) (cH (hR gT rfl (Ck (pv 0)) (fh (i:=2) kF.nd rfl (Or.inl rfl)) (cH (df (i:=3) kF.nd rfl (Or.inl rfl) (dB qH hr.m rfl (c7 (cq (pv 0) (cq (pv 2) c8 rfl) rfl)))) (cM (fS (fA (tE hu) (cY fe (pv 3) cS (λ_ _=>rfl)) (pv 2) (eI _)) (cM (jb (iN iF lA ku lI (pv 1) (cE (pv 3) cz)))) gn)))) (cM (dr (pv 1))))),?_⟩;refine⟨by show 0<=sizeLine;decide,λj n=>?_⟩;have kf:=cB n (.lst []);have L:=kf _ _ hD;have M:j≠D:=(dG hD n).symm;refine⟨_,rfl,D,_,d,rfl,sK wb.len,.inl L,λo H2 fz=>?_⟩;have e2:H2=cg (cg H j (.lst [])) D (.frz o (.dT (fq d m))):=by
  rcases fz with⟨e,_⟩|⟨_,e⟩
  .rw[L]at e;cases e
  .exact e
 have gz:Same (cg H D (.frz o (.dT (fq d m)))) H2:=λb u I=>by
  rw[e2];by_cases z:b=D
  .subst z;rw[cn]at I⊢;exact I
  .rw[cw z]at I⊢;exact kf _ _ I
 have wz:WB (cg H D (.frz o (.dT (fq d m)))) D g d m:=wb.off hD;have ab:H2 j=some (.lst []):=by rw[e2,cw M,cn]
 have ae:cg H D (.frz o (.dT (fq d m))) j=none:=by rw[cw M];exact n
 clear e2 fz
 let Pv:Nat->L2.St->Hp->Prop:=λi T U=>Same (cg H D (.frz o (.dT (fq d m)))) U/\ ∃k o2 o3,U j=some (.lst (k.map .ref))/\j∉k/\(∀a∈k,H a=none)/\k.length<=i/\LsAt U k (((d.take i).filter λx=>(cR g d x).head? ==some x).map (cR g d))/\T=[some (.ref D),some (.ref j),o2,o3]
 refine Ja (sK wb.len) Pv ⟨gz,[],none,none,ab,by simp,(λ_ h=>nomatch h),Nat.le_refl _,⟨rfl,λi a c e=>by simp at e⟩,rfl⟩ (λi T U _ p=>p.1 _ _ cn) (λi a x T H3 ex Y p=>?_) (λT H3 p=>?_)
 .obtain⟨B,k,o2,o3,r,C,t,af,N,rfl⟩:=p;have mx:=cK ex;refine⟨_,rfl,_,rfl,D,a,o,g,d,m,x,rfl,B _ _ cn,wz.same B,Y,mx,few,λl bs H4 J nl el Tl=>?_⟩;have lb:=Tl.len;have self:=zX (ts:=g) mx;obtain⟨y,rest,ea⟩: ∃y rest,cR g d x=y::rest:=by
   cases z:cR g d x with
   |nil=>rw[z]at self;cases self
   |cons y rest=>exact⟨y,rest,rfl⟩
  have b1:0<bs.length:=by
   rw[lb,ea];simp
  obtain⟨b,eb⟩: ∃b,bs[0]? =some b:=⟨_,ck b1⟩;have I:H4 b=some (.tup (y.map nv)):=Tl.is 0 b y eb (by rw[ea];rfl);have ag:iI (bs.map V.ref) ((0:Nat):Int)=some (.ref b):=fF (by rw[cF,eb];rfl);have nx:((d.take (i+1)).filter λx=>(cR g d x).head? ==some x).map (cR g d)=((d.take i).filter λx=>(cR g d x).head? ==some x).map (cR g d)++(if y=x then[cR g d x]else[]):=by
   rw[h9,ex,pT,dP];by_cases c:y=x
   .rw[wB c];simp[ea,c]
   .rw[wA c];simp[ea,c]
  refine⟨_,rfl,l,_,_,_,rfl,rfl,SqL.of el,ag,_,rfl,b,a,0,_,_,rfl,rfl,gW (SqT.of I),gW (SqT.of (J _ _ Y)),by decide,λc hc=>⟨_,rfl,?_⟩⟩;have v:=J _ _ r;have ah:l≠j:=(dG r nl).symm;have ai:H l=none:=by
   cases z:H l with
   |none=>rfl
   | some u=>
    by_cases e:l=D
    .have O:=B _ _ (cn (H:=H) (a:=D) (o:= .frz o (.dT (fq d m))));rw[<-e,nl]at O;cases O
    .have O:=B l u (by rw[cw e];exact z);rw[nl]at O;cases O
  by_cases e:y=x
  .have G:c=true:=hc.mpr (dh.mpr e);subst G;rw[wB e]at nx;refine eY ⟨_,rfl,.inl ⟨rfl,_,SqL.of v⟩,_,rfl,j,_,_,rfl,rfl,v,by rw[cj,db];have:=(cA.mp ex).1;lia,?_⟩;have L4:=(N.same J).snoc el Tl;have na:j∉k++[l]:=λz=>(di.mp z).elim C λz=>ah (cW.mp z).symm
   refine⟨gZ (B.trans J) ae,k++[l],_,_,by rw[cn,dP];rfl,na,(λa Y=>(di.mp Y).elim (t a) λz=>by rw[cW.mp z];exact ai),by rw[dz];simp;lia,?_,rfl⟩;rw[nx];exact L4.off v na
  .have G:c=false:=by
    cases c with
    |false=>rfl
    |true=>exact wC (dh.mp (hc.mp rfl)) e
   subst G;rw[wA e,gO]at nx;refine dU ⟨B.trans J,k,_,_,v,C,t,by lia,?_,rfl⟩;rw[nx];exact N.same J
 .obtain⟨B,k,o2,o3,r,C,t,af,N,rfl⟩:=p;rw[gI]at N;exact⟨_,rfl,q j o k H3 B n r N t⟩
noncomputable def cX (ts:LN) (cs:gi) (c:LN):Bool:=cs.any λd=>decide (d≠c)&&dQ ts (d.headD []) (c.headD [])
def vE{K:W.Frag}{H:Hp}{a:Ad}{bs:As}{c:LN}{n:Nat}(g:H a=some (.lst (bs.map .ref)))(T:TupsAt H bs c):Rep K H (n+2) (.lst (c.map λu=> .tup (gB u))) (.ref a):=by
 refine .lst (SqL.of g) (by rw[cj,cj,T.len]) λi d v b e=>?_;rw[cF]at b e;obtain⟨p,h,rfl⟩:=dR.mp b;obtain⟨a,j,rfl⟩:=dR.mp e;exact gW (SqT.of (T.is i a p j h))
def zQ{H:Hp}{bs:As}{c:LN}(T:TupsAt H bs c)(d:c≠[]): ∃b,iI (bs.map V.ref) 0=some (.ref b)/\H b=some (.tup ((c.headD []).map nv))/\c.headD []∈c:=by
 have e:=T.len;obtain⟨y,rest,g⟩: ∃y rest,c=y::rest:=by
  cases c with
  |nil=>exact wC rfl d
  |cons y rest=>exact⟨y,rest,rfl⟩
 subst g;obtain⟨b,a⟩: ∃b,bs[0]? =some b:=⟨_,ck (by rw[e];simp)⟩;have z:iI (bs.map V.ref) ((0:Nat):Int)=some (.ref b):=fF (by rw[cF,a];rfl);exact⟨b,z,T.is 0 b y a rfl,dC ..⟩
def EI:Sp:=λk H Q _=> ∃(D a l:Ad) (g e:LN) (h:List WE) (c:LN) (b:gi) (bs i:As),k=[.ref D,.ref a,.ref l]/\Rd H D (.dT (fq e h))/\WB H D g e h/\H a=some (.lst (bs.map .ref))/\TupsAt H bs c/\H l=some (.lst (i.map .ref))/\LsAt H i b/\c≠[]/\(∀d∈b,d≠[]/\ ∀x∈d,x∈e)/\b.length<=32/\
 ∀j,Same H j->Q (.bl (cX g b c)) j
def MH(F:Fun K "is_led_to" "is_led_to" vz f fd)(rC:mg "any"=none):FnOk P w K mg base cQ 1 f fd ["words","sets","waiting"] EI:=by
 refine F.ok Ko (λvs H Q E h=>?_) (λaa A r s H vs Q E M h=>?_)
 .obtain⟨D,a,l,g,xs,ys,c,j,bs,O,rfl,_⟩:=h;rfl
 obtain⟨D,a,l,g,xs,ys,c,j,bs,O,rfl,rd,wb,T,U,Y,L,cne,t,few,q⟩:=h;have hu:=M.units;have m:=iG M;have la:=L.len;obtain⟨b0,u,x,_⟩:=zQ U cne;refine⟨_,(cM (dr (dS (BE rfl) rfl rC boot_any (cE (gh (CompSc.to (N:=["words","sets","waiting"]) (osc:=cL vz) (vs:=["other"]) {}) rfl rfl (gF (pv 2)) (λ_ _ _ _=>gR) (λ_ _ _ _=>(xx (nL (OpR.k (K:=K) (λK=>ph K true) (qa hu) rfl) (pv 0) (pv 2) (eI _)) (uN (LJ (xS m (cY (IxR.k (K:=K) qp fe rfl) (pv 2) cS (λ_ _=>rfl)) (mS m (pv 1) (cY (IxR.k (K:=K) qp fe rfl) (pv 0) cS (λ_ _=>rfl)) (λ_ _=>rfl)))))))) cz)))),?_⟩;refine⟨_,rfl,l,rfl,⟨_,SqL.of Y⟩,jc (xs:=O.map .ref) (λi b n=>n=H/\b=((j.take i).map λd=>decide (d≠c)&&dQ g (d.headD []) (c.headD [])).map V.bl) (by rw[cj,db];lia) ⟨rfl,rfl⟩ (λi b n hi p=>?_) (λi v b n hv p=>?_) (λb n p c1 y=>?_)⟩
 .obtain⟨rfl,rfl⟩:=p;exact⟨SqL.of Y,by simp;lia⟩
 .obtain⟨rfl,rfl⟩:=p;rw[cF]at hv;obtain⟨e,ee,rfl⟩:=dR.mp hv;have li:=(cA.mp ee).1;obtain⟨d,B⟩: ∃d,j[i]? =some d:=⟨_,ck (by lia)⟩;obtain⟨ds,he,Td⟩:=L.is i e d ee B;obtain⟨C,dx⟩:=t d (cK B);obtain⟨b1,G,I,m1⟩:=zQ Td C;have nx:((j.take (i+1)).map λd=>decide (d≠c)&&dQ g (d.headD []) (c.headD [])).map V.bl=((j.take i).map λd=>decide (d≠c)&&dQ g (d.headD []) (c.headD [])).map V.bl++[V.bl (decide (d≠c)&&dQ g (d.headD []) (c.headD []))]:=by
   rw[h9,B,dP,dP];rfl
  refine⟨gm,iz ?_⟩;refine⟨_,rfl,_,rfl,e,a,1,_,_,rfl,rfl,vE he Td,vE T U,by decide,λJ hc=>?_⟩;by_cases o:d=c
  .have k:J=true:=hc.mpr (by rw[o]);subst k;refine⟨_,rfl,dU ⟨rfl,?_⟩⟩;rw[nx,d9 (λz=>z o)];rfl
  .have k:J=false:=by
    cases J with
    |false=>rfl
    |true=>exact wC (Fw (hc.mp rfl)) o
   subst k;obtain⟨W,ws,wa,dg,wt,tt,_⟩:=wb.get rd (dx _ m1) I;obtain⟨o1,d1,s1⟩:=yg wt tt x;refine⟨_,rfl,eY ⟨_,rfl,a,_,_,_,rfl,rfl,SqL.of T,u,_,rfl,_,rfl,e,_,_,_,rfl,rfl,SqL.of he,G,D,_,rfl,dg,W,o1,rfl,d1,rfl,?_⟩⟩;rw[nx,dD o,sN,s1]
 .obtain⟨rfl,rfl⟩:=p;rw[cj,la,gI];have e2:(j.map λd=>decide (d≠c)&&dQ g (d.headD []) (c.headD [])).any id=cX g j c:=by
   unfold cX;rw[v9];rfl
  refine⟨c1,_,rfl,SqL.of cn,?_⟩
  try dsimp only
  rw[e2];exact q _ (cB y _)
inductive Ord (ts:LN):gi->List LN->Prop
 |nil:Ord ts [] []
 |cons {cs told:gi} {s:LN} (h:(cs.filter λc=> !cX ts cs c).head? =some s) (r:Ord ts (cs.filter λc=>decide (c≠s)) told):Ord ts cs (s::told)
def pK(a:LN)(b:gi):Prop:= ∀c∈b,∀d∈b,dQ a (c.headD []) (d.headD [])=true->dQ a (d.headD []) (c.headD [])=true->c=d
def DB{a:Type}{xs:List a}{p q:a->Bool}(h: ∀z∈xs,p z=true->q z=true)(e: ∃z∈xs,q z=true/\p z=false):xs.countP p<xs.countP q:=by
 induction xs with
 |nil=>
  obtain⟨z,hz,_⟩:=e;cases hz
 | cons x xs d=>
  rw[vr,vr];have mono:xs.countP p<=xs.countP q:=List.countP_mono_left λz hz g=>h z (.tail _ hz) g;obtain⟨z,hz,b,c⟩:=e
  rcases dE.mp hz with rfl|hz
  .rw[b,c];simp;lia
  .have:=d (λz hz=>h z (.tail _ hz)) ⟨z,hz,b,c⟩;have i:=h x (dC ..);cases j:p x with
   |true=>
    rw[i j];simp;lia
   |false=>
    simp;split<;>lia
theorem y6{ts:LN}{cs:gi}(un:pK ts cs): ∀(k:Nat) (s:LN),s∈cs->cs.countP (λt=>dQ ts (t.headD []) (s.headD []))<=k-> ∃s∈cs,cX ts cs s=false
 |0,s,a,g=>by
  have z:0<cs.countP (λt=>dQ ts (t.headD []) (s.headD [])):=List.countP_pos_iff.mpr ⟨s,a,cy.mpr (Rch.refl ts _)⟩;lia
 | k+1,s,a,g=>by
  cases c:cX ts cs s with
  |false=>exact⟨s,a,c⟩
  | true=>
   obtain⟨d,b,e⟩:=xv.mp c;rw[i4,um]at e;obtain⟨h,r⟩:=e;have lt:=DB (xs:=cs) (p:=λt=>dQ ts (t.headD []) (d.headD [])) (q:=λt=>dQ ts (t.headD []) (s.headD [])) (λz _ i=>cy.mpr ((cy.mp i).trans (cy.mp r))) ⟨s,a,cy.mpr (Rch.refl ts _),by
    cases z:dQ ts (s.headD []) (d.headD [])with
    |false=>rfl
    |true=>exact wC (un d b s a r z) h⟩
   exact y6 un k d b (by lia)
def Cr{H:Hp}{d as:As}{b:gi}{f:LN->Bool}{i:Nat}{a:Ad}{c:LN}(L:LsAt H d ((b.take i).filter f))(g:b[i]? =some c){bs:As}(h:H a=some (.lst (bs.map .ref)))(T:TupsAt H bs c):if f c=true then LsAt H (d++[a]) ((b.take (i+1)).filter f)else LsAt H d ((b.take (i+1)).filter f):=by
 have e:(b.take (i+1)).filter f=(b.take i).filter f++(if f c=true then[c]else[]):=by
  rw[h9,g,pT];cases z:f c with
  |true=>simp[z]
  |false=>simp[z]
 by_cases z:f c=true
 .rw[wB z,e,wB z];exact L.snoc h T
 .rw[wA z,e,wA z,gO];exact L
def EN:Sp:=λm H Q _=> ∃(D l:Ad) (g h:LN) (k:List WE) (c:gi) (i:As),m=[.ref D,.ref l]/\Rd H D (.dT (fq h k))/\WB H D g h k/\H l=some (.lst (i.map .ref))/\LsAt H i c/\(∀d∈c,d≠[]/\ ∀x∈d,x∈h)/\pK g c/\c.length<=32/\
 ∀j b told e,Same H e->H j=none->e j=some (.lst (b.map .ref))->LsAt e b told->Ord g c told->told.length<=32->(∀d∈told,d∈c)->(∀a∈b,a∈i)->Q (.ref j) e
def BJ{H b:Hp}{a:Ad}{u:HO}(h:Rd H a u)(g:Same H b):Rd b a u:=h.elim (λe=> .inl (g _ _ e)) λ⟨o,e⟩=> .inr ⟨o,g _ _ e⟩
def MG(F:Fun K "levels_in_order" "levels_in_order" su f fd)(qQ:dw P w K mg base "is_led_to" 1 ["words","sets","waiting"] EI):FnOk P w K mg base cQ 3 f fd ["words","waiting"] EN:=by
 refine F.ok jX (λvs H Q E h=>?_) (λaT A aJ s H vs Q E hr h=>?_)
 .obtain⟨D,l,J,xs,ys,n,u,rfl,_⟩:=h;rfl
 obtain⟨D,l0,J,xs,ys,aa,ab,rfl,rd,wb,av,L0,aK,un,few,q⟩:=h;have hu:=hr.units;have aU:=iG hr;refine⟨_,(cH (df (i:=2) jX.nd rfl (Or.inl rfl) (fX cz)) (cH (Fe gT (Eb (pv 1) (λ_=>rfl)) (cH (df (i:=3) jX.nd rfl (Or.inr rfl) (gh (CompSc.to (N:=["words","waiting","told","free"]) (osc:=cL su) (vs:=["sets"]) {}) rfl rfl (gF (pv 1)) (λ_ _ _ _=>ow (re (l7 (dB qQ hr.m rfl (c7 (cq (pv 1) (cq (pv 0) (cq (pv 2) c8 rfl) rfl) rfl)))))) (λ_ _ _ _=>(pv 0)))) (cH (jb (iN iF lA ku lI (pv 2) (cE (cY fe (pv 3) cS (λ_ _=>rfl)) cz))) (cM (df (i:=1) jX.nd rfl (Or.inr rfl) (gh (CompSc.to (N:=["words","waiting","told","free"]) (osc:=cL su) (vs:=["sets"]) {}) rfl rfl (gF (pv 1)) (λ_ _ _ _=>ow (fA (OpR.k (K:=K) (λK=>ph K true) (qa hu) rfl) (pv 0) (cY (IxR.k (K:=K) qp fe rfl) (pv 4) cS (λ_ _=>rfl)) (eI _))) (λ_ _ _ _=>(pv 0)))))))) (cM (dr (pv 2))))),?_⟩;refine⟨by show 0<=sizeLine;decide,λt O=>?_⟩;have kf:=cB O (.lst []);have aw:t∉ab:=λz=>by
  obtain⟨j,ej⟩:=fi.mp z;have lj:=(cA.mp ej).1;obtain⟨bs,e,_⟩:=L0.is j t _ ej (ck (by rw[<-L0.len];exact lj));rw[O]at e;cases e
 let Wv:Nat->L2.St->Hp->Prop:=λm σ C=>Same H C/\ ∃l u n k told o3,C l=some (.lst (u.map .ref))/\LsAt C u n/\l≠t/\t∉u/\(∀c∈n,c∈aa)/\C t=some (.lst (k.map .ref))/\LsAt C k told/\t∉k/\(∀c∈told,c∈aa)/\told.length+n.length<=32/\(∀a∈u,a∈ab)/\(∀a∈k,a∈ab)/\(∀rest,Ord J n rest->Ord J aa (told++rest))/\m=n.length/\σ=[some (.ref D),some (.ref l),some (.ref t),o3]
 refine⟨Wv,⟨_,kf,l0,ab,aa,[],[],none,kf _ _ av,L0.same kf,dG av O,aw,λc h=>h,cn,⟨rfl,λi a c e=>by simp at e⟩,by simp,λc h=>(nomatch h),by simpa using few,(λ_ h=>h),(λ_ h=>nomatch h),λrest h=>h,rfl,rfl⟩,λm σ H1 p=>?_⟩;obtain⟨g1,l,u,n,k,told,o3,el,L,aL,ak,G,al,am,aM,ag,aV,ia,ax,ah,hm,rfl⟩:=p;have la:=L.len;have aW:=am.len;refine⟨_,rfl,!(u.map V.ref).isEmpty,.inl ⟨_,SqL.of el,rfl⟩,?_⟩;by_cases an:n=[]
 .subst an;have e:u=[]:=m7.mp la;subst e;rw[wA (by simp)];have od:=ah [] .nil;rw[gO]at od;exact⟨_,rfl,q t k told H1 g1 O al am od (by lia) ag ax⟩
 have ne:u≠[]:=λz=>an (m7.mp (by rw[<-la,z];rfl));have c1:(!(u.map V.ref).isEmpty)=true:=by
  cases u with
  |nil=>exact wC rfl ne
  |cons=>rfl
 rw[c1];refine eY ?_;refine⟨λay C=> ∃m',m'<m/\Wv m' ay C,λay C h=>h,?_⟩;have ai: ∀d∈n,d≠[]/\ ∀x∈d,x∈xs:=λd hd=>aK d (G d hd);have aN:pK J n:=λc hc d hd=>un c (G c hc) d (G d hd);have aO:=wb.same g1;have aP:=BJ rd g1;refine⟨_,rfl,l,rfl,⟨_,SqL.of el⟩,jc (xs:=u.map .ref) (λi B C=>Same H1 C/\ ∃r,B=r.map V.ref/\r.length<=i/\(∀e∈r,e∈u)/\LsAt C r ((n.take i).filter λc=> !cX J n c)) (by rw[cj,db];lia) ⟨Same.refl _,[],rfl,cD _,λ_ h=>(nomatch h),⟨rfl,λi a c e=>by simp at e⟩⟩ (λi B C hi p=>?_) (λi v B C hv p=>?_) (λB H2 p fr ao=>?_)⟩
 .obtain⟨g,r,rfl,e,_⟩:=p;exact⟨SqL.of (g _ _ el),by rw[cj];exact e⟩
 .obtain⟨g,r,rfl,e,sb,Le⟩:=p;rw[cF]at hv;obtain⟨a,ea,rfl⟩:=dR.mp hv;have li:=(cA.mp ea).1;obtain⟨c,ec⟩: ∃c,n[i]? =some c:=⟨_,ck (by lia)⟩;obtain⟨bs,ha,Ta⟩:=(L.same g).is i a c ea ec;have mc:=cK ec;refine⟨gm,_,rfl,_,rfl,_,rfl,D,a,l,J,xs,ys,c,n,bs,u,rfl,BJ aP g,aO.same g,ha,Ta,g _ _ el,L.same g,(ai c mc).1,ai,by lia,λH4 g4=>⟨_,rfl,?_⟩⟩;have z:=Cr (as:=u) (f:=λc=> !cX J n c) (Le.same g4) ec (g4 _ _ ha) (Ta.same g4);cases c2:cX J n c with
  |false=>
   rw[c2,wB (show(!false)=true from rfl)]at z;refine eY ⟨_,rfl,g.trans g4,r++[a],by simp,by simp;exact e,λe' he=>?_,z⟩;exact(di.mp he).elim (sb e') λh=>by rw[cW.mp h];exact cK ea
  |true=>
   rw[c2,wA (by decide)]at z;exact dU ⟨g.trans g4,r,rfl,by lia,sb,z⟩
 obtain⟨g2,r,rfl,_,sb,Le⟩:=p;rw[cj,la,gI]at Le;have k3:=cB ao (.lst (r.map V.ref));have ap:cg H2 fr (.lst (r.map V.ref)) fr=some (.lst (r.map V.ref)):=cn;have az:fr≠t:=(dG (g2 _ _ al) ao).symm;have aX:fr≠l:=(dG (g2 _ _ el) ao).symm;have M:=g2.trans k3;have aq:=Le.same k3;generalize cg H2 fr (.lst (r.map V.ref))=H3 at k3 ap M aq⊢;obtain⟨s0,aQ,aR⟩: ∃s∈n,cX J n s=false:=by
  cases n with
  |nil=>exact wC rfl an
  |cons c n=>exact y6 aN _ c (dC ..) (cD _)
 have mf:s0∈n.filter λc=> !cX J n c:=dq.mpr ⟨aQ,by rw[aR];rfl⟩;obtain⟨s,hs⟩: ∃s,(n.filter λc=> !cX J n c).head? =some s:=by
  cases z:n.filter λc=> !cX J n c with
  |nil=>rw[z]at mf;cases mf
  |cons y ys=>exact⟨y,rfl⟩
 have ms:s∈n:=(dq.mp (List.mem_of_mem_head? hs)).1;have aA:(n.filter λc=> !cX J n c)[0]? =some s:=by rw[<-List.head?_eq_getElem?];exact hs
 have le:=aq.len;obtain⟨a,ea⟩: ∃a,r[0]? =some a:=⟨_,ck (by rw[le];exact(cA.mp aA).1)⟩;have aB:iI (r.map V.ref) ((0:Nat):Int)=some (.ref a):=fF (by rw[cF,ea];rfl);obtain⟨bs,ha,Ta⟩:=aq.is 0 a s ea aA;have aC:=sb a (cK ea);have aD:a≠t:=λz=>ak (z▸aC);have I:=M _ _ al;refine⟨_,rfl,.inl ⟨rfl,_,SqL.of I⟩,_,rfl,fr,_,_,_,rfl,rfl,SqL.of ap,aB,t,_,_,rfl,rfl,I,by rw[cj,db];lia,?_⟩;have g4:Same H (cg H3 t (.lst (k.map V.ref++[.ref a]))):=gZ (g1.trans M) O;have aE:t∉k++[a]:=λz=>(di.mp z).elim aM λz=>aD (cW.mp z).symm;have L4:=((am.same M).snoc ha Ta).off (o:= .lst (k.map V.ref++[.ref a])) I aE;have aF:=(L.same M).off (o:= .lst (k.map V.ref++[.ref a])) I ak;have T:cg H3 t (.lst (k.map V.ref++[.ref a])) t=some (.lst ((k++[a]).map V.ref)):=by rw[cn,dP];rfl
 have ar:cg H3 t (.lst (k.map V.ref++[.ref a])) l=some (.lst (u.map V.ref)):=by
  rw[cw aL];exact M _ _ el
 have aj:cg H3 t (.lst (k.map V.ref++[.ref a])) fr=some (.lst (r.map V.ref)):=by
  rw[cw az];exact ap
 have aG:cg H3 t (.lst (k.map V.ref++[.ref a])) a=some (.lst (bs.map V.ref)):=by
  rw[cw aD];exact ha
 have aH:TupsAt (cg H3 t (.lst (k.map V.ref++[.ref a]))) bs s:=m8 Ta I λ_ e=>nomatch e;generalize cg H3 t (.lst (k.map V.ref++[.ref a]))=H4 at g4 L4 aF T ar aj aG aH⊢;refine⟨_,rfl,l,rfl,⟨_,SqL.of ar⟩,jc (xs:=u.map .ref) (λi B C=>C=H4/\ ∃r,B=r.map V.ref/\r.length<=i/\(∀e∈r,e∈u)/\LsAt H4 r ((n.take i).filter λc=>decide (c≠s))) (by rw[cj,db];lia) ⟨rfl,[],rfl,cD _,λ_ h=>(nomatch h),⟨rfl,λi a c e=>by simp at e⟩⟩ (λi B C hi p=>?_) (λi v B C hv p=>?_) (λB H5 p wl aI=>?_)⟩
 .obtain⟨rfl,r,rfl,e,_⟩:=p;exact⟨SqL.of ar,by rw[cj];exact e⟩
 .obtain⟨rfl,U,rfl,e,Y,ae⟩:=p;rw[cF]at hv;obtain⟨b,eb,rfl⟩:=dR.mp hv;have li:=(cA.mp eb).1;obtain⟨c,ec⟩: ∃c,n[i]? =some c:=⟨_,ck (by lia)⟩;obtain⟨ds,hb,Tb⟩:=aF.is i b c eb ec;have z:=Cr (as:=u) (f:=λc=>decide (c≠s)) ae ec hb Tb;refine⟨gm,_,rfl,_,rfl,fr,_,_,_,rfl,rfl,SqL.of aj,aB,b,a,1,_,_,rfl,rfl,vE hb Tb,vE aG aH,by decide,λcc hc=>⟨_,rfl,?_⟩⟩;by_cases af:c=s
  .have au:cc=true:=hc.mpr (by rw[af]);subst au;rw[d9 (λz=>z af),wA (by decide)]at z;exact dU ⟨rfl,U,rfl,by lia,Y,z⟩
  .have au:cc=false:=by
    cases cc with
    |false=>rfl
    |true=>exact wC (Fw (hc.mp rfl)) af
   subst au;rw[dD af,wB rfl]at z;refine eY ⟨_,rfl,rfl,U++[b],by simp,by simp;exact e,λe' he=>?_,z⟩;exact(di.mp he).elim (Y e') λh=>by rw[cW.mp h];exact cK eb
 obtain⟨rfl,U,rfl,_,Y,ae⟩:=p;rw[cj,la,gI]at ae;have k5:=cB aI (.lst (U.map V.ref));have less:(n.filter λc=>decide (c≠s)).length<n.length:=by
  rw[<-zn];have z:=DB (xs:=n) (p:=λc=>decide (c≠s)) (q:=λ_=>true) (λ_ _ _=>rfl) ⟨s,ms,rfl,d9 λz=>z rfl⟩;rw[List.countP_true]at z;exact z
 refine⟨(n.filter λc=>decide (c≠s)).length,by lia,g4.trans k5,wl,U,n.filter λc=>decide (c≠s),k++[a],told++[s],_,cn,ae.same k5,(dG T aI).symm,λz=>ak (Y _ z),λc hc=>G c (dq.mp hc).1,k5 _ _ T,L4.same k5,aE,λc hc=>(di.mp hc).elim (ag c) λh=>by rw[cW.mp h];exact G s ms,by rw[dz];simp only[List.length_singleton];lia,(λb hb=>ia b (Y b hb)),(λb hb=>(List.mem_append.mp hb).elim (ax b) λz=>by rw[List.mem_singleton.mp z];exact ia a aC),λrest aS=>?_,rfl,rfl⟩;rw[eX];exact ah _ (.cons hs aS)
def Lj{H b:Hp}{a:Ad}{u:HO}(h:Rd H a u)(no: ∀c,u≠ .tbl c)(g:Keeps H b):Rd b a u:=h.elim (λe=> .inl (g _ _ (oM e no))) λ⟨o,e⟩=> .inr ⟨o,g _ _ (nU e)⟩
def j7{H a:Hp}{bs:As}{c:LN}(T:TupsAt H bs c)(g:Keeps H a):TupsAt a bs c:=⟨T.len,λi b u d e=>g _ _ (nU (T.is i b u d e))⟩
def LsAt.keeps{H b:Hp}{d:As}{e:gi}(h:LsAt H d e)(g:Keeps H b):LsAt b d e:=⟨h.len,λi a c j k=>let⟨bs,l,m⟩:=h.is i a c j k;⟨bs,g _ _ (nU l),j7 m g⟩⟩
def WB.off2{H:Hp}{D l:Ad}{d e:LN}{ys:List WE}{n:List V}{o:HO}(h:WB H D d e ys)(q:H l=some (.lst n))(no: ∀y∈ys,l∉y.2.2):WB (cg H l o) D d e ys:=by
 refine⟨h.len,λi x y r g=>?_,h.nd⟩;obtain⟨a,b,c⟩:=h.each i x y r g;refine⟨⟨a.len,by rw[cw (nE a.dict q)];exact a.dict,λj k p m s=>?_⟩,b,c⟩;rw[cw λ(z:k=l)=>no y (cK g) (by rw[<-z];exact cK m)];exact a.list j k p m s
def fZ{ts b:LN}{c:LN}(h:c∈cP ts b):c≠[]/\c=cR ts b (c.headD [])/\c.headD []∈b/\ ∀x∈c,x∈b/\Rch ts (c.headD []) x/\Rch ts x (c.headD []):=by
 obtain⟨x,i,rfl⟩:=cO.mp h;obtain⟨g,j⟩:=dq.mp i;have e:(cR ts b x).headD []=x:=by
  have z:(cR ts b x).head? =some x:=eq_of_beq j;cases y:cR ts b x with
  |nil=>rw[y]at z;cases z
  |cons a m=>
   rw[y]at z;injection z with z
 refine⟨λz=>?_,by rw[e],by rw[e];exact g,λy k=>?_⟩
 .have s:=zX (ts:=ts) g;rw[z]at s;cases s
 .obtain⟨l,d⟩:=dq.mp k;rw[i4]at d;rw[e];exact⟨l,cy.mp d.1,cy.mp d.2⟩
def DH(e j:LN):pK e (cP e j):=λc k d l g i=>by
 obtain⟨_,m,_⟩:=fZ k;obtain⟨_,n,_⟩:=fZ l;rw[m,n];generalize c.headD []=x at g i;generalize d.headD []=y at g i;refine pW λz _=>?_;have go: ∀{x y:cf},dQ e x y=true->dQ e y x=true->(dQ e x z&&dQ e z x)=true->(dQ e y z&&dQ e z y)=true:=λ{x y} a b h=>by
  rw[i4]at h⊢;exact⟨cy.mpr ((cy.mp b).trans (cy.mp h.1)),cy.mpr ((cy.mp h.2).trans (cy.mp a))⟩
 rw[iw];exact⟨go g i,go i g⟩
def LevAt(H:Hp)(l:Ad)(g e:LN)(j:LN)(m:List WE)(a:Ad)(c:LN):Prop:= ∃(s t v:Ad) (bs h d:As) (i:Nat) (y:WE),H a=some (.tup [.ref s,.ref t,.ref v])/\s≠l/\t≠l/\v≠l/\l∉d/\H s=some (.lst (bs.map .ref))/\TupsAt H bs c/\H t=some (.lst (h.map .ref))/\TupsAt H h (gL e (c.headD []))/\H v=some (.lst (d.map .ref))/\d.length=c.length/\j[i]? =some (c.headD [])/\m[i]? =some y/\Told (cr g) g.length (c.headD []) y.2.1/\
 (∀b∈d,b∈y.2.2)/\ ∀(k:Nat) (x:cf) (b:Ad),c[k]? =some x->d[k]? =some b-> ∃word,(x,word)∈y.2.1/\H b=some (.lst (word.map nv))
def LevAt.keeps{H r:Hp}{l:Ad}{u d z:LN}{ys:List WE}{a:Ad}{c:LN}(h:LevAt H l u d z ys a c)(g:Keeps H r):LevAt r l u d z ys a c:=by
 obtain⟨s,t,v,bs,A,B,i,y,C,D,E,G,I,J,L,M,N,e,j,m,n,o,p,q⟩:=h;refine⟨s,t,v,bs,A,B,i,y,g _ _ (nU C),D,E,G,I,g _ _ (nU J),j7 L g,g _ _ (nU M),j7 N g,g _ _ (nU e),j,m,n,o,p,λk x b O Q=>?_⟩;obtain⟨word,T,U⟩:=q k x b O Q;exact⟨word,T,g _ _ (nU U)⟩
def LevAt.off{H:Hp}{l:Ad}{A d B:LN}{C:List WE}{a:Ad}{c:LN}{M:List V}{o:HO}(h:LevAt H l A d B C a c)(g:H l=some (.lst M)):LevAt (cg H l o) l A d B C a c:=by
 obtain⟨s,t,v,bs,N,O,i,y,D,E,G,I,J,Q,T,U,Y,j,m,n,p,q,r,u⟩:=h;refine⟨s,t,v,bs,N,O,i,y,by rw[cw (nE D g)];exact D,E,G,I,J,by rw[cw E];exact Q,m8 T g (λ_ e=>nomatch e),by rw[cw G];exact U,m8 Y g (λ_ e=>nomatch e),by rw[cw I];exact j,m,n,p,q,r,λk x b e1 L=>?_⟩;obtain⟨word,z1,z2⟩:=u k x b e1 L;refine⟨word,z1,?_⟩;rw[cw λ(z:b=l)=>J (by rw[<-z];exact cK L)];exact z2
structure LevsAt(H:Hp)(l:Ad)(ts fam xs:LN)(ys:List WE)(as:As)(told:gi):Prop where
 len:as.length=told.length
 is: ∀(i:Nat) (a:Ad) (c:LN),as[i]? =some a->told[i]? =some c->LevAt H l ts fam xs ys a c
def B4(H b:Hp)(a:Ad):Prop:= ∃s t v,b a=some (.tup [.ref s,.ref t,.ref v])/\L2.noT H s=none/\L2.noT H t=none/\L2.noT H v=none
def yS(T:Ad)(pos:Pos):Sp:=λj H Q _=> ∃(m:Ad) (e:LN) (n:Nat),j=[.ref m]/\Mach H m e n/\Tabs H/\
 ∀l h told d i g,Keeps H g->Tabs g->L2.noT H l=none->g l=some (.lst (h.map .ref))->FamOf e n d->Ord e (cP e (big d)) told->(∀c∈told,c∈cP e (big d))->told.length<=32->LevsAt g l e d (big d) i h told->(∀y∈i,∀b∈y.2.2,L2.noT H b=none)->i.Pairwise (λp q=> ∀b∈p.2.2,b∉q.2.2)->(∀a∈h,B4 H g a)->Q (.ref l) g
def Md{T:Ad}(F:Fun K "levels" "levels" u6 f fd)(kO:dw P w K mg base "words_between" 16 ["machine"] (Dp T (⟨49,40,49,93⟩:Pos)))(kM:dw P w K mg base "sets_of_levels" 3 ["words"] CG)(kH:dw P w K mg base "levels_in_order" 3 ["words","waiting"] EN)(rD:dw P w K mg base "tiles" 16 ["machine","rooms"] (Ej T (⟨49,40,49,93⟩:Pos))):FnOk P w K mg base cQ 18 f fd ["machine"] (yS T (⟨49,40,49,93⟩:Pos)):=by
 refine F.ok qB (λvs H Q E h=>?_) (λbj A aV s H vs Q E hr h=>?_)
 .obtain⟨m,O,n,rfl,_⟩:=h;rfl
 obtain⟨m,O,n,rfl,M,hT,q⟩:=h;have hu:=hr.units;have aB:=iG hr;refine⟨_,(cH (df (i:=1) qB.nd rfl (Or.inr rfl) (dB kO hr.m rfl (cE (pv 0) cz))) (cH (df (i:=2) qB.nd rfl (Or.inl rfl) (fX cz)) (cH (hR gT rfl (gF (dB kH hr.m rfl (c7 (cq (pv 1) (cq (dB kM hr.m rfl (cE (pv 1) cz)) c8 rfl) rfl)))) (fh (i:=3) qB.nd rfl (Or.inl rfl)) (cH (df (i:=4) qB.nd rfl (Or.inr rfl) (cY fe (pv 3) cS (λ_ _=>rfl))) (cH (yM (CompSc.to (N:=["machine","words","told","sets","face","ways"]) (osc:=cL u6) (vs:=["rooms"]) {}) rfl rfl qB.nd (j:=5) rfl rfl (gF (pv 3)) (λ_ _ _ _=>gR) (λ_ _ _ _=>(mS aB (mS aB (pv 2) (pv 5) (λ_ _=>rfl)) (pv 0) (λ_ _=>rfl)))) (cM (jb (iN iF lA ku lI (pv 2) (cE (jg (c7 (cq (pv 3) (cq (dB rD hr.m rfl (c7 (cq (pv 0) (cq (pv 4) c8 rfl) rfl))) (cq (pv 5) c8 rfl) rfl) rfl))) cz))))))) (cM (dr (pv 2)))))),?_⟩;refine⟨_,rfl,m,O,n,rfl,M,hT,λD l ys H1 k1 T1 nD ff eD wb nw ap=>?_⟩;have few:=ff.few M;have U:(big l).length<=32:=dt (gX _ _) few;refine⟨by show 0<=sizeLine;decide,λto ag=>?_⟩;have kt:=cB ag (.lst []);have aC: ∀y∈ys,to∉y.2.2:=λy hy r=>by
  obtain⟨j,ej⟩:=fi.mp hy;have lj:=(cA.mp ej).1;have hl:=wb.len;obtain⟨x',aW⟩: ∃x',(big l)[j]? =some x':=⟨_,ck (by lia)⟩;obtain⟨a',_⟩:=wb.each j x' y aW ej;obtain⟨j2,aD⟩:=fi.mp r;have aX:=(cA.mp aD).1;have Y:=a'.list j2 to _ aD (ck (by rw[<-a'.len];exact aX));rw[ag]at Y;cases Y
 have aY:to≠D:=(dG eD ag).symm;have au:=kt _ _ eD;refine⟨_,rfl,_,rfl,D,O,big l,ys,rfl,au,wb.same kt,U,λwl o as H3 g3 bk aZ Lw aE=>?_⟩;have aF:H3 D=some (.frz o (.dT (fq (big l) ys))):=g3 _ _ cn;have aG:WB H3 D O (big l) ys:=((wb.same kt).off au).same g3;have av: ∀{b:Ad} {u:HO},b≠D->cg H1 to (.lst []) b=some u->H3 b=some u:=λnb r=>g3 _ _ (by rw[cw nb];exact r);have aa:H3 to=some (.lst []):=av aY cn;have a0: ∀{b:Ad} {u:HO},L2.noT H b=some u->b≠D:=λr z=>by
  subst z;rw[nD]at r;cases r
 have a1:Keeps H H3:=λb u r=>av (a0 r) (kt _ _ (k1 _ _ r));have T3:Tabs H3:=(T1.same kt).most λb u nd _ r=>av (i7 r au λe=>nd _ e) r;have a2: ∀d∈cP O (big l),d≠[]/\ ∀x∈d,x∈big l:=λd hd=>⟨(fZ hd).1,λx hx=>((fZ hd).2.2.2 x hx).1⟩;have aH:(cP O (big l)).length<=32:=by
  unfold cP;rw[cj];exact dt (gX _ _) U
 refine⟨D,wl,O,big l,ys,_,as,rfl,.inr ⟨o,aF⟩,aG,aZ,Lw,a2,DH O _,aH,λol ah told H4 g4 a3 aI Lo od a4 sub a5=>?_⟩;have lo:=Lo.len;have aJ:ol≠to:=(dG aa a3).symm;have ao:to∉ah:=λz=>by
  obtain⟨j,ej⟩:=fi.mp z;have lj:=(cA.mp ej).1;obtain⟨bs,e,_⟩:=Lo.is j to _ ej (ck (by rw[<-lo];exact lj));have ec:=iZ (show j<told.length by lia);have C:=g4 _ _ aa;rw[e]at C;injection C with C
  injection C with C
  have Y:bs=[]:=zB.mp C;obtain⟨a6,e',a7⟩:=Lo.is j to _ ej (ck (by lia));rw[e]at e';injection e' with e'
  injection e' with e'
  rw[Y]at e';have z3:a6=[]:=zB.mp e'.symm;have z4:=a7.len;rw[z3]at z4;exact(fZ (sub _ ec)).1 (m7.mp z4.symm)
 have a8:Keeps H H4:=a1.trans g4.keeps;have T4:=T3.same g4;have aK:=g4 _ _ aa;have aL:L2.noT H to=none:=by
  cases z:L2.noT H to with
  |none=>rfl
  |some u=>
   have Y:=k1 _ _ z;rw[ag]at Y;cases Y
 let Pv:Nat->L2.St->Hp->Prop:=λi σ t=>Keeps H t/\Tabs t/\t ol=some (.lst (ah.map .ref))/\LsAt t ah told/\Rd t D (.dT (fq (big l) ys))/\WB t D O (big l) ys/\ ∃ls o3 o4 o5,t to=some (.lst (ls.map .ref))/\LevsAt t to O l (big l) ys ls (told.take i)/\(∀a∈ls,B4 H t a)/\σ=[some (.ref m),some (.ref D),some (.ref to),o3,o4,o5]
 refine⟨ol,rfl,⟨_,SqL.of aI⟩,ni (xs:=ah.map .ref) Pv ⟨a8,T4,aI,Lo,.inr ⟨o,g4 _ _ aF⟩,aG.same g4,[],none,none,none,aK,⟨rfl,λi a c e=>by simp at e⟩,(λ_ h=>nomatch h),rfl⟩ (λi σ t _ p=>SqL.of p.2.2.1) (λi v σ H5 hv p=>?_) (λσ H5 p=>?_)⟩
 .obtain⟨k5,T5,aq,aw,ax,ay,ls,o3,o4,o5,I,ab,az,rfl⟩:=p;rw[cF]at hv;obtain⟨a,ea,rfl⟩:=dR.mp hv;have li:=(cA.mp ea).1;obtain⟨c,ec⟩: ∃c,told[i]? =some c:=⟨_,ck (by lia)⟩;obtain⟨bs,ha,Ta⟩:=aw.is i a c ea ec;obtain⟨cne,_,cx,call⟩:=fZ (sub c (cK ec));obtain⟨b0,a9,aM,m0⟩:=zQ Ta cne;have bl:=Ta.len;have bm:c.length<=32:=by
   rw[(fZ (sub c (cK ec))).2.1];exact dt (gX _ _) U
  have ba:a≠to:=λz=>ao (z▸cK ea);obtain⟨W,ws,wa,dg,wt,tt,ix,ex,ey⟩:=ay.get ax cx aM;refine⟨_,rfl,a,_,_,_,rfl,rfl,SqL.of ha,a9,?_⟩;refine⟨_,rfl,a,rfl,⟨_,SqL.of ha⟩,jc (xs:=bs.map .ref) (λj ai t=>t=H5/\ ∃G:As,ai=G.map V.ref/\G.length=j/\(∀b∈G,b∈wa)/\ ∀(k:Nat) (x:cf) (b:Ad),c[k]? =some x->G[k]? =some b-> ∃word,(x,word)∈ws/\H5 b=some (.lst (word.map nv))) (by rw[cj,db];lia) ⟨rfl,[],rfl,rfl,λ_ h=>(nomatch h),λk x b _ e=>by simp at e⟩ (λj ai t hi p=>?_) (λj v ai t hv p=>?_) (λai t p J aj=>?_)⟩
  .obtain⟨rfl,G,rfl,e,_⟩:=p;exact⟨SqL.of ha,by rw[cj];lia⟩
  .obtain⟨rfl,G,rfl,e,sb,al⟩:=p;rw[cF]at hv;obtain⟨b,eb,rfl⟩:=dR.mp hv;have lj:=(cA.mp eb).1;obtain⟨x,aA⟩: ∃x,c[j]? =some x:=⟨_,ck (by lia)⟩;have r:=Ta.is j b x eb aA;obtain⟨_,r1,_⟩:=call x (cK aA);obtain⟨⟨x',u⟩,hp,e'⟩:=cO.mp ((xV tt x).mpr r1);have B:x'=x:=e';subst B;obtain⟨aN,v1,v2⟩:=wt.word tt.keys hp;have bb:DGet t W (.ref b) (some (.ref aN)):= .inr ⟨_,nk x',b,.inl wt.dict,rfl,by rw[hZ];exact r,v1.symm⟩;refine⟨gm,iz ⟨_,rfl,_,rfl,D,_,rfl,dg,_,rfl,W,_,rfl,bb,rfl,G++[aN],by simp,by simp[e],λb' ak=>?_,λk x b' L B=>?_⟩⟩
   .exact(di.mp ak).elim (sb b') λh=>by rw[cW.mp h];exact Kz v1
   .by_cases hk:k<G.length
    .rw[eV hk]at B;exact al k x b' L B
    .rw[eU (by lia)]at B;have z:k-G.length=0:=by
      have:=(cA.mp B).1;simp at this;lia
     rw[z]at B;cases B;have kj:k=j:=by lia
     subst kj;rw[aA]at L;cases L;exact⟨u,hp,v2⟩
  .obtain⟨rfl,G,rfl,bc,sb,al⟩:=p;rw[cj]at bc;have kw:=cB aj (.lst (G.map V.ref));have aO:J≠to:=(dG I aj).symm;have aP:cg t J (.lst (G.map V.ref)) J=some (.lst (G.map V.ref)):=cn;generalize cg t J (.lst (G.map V.ref))=H6 at kw aP⊢;have ae:=kw _ _ I;refine⟨_,rfl,.inl ⟨rfl,_,SqL.of ae⟩,_,rfl,_,rfl,_,rfl,m,b0,O,n,c.headD [],rfl,(M.keeps k5).same kw,kw _ _ aM,T5.same kw,λtl ds us aQ H7 k7 T7 am bd Td be bf=>?_⟩;have ef:aQ=l:=be.uniq ff;subst ef;subst bf;have aR:=k7 _ _ (nU ae);have aS:tl≠to:=λz=>by
    subst z;rw[nU ae]at am;cases am
   refine⟨_,rfl,by show 3<=sizeLine;decide,λlv bg=>?_⟩;have kl:=cB bg (.tup [.ref a,.ref tl,.ref J]);have an:cg H7 lv (.tup [.ref a,.ref tl,.ref J]) lv=some (.tup [.ref a,.ref tl,.ref J]):=cn;have kk:Keeps t (cg H7 lv (.tup [.ref a,.ref tl,.ref J])):=(kw.keeps.trans k7).trans kl.keeps;have aT:Keeps H6 (cg H7 lv (.tup [.ref a,.ref tl,.ref J])):=k7.trans kl.keeps;have ar:=kl _ _ bd;have aU:=Td.same kl;have T8:=T7.same kl;have g:=kl _ _ aR;generalize cg H7 lv (.tup [.ref a,.ref tl,.ref J])=H8 at kl an kk aT ar aU T8 g⊢;have bh:=ab.len;rw[eF]at bh;refine⟨to,_,_,rfl,rfl,g,by rw[cj,db];lia,?_⟩;have af: ∀{b:Ad} {u:HO},t b=some u->(∀ps,u≠ .tbl ps)->H8 b=some u:=λr no=>kk _ _ (oM r no)
   refine⟨λb u r=>?_,?_,?_,?_,?_,?_,ls++[lv],_,_,_,by rw[cn,dP];rfl,⟨?_,λj a' c' L B=>?_⟩,λa' bi=>?_,rfl⟩
   .rw[cw λ(z:b=to)=>by subst z;rw[aL]at r;cases r];exact(k5.trans kk) _ _ r
   .exact T8.most λb' u _ nl ak=>by rw[cw (i7 ak g λe=>nl _ e)];exact ak
   .rw[cw aJ];exact af aq λ_ e=>nomatch e
   .exact(aw.keeps kk).off g ao
   .rcases Lj ax (λ_ e=>nomatch e) kk with z|⟨o',z⟩
    .exact .inl (by rw[cw (nE z g)];exact z)
    .exact .inr ⟨o',by rw[cw (nE z g)];exact z⟩
   .exact(ay.keeps kk).off2 g aC
   .rw[dz,eF];simp only[List.length_singleton];lia
   .have lt':told.take (i+1)=told.take i++[c]:=by rw[h9,ec];rfl
    rw[lt']at B;by_cases hj:j<ls.length
    .rw[eV hj]at L;rw[eV (by rw[eF];lia)]at B;exact((ab.is j a' c' L B).keeps kk).off g
    .rw[eU (by lia)]at L;rw[eU (by rw[eF];lia)]at B;have z:j-ls.length=0:=by
      have:=(cA.mp L).1;simp at this;lia
     have z':j-(told.take i).length=0:=by rw[eF];lia
     rw[z]at L;rw[z']at B;cases L;cases B;refine LevAt.off ⟨a,tl,J,bs,ds,G,ix,(W,ws,wa),an,ba,aS,aO,λz=>aC _ (cK ey) (sb _ z),af ha (λ_ e=>nomatch e),j7 Ta kk,ar,aU,aT _ _ (nU aP),by lia,ex,ey,tt,sb,λk x b L B=>?_⟩ g;obtain⟨word,C,Y⟩:=al k x b L B;exact⟨word,C,af Y λ_ e=>nomatch e⟩
   .rcases di.mp bi with z|z
    .obtain⟨s',t',v',C,Y⟩:=az a' z;exact⟨s',t',v',(by rw[cw (nE (af C λ_ e=>nomatch e) g)];exact af C λ_ e=>nomatch e),Y⟩
    .rw[cW.mp z];refine⟨a,tl,J,by rw[cw (nE an g)];exact an,?_,?_,?_⟩
     .have C:=aE a (a5 a (cK ea));cases y:L2.noT H a with
      |none=>rfl
      |some u=>
       rw[kt _ _ (k1 _ _ y)]at C;cases C
     .cases y:L2.noT H tl with
      |none=>rfl
      |some u=>
       have C:=kw _ _ (k5 _ _ y);rw[oM C (sX y).2]at am;cases am
     .cases y:L2.noT H J with
      |none=>rfl
      |some u=>
       rw[k5 _ _ y]at aj;cases aj
 .obtain⟨k5,T5,aq,aw,ax,ay,ls,o3,o4,o5,I,ab,az,rfl⟩:=p;rw[cj,lo,gI]at ab;exact⟨_,rfl,q to ls told l ys H5 k5 T5 aL I ff od sub a4 ab nw ap az⟩
def cJ{x y:cf}:sub x y=true↔ ∀r∈x,r∈y:=by
 unfold sub;rw[pY];exact⟨λh r a=>fT.mp (h r a),λh r a=>fT.mpr (h r a)⟩
def Dd{n:Nat}{u v:cf}(d:u∈dF n)(g:v∈dF n)(h:sub u v=true)(j:u≠v):u.length<v.length:=by
 obtain⟨a,_⟩:=cm.mp d;obtain⟨b,_⟩:=cm.mp g;have s:=cJ.mp h;have e: ∃z∈List.range 5,u.contains z=false/\v.contains z=true:=by
  refine vd λno=>j ?_;rw[<-a,<-b];unfold eM;refine pW λz k=>?_;rw[iw];constructor
  .exact λq=>fT.mpr (s z (fT.mp q))
  .intro q;cases c:u.contains z with
   |true=>rfl
   |false=>exact wC ⟨z,k,c,q⟩ no
 have z:=yA (xs:=List.range 5) (p:=λi=>u.contains i) (q:=λi=>v.contains i) (λz _ q=>fT.mpr (s z (fT.mp q))) e;rw[zn,zn]at z;unfold eM at a b;rw[a,b]at z;exact z
structure TileFacts(fam:LN)(x:cf)(us:LN):Prop where
 mem: ∀u∈us,u∈fam/\u≠x/\sub u x=true
 apart: ∀u∈us,∀v∈us,u≠v->sub u v=false
 up:us.Pairwise λa b=>fK gl a b=true
 all: ∀u∈fam,u≠x->sub u x=true-> ∃t∈us,sub u t=true
 few:us.length<=32
 few2:fam.length<=32
 l5: ∀u∈fam,u.length<=5
def nN{H:Hp}{m:Ad}{y:LN}{n:Nat}{a:LN}(M:Mach H m y n)(k:FamOf y n a)(x:cf):TileFacts a x (gL a x):=by
 have few:=k.few M;have b: ∀u,u∈gy a x↔u∈a/\u≠x/\sub u x=true:=λu=>by
  unfold gy;rw[dq,i4,um]
 have l: ∀u,jo (gy a x) u=true↔ ∃v∈gy a x,v≠u/\sub u v=true:=λu=>by
  unfold jo;rw[xv];constructor
  .rintro⟨v,i,e⟩;rw[i4,um]at e;exact⟨v,i,e⟩
  .rintro⟨v,i,e⟩;exact⟨v,i,by rw[i4,um];exact e⟩
 have g: ∀u,u∈gL a x↔u∈gy a x/\jo (gy a x) u=false:=λu=>by
  unfold gL;rw[dq];refine and_congr Iff.rfl ?_;cases jo (gy a x) u<;>simp
 have A: ∀u∈a,u.length<=5:=λu h=>dt (oN M.n5 (k.inU M h)) M.n5;have o: ∀(d:Nat) (u:cf),u∈gy a x->5-u.length<=d-> ∃t∈gL a x,sub u t=true:=by
  intro d
  induction d with
  | zero=>
   intro u j B;cases c:jo (gy a x) u with
   |false=>exact⟨u,(g u).mpr ⟨j,c⟩,cJ.mpr λr q=>q⟩
   |true=>
    obtain⟨v,p,i,e⟩:=(l u).mp c;have:=Dd (k.inU M ((b u).mp j).1) (k.inU M ((b v).mp p).1) e (eC i)
    have:=A v ((b v).mp p).1;lia
  | succ d C=>
   intro u j B;cases c:jo (gy a x) u with
   |false=>exact⟨u,(g u).mpr ⟨j,c⟩,cJ.mpr λr q=>q⟩
   |true=>
    obtain⟨v,p,i,e⟩:=(l u).mp c;have:=Dd (k.inU M ((b u).mp j).1) (k.inU M ((b v).mp p).1) e (eC i)
    obtain⟨t,ht,s⟩:=C v p (by lia);exact⟨t,ht,cJ.mpr λr q=>cJ.mp s r (cJ.mp e r q)⟩
 refine⟨λu j=>(b u).mp ((g u).mp j).1,λu j v p D=>?_,?_,λu i e s=>o 5 u ((b u).mpr ⟨i,e,s⟩) (by lia),?_,few,A⟩
 .cases c:sub u v with
  |false=>rfl
  |true=>
   have z:=(l u).mpr ⟨v,((g v).mp p).1,eC D,c⟩;rw[((g u).mp j).2]at z;cases z
 .exact(k.up.filter _).filter _
 .exact dt (gX _ _) (dt (gX _ _) few)
def E6(x:cf):fK gl x x=false:=(kX gl [x]).irr x
def xN{K:W.Frag}{H:Hp}{fs:As}{b:LN}{n:Nat}(T:TupsAt H fs b)(i:Nat)(d:Dt)(v:V)(c:(b.map λu=>Dt.tup (gB u))[i]? =some d)(e:(fs.map V.ref)[i]? =some v):Rep K H (n+1) d v:=by
 rw[cF]at c e;obtain⟨p,g,rfl⟩:=dR.mp c;obtain⟨a,h,rfl⟩:=dR.mp e;exact gW (SqT.of (T.is i a p h g))
def HR{u:cf}{a:LN}:Dt.tup (gB u)∈a.map (λu=>Dt.tup (gB u))↔u∈a:=by
 rw[cO];constructor
 .rintro⟨v,c,b⟩;injection b with b
  rw[<-AK b];exact c
 .exact λh=>⟨u,h,rfl⟩
def ip(f:Nat->Nat):Nat->Nat->Nat
 |0,r=>r
 |k+1,r=>ip f k (f r)
theorem AG(f:Nat->Nat): ∀(a b r:Nat),ip f (a+b) r=ip f b (ip f a r)
 |0,b,r=>by rw[qv];rfl
 |a+1,b,r=>by
  rw[Nat.add_right_comm];exact AG f a b (f r)
theorem q0{f:Nat->Nat}{d r:Nat}(h:ip f d r=r): ∀k,ip f (d * k) r=r
 |0=>rfl
 |k+1=>by rw[Nat.mul_succ,AG,q0 h k,h]
def zK(a:LN)(r:Nat)(u v:cf):dX a r (u++v)=dX a (dX a r u) v:=by
 unfold dX;rw[nP]
def nq(u:cf):Nat->List Nat
 |0=>[]
 |k+1=>u++nq u k
theorem C9(a:LN)(u:cf): ∀(k r:Nat),dX a r (nq u k)=ip (λr=>dX a r u) k r
 |0,_=>rfl
 |k+1,r=>by
  show dX a r (u++nq u k)=_;rw[zK,C9 a u k];rfl
theorem B6{u:cf}{l:Nat}: ∀{k:Nat},l∈nq u k->l∈u
 |0,h=>nomatch h
 |k+1,h=>(di.mp h).elim id B6
def xB(a:LN)(x u v:cf):cV (cr a) x (u++v)=cV (cr a) (cV (cr a) x u) v:=by
 unfold cV;rw[nP]
def wF{n:Nat}{x y:cf}(a:x∈dF n)(b:y∈dF n)(h: ∀r,r∈x↔r∈y):x=y:=by
 rw[<-(cm.mp a).1,<-(cm.mp b).1];exact BL h
def Aq{n:Nat}{x:cf}(a:x∈dF n):x.Nodup:=by
 rw[<-(cm.mp a).1];unfold eM;exact List.Nodup.sublist oQ xq
def i8{H:Hp}{m:Ad}{b:LN}{n:Nat}(M:Mach H m b n){x word:cf}(d:x∈dF n)(hw: ∀l∈word,l<b.length){r:Nat}:r∈cV (cr b) x word↔ ∃a∈x,dX b a word=r:=by
 have g:=M.n5;rw[xP M word x d hw];constructor
 .intro h;obtain⟨a,c,e⟩:=cO.mp (wy h);exact⟨a,c,e⟩
 .rintro⟨a,c,rfl⟩;have:=me M word a ((cm.mp d).2 a c) hw;exact D3 (cO.mpr ⟨a,c,rfl⟩) (by lia)
def j9{H:Hp}{m:Ad}{a:LN}{n:Nat}(M:Mach H m a n){x word:cf}(b:x∈dF n)(hw: ∀l∈word,l<a.length):cV (cr a) x word∈dF n:=pV b (λy c l d=>ry M c d) word hw
structure Bij(ts:LN)(x y w p:cf):Prop where
 to:cV (cr ts) x w=y
 fro:cV (cr ts) y p=x
 lw: ∀l∈w,l<ts.length
 lp: ∀l∈p,l<ts.length
 here: ∀r∈x,dX ts (dX ts r w) p=r
 there: ∀r∈y,dX ts (dX ts r p) w=r
def Bij.symm{a:LN}{x y w p:cf}(b:Bij a x y w p):Bij a y x p w:=⟨b.fro,b.to,b.lp,b.lw,b.there,b.here⟩
def G2{x:cf}{f:Nat->Nat}(nd:x.Nodup)(j: ∀r∈x,∃c∈x,f c=r): ∀a∈x,∀b∈x,f a=f b->a=b:=λa d b k e=>by
 by_cases g:a=b
 .exact g
 have z:=pS (l₂:=(x.erase a).map f) nd λr l=>by
  obtain⟨c,m,h⟩:=j r l;by_cases i:c=a
  .exact cO.mpr ⟨b,(vJ (eC g)).mpr k,by rw[<-e,<-i,h]⟩
  .exact cO.mpr ⟨c,(vJ i).mpr m,h⟩
 rw[cj,yW d]at z;have:=wQ d;lia
theorem Bl{x:cf}{f:Nat->Nat}(a: ∀r∈x,f r∈x): ∀(k r:Nat),r∈x->ip f k r∈x
 |0,_,h=>h
 |k+1,r,h=>Bl a k (f r) (a r h)
theorem Dx{x:cf}{f:Nat->Nat}(c: ∀r∈x,f r∈x)(inj: ∀a∈x,∀b∈x,f a=f b->a=b): ∀(k:Nat),∀a∈x,∀b∈x,ip f k a=ip f k b->a=b
 |0,_,_,_,_,e=>e
 |k+1,a,d,b,g,e=>inj a d b g (Dx c inj k (f a) (c a d) (f b) (c b g) e)
def tO{x:cf}{f:Nat->Nat}(p:x.length<=5)(g: ∀r∈x,f r∈x)(inj: ∀a∈x,∀b∈x,f a=f b->a=b)(r:Nat)(k:r∈x):ip f 60 r=r:=by
 have: ∃d,1<=d/\d<=5/\ip f d r=r:=by
  by_cases h: ∃i j,i<j/\j<=5/\ip f i r=ip f j r
  .obtain⟨i,j,l,m,c⟩:=h;refine⟨j-i,by lia,by lia,?_⟩;have e:j=(j-i)+i:=by lia
   rw[e,AG]at c;exact(Dx g inj i r k _ (Bl g (j-i) r k) c).symm
  .have nd:((List.range 6).map λi=>ip f i r).Nodup:=by
    rw[Dr,nJ];refine xt ?_ List.pairwise_lt_range;intro i j q n lt e;exact h ⟨i,j,lt,by have:=eE.mp n;lia,e⟩
   have z:=pS (l₂:=x) nd λy o=>by
    obtain⟨i,_,rfl⟩:=cO.mp o;exact Bl g i r k
   rw[cj,fV]at z;lia
 obtain⟨d,l,m,c⟩:=this;have:d=1∨d=2∨d=3∨d=4∨d=5:=by lia
 rcases this with rfl|rfl|rfl|rfl|rfl
 .exact q0 c 60
 .exact q0 c 30
 .exact q0 c 20
 .exact q0 c 15
 .exact q0 c 12
def Bg{H:Hp}{m:Ad}{a:LN}{n:Nat}(M:Mach H m a n){x y w:cf}(b:x∈dF n)(i: ∀l∈w,l<a.length)(e:cV (cr a) x w=y)(back:Rch a y x): ∃p,Bij a x y w p:=by
 obtain⟨v,s,B⟩:=back;have t:y∈dF n:=by rw[<-e];exact j9 M b i
 have d: ∀l∈w++v,l<a.length:=λl o=>(di.mp o).elim (i l) (s l);have u:cV (cr a) x (w++v)=x:=by rw[xB,e,B]
 have C: ∀r∈x,dX a r (w++v)∈x:=λr c=>by
  have z:=(i8 M b d).mpr ⟨r,c,rfl⟩;rw[u]at z;exact z
 have D: ∀r∈x,∃j∈x,dX a j (w++v)=r:=λr c=>(i8 M b d).mp (by rw[u];exact c);have inj:=G2 (Aq b) D;have E:=tO (f:=λr=>dX a r (w++v)) (dt (oN M.n5 b) M.n5) C inj;have here: ∀r∈x,dX a (dX a r w) (v++nq (w++v) 59)=r:=λr c=>by
  rw[<-zK,<-eX,zK,C9];exact E r c
 have q: ∀l∈v++nq (w++v) 59,l<a.length:=λl o=>(di.mp o).elim (s l) λh=>d l (B6 h);have g: ∀r∈y,dX a (dX a r (v++nq (w++v) 59)) w=r:=λr c=>by
  rw[<-e]at c;obtain⟨j,k,rfl⟩:=(i8 M b i).mp c;rw[here j k]
 refine⟨v++nq (w++v) 59,e,wF (j9 M t q) b λr=>?_,i,q,here,g⟩;rw[i8 M t q];constructor
 .rintro⟨j,k,rfl⟩;rw[<-e]at k;obtain⟨G,A,rfl⟩:=(i8 M b i).mp k;rw[here G A];exact A
 .intro h;exact⟨dX a r w,by rw[<-e];exact(i8 M b i).mpr ⟨r,h,rfl⟩,here r h⟩
def Bij.back{H:Hp}{m:Ad}{a:LN}{n:Nat}(M:Mach H m a n){x y w p u:cf}(b:Bij a x y w p)(c:u∈dF n)(s:sub u x=true):cV (cr a) (cV (cr a) u w) p=u:=by
 have d:=cJ.mp s;have e:=j9 M c b.lw;refine wF (j9 M e b.lp) c λr=>?_;rw[i8 M e b.lp];constructor
 .rintro⟨j,i,rfl⟩;obtain⟨g,h,rfl⟩:=(i8 M c b.lw).mp i;rw[b.here g (d g h)];exact h
 .intro z;exact⟨dX a r w,(i8 M c b.lw).mpr ⟨r,z,rfl⟩,b.here r (d r z)⟩
def sZ{H:Hp}{m:Ad}{a:LN}{n:Nat}(M:Mach H m a n){u v w:cf}(d:u∈dF n)(e:v∈dF n)(b: ∀l∈w,l<a.length)(s:sub u v=true):sub (cV (cr a) u w) (cV (cr a) v w)=true:=by
 refine cJ.mpr λr g=>?_;obtain⟨c,h,rfl⟩:=(i8 M d b).mp g;exact(i8 M e b).mpr ⟨c,cJ.mp s c h,rfl⟩
def ym{H:Hp}{m:Ad}{b:LN}{n:Nat}{a:LN}(M:Mach H m b n)(g:FamOf b n a){u w:cf}(h:u∈a)(c: ∀l∈w,l<b.length):cV (cr b) u w∈a:=by
 have d:=M.n5;refine(g.mem _).mpr ?_
 rcases (g.mem u).mp h with⟨i,j,k⟩|⟨r,e,rfl⟩
 .refine .inl ⟨i++w,λl o=>(di.mp o).elim (j l) (c l),?_⟩;rw[xB,k]
 .have lt:=me M w r e c;refine .inr ⟨dX b r w,lt,wF (j9 M (tJ d e) c) (tJ d lt) λq=>?_⟩;rw[i8 M (tJ d e) c];constructor
  .rintro⟨s,p,rfl⟩;rw[cW.mp p];exact cW.mpr rfl
  .intro z;exact⟨r,cW.mpr rfl,(cW.mp z).symm⟩
def DV{n:Nat}{u v:cf}(c:u∈dF n)(d:v∈dF n)(a:sub u v=true)(b:sub v u=true):u=v:=wF c d λr=>⟨cJ.mp a r,cJ.mp b r⟩
def Af{u v w:cf}(a:sub u v=true)(b:sub v w=true):sub u w=true:=cJ.mpr λr c=>cJ.mp b r (cJ.mp a r c)
def lE{H:Hp}{m:Ad}{i:LN}{n:Nat}{a:LN}(M:Mach H m i n)(d:FamOf i n a){x u:cf}:u∈gL a x↔u∈a/\u≠x/\sub u x=true/\ ∀v∈a,v≠x->sub v x=true->sub u v=true->v=u:=by
 have b:=nN M d x;constructor
 .intro j;obtain⟨c,g,h⟩:=b.mem u j;refine⟨c,g,h,λv k o p l=>?_⟩;obtain⟨t,ht,st⟩:=b.all v k o p;have q:u=t:=by
   by_cases e:u=t
   .exact e
   .have z:=b.apart u j t ht e;rw[Af l st]at z;cases z
  subst q;exact DV (d.inU M k) (d.inU M c) st l
 .rintro⟨c,g,h,r⟩;obtain⟨t,ht,st⟩:=b.all u c g h;obtain⟨s,y,A⟩:=b.mem t ht;rw[<-r t s y A st];exact ht
def qm{H:Hp}{m:Ad}{a:LN}{n:Nat}{c:LN}(M:Mach H m a n)(d:FamOf a n c){x y w p u:cf}(k:x∈dF n)(b:Bij a x y w p)(q:u∈gL c x):cV (cr a) u w∈gL c y:=by
 obtain⟨l,r,i,s⟩:=(lE M d).mp q;have t:y∈dF n:=by rw[<-b.to];exact j9 M k b.lw
 have g:=d.inU M l;have gU:=j9 M g b.lw;have A:sub (cV (cr a) u w) y=true:=by
  have z:=sZ M g k b.lw i;rw[b.to]at z;exact z
 refine(lE M d).mpr ⟨ym M d l b.lw,λe=>r ?_,A,λv o B j C=>?_⟩
 .rw[<-b.back M g i,e,b.fro]
 .have h:=d.inU M o;have bs:=b.symm;have D:=ym M d o b.lp;have E:cV (cr a) v p≠x:=λe=>B (by rw[<-bs.back M h j,e,b.to]);have G:sub (cV (cr a) v p) x=true:=by
   have z:=sZ M h t b.lp j;rw[b.fro]at z;exact z
  have I:sub u (cV (cr a) v p)=true:=by
   have z:=sZ M gU h b.lp C;rw[b.back M g i]at z;exact z
  rw[<-bs.back M h j,s _ D E G I]
def LvH(H:Hp)(a:Ad)(c h:LN)(d:LN):Prop:= ∃(s t v:Ad) (bs ds e:As),H a=some (.tup [.ref s,.ref t,.ref v])/\H s=some (.lst (bs.map .ref))/\TupsAt H bs c/\H t=some (.lst (ds.map .ref))/\TupsAt H ds h/\H v=some (.lst (e.map .ref))/\e.length=d.length/\ ∀(k:Nat) (b:Ad) (g:cf),e[k]? =some b->d[k]? =some g->H b=some (.lst (g.map nv))
def LvH.same{H e:Hp}{a:Ad}{c i d:LN}(h:LvH H a c i d)(g:Same H e):LvH e a c i d:=by
 obtain⟨s,t,v,bs,ds,j,l,m,n,o,p,q,r,u⟩:=h;exact⟨s,t,v,bs,ds,j,g _ _ l,g _ _ m,n.same g,g _ _ o,p.same g,g _ _ q,r,λk b x y z=>g _ _ (u k b x y z)⟩
structure LvP(ts fam:LN)(c us wds:LN):Prop where
 cls:c∈cP ts (big fam)
 tl:us=gL fam (c.headD [])
 len:wds.length=c.length
 go: ∀(k:Nat) (x wd:cf),c[k]? =some x->wds[k]? =some wd->(∀l∈wd,l<ts.length)/\cV (cr ts) (c.headD []) wd=x
def DJ:Sp:=λh H Q _=> ∃(m a:Ad) (k j:Nat) (d:LN) (n:Nat) (c g b:LN) (u e:cf),h=[.ref m,.ref a,nv k,nv j]/\Mach H m d n/\LvH H a c g b/\g[j]? =some u/\b[k]? =some e/\u∈dF n/\(∀l∈e,l<d.length)/\sq H ((cV (cr d) u e).map nv) Q
def yT:Sp:=λj H Q _=> ∃(m a:Ad) (k:Nat) (g:LN) (n:Nat) (c d b:LN) (h:cf),j=[.ref m,.ref a,nv k]/\Mach H m g n/\LvH H a c d b/\b[k]? =some h/\(∀u∈d,u∈dF n)/\d.length<=32/\(∀l∈h,l<g.length)/\
 ∀l i e,Same H e->e l=some (.lst (i.map .ref))->TupsAt e i (d.map λu=>cV (cr g) u h)->Q (.ref l) e
def ig(a b:LN)(h c:cf)(l:Nat)(d:cf):Prop:=d.length=b.length/\ ∀(j:Nat) (u:cf) (e:Nat),b[j]? =some u->d[j]? =some e-> ∃g,b[e]? =some g/\cV (cr a) g c=cr a (cV (cr a) u h) l
def Bb:Sp:=λr H Q _=> ∃(m a:Ad) (k l:Nat) (d:LN) (n:Nat) (g c i b:LN) (x j:cf),r=[.ref m,.ref a,nv k,nv l]/\Mach H m d n/\FamOf d n g/\LvH H a c i b/\LvP d g c i b/\c[k]? =some x/\b[k]? =some j/\l<d.length/\
 (cr d x l∉c-> ∀e,Same H e->Q .non e)/\ ∀(o:Nat) (h:cf),c[o]? =some (cr d x l)->b[o]? =some h-> ∀p q e,Same H e->e p=some (.tup (q.map nv))->ig d i j h l q->Q (.ref p) e
theorem A3{b:Type}{d:b}: ∀{ds:List b},d∈ds-> ∃j:Nat,ds[j]? =some d/\ ∀i:Nat,i<j->ds[i]? ≠some d
 | [],h=>nomatch h
 | e::ds,h=>by
  by_cases z:e=d
  .exact⟨0,by rw[z];rfl,λi c=>wC c (py i)⟩
  .obtain⟨j,g,k⟩:=A3 (ds:=ds) ((dE.mp h).resolve_left λa=>z a.symm);refine⟨j+1,g,λi c=>?_⟩;cases i with
   |zero=>exact λa=>z (by injection a)
   |succ i=>exact k i (by lia)
def ju{u:cf}{a:LN}:Dt.tup (gB u)∈a.map (λu=>Dt.tup (gB u))↔u∈a:=HR
def ft{u:cf}{a:LN}{j:Nat}:(a.map λu=>Dt.tup (gB u))[j]? =some (Dt.tup (gB u))↔a[j]? =some u:=by
 rw[cF];constructor
 .intro h;obtain⟨v,c,b⟩:=dR.mp h;injection b with b
  rw[<-AK b];exact c
 .intro h;rw[h];rfl
def LvP.bij{H:Hp}{m:Ad}{d:LN}{n:Nat}{a c i b:LN}(M:Mach H m d n)(j:FamOf d n a)(g:LvP d a c i b){k:Nat}{x e:cf}(h:c[k]? =some x)(l:b[k]? =some e): ∃p,Bij d (c.headD []) x e p:=by
 obtain⟨_,_,o,call⟩:=fZ g.cls;obtain⟨q,r⟩:=g.go k x e h l;exact Bg M (j.inU M (dq.mp o).1) q r (call x (cK h)).2.2
def Ec{H:Hp}{m:Ad}{a:LN}{n:Nat}{d c j e:LN}(M:Mach H m a n)(b:FamOf a n d)(g:LvP a d c j e){k t l:Nat}{x o h:cf}(v:c[k]? =some x)(E:e[k]? =some o)(G:l<a.length)(y:c[t]? =some (cr a x l))(q:e[t]? =some h){u:cf}(I:u∈j):cr a (cV (cr a) u o) l∈j.map λu=>cV (cr a) u h:=by
 obtain⟨_,_,J,call⟩:=fZ g.cls;have L:=b.inU M (dq.mp J).1;obtain⟨p,N⟩:=g.bij M b v E;obtain⟨p',A⟩:=g.bij M b y q;obtain⟨O,r,Q⟩:=call x (cK v);obtain⟨T,U,s⟩:=call _ (cK y);have B:=b.inU M (dq.mp O).1;have Y:=b.inU M (dq.mp T).1;obtain⟨p2,b2⟩:=Bg M (w:=[l]) B (λz hz=>by rw[cW.mp hz];exact G) rfl (s.trans r);have i:=I;rw[g.tl]at i;have t1:=qm M b L N i;have C:cr a (cV (cr a) u o) l∈gL d (cr a x l):=qm M b B b2 t1;obtain⟨f1,f2,f3,_⟩:=(lE M b).mp C;have D:=qm M b Y A.symm C;rw[<-g.tl]at D;exact cO.mpr ⟨_,D,A.symm.back M (b.inU M f1) f3⟩
def LvP.nd{i:LN}{n:Nat}{d c j g:LN}(k:FamOf i n d)(l:LvP i d c j g):c.Nodup:=by
 have h:d.Nodup:=k.up.imp λ{a b} z e=>by
  subst e;rw[(kX gl d).irr]at z;cases z
 rw[(fZ l.cls).2.1];exact List.Nodup.sublist (oQ.trans oQ) h
def LvP.inU{H:Hp}{m:Ad}{b:LN}{n:Nat}{a c d e:LN}(M:Mach H m b n)(h:FamOf b n a)(i:LvP b a c d e):(∀u∈d,u∈dF n)/\d.length<=32:=by
 have g:=nN M h (c.headD []);rw[<-i.tl]at g;exact⟨λu j=>h.inU M (g.mem u j).1,g.few⟩
def J9(F:Fun K "tile" "tile" Av f fd)(G:dw P w K mg base "carried" 3 ["machine","rooms","word"] (ql K)):FnOk P w K mg base cQ 5 f fd ["machine","level","k","j"] DJ:=by
 refine F.ok Lx (λI H Q E h=>?_) (λJ A g s H I Q E o h=>?_)
 .obtain⟨m,a,k,j,r,n,c,L,i,u,e,rfl,_⟩:=h;rfl
 obtain⟨m,a,k,j,r,n,c,L,i,u,e,rfl,M,N,t,v,l,x,q⟩:=h;have hu:=o.units;obtain⟨s',O,T,bs,U,Y,y,h2,h3,h4,z,h6,h7,h8⟩:=N;have l5:=z.len;have lj:=(cA.mp t).1;have lk:=(cA.mp v).1;obtain⟨d,B⟩: ∃d,U[j]? =some d:=⟨_,ck (by lia)⟩;obtain⟨b,C⟩: ∃b,Y[k]? =some b:=⟨_,ck (by lia)⟩;have hd:=z.is j d u B t;have hb:=h8 k b e C v;refine⟨_,(cM (dr (dB G o.m rfl (c7 (cq (pv 0) (cq (cY fe (cY dO (pv 1) cS (λ_ _=>rfl)) (pv 3) (λ_ _=>rfl)) (cq (cY fe (cY dO (pv 1) cS (λ_ _=>rfl)) (pv 2) (λ_ _=>rfl)) c8 rfl) rfl) rfl))))),?_⟩;refine⟨_,rfl,_,rfl,a,_,_,_,rfl,rfl,SqT.of y,rfl,_,rfl,O,_,_,_,rfl,rfl,SqL.of h4,fF (by rw[cF,B];rfl),_,rfl,a,_,_,_,rfl,rfl,SqT.of y,rfl,_,rfl,T,_,_,_,rfl,rfl,SqL.of h6,fF (by rw[cF,C];rfl),m,d,b,r,n,u,e,rfl,M,SqT.of hd,dt (oN M.n5 l) M.n5,(cm.mp l).2,SqL.of hb,x,λp H2 g2 D=>?_⟩;rw[<-xP M e u l x]at D;exact q p H2 g2 D
def GI(F:Fun K "tiles_of_set" "tiles_of_set" wS f fd)(L:dw P w K mg base "tile" 5 ["machine","level","k","j"] DJ)(O:mg "len"=none)(T:mg "range"=none):FnOk P w K mg base cQ 7 f fd ["machine","level","k"] yT:=by
 refine F.ok Ga (λU H Q E h=>?_) (λY A v s H U Q E D h=>?_)
 .obtain⟨m,a,k,x,n,c,j,l,y,rfl,_⟩:=h;rfl
 obtain⟨m,a,k,x,n,c,j,l,y,rfl,M,G,ew,uU,few,lw,q⟩:=h;have hu:=D.units;obtain⟨s',t',v',bs,ds,cs,h1,h2,h3,h4,h5,h6,h7,h8⟩:=id G;have l5:=h5.len;refine⟨_,(cM (dr (gh (CompSc.to (N:=["machine","level","k"]) (osc:=cL wS) (vs:=["j"]) {}) rfl rfl (jy rfl T (cE (dS fJ rfl O fc (cE (cY dO (pv 1) cS (λ_ _=>rfl)) cz)) cz)) (λ_ _ _ _=>gR) (λ_ _ _ _=>(dB L D.m rfl (c7 (cq (pv 1) (cq (pv 2) (cq (pv 3) (cq (pv 0) c8 rfl) rfl) rfl) rfl))))))),?_⟩;refine⟨_,rfl,a,_,_,_,rfl,rfl,SqT.of h1,rfl,t',_,rfl,.inl (SqL.of h4),(j.length:Int),by rw[cj,l5],by lia,by lia,oK (λi o r=>Same H r/\ ∃d,o=d.map V.ref/\d.length=i/\TupsAt r d ((j.take i).map λu=>cV (cr x) u y)) (by rw[gb];exact small (by lia)) ⟨Same.refl _,[],rfl,rfl,rfl,λi b u e=>by simp at e⟩ (λi o r _ p=>?_) (λi o r hi p=>?_) (λo H1 p sg z=>?_)⟩
 .obtain⟨_,d,rfl,e,_⟩:=p;rw[cj];lia
 .obtain⟨g,d,rfl,e,t⟩:=p;have e0:V.int (0+(i:Int))=nv i:=by show V.int (0+(i:Int))=V.int (i:Int);rw[nI]
  have B:i<j.length:=by simpa using hi
  obtain⟨u,C⟩: ∃u,j[i]? =some u:=⟨_,ck B⟩;rw[e0];refine⟨gm,iz ⟨_,rfl,_,rfl,_,rfl,_,rfl,m,a,k,i,x,n,c,j,l,u,y,rfl,M.same g,G.same g,C,ew,uU u (cK C),lw,λp H2 I e2=>?_⟩⟩;refine⟨g.trans I,d++[p],by simp,by simp[e],?_⟩;rw[h9,C,dP];exact rV (t.same I) e2
 obtain⟨g1,d,rfl,er,t⟩:=p;rw[gb,gI]at t;have J:=cB z (.lst (d.map V.ref));exact q sg d _ (g1.trans J) cn (t.same J)
def Km(F:Fun K "tiles_turned" "tiles_turned" xT f fd)(jH:dw P w K mg base "carried" 3 ["machine","rooms","word"] (ql K))(jJ:dw P w K mg base "tiles_of_set" 7 ["machine","level","k"] yT)(jD:mg "tuple"=none):FnOk P w K mg base cQ 9 f fd ["machine","level","k","letter"] Bb:=by
 refine F.ok kY (λvs H Q E h=>?_) (λaz A ap s H vs Q E hr h=>?_)
 .obtain⟨m,a,k,l,o,n,ae,c,L,B,x,wd,rfl,_⟩:=h;rfl
 obtain⟨m,a,k,l,o,n,ae,c,L,B,x,wd,rfl,M,ff,lv,lp,ex,ew,ll,q1,q2⟩:=h;have hu:=hr.units;obtain⟨s',t',v',bs,ds,cs,h1,h2,h3,h4,h5,h6,h7,h8⟩:=id lv;obtain⟨cne,aA,cx,call⟩:=fZ lp.cls;have lb:=h3.len;have lk:=(cA.mp ex).1;obtain⟨b,eb⟩: ∃b,bs[k]? =some b:=⟨_,ck (by lia)⟩;have hb:=h3.is k b x eb ex;have af: ∀y∈big ae,y∈dF n:=λy hy=>ff.inU M (dq.mp hy).1;have mx:=cK ex;have hU:=af x (call x mx).1;refine⟨_,(cH (df (i:=4) kY.nd rfl (Or.inl rfl) (dB jH hr.m rfl (c7 (cq (pv 0) (cq (cY fe (cY dO (pv 1) cS (λ_ _=>rfl)) (pv 2) (λ_ _=>rfl)) (cq (fX (cE (pv 3) cz)) c8 rfl) rfl) rfl)))) (cH (fS (fA (F7 hu) (pv 4) (cY dO (pv 1) cS (λ_ _=>rfl)) (by with_unfolding_all rfl)) (cM (dr pO)) gn) (cH (df (i:=5) kY.nd rfl (Or.inr rfl) (dB jJ hr.m rfl (c7 (cq (pv 0) (cq (pv 1) (cq (iN iF v5 vZ (AW hu) (cY dO (pv 1) cS (λ_ _=>rfl)) (cE (pv 4) cz)) c8 rfl) rfl) rfl)))) (cM (dr (gD mC rfl jD jz (cE (gh (CompSc.to (N:=["machine","level","k","letter","there","ends"]) (osc:=cL xT) (vs:=["part"]) {}) rfl rfl (gF (dB jJ hr.m rfl (c7 (cq (pv 0) (cq (pv 1) (cq (pv 2) c8 rfl) rfl) rfl)))) (λ_ _ _ _=>gR) (λ_ _ _ _=>(Jr (K:=K) Cb rfl (iN iF v5 vZ (AW hu) (pv 6) (cE (dB jH hr.m rfl (c7 (cq (pv 1) (cq (pv 0) (cq (fX (cE (pv 4) cz)) c8 rfl) rfl) rfl))) cz))))) cz))))))),?_⟩;obtain⟨uU,few⟩:=lp.inU M ff;have ag:=(lp.go k x wd ex ew).1;have l1: ∀z∈[l],z<o.length:=λz hz=>by rw[cW.mp hz];exact ll
 refine⟨_,rfl,_,rfl,a,_,_,_,rfl,rfl,SqT.of h1,rfl,_,rfl,s',_,_,_,rfl,rfl,SqL.of h2,fF (by rw[cF,eb];rfl),_,rfl,by show 1<=sizeLine;decide,λp1 O=>?_⟩;have I:=cB O (.lst [nv l]);refine⟨m,b,p1,o,n,x,[l],rfl,M.same I,SqT.of (I _ _ hb),dt (oN M.n5 hU) M.n5,(cm.mp hU).2,SqL.of cn,l1,λth H2 aq J=>?_⟩;have C:=I.trans aq;have T:H2 th=some (.tup ((cr o x l).map nv)):=J;generalize hy:cr o x l=y at T q1 q2;have U:=C _ _ h2;refine⟨_,rfl,_,rfl,a,_,_,_,rfl,rfl,SqT.of (C _ _ h1),rfl,s',1,.tup (gB y),c.map λu=>Dt.tup (gB u),_,rfl,SqL.of U,by rw[cj,cj,lb],gW (SqT.of T),xN (h3.same C),by decide,λcc hc=>⟨_,rfl,?_⟩⟩;by_cases my:y∈c
 .have Y:cc=true:=hc.mpr (ju.mpr my);subst Y;refine dU ?_;obtain⟨k',ey,no⟩:=A3 my;have ar:=(cA.mp ey).1;obtain⟨q,D⟩: ∃q,B[k']? =some q:=⟨_,ck (by rw[lp.len];exact ar)⟩;have ah:=(lp.go k' y q ey D).1;refine⟨_,rfl,_,rfl,_,rfl,a,_,_,_,rfl,rfl,SqT.of (C _ _ h1),rfl,.inl ⟨rfl,_,SqL.of U⟩,_,rfl,s',_,1,.tup (gB y),c.map λu=>Dt.tup (gB u),_,k',rfl,rfl,SqL.of U,by rw[cj,cj,lb],gW (SqT.of T),xN (h3.same C),by decide,ft.mpr ey,λi hi e=>no i hi (ft.mp e),?_⟩;refine⟨m,a,k',o,n,c,L,B,q,rfl,M.same C,lv.same C,D,uU,few,ah,λen es H3 as ai aj=>?_⟩;have g3:=C.trans as;have len:=aj.len;rw[cj]at len;refine⟨_,rfl,_,rfl,_,rfl,m,a,k,o,n,c,L,B,wd,rfl,M.same g3,lv.same g3,ew,uU,few,ag,λpl ps H4 aa ak am=>?_⟩;have g4:=g3.trans aa;have au:=am.len;rw[cj]at au;refine⟨pl,rfl,⟨_,SqL.of ak⟩,jc (xs:=ps.map .ref) (λi G H'=>Same H4 H'/\ ∃t:cf,G=t.map nv/\t.length=i/\ ∀(j:Nat) (u:cf) (j':Nat),L[j]? =some u->t[j]? =some j'-> ∃u',L[j']? =some u'/\cV (cr o) u' q=cr o (cV (cr o) u wd) l) (by rw[cj,db];lia) ⟨Same.refl _,[],rfl,rfl,λj u j' _ e=>by simp at e⟩ (λi G H' hi p=>?_) (λi v G H' hv p=>?_) (λG H5 p tl av=>?_)⟩
  .obtain⟨g,t,rfl,e,_⟩:=p;exact⟨SqL.of (g _ _ ak),by rw[cj];lia⟩
  .obtain⟨g,t,rfl,e,al⟩:=p;rw[cF]at hv;obtain⟨d,ed,rfl⟩:=dR.mp hv;have li:=(cA.mp ed).1;obtain⟨u,eu⟩: ∃u,L[i]? =some u:=⟨_,ck (by lia)⟩;have mu:=cK eu;have hd:=g _ _ (am.is i d _ ed (by rw[cF,eu];rfl));have an:=j9 M (uU u mu) ag;have gH:=g4.trans g;refine⟨gm,iz ⟨_,rfl,.inl ⟨rfl,_,SqL.of ((aa.trans g) _ _ ai)⟩,_,rfl,_,rfl,_,rfl,by show 1<=sizeLine;decide,λp1 O=>?_⟩⟩;have I:=cB O (.lst [nv l]);refine⟨m,d,p1,o,n,_,[l],rfl,M.same (gH.trans I),SqT.of (I _ _ hd),dt (oN M.n5 an) M.n5,(cm.mp an).2,SqL.of cn,l1,λca H6 ao e6=>?_⟩;have aw:H6 ca=some (.tup ((cr o (cV (cr o) u wd) l).map nv)):=e6;have g6:=(aa.trans g).trans (I.trans ao);have mi:=Ec M ff lp ex ew ll (by rw[hy];exact ey) D mu;obtain⟨j0,ab,ax⟩:=A3 mi;refine⟨en,_,1,.tup (gB (cr o (cV (cr o) u wd) l)),(L.map λu=>cV (cr o) u q).map λu=>Dt.tup (gB u),_,j0,rfl,rfl,SqL.of (g6 _ _ ai),by rw[cj,cj,cj,len],gW (SqT.of aw),xN (aj.same g6),by decide,ft.mpr ab,λi hi e=>ax i hi (ft.mp e),?_⟩;refine⟨g.trans (I.trans ao),t++[j0],by simp,by simp[e],λj u2 j' e1 J=>?_⟩;by_cases hj:j<t.length
   .rw[eV hj]at J;exact al j u2 j' e1 J
   .rw[eU (by lia)]at J;have z:j-t.length=0:=by
     have:=(cA.mp J).1;simp at this;lia
    rw[z]at J;cases J;have ji:j=i:=by lia
    subst ji;rw[eu]at e1;cases e1;rw[cF]at ab;obtain⟨u',f1,f2⟩:=dR.mp ab;exact⟨u',f1,f2⟩
  .obtain⟨g5,t,rfl,ej,al⟩:=p;rw[cj]at ej;have kt:=cB av (.lst (t.map nv));refine⟨tl,_,rfl,.inl ⟨SqL.of cn,λr ay=>?_⟩⟩;have kr:=cB ay (.tup (t.map nv));exact q2 k' q ey D r t _ (((g4.trans g5).trans kt).trans kr) cn ⟨by lia,al⟩
 .have Y:cc=false:=by
   cases cc with
   |false=>rfl
   |true=>exact wC (ju.mp (hc.mp rfl)) my
  subst Y;exact eY (q1 my H2 C)
def zD:(eQ[0]'(by decide))∈eQ:=iZ _
def zJ:(eQ[1]'(by decide))∈eQ:=iZ _
def gk(t u:cf):cf:=eM (u.map λr=>t.getD r 0)
def iD{a:cf}{r:Nat}:r∈eM a↔r<5/\r∈a:=by
 unfold eM;rw[dq,eE,fT]
def Kn{a b:cf}(h: ∀r,r∈a↔r∈b):eM a=eM b:=by
 unfold eM;refine pW λi _=>?_;rw[iw,fT,fT];exact h i
def AZ{f:Nat->Nat}{n r:Nat}(h:r<n):((List.range n).map f).getD r 0=f r:=by
 rw[dI,cF,mj h];rfl
def Kq{H:Hp}{m:Ad}{a:LN}{n:Nat}(M:Mach H m a n){u w:cf}(b:u∈dF n)(c: ∀l∈w,l<a.length):cV (cr a) u w=gk (qh a n w) u:=by
 rw[xP M w u b c];unfold gk nO qh
 congr 1
 refine lK λr d=>?_;rw[AZ ((cm.mp b).2 r d)]
def LY{H:Hp}{m:Ad}{a:LN}{n:Nat}(M:Mach H m a n){w:cf}(b: ∀l∈w,l<a.length):qh a n w∈iP n n:=by
 refine de.mpr ⟨G5 a n w,λr c=>?_⟩;obtain⟨x,d,rfl⟩:=cO.mp c;exact me M w x (eE.mp d) b
def dN(a:LN)(x:cf):Nat:=a.findIdx λy=>decide (y=x)
def io{a:LN}{x:cf}(h:x∈a):dN a x<a.length/\a[dN a x]? =some x:=by
 have l:dN a x<a.length:=List.findIdx_lt_length_of_exists ⟨x,h,dD rfl⟩;refine⟨l,?_⟩;rw[ck l];have z:decide (a[dN a x]=x)=true:=List.findIdx_getElem (p:=λy=>decide (y=x)) (w:=l);rw[gE z]
def vc{a:LN}{x:cf}{j:Nat}(nd:a.Nodup)(h:a[j]? =some x):dN a x=j:=by
 obtain⟨l,e⟩:=io (cK h);exact(g7 l nd).mp (e.trans h.symm)
def qj(a:LN)(t:cf):cf:=a.map λu=>dN a (gk t u)
def gU(a:LN)(n:Nat):LN:=((iP n n).filter λt=>a.all λu=>a.contains (gk t u)).map (qj a)
def fu{a:LN}{n:Nat}{x:cf}:x∈gU a n↔ ∃t∈iP n n,(∀u∈a,gk t u∈a)/\x=qj a t:=by
 unfold gU;rw[cO];constructor
 .rintro⟨t,ht,rfl⟩;obtain⟨b,c⟩:=dq.mp ht;exact⟨t,b,λu d=>fT.mp (pY.mp c u d),rfl⟩
 .rintro⟨t,b,c,rfl⟩;exact⟨t,dq.mpr ⟨b,pY.mpr λu d=>fT.mpr (c u d)⟩,rfl⟩
def Br{a:LN}{n:Nat}(h:n<=5):(gU a n).length<=4000:=by
 unfold gU;rw[cj];exact dt (gX _ _) (Gf h)
def Bo{a:LN}{n:Nat}{x:cf}(h:x∈gU a n):x.length=a.length/\ ∀r∈x,r<a.length:=by
 obtain⟨t,_,g,rfl⟩:=fu.mp h;refine⟨by simp[qj],λr b=>?_⟩;obtain⟨u,c,rfl⟩:=cO.mp b;exact(io (g u c)).1
def yR{a:LN}{n:Nat}(nd:a.Nodup)(d: ∀u∈a,u∈dF n):List.range a.length∈gU a n:=by
 have b: ∀u∈a,gk (List.range n) u=u:=λu c=>by
  obtain⟨e,g⟩:=cm.mp (d u c);unfold gk;have:u.map (λr=>(List.range n).getD r 0)=u.map id:=lK λr i=>by
   rw[dI,mj (g r i)];rfl
  rw[this,vS,e]
 refine fu.mpr ⟨List.range n,Ll n,λu c=>by rw[b u c];exact c,?_⟩;refine lJ λj=>?_;unfold qj;rw[cF];by_cases h:j<a.length
 .rw[mj h,ck h];show some j=some (dN a (gk (List.range n) a[j]));rw[b _ (iZ h),vc nd (ck h)]
 .rw[hG (by simp;lia),List.getElem?_eq_none (by lia)];rfl
def Ih{n:Nat}{t b u:cf}(m:n<=5)(ht:t∈iP n n)(j:u∈dF n):gk b (gk t u)=gk (dL t b) u:=by
 obtain⟨g,k⟩:=de.mp ht;obtain⟨_,h⟩:=cm.mp j;unfold gk;refine Kn λr=>?_;have e: ∀x∈u,(dL t b).getD x 0=b.getD (t.getD x 0) 0:=λx a=>by
  have i:x<t.length:=by rw[g];exact h x a
  unfold dL;rw[dI,cF,ck i,dI (l:=t),ck i];rfl
 have c: ∀x∈u,t.getD x 0<5:=λx a=>by
  have:=t0 k (by rw[g];exact h x a);lia
 rw[cO,cO];constructor
 .rintro⟨y,d,rfl⟩;obtain⟨_,d⟩:=iD.mp d;obtain⟨x,a,rfl⟩:=cO.mp d;exact⟨x,a,e x a⟩
 .rintro⟨x,a,rfl⟩;exact⟨t.getD x 0,iD.mpr ⟨c x a,cO.mpr ⟨x,a,rfl⟩⟩,(e x a).symm⟩
def Hz{n:Nat}{t a:cf}(h:t∈iP n n)(b:a∈iP n n):dL t a∈iP n n:=by
 obtain⟨c,d⟩:=de.mp h;obtain⟨e,g⟩:=de.mp b;refine de.mpr ⟨by unfold dL;rw[List.length_map,c],λr i=>?_⟩;obtain⟨x,j,rfl⟩:=cO.mp i;exact t0 g (by rw[e];exact d x j)
def zM{a:LN}{n:Nat}{x y:cf}(h:n<=5)(i: ∀u∈a,u∈dF n)(j:x∈gU a n)(k:y∈gU a n):dL x y∈gU a n:=by
 obtain⟨t,d,g,rfl⟩:=fu.mp j;obtain⟨c,m,o,rfl⟩:=fu.mp k;have e: ∀u∈a,gk (dL t c) u=gk c (gk t u):=λu b=>(Ih h d (i u b)).symm;refine fu.mpr ⟨dL t c,Hz d m,λu b=>by rw[e u b];exact o _ (g u b),?_⟩;unfold qj;show(a.map λu=>dN a (gk t u)).map (λx=>(a.map λu=>dN a (gk c u)).getD x 0)=_;rw[hI];refine lK λu b=>?_;obtain⟨l,p⟩:=io (g u b);show(a.map λu=>dN a (gk c u)).getD (dN a (gk t u)) 0=dN a (gk (dL t c) u);rw[dI,cF,p,e u b];rfl
def rc{H:Hp}{m:Ad}{g:LN}{n:Nat}{d c i h:LN}(M:Mach H m g n)(k:FamOf g n d)(l:LvP g d c i h):i.Nodup:=by
 have j:=nN M k (c.headD []);rw[<-l.tl]at j;exact j.up.imp λ{a b} z e=>by
  subst e;rw[E6]at z;cases z
def BF{H:Hp}{m:Ad}{d:LN}{n:Nat}{r c i o:LN}(M:Mach H m d n)(B:FamOf d n r)(s:LvP d r c i o){k E l:Nat}{x q t v:cf}(T:c[k]? =some x)(U:o[k]? =some q)(Y:l<d.length)(ey:c[E]? =some (cr d x l))(C:o[E]? =some t)(G:ig d i q t l v):
  v∈gU i n:=by
 obtain⟨I,_⟩:=s.inU M B;have nd:=rc M B s;have D:=(s.go k x q T U).1;obtain⟨p,b⟩:=s.bij M B ey C;have J:=nN M B (c.headD []);rw[<-s.tl]at J;have L: ∀z∈q++[l]++p,z<d.length:=λz hz=>by
  rcases di.mp hz with h|h
  .rcases di.mp h with h|h
   .exact D z h
   .rw[cW.mp h];exact Y
  .exact b.lp z h
 have y: ∀(j:Nat) (u:cf) (a:Nat),i[j]? =some u->v[j]? =some a->i[a]? =some (gk (qh d n (q++[l]++p)) u):=λj u a N g=>by
  obtain⟨O,Q,f2⟩:=G.2 j u a N g;have A:=cK Q;rw[<-Kq M (I u (cK N)) L,xB,xB];show i[a]? =some (cV (cr d) (cr d (cV (cr d) u q) l) p);rw[<-f2,b.back M (I O A) (J.mem O A).2.2];exact Q
 have lj:=G.1;refine fu.mpr ⟨_,LY M L,λu hu=>?_,?_⟩
 .obtain⟨j,g⟩:=qr hu;obtain⟨a,e⟩: ∃a,v[j]? =some a:=⟨_,ck (by rw[lj];exact(cA.mp g).1)⟩;exact cK (y j u a g e)
 .refine lJ λj=>?_;unfold qj;rw[cF];cases g:i[j]? with
  |none=>
   have:=List.getElem?_eq_none_iff.mp g;rw[hG (by lia)];rfl
  |some u=>
   have:=(cA.mp g).1;obtain⟨a,e⟩: ∃a,v[j]? =some a:=⟨_,ck (by lia)⟩;rw[e];exact dn some (vc nd (y j u a g e)).symm
def Hf{H:Hp}{m:Ad}{g:LN}{n:Nat}{h c r i:LN}(M:Mach H m g n)(s:FamOf g n h)(t:LvP g h c r i){D l:Nat}{y E d G k:cf}(Q:c[D]? =some y)(x:i[D]? =some d)(z:ig g r E d l G)(o:ig g r E d l k):G=k:=by
 obtain⟨I,_⟩:=t.inU M s;have nd:=rc M s t;obtain⟨p,b⟩:=t.bij M s Q x;have A:=nN M s (c.headD []);rw[<-t.tl]at A;refine sY (by rw[z.1,o.1]) λj a T J U=>?_;obtain⟨u,L⟩: ∃u,r[j]? =some u:=⟨_,ck (by rw[<-z.1];exact(cA.mp J).1)⟩;obtain⟨v,B,Y⟩:=z.2 j u a L J;obtain⟨C,N,g2⟩:=o.2 j u T L U;have O:=cK B;have q:=cK N;have e:v=C:=by
  rw[<-b.back M (I v O) (A.mem v O).2.2,<-b.back M (I C q) (A.mem C q).2.2,Y,g2]
 subst e;exact(g7 (cA.mp B).1 nd).mp (B.trans N.symm)
def zP{H:Hp}{m:Ad}{d:LN}{n:Nat}{b c j g:LN}(M:Mach H m d n)(h:FamOf d n b)(k:LvP d b c j g):0<j.length:=by
 obtain⟨_,_,o,_⟩:=fZ k.cls;obtain⟨p,a⟩:=dq.mp o;have i:=nN M h (c.headD []);rw[<-k.tl]at i;obtain⟨_,l⟩:=cm.mp (h.inU M p);cases e:c.headD []with
 |nil=>
  rw[e]at a;cases a
 | cons r s=>
  rw[e]at i l a;obtain⟨t,ht,_⟩:=i.all [r] ((h.mem [r]).mpr (.inr ⟨r,l r (dC ..),rfl⟩)) (λz=>by
   have q:=dn List.length z;have a:=gE a;rw[<-q]at a;simp at a) (by simp[sub])
  exact wQ ht
structure Makers(ts c us wds mk:LN):Prop where
 mem: ∀t∈mk,∃(k l k':Nat) (x wd wd':cf),c[k]? =some x/\wds[k]? =some wd/\l<ts.length/\c[k']? =some (cr ts x l)/\wds[k']? =some wd'/\ig ts us wd wd' l t
 all: ∀(k l:Nat) (x wd:cf),c[k]? =some x->wds[k]? =some wd->l<ts.length->cr ts x l∈c-> ∃(k':Nat) (wd' t:cf),t∈mk/\c[k']? =some (cr ts x l)/\wds[k']? =some wd'/\ig ts us wd wd' l t
theorem Fc: ∀{ws:TW} {as:As},as.length=ws.length->(a3u ws as).map (·.1)=(ws.map (·.1)).map nk
 | [],[],_=>rfl
 |p::ws,a::as,h=>dn (nk p.1:: ·) (Fc (ws:=ws) (as:=as) (Nat.succ.inj h))
def jx(a:LN)(x:cf)(i:Nat):cf:=dL x (a.getD i [])
def Ft:Sp:=λk H Q _=> ∃(m a:Ad) (e:LN) (n:Nat) (d c h b:LN),k=[.ref m,.ref a]/\Mach H m e n/\FamOf e n d/\LvH H a c h b/\LvP e d c h b/\
 ∀l j i g,Same H g->g l=some (.lst (j.map .ref))->TupsAt g j i->Makers e c h b i->i.length<=200->Q (.ref l) g
def zm:Sp:=λo H Q _=> ∃(m a:Ad) (g:LN) (n:Nat) (d c h b:LN),o=[.ref m,.ref a]/\Mach H m g n/\FamOf g n d/\LvH H a c h b/\LvP g d c h b/\Tabs H/\
 ∀l bs i j k e,Keeps H e->Tabs e->L2.noT H l=none->e l=some (.lst (bs.map .ref))->TupsAt e bs i->i.Perm (k.map (·.1))->i.Pairwise (λx y=>dM x y=true)->Makers g c h b j->Told (jx j) j.length (List.range h.length) k->Q (.ref l) e
def Ke(F:Fun K "all_tiles_turned" "all_tiles_turned" Ax f fd)(jP:dw P w K mg base "tiles_turned" 9 ["machine","level","k","letter"] Bb)(jB:mg "len"=none)(jC:mg "range"=none):FnOk P w K mg base cQ 11 f fd ["machine","level"] Ft:=by
 refine F.ok jN (λvs H Q E h=>?_) (λam A aj s H vs Q E hr h=>?_)
 .obtain⟨m,a,C,n,ab,c,us,v,rfl,_⟩:=h;rfl
 obtain⟨m,a,C,n,ab,c,us,v,rfl,M,ff,lv,lp,q⟩:=h;have hu:=hr.units;refine⟨_,(cH (df (i:=2) jN.nd rfl (Or.inl rfl) (fX cz)) (cH (hR gT rfl (jy rfl jC (cE (dS fJ rfl jB fc (cE (cY dO (pv 1) cS (λ_ _=>rfl)) cz)) cz)) (fh (i:=3) jN.nd rfl (Or.inl rfl)) (cM (hR gT rfl (jy rfl jC (cE (dS fJ rfl jB fc (cE (pv 0) cz)) cz)) (fh (i:=4) jN.nd rfl (Or.inl rfl)) (cH (df (i:=5) jN.nd rfl (Or.inl rfl) (dB jP hr.m rfl (c7 (cq (pv 0) (cq (pv 1) (cq (pv 3) (cq (pv 4) c8 rfl) rfl) rfl) rfl)))) (cM (fS (fA DW (pv 5) pO (eI _)) (cM (jb (iN iF lA ku lI (pv 2) (cE (pv 5) cz)))) gn)))))) (cM (dr (pv 2))))),?_⟩;obtain⟨s',t',v',bs,ds,cs,h1,h2,h3,h4,h5,h6,h7,h8⟩:=id lv;have lb:=h3.len;have t1:=M.some1;have t4:=M.few;obtain⟨rs,hm,ak,_⟩:=M.refs;have an:c.length<=32:=by
  rw[(fZ lp.cls).2.1];exact dt (gX _ _) (dt (gX _ _) (ff.few M))
 refine⟨by show 0<=sizeLine;decide,λfo ae=>?_⟩;have k0:=cB ae (.lst [])
 let Mk:Nat->Nat->List cf->Prop:=λk l g=>g.length<=4 * k+l/\(∀t∈g,∃(k l J:Nat) (x D o:cf),c[k]? =some x/\v[k]? =some D/\l<C.length/\c[J]? =some (cr C x l)/\v[J]? =some o/\ig C us D o l t)/\
  ∀(i j:Nat) (x D:cf),(i<k∨i=k/\j<l)->c[i]? =some x->v[i]? =some D->j<C.length->cr C x j∈c-> ∃(J:Nat) (o t:cf),t∈g/\c[J]? =some (cr C x j)/\v[J]? =some o/\ig C us D o j t
 let Pk:Nat->L2.St->Hp->Prop:=λk T U=>Same H U/\ ∃(B:As) (g:LN) (o3 Y o5:Option V),U fo=some (.lst (B.map .ref))/\TupsAt U B g/\Mk k 0 g/\T=[some (.ref m),some (.ref a),some (.ref fo),o3,Y,o5]
 refine⟨_,rfl,a,_,_,_,rfl,rfl,SqT.of (k0 _ _ h1),rfl,s',_,rfl,.inl (SqL.of (k0 _ _ h2)),(c.length:Int),by rw[cj,lb],by lia,by lia,wR Pk ⟨k0,[],[],none,none,none,cn,⟨rfl,λi b u e=>by simp at e⟩,⟨Nat.zero_le _,(λt ht=>nomatch ht),λi j x D aa=>by lia⟩,rfl⟩ (λk T H1 hk p=>?_) (λT H1 p=>?_)⟩
 .obtain⟨g1,B,g,o3,Y,o5,L,T1,K1,rfl⟩:=p;have af:k<c.length:=by simpa using hk
  have zk:V.int ((0:Int)+((k:Nat):Int))=nv k:=by show V.int (0+(k:Int))=V.int (k:Int);rw[nI]
  rw[zk];obtain⟨D,ew⟩: ∃D,v[k]? =some D:=⟨_,ck (by rw[lp.len];exact af)⟩;obtain⟨x,ex⟩: ∃x,c[k]? =some x:=⟨_,ck af⟩
  let Pl:Nat->L2.St->Hp->Prop:=λl T U=>Same H U/\ ∃(B:As) (g:LN) (Y o5:Option V),U fo=some (.lst (B.map .ref))/\TupsAt U B g/\Mk k l g/\T=[some (.ref m),some (.ref a),some (.ref fo),some (nv k),Y,o5]
  refine⟨_,rfl,m,_,rfl,.inr (SqT.of (g1 _ _ hm)),(C.length:Int),by rw[cj,ak],by lia,by lia,wR Pl ⟨g1,B,g,_,_,L,T1,K1,rfl⟩ (λl T H2 hl p=>?_) (λT H2 p=>?_)⟩
  .obtain⟨g2,B,g,Y,o5,N,T2,K2,rfl⟩:=p;have ag:l<C.length:=by simpa using hl
   have zl:V.int ((0:Int)+((l:Nat):Int))=nv l:=by show V.int (0+(l:Int))=V.int (l:Int);rw[nI]
   rw[zl];obtain⟨kz,km,O⟩:=K2;refine⟨_,rfl,_,rfl,_,rfl,_,rfl,m,a,k,l,C,n,ab,c,us,v,x,D,rfl,M.same g2,ff,lv.same g2,lp,ex,ew,ag,λmy H3 g3=>?_,λJ o ey ah tp js H3 g3 ai tb=>?_⟩
   .refine⟨_,rfl,rfl,_,rfl,dU ⟨g2.trans g3,B,g,_,_,g3 _ _ N,T2.same g3,⟨by lia,km,λi j x' r aa d y I G=>?_⟩,rfl⟩⟩;by_cases z:i=k/\j=l
    .obtain⟨rfl,rfl⟩:=z;rw[ex]at d;cases d;exact wC G my
    .exact O i j x' r (by lia) d y I G
   .refine⟨_,rfl,rfl,_,rfl,eY ?_⟩;have e3:=g3 _ _ N;have lq:=T2.len;refine⟨_,rfl,.inl ⟨rfl,_,SqL.of e3⟩,_,rfl,fo,_,_,rfl,rfl,e3,by rw[cj,db];lia,?_⟩;refine⟨gZ (g2.trans g3) ae,B++[tp],g++[js],_,_,by rw[cn,dP];rfl,rV ⟨lq,λi b u L N=>?_⟩ ?_,⟨by rw[dz,rY];lia,λt ht=>?_,λi j x' r aa d y I G=>?_⟩,rfl⟩
    .have z:=(T2.same g3).is i b u L N;rw[cw (nE z e3)];exact z
    .rw[cw (nE ai e3)];exact ai
    .rcases di.mp ht with z|z
     .exact km t z
     .rw[cW.mp z];exact⟨k,l,J,x,D,o,ex,ew,ag,ey,ah,tb⟩
    .by_cases z:i=k/\j=l
     .obtain⟨rfl,rfl⟩:=z;rw[ex]at d;cases d;rw[ew]at y;cases y;exact⟨J,o,js,di.mpr (.inr (cW.mpr rfl)),ey,ah,tb⟩
     .obtain⟨k2,al,t,r1,r2⟩:=O i j x' r (by lia) d y I G;exact⟨k2,al,t,di.mpr (.inl r1),r2⟩
  .obtain⟨g2,B,g,Y,o5,N,T2,⟨kz,km,O⟩,rfl⟩:=p;have el:(C.length:Int).toNat=C.length:=gb _;rw[el]at kz O;exact⟨g2,B,g,_,_,_,N,T2,⟨by lia,km,λi j x' r aa d y I G=>O i j x' r (by lia) d y I G⟩,rfl⟩
 .obtain⟨g1,B,g,o3,Y,o5,L,T1,⟨kz,km,O⟩,rfl⟩:=p;have el:(c.length:Int).toNat=c.length:=gb _;rw[el]at kz O;exact⟨_,rfl,q fo B g H1 g1 L T1 ⟨km,λk l x D L N e3 e4=>O k l x D (.inl (cA.mp L).1) L N e3 e4⟩ (by lia)⟩
def BD{J c I C:Ad}{oc:Obj}{z D:LN}{n:Nat}{L:As}{B:Hp}{pm M:Vl}{a:Arguments}{i:Expr}{d:Scope}{sx fx a1 a2:Expr}{kw N:List Keyword}{lp cp O rp:Pos}{s0:Stmt}(e:hE lL=[s0,.Return (some (.Call sx [.Call fx [a1,a2,.Lambda a i d lp] kw cp] N O)) rp])
  (kI:dw P w K mg base "behind" 1 ["one","other"] tI) (T:B I=some (.lst (L.map .ref))) (Tm:TupsAt B L z) (mU: ∀t∈z,t∈gU D n) (few:D.length<=32) (h1:B J=some (gJ J (fW "level_group.<locals>.<lambda>" a i d "makers" c pm (.ref C) M))) (h2:B c=some (fP c I oc)) (h3:B C=some (iy C "level_group.<locals>.<lambda>")):
  FnOk P w K mg base cQ 5 J (fW "level_group.<locals>.<lambda>" a i d "makers" c pm (.ref C) M) ["turn","number"] (nK (Same B) (gU D n) z.length (jx z))/\Binds K (fW "level_group.<locals>.<lambda>" a i d "makers" c pm (.ref C) M) ["turn","number"] []:=by
 cases e;refine⟨Ei (k:=4) (m:=I) (oc:=oc) ⟨rfl,rfl,rfl,by decide+kernel,by decide+kernel,rfl,by decide+kernel⟩ (λvs H Q E h=>?_) (λvs H Q E h=>?_) (λA U s H vs Q E hr h=>?_),.all λD T=>match D,T with| [_,_],_=>rfl⟩
 .obtain⟨t,x,l,rfl,_⟩:=h;rfl
 .obtain⟨t,x,l,rfl,g,_⟩:=h;exact⟨g _ _ h1,g _ _ h2,g _ _ h3⟩
 .obtain⟨t,x,l,rfl,g,ht,hx,Y,q⟩:=h;refine⟨_,(dB kI hr.m rfl (c7 (cq (pv 0) (cq (cY fe (pv 2) (pv 1) (λ_ _=>rfl)) c8 rfl) rfl))),?_⟩;have hc:=g _ _ h2;have off: ∀{b:Ad} {u:HO},(∀φ,u≠ .ext φ)->H b=some u->(L2.drop H c) b=some u:=λnu hb=>by
   rw[fb (i7 hb hc λe=>nu _ e)];exact hb
  have ln:=Tm.len;obtain⟨r,er⟩: ∃r,L[l]? =some r:=⟨_,ck (by lia)⟩;have et:z[l]? =some (z.getD l []):=by rw[dI,ck Y];rfl
  have aa:=off (u:= .tup _) (λ_ e=>nomatch e) (g _ _ (Tm.is l r _ er et));have mt:=mU _ (cK et);obtain⟨x1,x2⟩:=Bo hx;obtain⟨y1,y2⟩:=Bo mt;refine⟨_,rfl,_,rfl,_,rfl,I,_,_,_,rfl,rfl,SqL.of (off (u:= .lst _) (λ_ e=>nomatch e) (g _ _ T)),fF (j:=l) (v:= .ref r) (by rw[cF,er];rfl),t,r,x,z.getD l [],rfl,off (u:= .tup _) (λ_ e=>nomatch e) ht,aa,λy G=>by rw[y1];exact x2 y G,by lia,λp H3 g3 e3 free=>q p _ (λy o ho=>?_) ?_⟩
  .by_cases G:y=c
   .subst G;rw[hc]at ho;cases ho;exact cn
   .rw[cw G];exact g3 _ _ (by rw[fb G];exact ho)
  .rw[cw (dG e3 free)];exact e3
def ID{cd T:Ad}(F:DefAt K "level_group" lL f fd .none (.ref cd))(hC:PySem.W.CodeHd base cd T)(bm:lX mg base)(hq:(("level_group.<locals>.<lambda>":Str),(⟨121,61,121,110⟩:Pos),T)∈eQ)(jZ:dw P w K mg base "all_tiles_turned" 11 ["machine","level"] Ft)(kP:dw P w K mg base "still" 1 ["rooms"] vm)(kI:dw P w K mg base "behind" 1 ["one","other"] tI)
  (kQ:wU P w K mg base "reached" 8 ["start","letters","step","most"] (tX P w K mg base) [.non]) (jB:mg "len"=none) (kG:mg "sorted"=none):FnOk P w K mg base cQ 13 f fd ["machine","level"] zm:=by
 refine F.fnOk qW (λvs H Q E h=>?_) (λA an s H vs Q E h hr=>?_)
 .obtain⟨m,a,ts,n,af,c,us,ag,rfl,_⟩:=h;rfl
 obtain⟨m,a,ts,n,af,c,us,ag,rfl,M,ff,lv,lp,hT,q⟩:=h;refine⟨_,?_,(cH (df (i:=2) qW.nd rfl (Or.inr rfl) (dB jZ hr.m rfl (c7 (cq (pv 0) (cq (pv 1) c8 rfl) rfl)))) (cM (dr (dS (Hr rfl) rfl kG boot_sorted (cE (FG kQ hr.m rfl (j:=2) rfl rfl rfl rfl (c7 (cq (dB kP hr.m rfl (cE (dS fJ rfl jB fc (cE (cY dO (pv 1) cS (λ_ _=>rfl)) cz)) cz)) (cq (dS fJ rfl jB fc (cE (pv 2) cz)) (cq (DC (qual:="level_group.<locals>.<lambda>") rfl hC bm (λ_ _ _ _ _=>rfl) rfl rfl) c8 rfl) rfl) rfl))) cz)))))⟩;refine⟨_,rfl,_,rfl,m,a,ts,n,af,c,us,ag,rfl,M,ff,lv,lp,λlm rs mk H1 g1 ao Tm Mk am=>?_⟩;obtain⟨s',t',v',bs,ds,cs,h1,h2,h3,h4,h5,h6,h7,h8⟩:=id (lv.same g1);have l5:=h5.len;obtain⟨uU,few⟩:=lp.inU M ff;have n5:=M.n5;have nd:=rc M ff lp;have mU: ∀t∈mk,t∈gU us n:=λt ht=>by
  obtain⟨k,l,k',x,wd,aq,e1,e2,e3,e4,e5,e6⟩:=Mk.mem t ht;exact BF M ff lp e1 e2 e3 e4 e5 e6
 refine⟨_,rfl,a,_,_,_,rfl,rfl,SqT.of h1,rfl,t',_,rfl,.inl (SqL.of h4),?_⟩
 try dsimp only
 rw[cj,l5];refine⟨us.length,rfl,by lia,λst H2 g2 e2=>?_⟩;have L:=g2 _ _ ao;have ab:=Tm.same g2;have T2:Tabs H2:=(hT.same g1).same g2;refine⟨_,rfl,lm,_,rfl,.inl (SqL.of L),?_⟩
 try dsimp only
 rw[cj,ab.len];have ah: ∀(B:Hp) (D:Ad) (ws:TW) (as:As),Keeps H B->Tabs B->WordsAt B D ws as->Told (jx mk) mk.length (List.range us.length) ws->Bn [.ref D] B Q:=λB D ws as k3 t3 W TT=>by
  have inG: ∀p∈ws,p.1∈gU us n:=λp hp=>by
   obtain⟨r1,r2⟩:=TT.run p hp;rw[<-r2];refine pV (yR nd uU) (λx hx l hl=>zM n5 uU hx ?_) p.2 r1;rw[dI,ck hl];exact mU _ (iZ hl)
  refine⟨D,_,ws.map (·.1),rfl,W.dict,?_,λt ht e=>?_,?_,λl bs gs hl Tb pm up=>?_⟩
  .exact Fc W.len
  .obtain⟨p,hp,rfl⟩:=cO.mp ht;have z:=(Bo (inG p hp)).1;rw[e]at z;have:=zP M ff lp
   simp at z;lia
  .refine dt (ko (U:=gU us n) TT.keys λx hx=>?_) (Br n5);obtain⟨p,hp,rfl⟩:=cO.mp hx;exact inG p hp
  .have gl:=cB hl (.lst (bs.map V.ref));refine q l bs gs mk ws _ (k3.trans gl.keeps) (t3.same gl) ?_ cn (Tb.same gl) pm up Mk TT;cases y:L2.noT H l with
   |none=>rfl
   |some o=>
    have z:=k3 _ _ y;rw[hl]at z;cases z
 have go: ∀(N G:Ad) (ct:Vl) (B:Hp) (ai:AV),H2 T=some (.tbl ai)->KeepsBut T H2 B->B T=some (.tbl (im (⟨121,61,121,110⟩:Pos) G))->B G=some (iy G "level_group.<locals>.<lambda>")-> ∀(d:Arguments) (C:Expr) (g:Scope) (pm:Vl) (I:Ad),B N=some (gJ N (fW "level_group.<locals>.<lambda>" d C g "makers" I pm (.ref G) ct))->
   ∀O,B I=none->(FnOk P w K mg base cQ 5 N (fW "level_group.<locals>.<lambda>" d C g "makers" I pm (.ref G) ct) ["turn","number"] (nK (Same (cg B I (fP I lm O))) (gU us n) mk.length (jx mk)))->Binds K (fW "level_group.<locals>.<lambda>" d C g "makers" I pm (.ref G) ct) ["turn","number"] []->
   tX P w K mg base [.ref st,nv mk.length,.ref N,.non] (cg B I (fP I lm O)) (λr H4=>H4 I=some (fP I lm O)/\Bn [r] (L2.drop H4 I) Q) E0:=λN G ct B ai aj kb h1 h2 d C g pm I h3 O Y hF hB=>by
  have J:=kb.keeps aj;have v:=cB Y (fP I lm O);refine⟨st,N,_,_,List.range us.length,mk.length,gU us n,jx mk,rfl,v _ _ (J _ _ (nU e2)),v _ _ h3,yR nd uU,λx hx l hl=>zM n5 uU hx ?_,Br n5,by lia,hF,hB,λD ws as H4 g4 W nw TT=>⟨g4 _ _ cn,ah _ D ws as (λb o hb=>?_) (T2.but hq aj (λb o nb hb=>?_) (.inr ⟨G,?_,?_⟩)) ⟨W.len,?_,λj a r e1 e2=>?_⟩ TT⟩⟩
  .rw[dI,ck hl];exact mU _ (iZ hl)
  .have z:=((g1.trans g2).keeps.trans J) b o hb;rw[fb (dG z Y)];exact g4 _ _ (v _ _ z)
  .have z:=kb b o nb hb;rw[fb (dG z Y)];exact g4 _ _ (v _ _ z)
  .rw[fb (dG h1 Y)];exact g4 _ _ (v _ _ h1)
  .rw[fb (dG h2 Y)];exact g4 _ _ (v _ _ h2)
  .rw[fb (nE W.dict (g4 _ _ cn))];exact W.dict
  .have z:=W.list j a r e1 e2;rw[fb (nE z (g4 _ _ cn))];exact z
 rcases T2 _ hq with u|⟨G,u,aa⟩
 .refine .inl ⟨u,λN G ct ae aa ne=>⟨lm,rfl,λO Y=>?_⟩⟩;obtain⟨J,ap,ak⟩:=Ff (⟨121,61,121,110⟩:Pos) "level_group.<locals>.<lambda>" u ae aa ne _;have v:=cB Y (fP (s.heap.objs.size+1) lm O);have al:=J.keeps u;obtain⟨F1,F2⟩:=BD rfl kI (v _ _ (al _ _ (nU L))) ((j7 ab al).same v) mU few (v _ _ cn) cn (v _ _ ak);exact go N G ct _ _ u J ap ak _ _ _ _ _ cn O Y F1 F2
 .refine .inr ⟨G,u,aa,λN ct ae=>⟨lm,rfl,λO Y=>?_⟩⟩;have J: ∀lo,Same H2 (cg H2 N lo):=λlo=>cB ae lo;have v:=cB Y (fP (s.heap.objs.size+1) lm O);obtain⟨F1,F2⟩:=BD rfl kI (v _ _ (J _ _ _ L)) ((ab.same (J _)).same v) mU few (v _ _ cn) cn (v _ _ (J _ _ _ aa));exact go N G ct _ _ u (λb o _ hb=>J _ _ _ hb) (J _ _ _ u) (J _ _ _ aa) _ _ _ _ _ cn O Y F1 F2
def Mj{d:LN}{a told:gi}(o:Ord d a told):(∀c∈told,c∈a)/\told.Nodup:=by
 induction o with
 |nil=>exact⟨λ_ h=>h,List.nodup_nil⟩
 | @cons a told s h r g=>
  obtain⟨b,i⟩:=g;refine⟨λc j=>?_,iT.mpr ⟨λm=>?_,i⟩⟩
  .rcases dE.mp j with e|e
   .rw[e];exact(dq.mp (List.mem_of_head? h)).1
   .exact(dq.mp (b c e)).1
  .have:=gE (dq.mp (b s m)).2;exact this rfl
def EJ{b:LN}{a told:gi}(o:Ord b a told): ∀c∈a,c∈told:=by
 induction o with
 |nil=>exact λ_ h=>h
 | @cons a told s h r d=>
  intro c g;by_cases e:c=s
  .rw[e];exact dC ..
  .exact eO _ (d c (dq.mpr ⟨g,dD e⟩))
def GN{b:LN}{n:Nat}{a:LN}(i:FamOf b n a):(cP b (big a)).Pairwise λc d=>fK gl (c.headD []) (d.headD [])=true:=by
 unfold cP;rw[nJ];refine xt ?_ (mR (oQ.trans oQ) i.up);intro x y j k h;have g: ∀z,z∈(big a).filter (λx=>(cR b (big a) x).head? ==some x)->(cR b (big a) z).headD []=z:=λz l=>by
  have e:=eq_of_beq (dq.mp l).2;rw[List.headD_eq_head?_getD,e];rfl
 rw[g x j,g y k];exact h
def vb{H:Hp}{m:Ad}{ts:LN}{n:Nat}(M:Mach H m ts n){x y:cf}(a:x∈dF n)(h:dQ ts x y=true):y.length<=x.length:=by
 obtain⟨word,hw,rfl⟩:=cy.mp h;have z:=pS (l₂:=x.map λr=>dX ts r word) (Aq (j9 M a hw)) λr b=>by
  obtain⟨c,d,e⟩:=(i8 M a hw).mp b;exact cO.mpr ⟨c,d,e⟩
 rw[cj]at z;exact z
def KS{x y:cf}(h:fK gl x y=true):y.length<=x.length:=by
 unfold fK oR gl at h;split at h
 .lia
 .have:=gE h;lia
def Mt{x y:cf}(h:fK gl x y=true)(e:x.length=y.length):dM y x=false:=by
 cases z:dM y x with
 |false=>rfl
 | true=>
  have b:fK gl y x=true:=by
   unfold fK oR gl;rw[wB (by rw[e])];exact z
  have a:=(kX gl [x,y]).trans _ _ _ h b;rw[(kX gl [x,y]).irr]at a;cases a
def BW{b:Type}{R:b->b->Prop}{a:List b}{s d:b}(up:a.Pairwise R)(h:a.head? =some s)(c:d∈a):d=s∨R s d:=by
 cases a with
 |nil=>cases h
 |cons x a=>
  injection h with h
  subst h
  rcases dE.mp c with e|e
  .exact .inl e
  .exact .inr ((pG.mp up).1 d e)
structure Due(ts:LN)(rest:gi)(c:LN):Prop where
 most: ∀d∈rest,(d.headD []).length<=(c.headD []).length
 free: ∀d∈rest,d≠c->dQ ts (d.headD []) (c.headD [])=false
 first: ∀d∈rest,(d.headD []).length=(c.headD []).length->(∀e∈rest,e≠d->(e.headD []).length=(d.headD []).length->dQ ts (e.headD []) (d.headD [])=false)->dM (d.headD []) (c.headD [])=false
def Im{i:LN}{g:gi}{s:LN}(un:pK i g)(up:g.Pairwise λc d=>fK gl (c.headD []) (d.headD [])=true)(x: ∀c∈g,∀d∈g,dQ i (c.headD []) (d.headD [])=true->(d.headD []).length<=(c.headD []).length)(h:(g.filter λc=> !cX i g c).head? =some s):Due i g s:=by
 obtain⟨G,fs⟩:=dq.mp (List.mem_of_head? h);have free: ∀{c:LN},c∈g->(∀e∈g,e≠c->dQ i (e.headD []) (c.headD [])=false)->c∈g.filter λc=> !cX i g c:=λ{c} B f=>by
  refine dq.mpr ⟨B,?_⟩;rw[Bool.not_eq_true',cX,vl];intro e j;by_cases z:e=c
  .rw[d9 (λk=>k z),wm];decide
  .rw[f e j z,Bool.and_false];decide
 have o:=mR (oQ (p:=λc=> !cX i g c)) up;have most: ∀d∈g,(d.headD []).length<=(s.headD []).length:=λd n=>by
  by_cases lt:(d.headD []).length<=(s.headD []).length
  .exact lt
  obtain⟨t,ht,y⟩:=y6 (ts:=i) (cs:=g.filter λe=>decide ((d.headD []).length<=(e.headD []).length)) (λa C b D=>un a (dq.mp C).1 b (dq.mp D).1) _ d (dq.mpr ⟨n,dD (cD _)⟩) (cD _);obtain⟨A,u⟩:=dq.mp ht;have u:=gE u;have v:t∈g.filter λc=> !cX i g c:=free A λe j q=>by
   cases r:dQ i (e.headD []) (t.headD [])with
   |false=>rfl
   |true=>
    have l:=x e j t A r;have m:e∈g.filter λe=>decide ((d.headD []).length<=(e.headD []).length):=dq.mpr ⟨j,dD (by lia)⟩
    rw[cX,vl]at y;exact wC (by rw[dD q,r];rfl) (y e m)
  rcases BW o h v with z|z
  .rw[<-z];exact u
  .have:=KS z;lia
 refine⟨most,λd n q=>?_,λd n E f=>?_⟩
 .rw[Bool.not_eq_true',cX,vl]at fs;have z:=fs d n;rw[dD q,sN]at z;exact uc.mpr z
 .have fd:d∈g.filter λc=> !cX i g c:=free n λe j q=>by
   cases r:dQ i (e.headD []) (d.headD [])with
   |false=>rfl
   |true=>
    have l:=x e j d n r;have H:=most e j;have z:=f e j q (by lia);rw[r]at z;cases z
  rcases BW o h fd with z|z
  .rw[z];exact mT _
  .exact Mt z E.symm
def GP{j:LN}{g told:gi}(o:Ord j g told)(un:pK j g)(up:g.Pairwise λc d=>fK gl (c.headD []) (d.headD [])=true)(n: ∀c∈g,∀d∈g,dQ j (c.headD []) (d.headD [])=true->(d.headD []).length<=(c.headD []).length): ∀(k:Nat) (c:LN),told[k]? =some c->Due j (told.drop k) c:=by
 induction o with
 |nil=>exact λk c e=>by simp at e
 | @cons g told s h r p=>
  intro k c e;cases k with
  |zero=>
   injection e with e
   subst e;have d:=Im un up n h;have all:=Mj (Ord.cons h r);have mem: ∀d,d∈s::told↔d∈g:=λd=>⟨all.1 d,EJ (Ord.cons h r) d⟩
   rw[uV];exact⟨λx i=>d.most x ((mem x).mp i),λx i=>d.free x ((mem x).mp i),λx i q f=>d.first x ((mem x).mp i) q λe t=>f e ((mem e).mpr t)⟩
  |succ k=>
   have u:told[k]? =some c:=by simpa using e
   rw[List.drop_succ_cons];exact p (λa l b m=>un a (dq.mp l).1 b (dq.mp m).1) (mR oQ up) (λa l b m=>n a (dq.mp l).1 b (dq.mp m).1) k c u
section
variable{H:Hp}{m:Ad}{ts:LN}{n:Nat}{fam:LN}
def CM(M:Mach H m ts n)(a:FamOf ts n fam){c:LN}(b:c∈cP ts (big fam)){x:cf}(d:x∈c):x.length=(c.headD []).length:=by
 obtain⟨_,_,e,call⟩:=fZ b;obtain⟨g,h,i⟩:=call x d;have j:=vb M (a.inU M (dq.mp e).1) (cy.mpr h);have k:=vb M (a.inU M (dq.mp g).1) (cy.mpr i);lia
def KG{x t:cf}(c:x∈dF n)(ht:t∈dF n)(s:sub t x=true)(d:t≠x):t.length<x.length:=by
 have g: ∃r∈x,r∉t:=by
  apply vd;intro no;refine d (DV ht c s (cJ.mpr λr a=>?_));apply vd;exact λz=>no ⟨r,a,z⟩
 obtain⟨r,a,h⟩:=g;have z:=pS (l₂:=x.erase r) (Aq ht) λy b=>(vJ λ(e:y=r)=>h (e▸b)).mpr (cJ.mp s y b);rw[yW a]at z;have:0<x.length:=wQ a;lia
def Hj{x:cf}(i:x∈big fam): ∃c∈cP ts (big fam),x∈c:=by
 have self:=zX (ts:=ts) i;cases e:cR ts (big fam) x with
 |nil=>rw[e]at self;cases self
 | cons y rest=>
  have j:y∈cR ts (big fam) x:=by rw[e];exact dC ..
  obtain⟨k,d⟩:=dq.mp j;rw[i4]at d;have g:=cy.mp d.1;have h:=cy.mp d.2;have same:cR ts (big fam) y=cR ts (big fam) x:=by
   unfold cR;refine pW λz _=>?_;rw[iw,i4,i4,cy,cy,cy,cy];exact⟨λ⟨a,b⟩=>⟨g.trans a,b.trans h⟩,λ⟨a,b⟩=>⟨h.trans a,b.trans g⟩⟩
  refine⟨cR ts (big fam) y,cO.mpr ⟨y,dq.mpr ⟨k,?_⟩,rfl⟩,by rw[same];exact self⟩;rw[same,e];simp
end
def JS{H:Hp}{m:Ad}{e:LN}{n:Nat}{a c l d:LN}(M:Mach H m e n)(b:FamOf e n a)(g:LvP e a c l d){k:Nat}{x o:cf}(p:c[k]? =some x)(q:d[k]? =some o)(y:cf):y∈(l.map λu=>cV (cr e) u o)↔y∈gL a x:=by
 obtain⟨B,i⟩:=g.bij M b p q;obtain⟨_,_,r,call⟩:=fZ g.cls;have s:=b.inU M (dq.mp r).1;have t:=b.inU M (dq.mp (call x (cK p)).1).1;constructor
 .intro h;obtain⟨u,j,rfl⟩:=cO.mp h;exact qm M b s i (by rw[<-g.tl];exact j)
 .intro h;have z:=qm M b t i.symm h;rw[<-g.tl]at z;obtain⟨v,C,A,_⟩:=(lE M b).mp h;exact cO.mpr ⟨_,z,i.symm.back M (b.inU M v) A⟩
def Jm{H:Hp}{m:Ad}{d:LN}{n:Nat}{t c g y:LN}(M:Mach H m d n)(A:FamOf d n t)(L:LvP d t c g y){k k' l:Nat}{x r B:cf}{q:cf}(ex:c[k]? =some x)(ew:y[k]? =some r)(ll:l<d.length)(ey:c[k']? =some (cr d x l))(N:ig d g r B l q):q.Perm (List.range g.length):=by
 obtain⟨_,_,cx,call⟩:=fZ L.cls;obtain⟨p,G⟩:=L.bij M A ex ew;obtain⟨xb,O,aa⟩:=call x (cK ex);obtain⟨yb,ae,Q⟩:=call _ (cK ey);have xU:=A.inU M (dq.mp xb).1;have fU:=A.inU M (dq.mp cx).1;obtain⟨p2,b2⟩:=Bg M (w:=[l]) xU (λz hz=>by rw[cW.mp hz];exact ll) rfl (Q.trans O);have T:=nN M A (c.headD []);rw[<-L.tl]at T;have U:g.Nodup:=T.up.imp λ{a b} z e=>by
  subst e;rw[E6]at z;cases z
 obtain⟨lj,N⟩:=N;have back: ∀u∈g,cV (cr d) (cV (cr d) (cr d (cV (cr d) u r) l) p2) p=u:=λu hu=>by
  obtain⟨h1,h2,h3⟩:=T.mem u hu;have Y:=A.inU M h1;have s1:sub (cV (cr d) u r) x=true:=by
   have z:=sZ M Y fU G.lw h3;rw[G.to]at z;exact z
  have z:cV (cr d) (cr d (cV (cr d) u r) l) p2=cV (cr d) u r:=b2.back M (j9 M Y G.lw) s1;rw[z];exact G.back M Y h3
 have s: ∀i:Nat,i<q.length-> ∃u o,g[i]? =some u/\q[i]? =some o/\o<g.length/\ ∃C,g[o]? =some C/\cV (cr d) C B=cr d (cV (cr d) u r) l:=λi I=>by
  obtain⟨u,D⟩: ∃u,g[i]? =some u:=⟨_,ck (by lia)⟩;obtain⟨o,E⟩: ∃o,q[i]? =some o:=⟨_,ck I⟩;obtain⟨C,J,f2⟩:=N i u o D E;exact⟨u,o,D,E,(cA.mp J).1,C,J,f2⟩
 have nd:q.Nodup:=by
  rw[Dr,mB];intro i j I hj ij e;obtain⟨u,a,D,ea,_,C,J,f2⟩:=s i I;obtain⟨v,b,ev,eb,_,v',g1,g2⟩:=s j hj;rw[ck I]at ea;rw[ck hj]at eb;have ab:a=b:=by
   have z1:=fH ea;have z2:=fH eb;rw[<-z1,<-z2];exact e
  subst ab;rw[J]at g1;cases g1;have uv:u=v:=by rw[<-back u (cK D),<-back v (cK ev),<-f2,<-g2]
  subst uv;have:=(g7 (by lia) U).mp (D.trans ev.symm);lia
 have sb: ∀a∈q,a<g.length:=λa ha=>by
  obtain⟨i,ei⟩:=fi.mp ha;obtain⟨_,o,_,E,lt,_⟩:=s i (cA.mp ei).1;rw[ei]at E;cases E;exact lt
 refine(List.perm_ext_iff_of_nodup nd xq).mpr λa=>⟨λh=>eE.mpr (sb a h),λh=>?_⟩;by_cases z:a∈q
 .exact z
 .have le:=pS (l₂:=(List.range g.length).erase a) nd λb hb=>(vJ λ(e:b=a)=>z (by rw[<-e];exact hb)).mpr (eE.mpr (sb b hb));rw[yW h,fV]at le;have:=eE.mp h;lia
def LvH.keeps{H e:Hp}{a:Ad}{c i d:LN}(h:LvH H a c i d)(g:Keeps H e):LvH e a c i d:=by
 obtain⟨s,t,v,bs,ds,j,l,m,n,o,p,q,r,u⟩:=h;exact⟨s,t,v,bs,ds,j,g _ _ (nU l),g _ _ (nU m),j7 n g,g _ _ (nU o),j7 p g,g _ _ (nU q),r,λk b x y z=>g _ _ (nU (u k b x y z))⟩
def yk{H c:Hp}{l:Ad}{o:HO}(g:Keeps H c)(n:L2.noT H l=none):Keeps H (cg c l o):=λb u a=>by
 rw[cw (λz=>by rw[z,n]at a;cases a)];exact g b u a
inductive Gen (S:cf->Prop) (N:Nat):cf->Prop
 |base:Gen S N (List.range N)
 |step {x m:cf}:Gen S N x->S m->Gen S N (dL x m)
def Gb{a:LN}{N:Nat}: ∀(v x:cf),(∀i∈v,i<a.length)->Gen (· ∈a) N x->Gen (· ∈a) N (cV (jx a) x v):=by
 intro v
 induction v with
 |nil=>exact λx _ h=>h
 |cons i v d=>
  intro x b h;have c:=b i (dC ..);refine d (jx a x i) (λl e=>b l (eO _ e)) ?_;show Gen _ _ (dL x (a.getD i []));rw[dI,ck c];exact .step h (iZ c)
def GZ{a:LN}{N:Nat}{e:TW}(T:Told (jx a) a.length (List.range N) e)(t:cf):t∈e.map (·.1)↔Gen (· ∈a) N t:=by
 constructor
 .intro h;obtain⟨p,b,rfl⟩:=cO.mp h;obtain⟨c,d⟩:=T.run p b;rw[<-d];exact Gb p.2 _ c .base
 .intro h
  induction h with
  |base=>exact cO.mpr ⟨_,cK T.head,rfl⟩
  | @step x m _ k l=>
   obtain⟨i,g⟩:=qr k;have n:=(cA.mp g).1;obtain⟨p,b,rfl⟩:=cO.mp l;obtain⟨c,d⟩:=T.run p b;obtain⟨u,j,_⟩:=T.least _ (p.2++[i]) rfl λx o=>(di.mp o).elim (c x) λz=>by rw[cW.mp z];exact n
   have q:cV (jx a) (List.range N) (p.2++[i])=dL p.1 m:=by
    have r:jx a p.1 i=dL p.1 m:=by
     show dL _ (a.getD i [])=_;rw[dI,g];rfl
    rw[<-r,<-d];unfold cV;rw[nP];rfl
   rw[q]at j;exact cO.mpr ⟨_,j,rfl⟩
def HS{S a:cf->Prop}{N:Nat}(h: ∀t,S t↔a t)(t:cf):Gen S N t↔Gen a N t:=by
 have e:S=a:=funext λt=>propext (h t);rw[e]
def oD(d c h a:LN)(t:cf):Prop:= ∃(k l e:Nat) (x g b:cf),c[k]? =some x/\a[k]? =some g/\l<d.length/\c[e]? =some (cr d x l)/\a[e]? =some b/\ig d h g b l t
def JM{H:Hp}{m:Ad}{b:LN}{n:Nat}{d c g a h:LN}(M:Mach H m b n)(i:FamOf b n d)(j:LvP b d c g a)(Mk:Makers b c g a h)(t:cf):t∈h↔oD b c g a t:=by
 refine⟨Mk.mem t,?_⟩;rintro⟨k,l,E,x,q,r,s,u,v,e,o,y⟩;obtain⟨G,z,I,A,B,p,C⟩:=Mk.all k l x q s u v (cK e);have D:=(g7 (cA.mp e).1 (j.nd i)).mp (e.trans B.symm);subst D;rw[o]at p;cases p;rw[Hf M i j e o y C];exact A
def HG{N:Nat}{x:cf}(h: ∀r∈x,r<N):dL x (List.range N)=x:=by
 unfold dL;have:x.map (λr=>(List.range N).getD r 0)=x.map id:=lK λr a=>by
  rw[dI,mj (h r a)];rfl
 rw[this,vS]
def Db{N:Nat}{t:cf}(h:t.length=N):dL (List.range N) t=t:=by
 subst h;refine lJ λj=>?_;unfold dL;rw[cF];by_cases z:j<t.length
 .rw[mj z,ck z];show some (t.getD j 0)=_;rw[dI,ck z];rfl
 .rw[hG (by simp;lia),List.getElem?_eq_none (by lia)];rfl
section
variable{S:cf->Prop}{N:Nat}
def sw{t:cf}(h:t.Perm (List.range N)):t.length=N/\ ∀r∈t,r<N:=⟨by rw[h.length_eq,fV],λr a=>eE.mp (h.mem_iff.mp a)⟩
def JP(a: ∀m,S m->m.Perm (List.range N)){t:cf}(h:Gen S N t):t.Perm (List.range N):=by
 induction h with
 |base=>exact List.Perm.refl _
 | @step x m _ b c=>
  have z:=c.map λr=>m.getD r 0;exact z.trans ((List.Perm.of_eq (Db (sw (a m b)).1)).trans (a m b))
end
theorem Cc: ∀(n k:Nat) (g:cf),g.Perm (List.range' k n)->fL g (List.range' k n)=none∨fL g (List.range' k n)=some false
 |0,k,g,h=>by
  rw[h.eq_nil];exact .inl rfl
 |n+1,k,[],h=>wC h.length_eq (by simp)
 | n+1,k,a::g,h=>by
  rw[List.range'_succ]at h⊢;have b:=h.mem_iff.mp (dC ..);show(if a=k then fL g (List.range' (k+1) n)else some (decide (a<k)))=none∨(if a=k then fL g (List.range' (k+1) n)else some (decide (a<k)))=some false;by_cases e:a=k
  .subst e;rw[wB rfl];exact Cc n (a+1) g (List.perm_cons a |>.mp h)
  .rw[wA e];refine .inr (dn some (d9 ?_))
   rcases dE.mp b with z|z
   .exact wC z e
   .have:=(List.mem_range'_1.mp z).1;lia
def JX{N:Nat}{a:LN}(pm: ∀t∈a,t.Perm (List.range N))(up:a.Pairwise λx y=>dM x y=true)(h:List.range N∈a):a[0]? =some (List.range N):=by
 cases a with
 |nil=>cases h
 | cons g a=>
  rcases dE.mp h with e|e
  .rw[e];rfl
  .have z:=(pG.mp up).1 _ e;have p:=pm g (dC ..);rw[List.range_eq_range']at p z;have b:=p.length_eq;unfold dM at z
   rcases Cc N 0 g p with y|y
   .rw[y]at z;have:=gE z;lia
   .rw[y]at z;cases z
theorem Er{x u v:cf}: ∀{a:TW},(a.map (·.1)).Nodup->(x,u)∈a->(x,v)∈a->u=v
 | [],_,h,_=>nomatch h
 | p::a,nd,d,b=>by
  obtain⟨c,e⟩:=iT.mp nd
  rcases dE.mp d with e1|e1
  .rcases dE.mp b with e2|e2
   .rw[<-e1]at e2;injection e2 with _ e2
    exact e2.symm
   .exact wC (cO.mpr ⟨_,e2,by rw[<-e1]⟩) c
  .rcases dE.mp b with e2|e2
   .exact wC (cO.mpr ⟨_,e1,by rw[<-e2]⟩) c
   .exact Er e e1 e2
def Wds(b c a:LN):Prop:=a.length=c.length/\ ∃d,Told (cr b) b.length (c.headD []) d/\ ∀(k:Nat) (x e:cf),c[k]? =some x->a[k]? =some e->(x,e)∈d
def Wds.uniq{j c e d:LN}(h:Wds j c e)(o:Wds j c d):e=d:=by
 obtain⟨s,t,T,a⟩:=h;obtain⟨u,p,q,b⟩:=o;cases T.uniq q;refine lJ λk=>?_;by_cases r:k<c.length
 .obtain⟨i,l⟩: ∃i,e[k]? =some i:=⟨_,ck (by lia)⟩;obtain⟨g,m⟩: ∃g,d[k]? =some g:=⟨_,ck (by lia)⟩;have n:=ck r;rw[l,m,Er T.keys (a k _ i n l) (b k _ g n m)]
 .rw[hG (by lia),hG (by lia)]
def Ord.uniq{b:LN}{c told a:gi}(h:Ord b c told)(d:Ord b c a):told=a:=by
 induction h generalizing a with
 |nil=>
  cases d with
  |nil=>rfl
  |cons h r=>cases h
 | cons h r g=>
  cases d with
  |nil=>cases h
  |cons e i=>
   rw[h]at e;cases e;rw[g i]
def LevAt.lvw{H:Hp}{l:Ad}{q d:LN}{I:List WE}{a:Ad}{c:LN}(h:LevAt H l q d (big d) I a c)(J:c∈cP q (big d)): ∃e,LvH H a c (gL d (c.headD [])) e/\LvP q d c (gL d (c.headD [])) e/\Wds q c e:=by
 obtain⟨s,t,v,bs,L,z,i,y,M,h2,h3,h4,h5,N,O,Q,T,A,U,Y,aa,j,ab,B⟩:=h;obtain⟨e,C,D⟩:=AD (n:=c.length) (P:=λk g=> ∃x b,c[k]? =some x/\z[k]? =some b/\(x,g)∈y.2.1/\H b=some (.lst (g.map nv))) λk hk=>by
  obtain⟨x,E⟩: ∃x,c[k]? =some x:=⟨_,ck hk⟩;obtain⟨b,G⟩: ∃b,z[k]? =some b:=⟨_,ck (by lia)⟩;obtain⟨g,r,u⟩:=B k x b E G;exact⟨g,x,b,E,G,r,u⟩
 have m: ∀(k:Nat) (x g:cf),c[k]? =some x->e[k]? =some g->(x,g)∈y.2.1:=λk x g o p=>by
  obtain⟨x',b',r,_,z3,_⟩:=D k g p;rw[o]at r;cases r;exact z3
 refine⟨e,⟨s,t,v,bs,L,z,M,N,O,Q,T,A,by lia,λk b g o p=>?_⟩,⟨J,rfl,C,λk x g o p=>j.run _ (m k x g o p)⟩,C,y.2.1,j,m⟩;obtain⟨x',b',_,u,_,z4⟩:=D k g p;rw[o]at u;cases u;exact z4
def EL:Sp:=λa H Q _=> ∃i:Int,a=[.int i]/\Q (.bl true) H
def Hw(F:Fun K "_law_whole" "_law_whole" Ac f fd)(b:mg "isinstance"=none)(c:mg "int"=none)(d:mg "bool"=none):FnOk P w K mg base cQ 1 f fd ["_law_found"] EL:=by
 refine F.ok Lb (λe H Q E h=>?_) (λg A a s H e Q E j h=>?_)
 .obtain⟨i,rfl,_⟩:=h;rfl
 obtain⟨i,rfl,q⟩:=h;refine⟨_,(cM (dr (xx (dS Au rfl b Bu (c7 (cq (pv 0) (cq (zW rfl c boot_int) c8 rfl) rfl))) (uN (Kt (dS Au rfl b Bu (c7 (cq (pv 0) (cq (zW rfl d boot_bool) c8 rfl) rfl)))))))),?_⟩;refine⟨_,rfl,_,_,_,_,rfl,.int i,Hx,_,rfl,eY ?_⟩;exact⟨_,rfl,_,_,_,_,rfl,.int i,Gv,_,rfl,q⟩
def fv{K:W.Frag}:PySem.W.kitOne K (.type "tuple") (.type "tuple")=some true:=by rfl
def Eg:Sp:=λd H Q _=> ∃(c:Ad) (a:cf),d=[.ref c]/\H c=some (.tup (a.map nv))/\a.length<=4000/\ ∀b,Same H b->Q (.bl true) b
def FY(F:Fun K "_law_is_row" "_law_is_row" vq f fd)(n:dw P w K mg base "_law_whole" 1 ["_law_found"] EL)(o:mg "isinstance"=none)(p:mg "tuple"=none):FnOk P w K mg base cQ 3 f fd ["_law_found"] Eg:=by
 refine F.ok HL (λr H Q E h=>?_) (λt A a s H r Q E i h=>?_)
 .obtain⟨c,b,rfl,_⟩:=h;rfl
 obtain⟨c,b,rfl,d,D,q⟩:=h;have u:=i.units;refine⟨_,(cM (dr (xx (dS Au rfl o Bu (c7 (cq (pv 0) (cq (zW rfl p jz) c8 rfl) rfl))) (uN (nL (tE u) (gh (CompSc.to (N:=["_law_found"]) (osc:=cL vq) (vs:=["_law_one"]) {}) rfl rfl (tS (pv 0)) (λ_ _ _ _=>ow (re (l7 (dB n i.m rfl (cE (pv 0) cz))))) (λ_ _ _ _=>(pv 0))) (fX cz) (eI _)))))),?_⟩;refine⟨_,rfl,_,_,_,_,rfl,.tup d,fv,_,rfl,eY ?_⟩;refine⟨_,rfl,c,rfl,⟨_,SqT.of d⟩,Je (f:=λ_=>false) (by rw[cj,db];lia) (SqT.of d) (λv Q j q=>?_) (λv Q j q=>⟨_,rfl,q⟩) (λl y=>?_)⟩
 .obtain⟨x,G,rfl⟩:=cO.mp j;exact⟨_,rfl,(x:Int),rfl,_,rfl,q⟩
 have z:=cB y (.lst ((b.map nv).filter λ_=>false));refine⟨(by show 0<=sizeLine;decide),λk e=>?_⟩;have m:=cB e (.lst []);have B:(cg (cg H l (.lst ((b.map nv).filter λ_=>false))) k (.lst [])) l=some (.lst []):=by
  rw[m _ _ cn];simp
 refine⟨l,k,0,_,_,rfl,rfl,n' (is:=[]) (SqL.of B),n' (is:=[]) (SqL.of cn),by decide,λc C=>?_⟩;have g:c=true:=C.mpr rfl;subst g;exact q _ (z.trans m)
structure Lv where
 c:LN
 us:LN
 wds:LN
 gs:LN
structure GrpOf(ts c us wds gs:LN):Prop where
 up:gs.Pairwise λx y=>dM x y=true
 mem: ∀t,t∈gs↔Gen (oD ts c us wds) us.length t
def GrpOf.uniq{d c e a g b:LN}(h:GrpOf d c e a g)(i:GrpOf d c e a b):g=b:=Ba mT xK h.up i.up λt=>(h.mem t).trans (i.mem t).symm
def Fm{H:Hp}{m:Ad}{b:LN}{n:Nat}{d c e a g h:LN}{i:TW}(M:Mach H m b n)(j:FamOf b n d)(k:LvP b d c e a)(pm:h.Perm (i.map (·.1)))(up:h.Pairwise (λx y=>dM x y=true))(Mk:Makers b c e a g)(TT:Told (jx g) g.length (List.range e.length) i):GrpOf b c e a h:=
 ⟨up,λt=>by rw[pm.mem_iff,GZ TT,HS (JM M j k Mk)]⟩
structure LvOk(ts fam:LN)(L:Lv):Prop where
 p:LvP ts fam L.c L.us L.wds
 w:Wds ts L.c L.wds
 g:GrpOf ts L.c L.us L.wds L.gs
def LvOk.uniq{ts a:LN}{L b:Lv}(h:LvOk ts a L)(d:LvOk ts a b)(e:L.c=b.c):L=b:=by
 obtain⟨c,j,k,n⟩:=L;obtain⟨o,g,i,l⟩:=b;cases e;have m:j=g:=h.p.tl.trans d.p.tl.symm;cases m;cases h.w.uniq d.w;cases h.g.uniq d.g;rfl
structure RowOf(ts:LN)(n:Nat)(fam:LN)(Ls:List Lv):Prop where
 ff:FamOf ts n fam
 od:Ord ts (cP ts (big fam)) (Ls.map (·.c))
 few:Ls.length<=32
 ok: ∀L∈Ls,LvOk ts fam L
section
variable{H:Hp}{m:Ad}{ts:LN}{n:Nat}{fam:LN}{L:Lv}
def LvOk.isPm(M:Mach H m ts n)(a:FamOf ts n fam)(ok:LvOk ts fam L): ∀t,oD ts L.c L.us L.wds t->t.Perm (List.range L.us.length):=λ_ ⟨_,_,_,_,_,_,b,c,d,e,_,g⟩=>Jm M a ok.p b c d e g
def LvOk.pm(M:Mach H m ts n)(a:FamOf ts n fam)(ok:LvOk ts fam L){t:cf}(h:t∈L.gs):t.Perm (List.range L.us.length):=JP (ok.isPm M a) ((ok.g.mem t).mp h)
def LvOk.inG(M:Mach H m ts n)(a:FamOf ts n fam)(ok:LvOk ts fam L){t:cf}(h:t∈L.gs):t∈gU L.us n:=by
 have z:=(ok.g.mem t).mp h;have b:=(ok.p.inU M a).1
 induction z with
 |base=>exact yR (rc M a ok.p) b
 |step c d e=>
  obtain⟨k,l,s,x,u,g,i,j,o,p,q,r⟩:=d;exact zM M.n5 b (e ((ok.g.mem _).mpr c)) (BF M a ok.p i j o p q r)
def LvOk.nd(ok:LvOk ts fam L):L.gs.Nodup:=ok.g.up.imp λ{a b} z e=>by
 subst e;rw[mT]at z;cases z
def LvOk.few(M:Mach H m ts n)(a:FamOf ts n fam)(ok:LvOk ts fam L):L.gs.length<=4000:=dt (ko (U:=gU L.us n) ok.nd λ_ ht=>ok.inG M a ht) (Br M.n5)
def LvOk.first(M:Mach H m ts n)(a:FamOf ts n fam)(ok:LvOk ts fam L):L.gs[0]? =some (List.range L.us.length):=JX (λ_ ht=>ok.pm M a ht) ok.g.up ((ok.g.mem _).mpr .base)
end
def e8(a:LN)(b:As):List (List cZ×V):=a3u (a.map λx=>(x,[])) b
def E7{a:LN}{b:As}(h:b.length=a.length):(e8 a b).length=a.length:=by
 unfold e8 L2.a3u;rw[List.length_zipWith,cj,h,Nat.min_self]
def BV{b:LN}{c:As}{x:cf}{a:Ad}(h:c.length=b.length)(d:x∉b):hO (e8 b c) (nk x) (.ref a)=e8 (b++[x]) (c++[a]):=by
 unfold e8;rw[Bh _ (oO (by rw[tH];exact d)),dP];exact(y9 (ws:=b.map λx=>(x,[])) (p:=(x,[])) (a:=a) (by rw[cj,h])).symm
def Ku{b:LN}{c:As}{x:cf}{a:Ad}{k:Nat}(nd:b.Nodup)(d:b[k]? =some x)(e:c[k]? =some a):ge (e8 b c) (nk x)=some (.ref a):=wX (p:=(x,[])) (by rw[tH];exact nd) (by rw[cF,d];rfl) e
def Ki{a:LN}{b:As}{x:cf}(h:x∉a):ge (e8 a b) (nk x)=none:=oO (by rw[tH];exact h)
def sM{H:Hp}{D b a:Ad}{c:LN}{d:As}{x:cf}{k:Nat}(nd:c.Nodup)(e:H D=some (.dT (e8 c d)))(g:H b=some (.tup (x.map nv)))(h:c[k]? =some x)(i:d[k]? =some a):DGet H D (.ref b) (some (.ref a)):=
 .inr ⟨_,nk x,b,.inl e,rfl,by rw[hZ];exact g,(Ku nd h i).symm⟩
def z7{H:Hp}{D b:Ad}{a:LN}{c:As}{x:cf}(d:H D=some (.dT (e8 a c)))(e:H b=some (.tup (x.map nv)))(h:x∉a):DGet H D (.ref b) none:=
 .inr ⟨_,nk x,b,.inl d,rfl,by rw[hZ];exact e,(Ki h).symm⟩
def tl(a b:LN)(c:cf):LN:=b.map λu=>cV (cr a) u c
def TiledAs(H:Hp)(e g b:LN)(h:As):Prop:= ∀(k:Nat) (c:cf) (a:Ad),b[k]? =some c->h[k]? =some a-> ∃d,H a=some (.lst (d.map .ref))/\TupsAt H d (tl e g c)
def TiledAt(H:Hp)(t:Ad)(d c e a:LN):Prop:= ∃b,H t=some (.dT (e8 c b))/\b.length=c.length/\TiledAs H d e a b
def TurnL(H:Hp)(b c i d:LN)(x j:cf)(e:List V):Prop:=e.length=b.length/\ ∀(l:Nat) (v:V),e[l]? =some v->(cr b x l∉c/\v= .non)∨ ∃(p:Ad) (g:cf) (h:Nat) (a:cf),v= .ref p/\H p=some (.tup (g.map nv))/\c[h]? =some (cr b x l)/\d[h]? =some a/\ig b i j a l g
def TurnsAs(H:Hp)(g c h b:LN)(i:As):Prop:= ∀(k:Nat) (x d:cf) (a:Ad),c[k]? =some x->b[k]? =some d->i[k]? =some a-> ∃e,H a=some (.lst e)/\TurnL H g c h b x d e
def TurnsAt(H:Hp)(t:Ad)(d c e a:LN):Prop:= ∃b,H t=some (.dT (e8 c b))/\b.length=c.length/\TurnsAs H d c e a b
def Stays(f:HO->Bool)(H a:Hp):Prop:= ∀b o,f o=false->H b=some o->a b=some o
def sB:HO->Bool
 | .tbl _=>true
 |_=>false
def zL:HO->Bool
 | .tbl _=>true
 | .dT _=>true
 |_=>false
def mw:HO->Bool
 | .ins _ _ _=>true
 |_=>false
def zx:HO->Bool
 | .lst _=>true
 |_=>false
abbrev pJ:=Stays zL
abbrev uq:=Stays zx
def Stays.a{f:HO->Bool}{H H':Hp}{b:Ad}{o:HO}(g:Stays f H H')(h:H b=some o)(d:f o=false:=by rfl):H' b=some o:=g b o d h
def nz{H:Hp}{a:Ad}{o:HO}(h:H a=some o)(d:sB o=false:=by rfl):L2.noT H a=some o:=oM h λb e=>by subst e;cases d
def wZ{H a:Hp}(g:Keeps H a):Stays sB H a:=λb o d h=>g b o (nz h d)
def jd{H a:Hp}(g:Same H a):pJ H a:=λb o _ h=>g b o h
def Stays.off{H:Hp}{D:Ad}{a:List (List cZ×V)}{o:HO}(h:H D=some (.dT a)):pJ H (cg H D o):=λb u n c=>by
 rw[cw (i7 c h λe=>by rw[e]at n;cases n)];exact c
def Stays.offL{H:Hp}{D:Ad}{c:List V}{o:HO}(h:H D=some (.lst c)):uq H (cg H D o):=λb u n a=>by
 rw[cw (i7 a h λe=>by rw[e]at n;cases n)];exact a
def Stays.offI{H:Hp}{D C d:Ad}{fs:List (Str×V)}{o:HO}(h:H D=some (.ins C d fs)):Stays mw H (cg H D o):=λb u n a=>by
 rw[cw (i7 a h λe=>by rw[e]at n;cases n)];exact a
section
variable{f:HO->Bool}{H H':Hp}{ts c us wds:LN}
def Stays.tups{bs:As}{us:LN}(g:Stays f H H')(T:TupsAt H bs us)(a: ∀d,f (.tup d)=false:=by intro;rfl):TupsAt H' bs us:=⟨T.len,λi b u e h=>g _ _ (a _) (T.is i b u e h)⟩
def TiledAs.lts{d:As}(h:TiledAs H ts us wds d)(g:Stays f H H')(e: ∀b,f (.lst b)=false:=by intro;rfl)(i: ∀b,f (.tup b)=false:=by intro;rfl):TiledAs H' ts us wds d:=λk j a l m=>let⟨n,o,p⟩:=h k j a l m;⟨n,g _ _ (e _) o,g.tups p i⟩
def TurnL.lts{x b:cf}{d:List V}(h:TurnL H ts c us wds x b d)(g:Stays f H H')(i: ∀j,f (.tup j)=false:=by intro;rfl):TurnL H' ts c us wds x b d:=⟨h.1,λl v e=>(h.2 l v e).imp id λ⟨p,k,m,a,n,o,q⟩=>⟨p,k,m,a,n,g _ _ (i _) o,q⟩⟩
def TurnsAs.lts{d:As}(h:TurnsAs H ts c us wds d)(g:Stays f H H')(e: ∀b,f (.lst b)=false:=by intro;rfl)(i: ∀b,f (.tup b)=false:=by intro;rfl):TurnsAs H' ts c us wds d:=λk x j a l m n=>let⟨o,p,q⟩:=h k x j a l m n;⟨o,g _ _ (e _) p,q.lts g i⟩
def TiledAt.keeps{t:Ad}(h:TiledAt H t ts c us wds)(g:Keeps H H'):TiledAt H' t ts c us wds:=let⟨a,b,d,e⟩:=h;⟨a,g _ _ (nz b),d,e.lts (wZ g)⟩
def TurnsAt.keeps{t:Ad}(h:TurnsAt H t ts c us wds)(g:Keeps H H'):TurnsAt H' t ts c us wds:=let⟨a,b,d,e⟩:=h;⟨a,g _ _ (nz b),d,e.lts (wZ g)⟩
end
def rf(m g t u:Ad)(k:Nat):List (Str×V):=[("machine",.ref m),("group",.ref g),("tiles",.ref t),("turns",.ref u),("tile_count",nv k)]
section
variable{m g t u:Ad}{k:Nat}
def sD:(rf m g t u k).lookup ("machine":Str)=some (.ref m):=by kernel_rfl
def oh:(rf m g t u k).lookup ("group":Str)=some (.ref g):=by kernel_rfl
def m6:(rf m g t u k).lookup ("tiles":Str)=some (.ref t):=by kernel_rfl
def r9:(rf m g t u k).lookup ("turns":Str)=some (.ref u):=by kernel_rfl
def t8:(rf m g t u k).lookup ("tile_count":Str)=some (nv k):=by kernel_rfl
end
def StepAt(C:Ad)(H:Hp)(q m:Ad)(a:LN)(L:Lv):Prop:= ∃(c g t u:Ad) (b:As),H q=some (.ins C c (rf m g t u L.us.length))/\H g=some (.lst (b.map .ref))/\TupsAt H b L.gs/\TiledAt H t a L.c L.us L.wds/\TurnsAt H u a L.c L.us L.wds
def StepAt.keeps{C:Ad}{H a:Hp}{q m:Ad}{b:LN}{L:Lv}(h:StepAt C H q m b L)(k:Keeps H a):StepAt C a q m b L:=
 let⟨c,g,t,u,d,e,i,j,l,n⟩:=h;⟨c,g,t,u,d,k _ _ (nz e),k _ _ (nz i),j7 j k,l.keeps k,n.keeps k⟩
structure StepsAt(C:Ad)(H:Hp)(qs:As)(m:Ad)(ts:LN)(Ls:List Lv):Prop where
 len:qs.length=Ls.length
 is: ∀(i:Nat) (q:Ad) (L:Lv),qs[i]? =some q->Ls[i]? =some L->StepAt C H q m ts L
def StepsAt.keeps{C:Ad}{H a:Hp}{b:As}{m:Ad}{c:LN}{d:List Lv}(h:StepsAt C H b m c d)(k:Keeps H a):StepsAt C a b m c d:=⟨h.len,λi q L e g=>(h.is i q L e g).keeps k⟩
def oS(r s:Ad):List (Str×V):=[("rooms",.ref r),("steps",.ref s)]
def E2{r s:Ad}:(oS r s).lookup ("rooms":Str)=some (.ref r):=by kernel_rfl
def xH{r s:Ad}:(oS r s).lookup ("steps":Str)=some (.ref s):=by kernel_rfl
def RowAt(b CR:Ad)(H:Hp)(p m:Ad)(c:LN)(n:Nat)(d:List Lv):Prop:= ∃(e r s:Ad) (a:As),H p=some (.ins CR e (oS r s))/\H r=some (.tup ((List.range n).map nv))/\H s=some (.lst (a.map .ref))/\StepsAt b H a m c d
def RowAt.keeps{a CR:Ad}{H b:Hp}{p m:Ad}{c:LN}{n:Nat}{d:List Lv}(h:RowAt a CR H p m c n d)(k:Keeps H b):RowAt a CR b p m c n d:=
 let⟨e,r,s,g,i,j,l,o⟩:=h;⟨e,r,s,g,k _ _ (nz i),k _ _ (nz j),k _ _ (nz l),o.keeps k⟩
def Ct(C:Ad):Sp:=λk H Q _=> ∃(d:Hp) (p l m a:Ad) (e:LN) (n:Nat) (g c h b:LN),k=[.ref p,.ref m,.ref a]/\Same d H/\d p=none/\H p=some (.ins C l [])/\Mach d m e n/\FamOf e n g/\LvH d a c h b/\LvP e g c h b/\Tabs d/\
 ∀j i,Keeps d i->Tabs i->GrpOf e c h b j->StepAt C i p m e ⟨c,h,b,j⟩->Q .non i
def Ch(g CR:Ad):Sp:=λh H Q _=> ∃(a:Hp) (p i m:Ad) (c:LN) (n:Nat),h=[.ref p,.ref m]/\Same a H/\a p=none/\H p=some (.ins CR i [])/\Mach a m c n/\Tabs a/\
 ∀d e b,Keeps a b->Tabs b->RowOf c n d e->RowAt g CR b p m c n e->Q .non b
def Tabs.offI{H:Hp}{p C a:Ad}{fs:List (Str×V)}{o:HO}(t:Tabs H)(h:H p=some (.ins C a fs)):Tabs (cg H p o):=λq d=>by
 have k: ∀{b:Ad} {u:HO},u≠ .ins C a fs->H b=some u->cg H p o b=some u:=λn c=>by
  rw[cw (i7 c h n)];exact c
 rcases t q d with t|⟨g,i,j⟩
 .exact .inl (k (λe=>nomatch e) t)
 .exact .inr ⟨g,k (λe=>nomatch e) i,k (λe=>nomatch e) j⟩
def Tabs.offD{H:Hp}{D:Ad}{a:List (List cZ×V)}{o:HO}(t:Tabs H)(h:H D=some (.dT a)):Tabs (cg H D o):=t.most λb u n _ c=>by
 rw[cw (i7 c h λe=>n _ e)];exact c
def sv{H a:Hp}{l:Ad}{o:HO}(g:Keeps H a)(n:H l=none):Keeps H (cg a l o):=yk g (DU n)
def CZ{H a:Hp}{l:Ad}(g:Keeps H a)(n:a l=none):L2.noT H l=none:=by
 cases y:L2.noT H l with
 |none=>rfl
 |some o=>
  rw[g _ _ y]at n;cases n
def StepAt.off{C j:Ad}{H:Hp}{q m p d:Ad}{b:LN}{L:Lv}{fs:List (Str×V)}{o:HO}(h:StepAt C H q m b L)(c:H p=some (.ins j d fs))(n:fs.length≠5):StepAt C (cg H p o) q m b L:=by
 obtain⟨k,g,t,u,l,i,r,s,⟨v,x,y,z⟩,a,A,B,D⟩:=h;have lo:Stays mw H (cg H p o):=Stays.offI c;refine⟨k,g,t,u,l,?_,lo.a r,lo.tups s,⟨v,lo.a x,y,z.lts lo⟩,a,lo.a A,B,D.lts lo⟩;rw[cw (i7 i c λe=>by injection e with _ _ e;exact n (by rw[<-e];rfl))];exact i
def mo{b:Type}{P:Nat->b->Prop}{a:List b}{x:b}(h: ∀k y,a[k]? =some y->P k y)(c:P a.length x)(k:Nat)(y:b)(e:(a++[x])[k]? =some y):P k y:=by
 by_cases d:k<a.length
 .rw[eV d]at e;exact h k y e
 .have lk:=(cA.mp e).1;rw[dz,rY]at lk;have g:k=a.length:=by lia
  subst g;rw[eU (cD _),mF]at e;cases e;exact c
def HW{C:Ad}(F:Fun K "__init__" "LevelParts.__init__" w9 f fd)(u_LevelParts:OwnC K C ["machine","group","tiles","turns","tile_count"])(jT:dw P w K mg base "level_group" 13 ["machine","level"] zm)(jJ:dw P w K mg base "tiles_of_set" 7 ["machine","level","k"] yT)(jP:dw P w K mg base "tiles_turned" 9 ["machine","level","k","letter"] Bb)(kE:mg "enumerate"=none)(jC:mg "range"=none)(jB:mg "len"=none):FnOk P w K mg base cQ 15 f fd ["self","machine","level"] (Ct C):=by
 refine F.ok kK (λvs H Q E h=>?_) (λaX A aN s H vs Q E hr h=>?_)
 .obtain⟨H0,p,d,m,a,B,n,an,c,U,y,rfl,_⟩:=h;rfl
 obtain⟨H0,p,d,m,a,B,n,an,c,U,y,rfl,g0,np,hp,M,ff,lv,lp,hT,q⟩:=h;have hu:=hr.units;have ax:=iG hr;obtain⟨s',t',v',bs,ds,cs,h1,h2,h3,h4,h5,h6,h7,h8⟩:=id lv;have lb:=h3.len;have l5:=h5.len;obtain⟨uU,few⟩:=lp.inU M ff;obtain⟨rs,hm,aO,_⟩:=M.refs;have t4:=M.few;have nd:=lp.nd ff;have aY:c.length<=32:=by
  rw[(fZ lp.cls).2.1];exact dt (gX _ _) (dt (gX _ _) (ff.few M))
 refine⟨_,(cH (oV (pv 0) (pv 1) rfl) (cH (oV (pv 0) (dB jT hr.m rfl (c7 (cq (pv 1) (cq (pv 2) c8 rfl) rfl))) rfl) (cH (oV (pv 0) vK rfl) (cH (oV (pv 0) vK rfl) (cH (hR gT rfl (BR rfl kE (cE (cY dO (pv 2) cS (λ_ _=>rfl)) cz)) (qu rfl (iU (fh (i:=3) kK.nd rfl (Or.inr rfl)) (iU (fh (i:=4) kK.nd rfl (Or.inl rfl)) rg))) (cH (tK ax (fQ (pv 0) rfl) (pv 4) (dB jJ hr.m rfl (c7 (cq (pv 1) (cq (pv 2) (cq (pv 3) c8 rfl) rfl) rfl))) rfl) (cM (tK ax (fQ (pv 0) rfl) (pv 4) (gh (CompSc.to (N:=["self","machine","level","k","rooms"]) (osc:=cL w9) (vs:=["letter"]) {}) rfl rfl (jy rfl jC (cE (dS fJ rfl jB fc (cE (pv 1) cz)) cz)) (λ_ _ _ _=>gR) (λ_ _ _ _=>(dB jP hr.m rfl (c7 (cq (pv 2) (cq (pv 3) (cq (pv 4) (cq (pv 0) c8 rfl) rfl) rfl) rfl))))) rfl)))) (cM (oV (pv 0) (dS fJ rfl jB fc (cE (cY dO (pv 2) cS (λ_ _=>rfl)) cz)) rfl))))))),?_⟩;refine⟨_,rfl,_,rfl,p,C,d,_,rfl,hp,u_LevelParts.cl,u_LevelParts.no,by show 0<1000;decide,?_⟩;have g1:Same H0 (cg H p (.ins C d (dy "machine" (.ref m) []))):=gZ g0 np;have p1:cg H p (.ins C d (dy "machine" (.ref m) [])) p=some (.ins C d (dy "machine" (.ref m) [])):=cn;generalize cg H p (.ins C d (dy "machine" (.ref m) []))=H1 at g1 p1⊢;refine⟨_,rfl,_,rfl,m,a,B,n,an,c,U,y,rfl,M.same g1,ff,lv.same g1,lp,hT.same g1,λg gr gs mk ws H2 k2 T2 ng eg Tg pm up Mk TT=>?_⟩;have G:=Fm M ff lp pm up Mk TT;have p2:=k2 _ _ (nz p1);refine⟨_,rfl,p,C,d,_,rfl,p2,u_LevelParts.cl,u_LevelParts.no,by show 1<1000;decide,?_⟩;have gp:g≠p:=nE eg p2;have k3:Keeps H0 (cg H2 p (.ins C d (dy "group" (.ref g) (dy "machine" (.ref m) [])))):=sv (g1.keeps.trans k2) np;have T3:Tabs (cg H2 p (.ins C d (dy "group" (.ref g) (dy "machine" (.ref m) [])))):=T2.offI p2;have p3:cg H2 p (.ins C d (dy "group" (.ref g) (dy "machine" (.ref m) []))) p=some (.ins C d [("machine",.ref m),("group",.ref g)]):=by rw[cn];exact dn (λl=>some (HO.ins C d l)) (by kernel_rfl)
 have ao:cg H2 p (.ins C d (dy "group" (.ref g) (dy "machine" (.ref m) []))) g=some (.lst (gr.map .ref)):=by rw[cw gp];exact eg
 have ap:TupsAt (cg H2 p (.ins C d (dy "group" (.ref g) (dy "machine" (.ref m) [])))) gr gs:=m8 Tg p2 λ_ e=>nomatch e;generalize cg H2 p (.ins C d (dy "group" (.ref g) (dy "machine" (.ref m) [])))=H3 at k3 T3 p3 ao ap⊢;intro t ht;have J:=cB ht (.dT []);have ay:p≠t:=dG p3 ht;have aP:=CZ k3 ht;refine⟨_,rfl,p,C,d,_,rfl,J _ _ p3,u_LevelParts.cl,u_LevelParts.no,by show 2<1000;decide,?_⟩;have k4:Keeps H0 (cg (cg H3 t (.dT [])) p (.ins C d (dy "tiles" (.ref t) [("machine",.ref m),("group",.ref g)]))):=sv (k3.trans J.keeps) np;have T4:Tabs (cg (cg H3 t (.dT [])) p (.ins C d (dy "tiles" (.ref t) [("machine",.ref m),("group",.ref g)]))):=(T3.same J).offI (J _ _ p3);have p4:cg (cg H3 t (.dT [])) p (.ins C d (dy "tiles" (.ref t) [("machine",.ref m),("group",.ref g)])) p=some (.ins C d [("machine",.ref m),("group",.ref g),("tiles",.ref t)]):=by rw[cn];exact dn (λl=>some (HO.ins C d l)) (by kernel_rfl)
 have aq:cg (cg H3 t (.dT [])) p (.ins C d (dy "tiles" (.ref t) [("machine",.ref m),("group",.ref g)])) g=some (.lst (gr.map .ref)):=by rw[cw gp];exact J _ _ ao
 have ar:TupsAt (cg (cg H3 t (.dT [])) p (.ins C d (dy "tiles" (.ref t) [("machine",.ref m),("group",.ref g)]))) gr gs:=m8 (ap.same J) (J _ _ p3) λ_ e=>nomatch e;have aj:cg (cg H3 t (.dT [])) p (.ins C d (dy "tiles" (.ref t) [("machine",.ref m),("group",.ref g)])) t=some (.dT []):=by rw[cw ay.symm];exact cn
 generalize cg (cg H3 t (.dT [])) p (.ins C d (dy "tiles" (.ref t) [("machine",.ref m),("group",.ref g)]))=H4 at k4 T4 p4 aq ar aj⊢;clear k3 T3 p3 ao ap J ht k2 T2 p2 eg Tg g1 p1 g0 hp;intro u af;have J:=cB af (.dT []);have aQ:p≠u:=dG p4 af;have az:t≠u:=dG aj af;refine⟨_,rfl,p,C,d,_,rfl,J _ _ p4,u_LevelParts.cl,u_LevelParts.no,by show 3<1000;decide,?_⟩;have k5:Keeps H0 (cg (cg H4 u (.dT [])) p (.ins C d (dy "turns" (.ref u) [("machine",.ref m),("group",.ref g),("tiles",.ref t)]))):=sv (k4.trans J.keeps) np;have T5:Tabs (cg (cg H4 u (.dT [])) p (.ins C d (dy "turns" (.ref u) [("machine",.ref m),("group",.ref g),("tiles",.ref t)]))):=(T4.same J).offI (J _ _ p4);have p5:cg (cg H4 u (.dT [])) p (.ins C d (dy "turns" (.ref u) [("machine",.ref m),("group",.ref g),("tiles",.ref t)])) p=some (.ins C d [("machine",.ref m),("group",.ref g),("tiles",.ref t),("turns",.ref u)]):=by rw[cn];exact dn (λl=>some (HO.ins C d l)) (by kernel_rfl)
 have aA:cg (cg H4 u (.dT [])) p (.ins C d (dy "turns" (.ref u) [("machine",.ref m),("group",.ref g),("tiles",.ref t)])) g=some (.lst (gr.map .ref)):=by rw[cw gp];exact J _ _ aq
 have aB:TupsAt (cg (cg H4 u (.dT [])) p (.ins C d (dy "turns" (.ref u) [("machine",.ref m),("group",.ref g),("tiles",.ref t)]))) gr gs:=m8 (ar.same J) (J _ _ p4) λ_ e=>nomatch e;have aC:cg (cg H4 u (.dT [])) p (.ins C d (dy "turns" (.ref u) [("machine",.ref m),("group",.ref g),("tiles",.ref t)])) t=some (.dT []):=by rw[cw ay.symm];exact J _ _ aj
 have aD:cg (cg H4 u (.dT [])) p (.ins C d (dy "turns" (.ref u) [("machine",.ref m),("group",.ref g),("tiles",.ref t)])) u=some (.dT []):=by rw[cw aQ.symm];exact cn
 have aR:=CZ k4 af;generalize cg (cg H4 u (.dT [])) p (.ins C d (dy "turns" (.ref u) [("machine",.ref m),("group",.ref g),("tiles",.ref t)]))=H5 at k5 T5 p5 aA aB aC aD⊢;clear k4 T4 p4 aq ar aj J af
 let Pv:Nat->L2.St->Hp->Prop:=λi σ D=>Keeps H0 D/\Tabs D/\D p=some (.ins C d [("machine",.ref m),("group",.ref g),("tiles",.ref t),("turns",.ref u)])/\D g=some (.lst (gr.map .ref))/\TupsAt D gr gs/\(∃z,D t=some (.dT (e8 (c.take i) z))/\z.length=i/\TiledAs D B U y z)/\(∃z,D u=some (.dT (e8 (c.take i) z))/\z.length=i/\TurnsAs D B c U y z)/\ ∃o3 o4,σ=[some (.ref p),some (.ref m),some (.ref a),o3,o4]
 have L:=λ{D:Hp} (k:Keeps H0 D)=>wZ k;refine⟨_,rfl,a,_,_,_,rfl,rfl,SqT.of ((L k5).a h1),rfl,s',_,rfl,SqL.of ((L k5).a h2),DX (xs:=bs.map .ref) Pv ⟨k5,T5,p5,aA,aB,⟨[],aC,rfl,λk I a _ e=>by simp at e⟩,⟨[],aD,rfl,λk x I a _ _ e=>by simp at e⟩,_,_,rfl⟩ (λi σ D _ p=>SqL.of ((L p.1).a h2)) (λi Tp v σ H6 hv nT pv=>?_) (λσ H6 pv=>?_)⟩
 .obtain⟨k6,T6,p6,au,av,⟨z,ab,la,ta⟩,⟨O,ag,ae,tb⟩,o3,o4,rfl⟩:=pv;rw[cF]at hv;obtain⟨b,eb,rfl⟩:=dR.mp hv;have li:=(cA.mp eb).1;obtain⟨x,ex⟩: ∃x,c[i]? =some x:=⟨_,ck (by lia)⟩;obtain⟨I,ew⟩: ∃I,y[i]? =some I:=⟨_,ck (by rw[lp.len];lia)⟩;have aS:=(lp.go i x I ex ew).1;have tk:c.take (i+1)=c.take i++[x]:=by rw[h9,ex];rfl
  have xn:x∉c.take i:=λh=>by
   obtain⟨j,ej⟩:=fi.mp h;have lj:=(cA.mp ej).1;rw[eF]at lj;rw[oG (by lia)]at ej;have:=(g7 (by lia) nd).mp (ej.trans ex.symm)
   lia
  have lt:(c.take i).length=i:=by rw[eF];lia
  have kT:=cB nT (.tup [.int (i:Nat),.ref b]);have eT:cg H6 Tp (.tup [.int (i:Nat),.ref b]) Tp=some (.tup [.int (i:Nat),.ref b]):=cn;generalize cg H6 Tp (.tup [.int (i:Nat),.ref b])=H7 at kT eT⊢;have k7:=k6.trans kT.keeps;refine⟨Tp,_,rfl,SqT.of eT,rfl,_,_,rfl,_,_,rfl,rfl,?_⟩;refine⟨_,rfl,_,rfl,_,rfl,m,a,i,B,n,c,U,y,I,rfl,M.keeps k7,LvH.keeps lv k7,ew,uU,few,aS,λl es H8 g8 el aE=>?_⟩;have T:=kT.trans g8;have k8:=k6.trans T.keeps;have aF:=(L k8).a (h3.is i b x eb ex);refine⟨_,rfl,p,C,d,_,_,rfl,T _ _ p6,u_LevelParts.cl,u_LevelParts.no,(by kernel_rfl),_,rfl,t,_,rfl,DPut.t (T _ _ ab) (by rw[hZ];exact aF) (by rw[E7 (by lia),db];lia),?_⟩;rw[BV (by lia) xn,<-tk];have ak:=T _ _ ab;have lo:pJ H6 (cg H8 t (.dT (e8 (c.take (i+1)) (z++[l])))):=λb o n hb=>Stays.off ak b o n (T _ _ hb);have aw:pJ H8 (cg H8 t (.dT (e8 (c.take (i+1)) (z++[l])))):=Stays.off ak;have k9:Keeps H0 (cg H8 t (.dT (e8 (c.take (i+1)) (z++[l])))):=yk k8 aP;have T9:Tabs (cg H8 t (.dT (e8 (c.take (i+1)) (z++[l])))):=(T6.same T).offD ak;have aG:cg H8 t (.dT (e8 (c.take (i+1)) (z++[l]))) t=some (.dT (e8 (c.take (i+1)) (z++[l]))):=cn;have aH:cg H8 t (.dT (e8 (c.take (i+1)) (z++[l]))) u=some (.dT (e8 (c.take i) O)):=by rw[cw az.symm];exact T _ _ ag
  have aI:TiledAs (cg H8 t (.dT (e8 (c.take (i+1)) (z++[l])))) B U y (z++[l]):=λk r a' e1 e2=>mo (P:=λk a=> ∀I,y[k]? =some I-> ∃es,cg H8 t (.dT (e8 (c.take (i+1)) (z++[l]))) a=some (.lst (es.map .ref))/\TupsAt (cg H8 t (.dT (e8 (c.take (i+1)) (z++[l])))) es (tl B U I)) (λk a e I e'=>(ta.lts lo) k I a e' e) (λr e=>by
   rw[la,ew]at e;cases e;exact⟨es,aw.a el,aw.tups aE⟩) k a' e2 r e1
  have p9:=lo.a p6;have aJ:=lo.a au;have aK:=lo.tups av;have aL:=tb.lts lo;generalize cg H8 t (.dT (e8 (c.take (i+1)) (z++[l])))=H9 at k9 T9 aG aH aI p9 aJ aK aL⊢;clear lo aw T g8 k8 aF ak kT eT k7 el aE;refine⟨_,rfl,m,_,rfl,.inr (SqT.of ((L k9).a hm)),(B.length:Int),by rw[cj,aO],by lia,by lia,oK (λj ys D=>Same H9 D/\ys.length=j/\ ∀(l:Nat) (v:V),ys[l]? =some v->(cr B x l∉c/\v= .non)∨ ∃(p:Ad) (js:cf) (k':Nat) (r:cf),v= .ref p/\D p=some (.tup (js.map nv))/\c[k']? =some (cr B x l)/\y[k']? =some r/\ig B U I r l js) (by rw[gb];exact small (by lia)) ⟨Same.refl _,rfl,λl v e=>by simp at e⟩ (λj ys D _ pv=>Nat.le_of_eq pv.2.1) (λj ys D hj pv=>?_) (λys D pv sg aT=>?_)⟩
  .obtain⟨g,ly,al⟩:=pv;have e0:V.int (0+(j:Int))=nv j:=by show V.int (0+(j:Int))=V.int (j:Int);rw[nI]
   have aU:j<B.length:=by simpa using hj
   rw[e0];have ah:=k9.trans g.keeps;refine⟨gm,iz ⟨_,rfl,_,rfl,_,rfl,_,rfl,m,a,i,j,B,n,an,c,U,y,x,I,rfl,M.keeps ah,ff,LvH.keeps lv ah,lp,ex,ew,aU,λno H2 g2=>?_,λk' r ey aV pp js H2 g2 ep aW=>?_⟩⟩
   .refine⟨g.trans g2,by rw[dz,ly];rfl,λl v e=>mo (P:=λl v=>(cr B x l∉c/\v=V.non)∨ ∃(p:Ad) (js:cf) (k':Nat) (r:cf),v= .ref p/\H2 p=some (.tup (js.map nv))/\c[k']? =some (cr B x l)/\y[k']? =some r/\ig B U I r l js) (λl v e=>(al l v e).imp id λ⟨p,js,k',r,z1,z2,z3⟩=>⟨p,js,k',r,z1,g2 _ _ z2,z3⟩) (.inl ⟨by rw[ly];exact no,rfl⟩) l v e⟩
   .refine⟨g.trans g2,by rw[dz,ly];rfl,λl v e=>mo (P:=λl v=>(cr B x l∉c/\v=V.non)∨ ∃(p:Ad) (js:cf) (k':Nat) (r:cf),v= .ref p/\H2 p=some (.tup (js.map nv))/\c[k']? =some (cr B x l)/\y[k']? =some r/\ig B U I r l js) (λl v e=>(al l v e).imp id λ⟨p,js,k',r,z1,z2,z3⟩=>⟨p,js,k',r,z1,g2 _ _ z2,z3⟩) (.inr ⟨pp,js,k',r,rfl,ep,by rw[ly];exact ey,aV,by rw[ly];exact aW⟩) l v e⟩
  .obtain⟨g,ly,al⟩:=pv;rw[gb]at ly;have ks:=cB aT (.lst ys);have es:cg D sg (.lst ys) sg=some (.lst ys):=cn;have Y:=g.trans ks;have TL:TurnL (cg D sg (.lst ys)) B c U y x I ys:=TurnL.lts ⟨ly,al⟩ (jd ks);generalize cg D sg (.lst ys)=ai at ks es Y TL⊢;have ah:=k9.trans Y.keeps;have aM:=(L ah).a (h3.is i b x eb ex);have aa:=Y _ _ aH;refine⟨_,rfl,p,C,d,_,_,rfl,Y _ _ p9,u_LevelParts.cl,u_LevelParts.no,(by kernel_rfl),_,rfl,u,_,rfl,DPut.t aa (by rw[hZ];exact aM) (by rw[E7 (by lia),db];lia),?_⟩;rw[BV (by lia) xn,<-tk];have lo:pJ H9 (cg ai u (.dT (e8 (c.take (i+1)) (O++[sg])))):=λb o n hb=>Stays.off aa b o n (Y _ _ hb)
   have am:pJ ai (cg ai u (.dT (e8 (c.take (i+1)) (O++[sg])))):=Stays.off aa;refine⟨yk ah aR,(T9.same Y).offD aa,lo.a p9,lo.a aJ,lo.tups aK,⟨z++[l],by rw[cw az];exact Y _ _ aG,by rw[dz,la];rfl,aI.lts lo⟩,⟨O++[sg],cn,by rw[dz,ae];rfl,λk x' r a' e1 e2 e3=>?_⟩,_,_,rfl⟩;refine mo (P:=λk a=> ∀x I,c[k]? =some x->y[k]? =some I-> ∃vs,cg ai u (.dT (e8 (c.take (i+1)) (O++[sg]))) a=some (.lst vs)/\TurnL (cg ai u (.dT (e8 (c.take (i+1)) (O++[sg])))) B c U y x I vs) (λk a e x I e1 e2=>(aL.lts lo) k x I a e1 e2 e) (λx' r e1 e2=>?_) k a' e3 x' r e1 e2;rw[ae,ex]at e1;rw[ae,ew]at e2;cases e1;cases e2;exact⟨ys,am.a es,TL.lts am⟩
 .obtain⟨k6,T6,p6,au,av,⟨z,ab,la,ta⟩,⟨O,ag,ae,tb⟩,o3,o4,rfl⟩:=pv;rw[cj,lb]at ab ag la ae;rw[gI]at ab ag;refine⟨_,rfl,a,_,_,_,rfl,rfl,SqT.of ((L k6).a h1),rfl,t',_,rfl,.inl (SqL.of ((L k6).a h4)),_,rfl,p,C,d,_,rfl,p6,u_LevelParts.cl,u_LevelParts.no,by show 4<1000;decide,?_⟩;rw[show((ds.map V.ref).length)=U.length by rw[cj,l5]];have lo:Stays mw H6 (cg H6 p (.ins C d (dy "tile_count" (nv U.length) [("machine",.ref m),("group",.ref g),("tiles",.ref t),("turns",.ref u)]))):=Stays.offI p6;refine q gs _ (sv k6 np) (T6.offI p6) G ⟨d,g,t,u,gr,?_,lo.a au,lo.tups av,⟨z,lo.a ab,la,ta.lts lo⟩,O,lo.a ag,ae,tb.lts lo⟩;rw[cn];exact dn (λl=>some (HO.ins C d l)) (by kernel_rfl)
def Ji{D CR T:Ad}(F:Fun K "__init__" "Row.__init__" vM f fd)(u_Row:OwnC K CR ["rooms","steps"])(qJ:tL P w K mg base "LevelParts" D 15 ["self","machine","level"] (Ct D))(qD:dw P w K mg base "levels" 18 ["machine"] (yS T (⟨49,40,49,93⟩:Pos)))(kP:dw P w K mg base "still" 1 ["rooms"] vm)(jB:mg "len"=none):FnOk P w K mg base cQ 20 f fd ["self","machine"] (Ch D CR):=by
 refine F.ok MB (λI H Q E h=>?_) (λaq A af s H I Q E U h=>?_)
 .obtain⟨H0,p,a,m,J,n,rfl,_⟩:=h;rfl
 obtain⟨H0,p,a,m,J,n,rfl,g0,np,hp,M,hT,q⟩:=h;have hu:=U.units;have ar:=iG U;obtain⟨rs,r0,hm,au,ag,ah,ai,_⟩:=M.at (l:=0) M.some1;have n5:=M.n5;refine⟨_,(cH (oV (pv 0) (dB kP U.m rfl (cE (dS fJ rfl jB fc (cE (cY dO (pv 1) cS (λ_ _=>rfl)) cz)) cz)) rfl) (cM (oV (pv 0) (gh (CompSc.to (N:=["self","machine"]) (osc:=cL vM) (vs:=["level"]) {}) rfl rfl (gF (dB qD U.m rfl (cE (pv 1) cz))) (λ_ _ _ _=>gR) (λ_ _ _ _=>(Cn qJ U.m rfl (c7 (cq (pv 2) (cq (pv 0) c8 rfl) rfl))))) rfl))),?_⟩;refine⟨_,rfl,m,_,_,_,rfl,rfl,SqT.of (g0 _ _ hm),ag,r0,_,rfl,.inr (SqT.of (g0 _ _ ah)),?_⟩
 try dsimp only
 rw[cj,ai];refine⟨n,rfl,by lia,λr H1 g1 er=>?_⟩;have p1:=g1 _ _ hp;have aj:p≠r:=nE p1 er;refine⟨_,rfl,p,CR,a,_,rfl,p1,u_Row.cl,u_Row.no,by show 0<1000;decide,?_⟩;have g2:Same H0 (cg H1 p (.ins CR a (dy "rooms" (.ref r) []))):=gZ (g0.trans g1) np;have p2:cg H1 p (.ins CR a (dy "rooms" (.ref r) [])) p=some (.ins CR a [("rooms",.ref r)]):=cn;have Y:cg H1 p (.ins CR a (dy "rooms" (.ref r) [])) r=some (.tup ((List.range n).map nv)):=by rw[cw aj.symm];exact er
 generalize cg H1 p (.ins CR a (dy "rooms" (.ref r) []))=H2 at g2 p2 Y⊢;clear g1 er p1 g0 hp;refine⟨_,rfl,m,J,n,rfl,M.same g2,hT.same g2,λl as told d ys H3 k3 T3 nl el ff od sub ak LL nw ap av=>?_⟩;have aa:=g2.keeps.trans k3;have la:=LL.len;refine⟨l,rfl,⟨_,SqL.of el⟩,jc (xs:=as.map .ref) (λi I g=>Keeps H3 g/\Tabs g/\ ∃(k:As) (t:List Lv),I=k.map V.ref/\t.length=i/\t.map (·.c)=told.take i/\(∀L∈t,LvOk J d L)/\StepsAt D g k m J t) (by rw[cj];exact small (by lia)) ⟨Keeps.refl _,T3,[],[],rfl,rfl,rfl,(λL h=>nomatch h),rfl,λi q L e=>by simp at e⟩ (λi I g _ pv=>?_) (λi v I g hv pv=>?_) (λI g pv sg al=>?_)⟩
 .obtain⟨k4,_,k,t,rfl,O,_,_,S⟩:=pv;exact⟨SqL.of (k4 _ _ (nz el)),by rw[cj,S.len,O];exact cD _⟩
 .obtain⟨k4,T4,k,t,rfl,O,eL,y,S⟩:=pv;rw[cF]at hv;obtain⟨lv,ab,rfl⟩:=dR.mp hv;have li:=(cA.mp ab).1;obtain⟨c,ec⟩: ∃c,told[i]? =some c:=⟨_,ck (by lia)⟩;obtain⟨B,am,lp,wd⟩:=(LL.is i lv c ab ec).lvw (sub c (cK ec));have an:=aa.trans k4;refine⟨gm,iz ⟨_,rfl,_,rfl,λx C nx ao aw=>?_⟩⟩;have gx:Same g (cg (cg g C (.own x)) x (.ins D C [])):=λb o hb=>by
   rw[cw (dG hb nx),cw (dG hb ao)];exact hb
  refine⟨g,x,C,m,lv,J,n,d,c,_,B,rfl,gx,nx,cn,M.keeps an,ff,LvH.keeps am k4,lp,T4,λgs H5 k5 T5 G St=>⟨rfl,k4.trans k5,T5,k++[x],t++[⟨c,gL d (c.headD []),B,gs⟩],by rw[dP];rfl,by rw[dz,O];rfl,?_,λL hL=>?_,⟨by rw[dz,dz,S.len];rfl,λj q' L e1 u=>?_⟩⟩⟩
  .rw[dP,eL,h9,ec];rfl
  .rcases di.mp hL with z|z
   .exact y L z
   .rw[cW.mp z];exact⟨lp,wd,G⟩
  .refine mo (P:=λj q=> ∀L,(t++[⟨c,gL d (c.headD []),B,gs⟩])[j]? =some L->StepAt D H5 q m J L) (λj q e L u=>?_) (λL u=>?_) j q' e1 L u
   .have lj:=(cA.mp e).1;rw[eV (by rw[<-S.len];exact lj)]at u;exact(S.is j q L e u).keeps k5
   .rw[S.len,eU (cD _),mF]at u;cases u;exact St
 .obtain⟨k4,T4,k,t,rfl,O,eL,y,S⟩:=pv;rw[cj]at O eL;rw[la,gI]at eL;have ks:=cB al (.lst (k.map V.ref));have ae:=(k3.trans k4).trans ks.keeps;have p5:=ae _ _ (nz p2);refine⟨_,rfl,p,CR,a,_,rfl,p5,u_Row.cl,u_Row.no,by show 1<1000;decide,?_⟩;have lo:Stays mw (cg g sg (.lst (k.map V.ref))) (cg (cg g sg (.lst (k.map V.ref))) p (.ins CR a (dy "steps" (.ref sg) [("rooms",.ref r)]))):=Stays.offI p5;refine q d t _ (sv ((aa.trans k4).trans ks.keeps) np) ((T4.same ks).offI p5) ⟨ff,by rw[eL];exact od,by rw[O,la];exact ak,y⟩ ⟨a,r,sg,k,?_,lo.a (ae _ _ (nz Y)),lo.a cn,S.len,λi q' L e1 u=>((S.is i q' L e1 u).keeps ks.keeps).off p5 (by show ¬1=5;decide)⟩;rw[cn];exact dn (λl=>some (HO.ins CR a l)) (by kernel_rfl)
def hV(k:Nat)(L:Lv):List (Bool×Nat×Nat):=(if 1<L.gs.length then[(true,k,L.gs.length)]else[])++[(false,k,L.us.length)]
def gA(a:List Lv):Nat->List (Bool×Nat×Nat)
 |0=>[]
 |i+1=>gA a i++(match a[i]? with|some L=>hV i L|none=>[])
def dY(a:List Lv):List (Bool×Nat×Nat):=gA a a.length
def LZ(k:Nat)(L:Lv):(hV k L).length<=2:=by
 unfold hV;by_cases h:1<L.gs.length
 .rw[wB h];exact cD 2
 .rw[wA h];exact oA 1
theorem vT(a:List Lv): ∀i,(gA a i).length<=2 * i
 |0=>cD _
 | i+1=>by
  have z:=vT a i;unfold gA;rw[dz];cases e:a[i]? with
  |none=>
   simp only[List.length_nil];lia
  |some L=>
   have y:=LZ i L;simp only;lia
def wW{a:List Lv}{i:Nat}{L:Lv}(e:a[i]? =some L):gA a (i+1)=gA a i++hV i L:=by
 show gA a i++_=_;rw[e]
def ot:Bool->Str
 |true=>"turn"
 |false=>"bring"
structure PartsAt(H:Hp)(as:As)(ps:List (Bool×Nat×Nat)):Prop where
 len:as.length=ps.length
 is: ∀(i:Nat) (a:Ad) (p:Bool×Nat×Nat),as[i]? =some a->ps[i]? =some p->H a=some (.tup [.str (ot p.1),nv p.2.1,nv p.2.2])
def PartsAt.st{f:HO->Bool}{H b:Hp}{c:As}{d:List (Bool×Nat×Nat)}(h:PartsAt H c d)(g:Stays f H b)(e: ∀xs,f (.tup xs)=false:=by intro;rfl):PartsAt b c d:=⟨h.len,λi a p j k=>g _ _ (e _) (h.is i a p j k)⟩
def PartsAt.snoc{H:Hp}{k:As}{j:List (Bool×Nat×Nat)}{a:Ad}{p:Bool×Nat×Nat}(h:PartsAt H k j)(e:H a=some (.tup [.str (ot p.1),nv p.2.1,nv p.2.2])):PartsAt H (k++[a]) (j++[p]):=by
 refine⟨by rw[dz,dz,h.len];rfl,λi d b g c=>?_⟩;refine mo (P:=λi d=> ∀b,(j++[p])[i]? =some b->H d=some (.tup [.str (ot b.1),nv b.2.1,nv b.2.2])) (λi d g b c=>?_) (λb c=>?_) i d g b c
 .rw[eV (by rw[<-h.len];exact(cA.mp g).1)]at c;exact h.is i d b g c
 .rw[h.len,eU (cD _),mF]at c;cases c;exact e
def yi(C:Ad):Sp:=λa H Q _=> ∃(q m:Ad) (b:LN) (L:Lv),a=[.ref q]/\StepAt C H q m b L/\Q (.bl (decide (1<L.gs.length))) H
def LF{C:Ad}(F:Fun K "is_turning" "LevelParts.is_turning" zZ f fd)(u_LevelParts:OwnC K C ["machine","group","tiles","turns","tile_count"])(b:mg "len"=none):FnOk P w K mg base cQ 1 f fd ["self"] (yi C):=by
 refine F.ok JC (λc H Q E h=>?_) (λd A a s H c Q E p h=>?_)
 .obtain⟨q,m,e,L,rfl,_⟩:=h;rfl
 obtain⟨q,m,e,L,rfl,⟨i,g,t,u,j,l,n,o,_⟩,k⟩:=h;refine⟨_,(cM (dr (nL Bj (dS fJ rfl b fc (cE (fQ (pv 0) rfl) cz)) cS (eI _)))),?_⟩;refine⟨_,rfl,q,C,i,_,_,rfl,l,u_LevelParts.cl,u_LevelParts.no,oh,g,_,rfl,.inl (SqL.of n),_,_,rfl,rfl,?_⟩;show Q (.bl (decide ((1:Int)<(((j.map V.ref).length:Nat):Int)))) H;rw[cj,o.len,show decide ((1:Int)<((L.gs.length:Nat):Int))=decide (1<L.gs.length)from decide_eq_decide.mpr (by lia)];exact k
def yV(d CR:Ad):Sp:=λe H Q _=> ∃(p m:Ad) (g:LN) (n:Nat) (b:List Lv),e=[.ref p]/\RowAt d CR H p m g n b/\b.length<=32/\
 ∀l c a,Same H a->H l=none->a l=some (.lst (c.map .ref))->PartsAt a c (dY b)->Q (.ref l) a
def Ic{G CR:Ad}(F:Fun K "parts" "Row.parts" AL f fd)(u_LevelParts:OwnC K G ["machine","group","tiles","turns","tile_count"])(u_Row:OwnC K CR ["rooms","steps"])(jE:e7 P w K mg base G "is_turning" 1 ["self"] (yi G))(kE:mg "enumerate"=none)(jB:mg "len"=none):FnOk P w K mg base cQ 3 f fd ["self"] (yV G CR):=by
 refine F.ok qF (λvs H Q E h=>?_) (λab A aa s H vs Q E hr h=>?_)
 .obtain⟨p,m,ts,n,I,rfl,_⟩:=h;rfl
 obtain⟨p,m,ts,n,I,rfl,⟨dx,r,st,qs,h1,h2,h3,S⟩,few,q⟩:=h;have hu:=hr.units;refine⟨_,(cH (df (i:=1) qF.nd rfl (Or.inl rfl) (fX cz)) (cH (hR gT rfl (BR rfl kE (cE (fQ (pv 0) rfl) cz)) (qu rfl (iU (fh (i:=2) qF.nd rfl (Or.inl rfl)) (iU (fh (i:=3) qF.nd rfl (Or.inl rfl)) rg))) (cH (AH (fS (l7 (uw (pv 3) u_LevelParts.cl jE hr.m)) (cM (jb (iN iF lA ku lI (pv 1) (cE (jg (c7 (cq rb (cq (pv 2) (cq (dS fJ rfl jB fc (cE (fQ (pv 3) rfl) cz)) c8 rfl) rfl) rfl))) cz)))) gn)) (cM (jb (iN iF lA ku lI (pv 1) (cE (jg (c7 (cq rb (cq (pv 2) (cq (fQ (pv 3) rfl) c8 rfl) rfl) rfl))) cz)))))) (cM (dr (pv 1))))),?_⟩;refine⟨by show 0<=sizeLine;decide,λl o=>?_⟩;have k0:=cB o (.lst []);have lq:=S.len
 let Pv:Nat->L2.St->Hp->Prop:=λi T d=>Same H d/\ ∃(x:As) (o2 o3:Option V),d l=some (.lst (x.map .ref))/\PartsAt d x (gA I i)/\T=[some (.ref p),some (.ref l),o2,o3]
 refine⟨_,rfl,p,CR,dx,_,_,rfl,k0 _ _ h1,u_Row.cl,u_Row.no,xH,st,_,rfl,SqL.of (k0 _ _ h3),DX (xs:=qs.map .ref) Pv ⟨k0,[],_,_,cn,⟨rfl,λi a p e=>by simp at e⟩,rfl⟩ (λi T d _ p=>SqL.of (p.1 _ _ h3)) (λi U v T Y hv nT pv=>?_) (λT Y pv=>?_)⟩
 .obtain⟨g1,x,o2,o3,ef,j,rfl⟩:=pv;rw[cF]at hv;obtain⟨b,eb,rfl⟩:=dR.mp hv;have li:=(cA.mp eb).1;obtain⟨L,eL⟩: ∃L,I[i]? =some L:=⟨_,ck (by lia)⟩;have J:=cB nT (.tup [.int (i:Nat),.ref b]);have eT:cg Y U (.tup [.int (i:Nat),.ref b]) U=some (.tup [.int (i:Nat),.ref b]):=cn;generalize cg Y U (.tup [.int (i:Nat),.ref b])=H2 at J eT⊢;have g2:=g1.trans J;have SA:=(S.is i b L eb eL).keeps g2.keeps;obtain⟨y,g,t,u,gr,s1,s2,s3,s4⟩:=id SA;refine⟨U,_,rfl,SqT.of eT,rfl,_,_,rfl,_,_,rfl,rfl,?_⟩;have M:=J _ _ ef;have lz:=vT I i;have la:=j.len;have ae: ∀{d:Hp},Same H2 d->d l=some (.lst (x.map .ref)):=λg=>g _ _ M;refine⟨λN d=>Same H d/\ ∃k,d l=some (.lst (k.map .ref))/\PartsAt d k (gA I i++(if 1<L.gs.length then[(true,i,L.gs.length)]else[]))/\N=[some (.ref p),some (.ref l),some (nv i),some (.ref b)],⟨_,rfl,b,y,_,rfl,s1,(by kernel_rfl),b,m,ts,L,rfl,SA,_,rfl,lR (λc=>?_) (λc=>?_)⟩,λN d z=>?_⟩
  .have c1:1<L.gs.length:=gE c;refine⟨_,rfl,.inl ⟨rfl,_,SqL.of M⟩,_,rfl,_,rfl,b,G,y,_,_,rfl,s1,u_LevelParts.cl,u_LevelParts.no,oh,g,_,rfl,.inl (SqL.of s2),by show 3<=sizeLine;decide,λB D=>?_⟩;rw[show(gr.map V.ref).length=L.gs.length by rw[cj,s3.len]];have C:=cB D (.tup [.str "turn",nv i,nv L.gs.length]);refine⟨l,_,_,rfl,rfl,C _ _ M,by rw[cj,db];lia,?_⟩;have lo:uq (cg H2 B (.tup [.str "turn",nv i,nv L.gs.length])) (cg (cg H2 B (.tup [.str "turn",nv i,nv L.gs.length])) l (.lst (x.map V.ref++[.ref B]))):=Stays.offL (C _ _ M);rw[wB c1];exact⟨gZ (g2.trans C) o,x++[B],by rw[cn,dP];rfl,((j.st (jd (J.trans C))).st lo).snoc (lo.a cn),rfl⟩
  .have c1: ¬1<L.gs.length:=Aa (uc.mpr c);rw[wA c1,gO];exact⟨g2,x,M,j.st (jd J),rfl⟩
  .obtain⟨g3,k,f3,O,rfl⟩:=z;obtain⟨y,g,t,u,gr,s1,s2,s3,s4⟩:=(S.is i b L eb eL).keeps g3.keeps;have af:k.length<=2 * i+2:=by
    rw[O.len,dz];have:(if 1<L.gs.length then[(true,i,L.gs.length)]else[]).length<=2:=by
     by_cases h:1<L.gs.length
     .rw[wB h];exact oA 1
     .rw[wA h];exact gN 2
    lia
   refine⟨_,rfl,.inl ⟨rfl,_,SqL.of f3⟩,_,rfl,_,rfl,b,G,y,_,_,rfl,s1,u_LevelParts.cl,u_LevelParts.no,t8,by show 3<=sizeLine;decide,λB D=>?_⟩;have C:=cB D (.tup [.str "bring",nv i,nv L.us.length]);refine⟨l,_,_,rfl,rfl,C _ _ f3,by rw[cj,db];lia,?_⟩;have lo:uq (cg d B (.tup [.str "bring",nv i,nv L.us.length])) (cg (cg d B (.tup [.str "bring",nv i,nv L.us.length])) l (.lst (k.map V.ref++[.ref B]))):=Stays.offL (C _ _ f3);refine⟨gZ (g3.trans C) o,k++[B],_,_,by rw[cn,dP];rfl,?_,rfl⟩;rw[wW eL];unfold hV;rw[<-eX];exact((O.st (jd C)).st lo).snoc (lo.a cn)
 .obtain⟨g1,x,o2,o3,ef,j,rfl⟩:=pv;rw[cj,lq]at j;exact⟨_,rfl,q l x Y g1 o ef j⟩
def gG(a:List Lv)(i:Nat):Nat:=(gA a i).length
def fg(b:List Lv)(a:cf)(i:Nat)(L:Lv):Nat×Nat:=if 1<L.gs.length then(a.getD (gG b i) 0,a.getD (gG b i+1) 0)else(0,a.getD (gG b i) 0)
def kv(b:List Lv)(a:cf):Nat->List (Nat×Nat)
 |0=>[]
 |i+1=>kv b a i++(match b[i]? with|some L=>[fg b a i L]|none=>[])
def gK(b:List Lv)(a:cf):List (Nat×Nat):=kv b a b.length
structure RowIn(Ls:List Lv)(row:cf):Prop where
 len:row.length=(dY Ls).length
 lt: ∀(j:Nat) (p:Bool×Nat×Nat) (r:Nat),(dY Ls)[j]? =some p->row[j]? =some r->r<p.2.2
def zT{b:List Lv}{a:cf}{i:Nat}{L:Lv}(e:b[i]? =some L):kv b a (i+1)=kv b a i++[fg b a i L]:=by
 show kv b a i++_=_;rw[e]
theorem rh{a:List Lv}{row:cf}: ∀{i:Nat},i<=a.length->(kv a row i).length=i
 |0,_=>rfl
 |i+1,h=>by
  rw[zT (ck h),dz,rh (fj h)];rfl
theorem zA{b:Type}{t:Nat->List b}(h: ∀i,∃r,t (i+1)=t i++r): ∀{i j:Nat},i<=j-> ∃r,t j=t i++r
 |i,0,a=>⟨[],by rw[Nat.le_zero.mp a,gO]⟩
 | i,j+1,a=>by
  by_cases e:i=j+1
  .exact⟨[],by rw[e,gO]⟩
  .obtain⟨r,z⟩:=zA h (show i<=j by lia);obtain⟨c,d⟩:=h j;exact⟨r++c,by rw[d,z,eX]⟩
def EU(a:List Lv){i j:Nat}(h:i<=j): ∃r,gA a j=gA a i++r:=zA (t:=gA a) (λi=>⟨_,rfl⟩) h
def JA(b:List Lv)(a:cf){i j:Nat}(h:i<=j): ∃r,kv b a j=kv b a i++r:=zA (t:=kv b a) (λi=>⟨_,rfl⟩) h
def EF{a:List Lv}{i:Nat}{L:Lv}(e:a[i]? =some L):gG a (i+1)=gG a i+(if 1<L.gs.length then 2 else 1):=by
 unfold gG;rw[wW e,dz];unfold hV;by_cases h:1<L.gs.length
 .rw[wB h,wB h];rfl
 .rw[wA h,wA h];rfl
def zq{a:List Lv}{row:cf}{i:Nat}{L:Lv}(e:a[i]? =some L):(gK a row)[i]? =some (fg a row i L):=by
 have b:=(cA.mp e).1;obtain⟨r,z⟩:=JA a row (show i+1<=a.length from b);unfold gK;rw[z,zT e,eX,eU (by rw[rh (fj b)];exact cD _),rh (fj b),mF];rfl
def AA{a:List Lv}{i j:Nat}{L:Lv}{p:Bool×Nat×Nat}(e:a[i]? =some L)(b:(hV i L)[j]? =some p):(dY a)[gG a i+j]? =some p:=by
 have c:=(cA.mp e).1;obtain⟨r,z⟩:=EU a (show i+1<=a.length from c);unfold dY gG;rw[z,wW e,eX,eU (j5 _ _),uH,eV (cA.mp b).1];exact b
def CC{a:List Lv}{i:Nat}{L:Lv}(e:a[i]? =some L):gG a i+(if 1<L.gs.length then 1 else 0)<(dY a).length:=by
 have b:=(cA.mp e).1;obtain⟨r,z⟩:=EU a (show i+1<=a.length from b);have y:=EF e;unfold dY;rw[z,dz];unfold gG at y⊢;by_cases h:1<L.gs.length
 .rw[wB h]at y⊢;lia
 .rw[wA h]at y⊢;lia
structure PairOk(L:Lv)(p:Nat×Nat):Prop where
 g:p.1<L.gs.length
 t:p.2<L.us.length
def cT{a:cf}{j:Nat}(h:j<a.length):a[j]? =some (a.getD j 0):=by rw[dI,ck h];rfl
def RowIn.pair{b:List Lv}{a:cf}(R:RowIn b a){i:Nat}{L:Lv}(e:b[i]? =some L)(g0:0<L.gs.length):PairOk L (fg b a i L):=by
 have z:=CC e;have len:=R.len;unfold fg;by_cases h:1<L.gs.length
 .rw[wB h]at z⊢;have c:(hV i L)[0]? =some (true,i,L.gs.length):=by unfold hV;rw[wB h];rfl
  have d:(hV i L)[1]? =some (false,i,L.us.length):=by unfold hV;rw[wB h];rfl
  exact⟨R.lt _ _ _ (AA e c) (cT (by lia)),R.lt _ _ _ (AA e d) (cT (by lia))⟩
 .rw[wA h]at z⊢;have c:(hV i L)[0]? =some (false,i,L.us.length):=by unfold hV;rw[wA h];rfl
  exact⟨g0,R.lt _ _ _ (AA e c) (cT (by lia))⟩
def iO(L:Lv)(p:Nat×Nat):Nat:=(L.gs.getD p.1 []).getD p.2 0
def fm(a:LN)(L:Lv)(here:cf)(p:Nat×Nat):cf:=if here∈L.c then(tl a L.us (L.wds.getD (dN L.c here) [])).getD (iO L p) []else here
def gj(a:LN)(n:Nat)(b:List Lv)(prs:List (Nat×Nat)):Nat->List Nat
 |0=>List.range n
 |i+1=>match b[i]?,prs[i]? with
  |some L,some p=>fm a L (gj a n b prs i) p
  |_,_=>gj a n b prs i
def CT{a:LN}{n:Nat}{b:List Lv}{prs:List (Nat×Nat)}{i:Nat}{L:Lv}{p:Nat×Nat}(c:b[i]? =some L)(d:prs[i]? =some p):gj a n b prs (i+1)=fm a L (gj a n b prs i) p:=by
 show(match b[i]?,prs[i]? with|some L,some p=>fm a L (gj a n b prs i) p|_,_=>gj a n b prs i)=_;rw[c,d]
structure WOk(L:Lv)(p:Nat×Nat):Prop where
 nd:L.c.Nodup
 wl:L.wds.length=L.c.length
 g1:p.1<L.gs.length
 g2:p.2<(L.gs.getD p.1 []).length
 g3:iO L p<L.us.length
section
variable{H:Hp}{m:Ad}{ts:LN}{n:Nat}{fam:LN}{L:Lv}
def LvOk.g0(M:Mach H m ts n)(a:FamOf ts n fam)(ok:LvOk ts fam L):0<L.gs.length:=(cA.mp (ok.first M a)).1
def eW{a:LN}{k:Nat}(h:k<a.length):a[k]? =some (a.getD k []):=by rw[dI,ck h];rfl
def LvOk.wok(M:Mach H m ts n)(a:FamOf ts n fam)(ok:LvOk ts fam L){p:Nat×Nat}(po:PairOk L p):WOk L p:=by
 have pm:=ok.pm M a (cK (eW po.g));have l:(L.gs.getD p.1 []).length=L.us.length:=by rw[pm.length_eq,fV]
 refine⟨ok.p.nd a,ok.p.len,po.g,by rw[l];exact po.t,?_⟩;exact eE.mp (pm.mem_iff.mp (cK (cT (by rw[l];exact po.t))))
def LvOk.wthn_in(M:Mach H m ts n)(a:FamOf ts n fam)(ok:LvOk ts fam L){here:cf}(c:here∈L.c){p:Nat×Nat}(po:PairOk L p):fm ts L here p∈gL fam here:=by
 have w:=ok.wok M a po;obtain⟨l,e⟩:=io c;unfold fm tl;rw[wB c,dI,cF];have d:L.us[iO L p]? =some (L.us.getD (iO L p) []):=eW w.g3;rw[d];have h:L.wds[dN L.c here]? =some (L.wds.getD (dN L.c here) []):=eW (by rw[w.wl];exact l);obtain⟨b,i⟩:=ok.p.bij M a e h;have g:=cK d;rw[ok.p.tl]at g;have:=qm M a (a.inU M (dq.mp (fZ ok.p.cls).2.2.1).1) i g;rw[<-ok.p.tl]at this;exact this
def LvOk.wthn_fam(M:Mach H m ts n)(a:FamOf ts n fam)(ok:LvOk ts fam L){here:cf}(b:here∈fam){p:Nat×Nat}(po:PairOk L p):fm ts L here p∈fam:=by
 by_cases h:here∈L.c
 .exact((lE M a).mp (ok.wthn_in M a h po)).1
 .unfold fm;rw[wA h];exact b
def zi(a:FamOf ts n fam):List.range n∈fam:=(a.mem _).mpr (.inl ⟨[],(λ_ h=>nomatch h),rfl⟩)
def RowIn.po(M:Mach H m ts n){a:List Lv}(R:RowOf ts n fam a){row:cf}(d:RowIn a row)(i:Nat)(L:Lv)(p:Nat×Nat)(b:a[i]? =some L)(c:(gK a row)[i]? =some p):PairOk L p:=by
 rw[zq b]at c;cases c;exact d.pair b ((R.ok L (cK b)).g0 M R.ff)
end
def DT(C:Ad):Sp:=λd H Q _=> ∃(q h b m:Ad) (c:LN) (L:Lv) (here:cf) (p:Nat×Nat),d=[.ref q,.ref h,.ref b]/\StepAt C H q m c L/\H h=some (.tup (here.map nv))/\H b=some (.tup [nv p.1,nv p.2])/\WOk L p/\
 ∀a,H a=some (.tup ((fm c L here p).map nv))->Q (.ref a) H
def Hi{C:Ad}(F:Fun K "within" "LevelParts.within" zf f fd)(u_LevelParts:OwnC K C ["machine","group","tiles","turns","tile_count"]):FnOk P w K mg base cQ 1 f fd ["self","here","pair"] (DT C):=by
 refine F.ok K7 (λY H Q E h=>?_) (λaa A x s H Y Q E G h=>?_)
 .obtain⟨q,h,y,m,z,L,here,p,rfl,_⟩:=h;rfl
 obtain⟨q,h,y,m,z,L,here,p,rfl,⟨l,g,t,u,gr,n,h2,I,⟨as,J,t2,t3⟩,_⟩,B,M,a,k⟩:=h;have hu:=G.units;have d:=iG G;refine⟨_,(cH (fS (qq (yJ d (pv 1) (fQ (pv 0) rfl))) (cM (dr (pv 1))) gn) (cM (dr (cY fe (mS d (fQ (pv 0) rfl) (pv 1) (λ_ _=>rfl)) (cY dO (cY fe (fQ (pv 0) rfl) (cY dO (pv 2) cS (λ_ _=>rfl)) (λ_ _=>rfl)) (cY dO (pv 2) cS (λ_ _=>rfl)) (λ_ _=>rfl)) (λ_ _=>rfl))))),?_⟩;by_cases c:here∈L.c
 .obtain⟨li,ei⟩:=io c;obtain⟨b,N⟩: ∃b,as[dN L.c here]? =some b:=⟨_,ck (by lia)⟩;have ew:L.wds[dN L.c here]? =some (L.wds.getD (dN L.c here) []):=eW (by rw[a.wl];exact li);obtain⟨es,e1,O⟩:=t3 _ _ _ ew N;have o:=sM a.nd J B ei N;have lg:=I.len;obtain⟨e,i⟩: ∃e,gr[p.1]? =some e:=⟨_,ck (by rw[lg];exact a.g1)⟩;have D:=I.is p.1 e _ i (eW a.g1);have T:(tl z L.us (L.wds.getD (dN L.c here) []))[iO L p]? =some (fm z L here p):=by
   unfold fm;rw[wB c];exact eW (by unfold tl;rw[List.length_map];exact a.g3)
  obtain⟨r,U⟩: ∃r,es[iO L p]? =some r:=⟨_,ck (by rw[O.len];exact(cA.mp T).1)⟩;refine⟨_,rfl,_,rfl,q,C,l,_,_,rfl,n,u_LevelParts.cl,u_LevelParts.no,m6,t,_,rfl,o,_,rfl,dU ?_⟩;refine⟨_,rfl,q,C,l,_,_,rfl,n,u_LevelParts.cl,u_LevelParts.no,m6,_,rfl,t,_,rfl,o,_,rfl,q,C,l,_,_,rfl,n,u_LevelParts.cl,u_LevelParts.no,oh,_,rfl,y,_,_,_,rfl,rfl,SqT.of M,rfl,g,_,_,_,rfl,rfl,SqL.of h2,fF (j:=p.1) (v:= .ref e) (by rw[cF,i];rfl),_,rfl,y,_,_,_,rfl,rfl,SqT.of M,rfl,e,_,_,_,rfl,rfl,SqT.of D,ki a.g2,b,_,_,_,rfl,rfl,SqL.of e1,fF (j:=iO L p) (v:= .ref r) (by rw[cF,U];rfl),?_⟩;exact k r (O.is _ r _ U T)
 .have o:=z7 J B c;refine⟨_,rfl,_,rfl,q,C,l,_,_,rfl,n,u_LevelParts.cl,u_LevelParts.no,m6,t,_,rfl,o,_,rfl,eY ?_⟩;refine⟨_,rfl,k h ?_⟩;unfold fm;rw[wA c];exact B
structure PairsAt(H:Hp)(as:As)(ps:List (Nat×Nat)):Prop where
 len:as.length=ps.length
 is: ∀(i:Nat) (a:Ad) (p:Nat×Nat),as[i]? =some a->ps[i]? =some p->H a=some (.tup [nv p.1,nv p.2])
def PairsAt.st{f:HO->Bool}{H b:Hp}{c:As}{d:List (Nat×Nat)}(h:PairsAt H c d)(g:Stays f H b)(e: ∀xs,f (.tup xs)=false:=by intro;rfl):PairsAt b c d:=⟨h.len,λi a p j k=>g _ _ (e _) (h.is i a p j k)⟩
def PairsAt.snoc{H:Hp}{k:As}{j:List (Nat×Nat)}{a:Ad}{p:Nat×Nat}(h:PairsAt H k j)(e:H a=some (.tup [nv p.1,nv p.2])):PairsAt H (k++[a]) (j++[p]):=by
 refine⟨by rw[dz,dz,h.len];rfl,λi d b g c=>?_⟩;refine mo (P:=λi d=> ∀b,(j++[p])[i]? =some b->H d=some (.tup [nv b.1,nv b.2])) (λi d g b c=>?_) (λb c=>?_) i d g b c
 .rw[eV (by rw[<-h.len];exact(cA.mp g).1)]at c;exact h.is i d b g c
 .rw[h.len,eU (cD _),mF]at c;cases c;exact e
def Ea(g CR:Ad):Sp:=λh H Q _=> ∃(p d m:Ad) (i:LN) (n:Nat) (b:List Lv) (a:cf),h=[.ref p,.ref d]/\RowAt g CR H p m i n b/\b.length<=32/\H d=some (.tup (a.map nv))/\a.length=(dY b).length/\
 ∀l e c,Same H c->H l=none->c l=some (.lst (e.map .ref))->PairsAt c e (gK b a)->Q (.ref l) c
def HM{N CR:Ad}(F:Fun K "paired" "Row.paired" Ai f fd)(u_LevelParts:OwnC K N ["machine","group","tiles","turns","tile_count"])(u_Row:OwnC K CR ["rooms","steps"])(jE:e7 P w K mg base N "is_turning" 1 ["self"] (yi N)):FnOk P w K mg base cQ 3 f fd ["self","row"] (Ea N CR):=by
 refine F.ok jR (λvs H Q E h=>?_) (λag A aa s H vs Q E hr h=>?_)
 .obtain⟨p,D,m,ts,n,j,d,rfl,_⟩:=h;rfl
 obtain⟨p,D,m,ts,n,j,d,rfl,⟨dx,r,st,qs,h1,h2,h3,S⟩,few,G,lr,q⟩:=h;have hu:=hr.units;refine⟨_,(cH (df (i:=2) jR.nd rfl (Or.inl rfl) (fX cz)) (cH (df (i:=3) jR.nd rfl (Or.inl rfl) cS) (cH (hR gT rfl (gF (fQ (pv 0) rfl)) (fh (i:=4) jR.nd rfl (Or.inl rfl)) (cH (df (i:=5) jR.nd rfl (Or.inl rfl) cS) (cH (AH (fS (l7 (uw (pv 4) u_LevelParts.cl jE hr.m)) (cH (df (i:=5) jR.nd rfl (Or.inl rfl) (cY dO (pv 1) (pv 3) (λ_ _=>rfl))) (cM (BH (i:=3) jR.nd rfl (Or.inl rfl) cS Ez))) gn)) (cH (jb (iN iF lA ku lI (pv 2) (cE (jg (c7 (cq (pv 5) (cq (cY dO (pv 1) (pv 3) (λ_ _=>rfl)) c8 rfl) rfl))) cz))) (cM (BH (i:=3) jR.nd rfl (Or.inl rfl) cS Ez)))))) (cM (dr (pv 2)))))),?_⟩;refine⟨by show 0<=sizeLine;decide,λB x=>?_⟩;have k0:=cB x (.lst []);have lq:=S.len
 let Pv:Nat->L2.St->Hp->Prop:=λi O o=>Same H o/\ ∃(y:As) (o4 o5:Option V),o B=some (.lst (y.map .ref))/\PairsAt o y (kv j d i)/\O=[some (.ref p),some (.ref D),some (.ref B),some (nv (gG j i)),o4,o5]
 refine⟨_,rfl,p,CR,dx,_,_,rfl,k0 _ _ h1,u_Row.cl,u_Row.no,xH,st,rfl,⟨_,SqL.of (k0 _ _ h3)⟩,ni (xs:=qs.map .ref) Pv ⟨k0,[],_,_,cn,⟨rfl,λi a p e=>by simp at e⟩,rfl⟩ (λi O o _ p=>SqL.of (p.1 _ _ h3)) (λi v O H1 hv pv=>?_) (λO H1 pv=>?_)⟩
 .obtain⟨C,y,o4,o5,I,l,rfl⟩:=pv;rw[cF]at hv;obtain⟨b,eb,rfl⟩:=dR.mp hv;have li:=(cA.mp eb).1;obtain⟨L,T⟩: ∃L,j[i]? =some L:=⟨_,ck (by lia)⟩;have SA:=(S.is i b L eb T).keeps C.keeps;obtain⟨ab,g,t,u,gr,s1,s2,s3,s4⟩:=id SA;have pl:=CC T;have pn:=EF T;have la:=l.len;rw[rh (by lia)]at la;refine⟨λJ o=>o=H1/\J=[some (.ref p),some (.ref D),some (.ref B),some (nv (gG j i+if 1<L.gs.length then 1 else 0)),some (.ref b),some (nv (fg j d i L).1)],⟨_,rfl,b,ab,_,rfl,s1,(by kernel_rfl),b,m,ts,L,rfl,SA,_,rfl,lR (λc=>?_) (λc=>?_)⟩,λJ o z=>?_⟩
  .have M:1<L.gs.length:=gE c;rw[wB M]at pl⊢;refine⟨_,rfl,_,rfl,D,_,_,_,rfl,rfl,SqT.of (C _ _ G),ki (k:=gG j i) (by lia),?_⟩;unfold fg;rw[wB M];exact⟨_,rfl,_,_,rfl,rfl,rfl,rfl⟩
  .have M: ¬1<L.gs.length:=Aa (uc.mpr c);rw[wA M]at pl⊢;unfold fg;rw[wA M];exact⟨rfl,rfl⟩
  .obtain⟨rfl,rfl⟩:=z;have ae:gG j i+(if 1<L.gs.length then 1 else 0)<d.length:=by rw[lr];exact pl
   refine⟨_,rfl,.inl ⟨rfl,_,SqL.of I⟩,_,rfl,_,rfl,_,rfl,D,_,_,_,rfl,rfl,SqT.of (C _ _ G),ki ae,by show 2<=sizeLine;decide,λU af=>?_⟩;have e2:(fg j d i L).2=d.getD (gG j i+if 1<L.gs.length then 1 else 0) 0:=by
    unfold fg;by_cases c:1<L.gs.length
    .rw[wB c,wB c]
    .rw[wA c,wA c];rfl
   rw[<-e2];have Y:=cB af (.tup [nv (fg j d i L).1,nv (fg j d i L).2]);refine⟨B,_,_,rfl,rfl,Y _ _ I,by rw[cj,db];lia,_,rfl,_,_,rfl,rfl,?_⟩;have lo:uq (cg o U (.tup [nv (fg j d i L).1,nv (fg j d i L).2])) (cg (cg o U (.tup [nv (fg j d i L).1,nv (fg j d i L).2])) B (.lst (y.map V.ref++[.ref U]))):=Stays.offL (Y _ _ I);refine⟨gZ (C.trans Y) x,y++[U],some (.ref b),some (nv (fg j d i L).1),by rw[cn,dP];rfl,?_,?_⟩
   .rw[zT T];exact((l.st (jd Y)).st lo).snoc (lo.a cn)
   .rw[pn];by_cases c:1<L.gs.length
    .rw[wB c,wB c];rfl
    .rw[wA c,wA c];rfl
 .obtain⟨C,y,o4,o5,I,l,rfl⟩:=pv;rw[cj,lq]at l;exact⟨_,rfl,q B y H1 C x I l⟩
def px(a:List Lv)(i:Nat)(x:cf):Prop:= ∀(j:Nat) (L:Lv),j<i->a[j]? =some L->x∉L.c
section
variable{H:Hp}{m:Ad}{ts:LN}{n:Nat}{fam:LN}{Ls:List Lv}
def RowOf.due(M:Mach H m ts n)(R:RowOf ts n fam Ls){i:Nat}{L:Lv}(e:Ls[i]? =some L):Due ts ((Ls.map (·.c)).drop i) L.c:=by
 refine GP R.od (DH ts _) (GN R.ff) (λc a d b r=>?_) i L.c (by rw[cF,e];rfl);exact vb M (R.ff.inU M (dq.mp (fZ a).2.2.1).1) r
def RowOf.in_drop{i j:Nat}{L:Lv}(h:i<=j)(e:Ls[j]? =some L):L.c∈(Ls.map (·.c)).drop i:=by
 refine cK (i:=j-i) ?_;rw[uB,cF,show i+(j-i)=j by lia,e];rfl
def RowOf.len_le(M:Mach H m ts n)(R:RowOf ts n fam Ls){i j:Nat}{L a:Lv}(h:i<=j)(e:Ls[i]? =some L)(b:Ls[j]? =some a){x y:cf}(c:x∈L.c)(d:y∈a.c):y.length<=x.length:=by
 rw[CM M R.ff (R.ok L (cK e)).p.cls c,CM M R.ff (R.ok a (cK b)).p.cls d];exact(R.due M e).most _ (RowOf.in_drop h b)
def DD(M:Mach H m ts n)(R:RowOf ts n fam Ls){i:Nat}{L:Lv}(e:Ls[i]? =some L){here:cf}(g:here∈fam)(h:px Ls i here){p:Nat×Nat}(po:PairOk L p):px Ls (i+1) (fm ts L here p):=by
 by_cases c:here∈L.c
 .have ok:=R.ok L (cK e);obtain⟨k,l,o,_⟩:=(lE M R.ff).mp (ok.wthn_in M R.ff c po);have lt:=KG (R.ff.inU M g) (R.ff.inU M k) o l;intro j d q a b;have:=R.len_le M (show j<=i by lia) a e b c;lia
 .have r:fm ts L here p=here:=by unfold fm;rw[wA c]
  rw[r];intro j d q a b;by_cases z:j=i
  .subst z;rw[e]at a;cases a;exact c b
  .exact h j d (by lia) a b
def eG(ts:LN)(L:Lv)(here:cf):LN:=tl ts L.us (L.wds.getD (dN L.c here) [])
def LvOk.tls_iff(M:Mach H m ts n)(a:FamOf ts n fam){L:Lv}(ok:LvOk ts fam L){here:cf}(c:here∈L.c)(y:cf):y∈eG ts L here↔y∈gL fam here:=by
 obtain⟨b,d⟩:=io c;exact JS M a ok.p d (eW (by rw[ok.p.len];exact b)) y
def ze{L:Lv}{here:cf}(c:here∈L.c)(p:Nat×Nat):fm ts L here p=(eG ts L here).getD (iO L p) []:=by
 unfold fm;rw[wB c];rfl
def rj{L:Lv}{here:cf}:(eG ts L here).length=L.us.length:=by unfold eG tl;rw[List.length_map]
def hY(b:LN)(a:cf):Nat:=(b.map (sub a)).idxOf true
def EO{b:LN}{a:cf}(h: ∃t∈b,sub a t=true):true∈b.map (sub a)/\hY b a<b.length/\sub a (b.getD (hY b a) [])=true:=by
 obtain⟨t,ht,st⟩:=h;have e:true∈b.map (sub a):=cO.mpr ⟨t,ht,st⟩;have c:hY b a<(b.map (sub a)).length:=sO.mpr e;have d:hY b a<b.length:=by rw[cj]at c;exact c
 have z:(b.map (sub a))[hY b a]? =some true:=by rw[ck c];exact dn some (wM c)
 refine⟨e,d,?_⟩;rw[cF,ck d]at z;rw[dI,ck d];exact fH z
def LvOk.has_tile(M:Mach H m ts n)(a:FamOf ts n fam){L:Lv}(ok:LvOk ts fam L){here u:cf}(c:here∈L.c)(b:u∈fam)(d:u≠here)(s:sub u here=true): ∃t∈eG ts L here,sub u t=true:=by
 obtain⟨t,ht,st⟩:=(nN M a here).all u b d s;exact⟨t,(ok.tls_iff M a c t).mpr ht,st⟩
def LvOk.big_len{L:Lv}(ok:LvOk ts fam L){here:cf}(c:here∈L.c):1<here.length/\here∈fam:=by
 obtain⟨a,b⟩:=dq.mp ((fZ ok.p.cls).2.2.2 here c).1;exact⟨gE b,a⟩
end
def A9{H:Hp}{m:Ad}{a:LN}{n:Nat}(M:Mach H m a n){x:cf}(h:x∈dF n):x.length<=5:=dt (oN M.n5 h) M.n5
def FI(C:Ad):Sp:=λe H Q _=> ∃(q h c m:Ad) (b:LN) (L:Lv) (here a:cf),e=[.ref q,.ref h,.ref c]/\StepAt C H q m b L/\H h=some (.tup (here.map nv))/\H c=some (.tup (a.map nv))/\here∈L.c/\L.c.Nodup/\L.wds.length=L.c.length/\L.us.length<=32/\a.length<=5/\(∃t∈eG b L here,sub a t=true)/\
 ∀d,Same H d->Q (nv (hY (eG b L here) a)) d
def Ky{C:Ad}(F:Fun K "least_tile" "LevelParts.least_tile" va f fd)(u_LevelParts:OwnC K C ["machine","group","tiles","turns","tile_count"])(U:dw P w K mg base "lies_in" 1 ["one","other"] vv):FnOk P w K mg base cQ 3 f fd ["self","here","rooms"] (FI C):=by
 refine F.ok GX (λY H Q E h=>?_) (λaa A o s H Y Q E r h=>?_)
 .obtain⟨q,h,B,m,e,L,here,a,rfl,_⟩:=h;rfl
 obtain⟨q,h,B,m,e,L,here,a,rfl,⟨dx,g,t,u,gr,h1,h2,h3,⟨as,t1,t2,t3⟩,_⟩,hh,x,c,nd,wl,few,r5,ex,k⟩:=h;have hu:=r.units;have y:=iG r;refine⟨_,(cM (dr (iN iF v5 vZ Ii (gh (CompSc.to (N:=["self","here","rooms"]) (osc:=cL va) (vs:=["part"]) {}) rfl rfl (gF (mS y (fQ (pv 0) rfl) (pv 1) (λ_ _=>rfl))) (λ_ _ _ _=>gR) (λ_ _ _ _=>(dB U r.m rfl (c7 (cq (pv 3) (cq (pv 0) c8 rfl) rfl))))) (cE pU cz)))),?_⟩;obtain⟨li,ei⟩:=io c;obtain⟨b,D⟩: ∃b,as[dN L.c here]? =some b:=⟨_,ck (by lia)⟩;have ew:L.wds[dN L.c here]? =some (L.wds.getD (dN L.c here) []):=eW (by rw[wl];exact li);obtain⟨G,I,J⟩:=t3 _ _ _ ew D;have dg:=sM nd t1 hh ei D;have le:=J.len;have lt:(eG e L here).length=L.us.length:=rj;have j:G.length=L.us.length:=by rw[le];exact lt
 refine⟨_,rfl,q,C,dx,_,_,rfl,h1,u_LevelParts.cl,u_LevelParts.no,m6,_,rfl,t,_,rfl,dg,b,rfl,⟨_,SqL.of I⟩,jc (xs:=G.map .ref) (λi l n=>Same H n/\l=(((eG e L here).take i).map (sub a)).map V.bl) (by rw[cj];exact small (by lia)) ⟨Same.refl _,rfl⟩ (λi l n _ p=>?_) (λi v l n M p=>?_) (λl n p sg z=>?_)⟩
 .obtain⟨g,rfl⟩:=p;refine⟨SqL.of (g _ _ I),?_⟩;rw[cj,cj,eF];exact Nat.min_le_left _ _
 .obtain⟨g,rfl⟩:=p;rw[cF]at M;obtain⟨d,O,rfl⟩:=dR.mp M;obtain⟨u,T⟩: ∃u,(eG e L here)[i]? =some u:=⟨_,ck (by rw[lt,<-j];exact(cA.mp O).1)⟩;refine⟨gm,iz ⟨_,rfl,_,rfl,B,d,a,u,rfl,g _ _ x,g _ _ (J.is i d u O T),r5,λH2 g2=>⟨g.trans g2,?_⟩⟩⟩;rw[h9,T,dP,dP];rfl
 .obtain⟨g,rfl⟩:=p;rw[cj,j,<-lt,gI];obtain⟨m1,_,_⟩:=EO ex;have ks:=cB z (.lst (((eG e L here).map (sub a)).map V.bl));refine⟨.inl ⟨rfl,_,SqL.of cn⟩,sg,_,rfl,rfl,SqL.of cn,m1,k _ (g.trans ks)⟩
def gw(a:LN)(L:Lv)(here:cf)(l:Nat):cf:=(eG a L here).map λu=>dN (eG a L (cr a here l)) (cr a u l)
def eK(b:LN)(L:Lv)(here a:cf)(l:Nat):cf×Option Nat:=
 if a∈L.c then(if here∈L.c/\cr b here l=a then(gw b L here l,none)else(List.range L.us.length,some (hY (eG b L a) (cr b here l))))else(List.range L.us.length,none)
def hJ(L:Lv)(d:cf×Option Nat)(a:Nat):Nat:=L.gs.idxOf (dL (L.gs.getD a []) d.1)
def jk(L:Lv)(d:cf×Option Nat)(a b:Nat):Nat:=match d.2 with
 |none=>b
 |some j=>(L.gs.getD a []).idxOf j
def i'(L:Lv)(d:cf×Option Nat)(p:Nat×Nat):Nat×Nat:=(hJ L d p.1,jk L d p.1 p.2)
section
variable{H:Hp}{m:Ad}{ts:LN}{n:Nat}{fam:LN}{Ls:List Lv}{L:Lv}
def v7{l:Nat}(a:l<ts.length): ∀z∈[l],z<ts.length:=λz b=>by rw[cW.mp b];exact a
def LvOk.tls_nd(M:Mach H m ts n)(d:FamOf ts n fam)(ok:LvOk ts fam L){here:cf}(c:here∈L.c):(eG ts L here).Nodup:=by
 obtain⟨j,k⟩:=io c;obtain⟨p,g⟩:=ok.p.bij M d k (eW (by rw[ok.p.len];exact j));unfold eG tl;rw[List.Nodup,nJ];refine xt (λ{a b} h i l e=>l ?_) (rc M d ok.p);rw[ok.p.tl]at h i;obtain⟨o,_,q,_⟩:=(lE M d).mp h;obtain⟨r,_,s,_⟩:=(lE M d).mp i;rw[<-g.back M (d.inU M o) q,<-g.back M (d.inU M r) s,e]
def rq{here:cf}{j:Nat}{u:cf}(e:L.us[j]? =some u):(eG ts L here)[j]? =some (cV (cr ts) u (L.wds.getD (dN L.c here) [])):=by
 unfold eG tl;rw[cF,e];rfl
def LvOk.trn_eq(M:Mach H m ts n)(d:FamOf ts n fam)(ok:LvOk ts fam L){here:cf}{l:Nat}(e:cr ts here l∈L.c){a:cf}(g:ig ts L.us (L.wds.getD (dN L.c here) []) (L.wds.getD (dN L.c (cr ts here l)) []) l a):a=gw ts L here l:=by
 obtain⟨p,h⟩:=g;refine lJ λj=>?_;by_cases i:j<L.us.length
 .have b:=ck i;have c:=ck (show j<a.length by lia);obtain⟨q,k,o⟩:=h j _ _ b c;unfold gw;rw[cF,rq b,c];exact dn some (vc (ok.tls_nd M d e) (j:=a[j]) (by rw[rq k,o])).symm
 .have r:(gw ts L here l).length=L.us.length:=by unfold gw;rw[List.length_map,rj]
  rw[hG (by lia),hG (by lia)]
def LvOk.trn_by(M:Mach H m ts n)(d:FamOf ts n fam)(ok:LvOk ts fam L){here:cf}{l:Nat}(e:l<ts.length)(g:here∈L.c)(h:cr ts here l∈L.c):ig ts L.us (L.wds.getD (dN L.c here) []) (L.wds.getD (dN L.c (cr ts here l)) []) l (gw ts L here l):=by
 obtain⟨i,k⟩:=io g;obtain⟨o,p⟩:=io h;have q:=eW (show dN L.c here<L.wds.length by rw[ok.p.len];exact i);have r:=eW (show dN L.c (cr ts here l)<L.wds.length by rw[ok.p.len];exact o);refine⟨by unfold gw;rw[List.length_map,rj],λj u s c a=>?_⟩;unfold gw at a;rw[cF,rq c]at a;have a:dN (eG ts L (cr ts here l)) (cr ts (cV (cr ts) u (L.wds.getD (dN L.c here) [])) l)=s:=fH a;have t:cr ts (cV (cr ts) u (L.wds.getD (dN L.c here) [])) l∈eG ts L (cr ts here l):=Ec M d ok.p k q e p r (cK c);obtain⟨z,b⟩:=io t;rw[a]at b;unfold eG tl at b;rw[cF]at b;obtain⟨v,x,y⟩:=dR.mp b;exact⟨v,x,y⟩
def LvOk.trn_gs(M:Mach H m ts n)(d:FamOf ts n fam)(ok:LvOk ts fam L){here:cf}{l:Nat}(a:l<ts.length)(b:here∈L.c)(c:cr ts here l∈L.c){g:cf}(e:g∈L.gs):dL g (gw ts L here l)∈L.gs:=by
 obtain⟨h,i⟩:=io b;obtain⟨j,k⟩:=io c;exact(ok.g.mem _).mpr (.step ((ok.g.mem g).mp e) ⟨_,l,_,here,_,_,i,eW (by rw[ok.p.len];exact h),a,k,eW (by rw[ok.p.len];exact j),ok.trn_by M d a b c⟩)
def Dg(M:Mach H m ts n)(a:FamOf ts n fam){x:cf}(b:x∈fam){l:Nat}(c:l<ts.length):cr ts x l∈fam:=ym M a (w:=[l]) b (v7 c)
def wr{a:LN}{g:cf}(h:g∈a):a.idxOf g<a.length/\a.getD (a.idxOf g) []=g:=by
 have l:=sO.mpr h;refine⟨l,?_⟩;rw[dI,ck l];exact wM l
def GC{a:cf}{g:Nat}(h:g∈a):a.idxOf g<a.length/\a.getD (a.idxOf g) 0=g:=by
 have l:=sO.mpr h;refine⟨l,?_⟩;rw[dI,ck l];exact wM l
def LvOk.still(M:Mach H m ts n)(b:FamOf ts n fam)(ok:LvOk ts fam L){a:Nat}(h:a<L.gs.length):dL (L.gs.getD a []) (List.range L.us.length)=L.gs.getD a []:=HG λr c=>eE.mp ((ok.pm M b (cK (eW h))).mem_iff.mp c)
def LvOk.idx_still(M:Mach H m ts n)(b:FamOf ts n fam)(ok:LvOk ts fam L){a:Nat}(h:a<L.gs.length):L.gs.idxOf (dL (L.gs.getD a []) (List.range L.us.length))=a:=by
 rw[ok.still M b h];obtain⟨l,e⟩:=wr (cK (eW h));exact(g7 l ok.nd).mp ((eW l).trans (by rw[e];exact(eW h).symm))
def Go(M:Mach H m ts n)(R:RowOf ts n fam Ls){i:Nat}(e:Ls[i]? =some L){here:cf}{l:Nat}(q:l<ts.length)(g:here∈fam)(r:px Ls i here)(h:cr ts here l∈L.c):here∈L.c:=by
 have ok:=R.ok L (cK e);have k:Rch ts here (cr ts here l):=⟨[l],v7 q,rfl⟩;have x:=vb M (R.ff.inU M g) (cy.mpr k);have y:=(ok.big_len h).1;obtain⟨s,a,b⟩:=Hj (ts:=ts) (dq.mpr ⟨g,dD (show 1<here.length by lia)⟩);obtain⟨c,t,rfl⟩:=cO.mp (EJ R.od s a);obtain⟨j,o⟩:=fi.mp t;by_cases d:j<i
 .exact wC b (r j c d o)
 .by_cases p:c.c=L.c
  .rw[<-p];exact b
  .have z:=(R.due M e).free c.c (RowOf.in_drop (by lia) o) p;have u:=((fZ a).2.2.2 here b).2.1;have v:=((fZ ok.p.cls).2.2.2 _ h).2.2;rw[cy.mpr ((u.trans k).trans v)]at z;cases z
def A1(M:Mach H m ts n)(R:RowOf ts n fam Ls){i:Nat}(e:Ls[i]? =some L){here a:cf}{l:Nat}(b:l<ts.length)(c:here∈fam)(g:px Ls i here)(s:sub (cr ts here l) a=true)(d:a∈L.c)(no: ¬(here∈L.c/\cr ts here l=a)): ∃t∈eG ts L a,sub (cr ts here l) t=true:=by
 refine(R.ok L (cK e)).has_tile M R.ff d (Dg M R.ff c b) (λz=>no ⟨?_,z⟩) s;exact Go M R e b c g (by rw[z];exact d)
def LvOk.wthn_sub(M:Mach H m ts n)(a:FamOf ts n fam)(ok:LvOk ts fam L){here:cf}{p:Nat×Nat}(po:PairOk L p):sub (fm ts L here p) here=true:=by
 by_cases c:here∈L.c
 .exact((lE M a).mp (ok.wthn_in M a c po)).2.2.1
 .unfold fm;rw[wA c];exact cJ.mpr λr b=>b
def wI(M:Mach H m ts n)(R:RowOf ts n fam Ls){i:Nat}(e:Ls[i]? =some L){here a:cf}{l:Nat}{p:Nat×Nat}(po:PairOk L p)(k:l<ts.length)(q:here∈fam)(B:px Ls i here)(tf:a∈fam)(s:sub (cr ts here l) a=true):
  PairOk L (i' L (eK ts L here a l) p)/\sub (cr ts (fm ts L here p) l) (fm ts L a (i' L (eK ts L here a l) p))=true/\dL (L.gs.getD p.1 []) (eK ts L here a l).1∈L.gs/\(∀j,(eK ts L here a l).2=some j->j∈L.gs.getD p.1 []):=by
 have ok:=R.ok L (cK e);have C:=eW po.g;have mg:=cK C;have pm:=ok.pm M R.ff mg;have gl:(L.gs.getD p.1 []).length=L.us.length:=by rw[pm.length_eq,fV]
 have D:=ok.wthn_fam M R.ff q po;have mono:sub (cr ts (fm ts L here p) l) (cr ts here l)=true:=sZ M (R.ff.inU M D) (R.ff.inU M q) (v7 k) (ok.wthn_sub M R.ff po);by_cases b:a∈L.c
 .by_cases c:here∈L.c/\cr ts here l=a
  .obtain⟨c,t⟩:=c;have g:eK ts L here a l=(gw ts L here l,none):=by unfold eK;rw[wB b,wB ⟨c,t⟩]
   rw[g];have h:cr ts here l∈L.c:=by rw[t];exact b
   have u:=ok.trn_gs M R.ff k c h mg;obtain⟨E,G⟩:=wr u;refine⟨⟨E,po.t⟩,?_,u,λj z=>nomatch z⟩;have d:iO L (i' L (gw ts L here l,none) p)=(gw ts L here l).getD (iO L p) 0:=by
    show(L.gs.getD (L.gs.idxOf (dL (L.gs.getD p.1 []) (gw ts L here l))) []).getD p.2 0=_;rw[G];unfold dL;rw[dI,cF,cT (by rw[gl];exact po.t)];rfl
   have w:=ok.wok M R.ff po;obtain⟨I,J⟩:=ok.trn_by M R.ff k c h;have v:=eW w.g3;have N:(gw ts L here l)[iO L p]? =some ((gw ts L here l).getD (iO L p) 0):=cT (by rw[I];exact w.g3);obtain⟨O,Q,T⟩:=J _ _ _ v N;have U:fm ts L here p=cV (cr ts) (L.us.getD (iO L p) []) (L.wds.getD (dN L.c here) []):=by rw[ze c,dI,rq v];rfl
   have Y:fm ts L a (i' L (gw ts L here l,none) p)=cV (cr ts) O (L.wds.getD (dN L.c (cr ts here l)) []):=by rw[ze b,d,dI,rq Q,t];rfl
   rw[U,Y,T];exact cJ.mpr λr hr=>hr
  .have g:eK ts L here a l=(List.range L.us.length,some (hY (eG ts L a) (cr ts here l))):=by unfold eK;rw[wB b,wA c]
   rw[g];obtain⟨_,x,st⟩:=EO (A1 M R e k q B s b c);rw[rj]at x;have y:hY (eG ts L a) (cr ts here l)∈L.gs.getD p.1 []:=pm.mem_iff.mpr (eE.mpr x);obtain⟨A,j2⟩:=GC y;have o:hJ L (List.range L.us.length,some (hY (eG ts L a) (cr ts here l))) p.1=p.1:=ok.idx_still M R.ff po.g;refine⟨⟨by show hJ L _ p.1<_;rw[o];exact po.g,by rw[gl]at A;exact A⟩,?_,by show dL _ (List.range L.us.length)∈_;rw[ok.still M R.ff po.g];exact mg,λj z=>by cases z;exact y⟩;have d:iO L (i' L (List.range L.us.length,some (hY (eG ts L a) (cr ts here l))) p)=hY (eG ts L a) (cr ts here l):=by
    show(L.gs.getD (hJ L _ p.1) []).getD ((L.gs.getD p.1 []).idxOf _) 0=_;rw[o,j2]
   rw[ze b,d];exact Af mono st
 .have g:eK ts L here a l=(List.range L.us.length,none):=by unfold eK;rw[wA b]
  rw[g];have o:hJ L (List.range L.us.length,none) p.1=p.1:=ok.idx_still M R.ff po.g;have en:i' L (List.range L.us.length,none) p=p:=Prod.ext o rfl;rw[en];refine⟨po,?_,by show dL _ (List.range L.us.length)∈_;rw[ok.still M R.ff po.g];exact mg,λj z=>nomatch z⟩;have ew:fm ts L a p=a:=by unfold fm;rw[wA b]
  rw[ew];exact Af mono s
end
def gM(a:LN)(n:Nat)(b:List Lv)(prs:List (Nat×Nat))(l:Nat):Nat->List Nat
 |0=>List.range n
 |i+1=>match b[i]?,prs[i]? with
  |some L,some p=>fm a L (gM a n b prs l i) (i' L (eK a L (gj a n b prs i) (gM a n b prs l i) l) p)
  |_,_=>gM a n b prs l i
def oU(a:LN)(n:Nat)(b:List Lv)(prs:List (Nat×Nat))(l:Nat):Nat->List (Nat×Nat)
 |0=>[]
 |i+1=>oU a n b prs l i++(match b[i]?,prs[i]? with
  |some L,some p=>[i' L (eK a L (gj a n b prs i) (gM a n b prs l i) l) p]
  |_,_=>[])
section
variable{H:Hp}{m:Ad}{ts:LN}{n:Nat}{fam:LN}{Ls:List Lv}{prs:List (Nat×Nat)}{l i:Nat}{L:Lv}{p:Nat×Nat}
def Do(a:Ls[i]? =some L)(b:prs[i]? =some p):gM ts n Ls prs l (i+1)=fm ts L (gM ts n Ls prs l i) (i' L (eK ts L (gj ts n Ls prs i) (gM ts n Ls prs l i) l) p):=by
 show(match Ls[i]?,prs[i]? with|some L,some p=>_|_,_=>_)=_;rw[a,b]
def Eh(a:Ls[i]? =some L)(b:prs[i]? =some p):oU ts n Ls prs l (i+1)=oU ts n Ls prs l i++[i' L (eK ts L (gj ts n Ls prs i) (gM ts n Ls prs l i) l) p]:=by
 show oU ts n Ls prs l i++_=_;rw[a,b]
theorem CF(a:prs.length=Ls.length): ∀{i:Nat},i<=Ls.length->(oU ts n Ls prs l i).length=i
 |0,_=>rfl
 |i+1,h=>by
  rw[Eh (ck h) (ck (show i<prs.length by lia)),dz,CF a (fj h)];rfl
structure Both(ts fam:LN)(Ls:List Lv)(l i:Nat)(here there:cf):Prop where
 hf:here∈fam
 hp:px Ls i here
 tf:there∈fam
 tp:px Ls i there
 s:sub (cr ts here l) there=true
theorem xi(M:Mach H m ts n)(R:RowOf ts n fam Ls)(o:prs.length=Ls.length)(po: ∀(i:Nat) (L:Lv) (p:Nat×Nat),Ls[i]? =some L->prs[i]? =some p->PairOk L p)(c:l<ts.length): ∀i,i<=Ls.length->Both ts fam Ls l i (gj ts n Ls prs i) (gM ts n Ls prs l i)
 |0,_=>by
  refine⟨zi R.ff,λj L d=>wC d (py j),zi R.ff,λj L d=>wC d (py j),?_⟩;exact cJ.mpr λr q=>eE.mpr ((cm.mp (R.ff.inU M (Dg M R.ff (zi R.ff) c))).2 r q)
 |i+1,h=>by
  have b:=xi M R o po c i (fj h);have a:=ck (show i<Ls.length from h);have e:=ck (show i<prs.length by lia);have g:=po i _ _ a e;obtain⟨k,s,_,_⟩:=wI M R a g c b.hf b.hp b.tf b.s;have ok:=R.ok _ (cK a);rw[CT a e,Do a e];exact⟨ok.wthn_fam M R.ff b.hf g,DD M R a b.hf b.hp g,ok.wthn_fam M R.ff b.tf k,DD M R a b.tf b.tp k,s⟩
end
def zN(x:cf):Zs:=x.map λr=>((r:Nat):Int)
def J'{x:cf}{i:Int}:i∈zN x↔ ∃r∈x,((r:Nat):Int)=i:=cO
def oP{x:cf}{r:Nat}:((r:Nat):Int)∈zN x↔r∈x:=by
 rw[J'];exact⟨λ⟨a,h,e⟩=>by rwa[<-ti e],λh=>⟨r,h,rfl⟩⟩
theorem FF{r:Nat}: ∀{x:cf},(zN x).idxOf ((r:Nat):Int)=x.idxOf r
 | []=>rfl
 | a::x=>by
  show(((a:Nat):Int)::zN x).idxOf ((r:Nat):Int)=_;rw[List.idxOf_cons,List.idxOf_cons,FF];have e:(((a:Nat):Int)==((r:Nat):Int))=(a==r):=by
   rw[iw,lN,lN];exact⟨λh=>by lia,λh=>by lia⟩
  rw[e]
def DeedAt(H:Hp)(r:Ad)(d:cf×Option Nat):Prop:= ∃(a:Ad) (v:V),H r=some (.tup [.ref a,v])/\H a=some (.tup (d.1.map nv))/\v=(match d.2 with|none=> .non|some j=>nv j)
def DeedAt.same{H b:Hp}{r:Ad}{d:cf×Option Nat}(h:DeedAt H r d)(g:Same H b):DeedAt b r d:=let⟨a,v,c,e,i⟩:=h;⟨a,v,g _ _ c,g _ _ e,i⟩
def zp(C:Ad)(K:W.Frag):Sp:=λe H Q _=> ∃(q h t m:Ad) (b:LN) (n:Nat) (c:LN) (L:Lv) (here a:cf) (l:Nat),e=[.ref q,.ref h,.ref t,nv l]/\StepAt C H q m b L/\Mach H m b n/\FamOf b n c/\LvOk b c L/\H h=some (.tup (here.map nv))/\H t=some (.tup (a.map nv))/\here∈c/\l<b.length/\(a∈L.c-> ¬(here∈L.c/\cr b here l=a)-> ∃t∈eG b L a,sub (cr b here l) t=true)/\
 ∀r d,Same H d->DeedAt d r (eK b L here a l)->Q (.ref r) d
def yG(C:Ad):Sp:=λe H Q _=> ∃(q b m:Ad) (g:LN) (L:Lv) (d:cf×Option Nat) (a:Nat),e=[.ref q,.ref b,nv a]/\StepAt C H q m g L/\DeedAt H b d/\a<L.gs.length/\(∀x∈L.gs.getD a [],x<d.1.length)/\(L.gs.getD a []).length<=1000/\dL (L.gs.getD a []) d.1∈L.gs/\ ∀c,Same H c->Q (nv (hJ L d a)) c
def yt(C:Ad):Sp:=λe H Q _=> ∃(q c m:Ad) (g:LN) (L:Lv) (d:cf×Option Nat) (a b:Nat),e=[.ref q,.ref c,nv a,nv b]/\StepAt C H q m g L/\DeedAt H c d/\a<L.gs.length/\(∀j,d.2=some j->j∈L.gs.getD a [])/\Q (nv (jk L d a b)) H
def Fn(C:Ad):Sp:=λe H Q _=> ∃(q b c m:Ad) (g:LN) (L:Lv) (d:cf×Option Nat) (p:Nat×Nat),e=[.ref q,.ref b,.ref c]/\StepAt C H q m g L/\DeedAt H b d/\H c=some (.tup [nv p.1,nv p.2])/\p.1<L.gs.length/\(∀x∈L.gs.getD p.1 [],x<d.1.length)/\(L.gs.getD p.1 []).length<=1000/\dL (L.gs.getD p.1 []) d.1∈L.gs/\(∀j,d.2=some j->j∈L.gs.getD p.1 [])/\
 ∀t a,Same H a->a t=some (.tup [nv (i' L d p).1,nv (i' L d p).2])->Q (.ref t) a
def Mn{a:LN}{g:cf}: ∀i,i<a.idxOf g->a[i]? ≠some g:=λi b e=>by
 have y:=List.not_of_lt_findIdx (p:=(· ==g)) (xs:=a) (i:=i) b;obtain⟨d,c⟩:=cA.mp e;rw[c,t9]at y;cases y
def ME{C:Ad}(F:Fun K "deed_of" "LevelParts.deed_of" yP f fd)(u_LevelParts:OwnC K C ["machine","group","tiles","turns","tile_count"])(jH:dw P w K mg base "carried" 3 ["machine","rooms","word"] (ql K))(jQ:e7 P w K mg base C "least_tile" 3 ["self","here","rooms"] (FI C)):FnOk P w K mg base cQ 5 f fd ["self","here","there","letter"] (zp C K):=by
 refine F.ok jY (λvs H Q E h=>?_) (λam A aa s H vs Q E hr h=>?_)
 .obtain⟨q,h,t,m,c,n,ab,L,here,a,l,rfl,_⟩:=h;rfl
 obtain⟨q,h,th,m,c,n,ab,L,here,a,l,rfl,SA,M,J,ok,hh,ht,hf,hl,ext,k⟩:=h;have hu:=hr.units;have B:=iG hr;obtain⟨x,g,t,u,gr,y,h2,h3,⟨as,t1,t2,t3⟩,ae,u1,u2,u3⟩:=id SA;have nd:=ok.p.nd J;have e0:=ok.first M J;obtain⟨g0,N⟩: ∃g0,gr[0]? =some g0:=⟨_,ck (by rw[h3.len];exact(cA.mp e0).1)⟩;have D:=h3.is 0 g0 _ N e0;have hU:=J.inU M hf;have x5:=A9 M hU;have xn:=(cm.mp hU).2;refine⟨_,(cH (df (i:=4) jY.nd rfl (Or.inl rfl) (cY fe (fQ (pv 0) rfl) cS (λ_ _=>rfl))) (cH (fS (qq (yJ B (pv 2) (fQ (pv 0) rfl))) (cM (dr (jg (c7 (cq (pv 4) (cq pO c8 rfl) rfl))))) gn) (cH (df (i:=5) jY.nd rfl (Or.inl rfl) (dB jH hr.m rfl (c7 (cq (fQ (pv 0) rfl) (cq (pv 1) (cq (fX (cE (pv 3) cz)) c8 rfl) rfl) rfl)))) (cH (fS (PW.pt (m9 (qq (xS B (pv 1) (fQ (pv 0) rfl))) (nr (fA (tE hu) (pv 5) (pv 2) (eI _))))) (cM (dr (jg (c7 (cq (cY fe (mS B (fQ (pv 0) rfl) (pv 1) (λ_ _=>rfl)) (pv 3) (λ_ _=>rfl)) (cq pO c8 rfl) rfl))))) gn) (cM (dr (jg (c7 (cq (pv 4) (cq (iW (pv 0) u_LevelParts.cl jQ hr.m (c7 (cq (pv 2) (cq (pv 5) c8 rfl) rfl))) c8 rfl) rfl))))))))),?_⟩;refine⟨_,rfl,q,C,x,_,_,rfl,y,u_LevelParts.cl,u_LevelParts.no,oh,g,_,_,_,rfl,rfl,SqL.of h2,(fF (j:=0) (v:= .ref g0) (by rw[cF,N];rfl):iI _ ((0:Nat):Int)=_),?_⟩;by_cases o:a∈L.c
 .obtain⟨li,ei⟩:=io o;obtain⟨b,eb⟩: ∃b,as[dN L.c a]? =some b:=⟨_,ck (by lia)⟩;refine⟨_,rfl,_,rfl,q,C,x,_,_,rfl,y,u_LevelParts.cl,u_LevelParts.no,m6,t,_,rfl,sM nd t1 ht ei eb,_,rfl,dU ?_⟩;refine⟨_,rfl,q,C,x,_,_,rfl,y,u_LevelParts.cl,u_LevelParts.no,sD,_,rfl,_,rfl,by show 1<=sizeLine;decide,λp1 af=>?_⟩;have kp:=cB af (.lst [nv l]);refine⟨m,h,p1,c,n,here,[l],rfl,M.same kp,SqT.of (kp _ _ hh),x5,xn,SqL.of cn,v7 hl,λen H2 O e2=>?_⟩;have d:=kp.trans O;have G:H2 en=some (.tup ((cr c here l).map nv)):=e2;clear e2 O kp;by_cases T:here∈L.c
  .obtain⟨lh,eh⟩:=io T;obtain⟨bh,ag⟩: ∃b,as[dN L.c here]? =some b:=⟨_,ck (by lia)⟩;refine⟨_,rfl,_,rfl,q,C,x,_,_,rfl,d _ _ y,u_LevelParts.cl,u_LevelParts.no,m6,t,_,rfl,sM nd (d _ _ t1) (d _ _ hh) eh ag,_,rfl,eY ?_⟩;refine⟨_,rfl,_,rfl,en,th,0,_,_,rfl,rfl,gW (SqT.of G),gW (SqT.of (d _ _ ht)),by decide,λcc hc=>⟨_,rfl,?_⟩⟩;have ah:cc=decide (cr c here l=a):=by
    rw[iw,um,<-dh];exact hc
   subst ah;by_cases I:cr c here l=a
   .rw[dD I];refine eY ?_;obtain⟨b2,U⟩: ∃b,ae[dN L.c here]? =some b:=⟨_,ck (by lia)⟩;have ew:=eW (show dN L.c here<L.wds.length by rw[ok.p.len];exact lh);obtain⟨vs,v1,v2,v3⟩:=u3 _ _ _ _ eh ew U;obtain⟨v,ev⟩: ∃v,vs[l]? =some v:=⟨_,ck (by lia)⟩
    rcases v3 l v ev with⟨no,_⟩|⟨pj,js,k',ai,rfl,ep,ek,aj,tb⟩
    .exact wC (by rw[I];exact o) no
    have ak:k'=dN L.c (cr c here l):=(vc nd ek).symm;subst ak;have al:ai=L.wds.getD (dN L.c (cr c here l)) []:=by rw[dI,aj];rfl
    subst al;have ej:=ok.trn_eq M J (by rw[I];exact o) tb;subst ej;refine⟨_,rfl,q,C,x,_,_,rfl,d _ _ y,u_LevelParts.cl,u_LevelParts.no,r9,_,rfl,u,_,rfl,sM nd (d _ _ u1) (d _ _ hh) eh U,_,rfl,b2,_,_,_,rfl,rfl,SqL.of (d _ _ v1),fF ev,by show 2<=sizeLine;decide,λr e=>?_⟩;have p:=cB e (.tup [.ref pj,.non]);refine k r _ (d.trans p) ⟨pj,.non,cn,?_,?_⟩
    .rw[p _ _ (d _ _ ep)];unfold eK;rw[wB o,wB ⟨T,I⟩]
    .unfold eK;rw[wB o,wB ⟨T,I⟩]
   .rw[d9 I];refine dU ?_;have no: ¬(here∈L.c/\cr c here l=a):=λz=>I z.2
    have ed:eK c L here a l=(List.range L.us.length,some (hY (eG c L a) (cr c here l))):=by unfold eK;rw[wB o,wA no]
    refine⟨_,rfl,_,rfl,q,x,_,rfl,d _ _ y,(by kernel_rfl),_,rfl,_,rfl,q,th,en,m,c,L,a,cr c here l,rfl,SA.keeps d.keeps,d _ _ ht,G,o,nd,ok.p.len,(ok.p.inU M J).2,A9 M (ry M hU hl),ext o no,λH3 Y=>⟨by show 2<=sizeLine;decide,λr e=>?_⟩⟩;have p:=cB e (.tup [.ref g0,nv (hY (eG c L a) (cr c here l))]);rw[ed]at k;exact k r _ ((d.trans Y).trans p) ⟨g0,_,cn,p _ _ ((d.trans Y) _ _ D),rfl⟩
  .refine⟨_,rfl,_,rfl,q,C,x,_,_,rfl,d _ _ y,u_LevelParts.cl,u_LevelParts.no,m6,t,_,rfl,z7 (d _ _ t1) (d _ _ hh) T,_,rfl,dU (dU ?_)⟩
   .have no: ¬(here∈L.c/\cr c here l=a):=λz=>T z.1;have ed:eK c L here a l=(List.range L.us.length,some (hY (eG c L a) (cr c here l))):=by unfold eK;rw[wB o,wA no]
    refine⟨_,rfl,_,rfl,q,x,_,rfl,d _ _ y,(by kernel_rfl),_,rfl,_,rfl,q,th,en,m,c,L,a,cr c here l,rfl,SA.keeps d.keeps,d _ _ ht,G,o,nd,ok.p.len,(ok.p.inU M J).2,A9 M (ry M hU hl),ext o no,λH3 Y=>⟨by show 2<=sizeLine;decide,λr e=>?_⟩⟩;have p:=cB e (.tup [.ref g0,nv (hY (eG c L a) (cr c here l))]);rw[ed]at k;exact k r _ ((d.trans Y).trans p) ⟨g0,_,cn,p _ _ ((d.trans Y) _ _ D),rfl⟩
 .refine⟨_,rfl,_,rfl,q,C,x,_,_,rfl,y,u_LevelParts.cl,u_LevelParts.no,m6,t,_,rfl,z7 t1 ht o,_,rfl,eY ?_⟩;refine⟨_,rfl,by show 2<=sizeLine;decide,λr e=>?_⟩;have p:=cB e (.tup [.ref g0,.non]);refine k r _ p ⟨g0,.non,cn,?_,?_⟩
  .rw[p _ _ D];unfold eK;rw[wA o]
  .unfold eK;rw[wA o]
def LQ{C:Ad}(F:Fun K "turned" "LevelParts.turned" zg f fd)(u_LevelParts:OwnC K C ["machine","group","tiles","turns","tile_count"])(J:dw P w K mg base "behind" 1 ["one","other"] tI):FnOk P w K mg base cQ 3 f fd ["self","deed","turning"] (yG C):=by
 refine F.ok JW (λM H Q E h=>?_) (λN A n s H M Q E y h=>?_)
 .obtain⟨q,z,m,O,L,d,a,rfl,_⟩:=h;rfl
 obtain⟨q,z,m,O,L,d,a,rfl,⟨B,g,t,u,T,D,o,l,_⟩,⟨U,v,Y,d2,_⟩,G,lt,lz,mem,k⟩:=h;have hu:=y.units;obtain⟨b,c⟩: ∃b,T[a]? =some b:=⟨_,ck (by rw[l.len];exact G)⟩;have p:=l.is a b _ c (eW G);refine⟨_,(cM (dr (iN iF v5 vZ (AW hu) (fQ (pv 0) rfl) (cE (dB J y.m rfl (c7 (cq (cY fe (fQ (pv 0) rfl) (pv 2) (λ_ _=>rfl)) (cq (cY dO (pv 1) cS (λ_ _=>rfl)) c8 rfl) rfl))) cz)))),?_⟩;refine⟨_,rfl,q,C,B,_,_,rfl,D,u_LevelParts.cl,u_LevelParts.no,oh,.inl ⟨rfl,_,SqL.of o⟩,_,rfl,q,C,B,_,_,rfl,D,u_LevelParts.cl,u_LevelParts.no,oh,_,rfl,g,_,_,_,rfl,rfl,SqL.of o,fF (j:=a) (v:= .ref b) (by rw[cF,c];rfl),_,rfl,z,_,_,_,rfl,rfl,SqT.of Y,rfl,b,U,_,_,rfl,p,d2,lt,lz,λr H2 x e2=>?_⟩;obtain⟨I,_⟩:=wr mem;refine⟨g,_,1,.tup (gB (dL (L.gs.getD a []) d.1)),L.gs.map λu=>Dt.tup (gB u),_,L.gs.idxOf (dL (L.gs.getD a []) d.1),rfl,rfl,SqL.of (x _ _ o),by rw[cj,cj,l.len],gW (SqT.of e2),xN (l.same x),by decide,ft.mpr (by rw[ck I];exact dn some (wM I)),λi hi e=>Mn i hi (ft.mp e),?_⟩;exact k H2 x
def IR{C:Ad}(F:Fun K "brought" "LevelParts.brought" y3 f fd)(u_LevelParts:OwnC K C ["machine","group","tiles","turns","tile_count"]):FnOk P w K mg base cQ 1 f fd ["self","deed","turning","bringing"] (yt C):=by
 refine F.ok IS (λy H Q E h=>?_) (λz A o s H y Q E B h=>?_)
 .obtain⟨q,n,m,D,L,d,a,b,rfl,_⟩:=h;rfl
 obtain⟨q,n,m,D,L,⟨T,G⟩,a,b,rfl,⟨I,g,t,u,J,M,N,r,_⟩,⟨U,v,p,Y,rfl⟩,x,mem,k⟩:=h;have hu:=B.units;obtain⟨c,e⟩: ∃c,J[a]? =some c:=⟨_,ck (by rw[r.len];exact x)⟩;have i:=r.is a c _ e (eW x);refine⟨_,(cH (fS (fA Ma (cY dO (pv 1) cS (λ_ _=>rfl)) pO (eI _)) (cM (dr (pv 3))) gn) (cM (dr (LV PySem.F.slot_tuple_index PySem.F.type_tuple_index JQ (cY fe (fQ (pv 0) rfl) (pv 2) (λ_ _=>rfl)) (cE (cY dO (pv 1) cS (λ_ _=>rfl)) cz))))),?_⟩;cases G with
 |none=>
  exact⟨_,rfl,n,_,_,_,rfl,rfl,SqT.of p,rfl,rfl,_,rfl,eY ⟨_,rfl,k⟩⟩
 |some j=>
  refine⟨_,rfl,n,_,_,_,rfl,rfl,SqT.of p,rfl,rfl,_,rfl,dU ?_⟩;refine⟨_,rfl,q,C,I,_,_,rfl,M,u_LevelParts.cl,u_LevelParts.no,oh,_,rfl,g,_,_,_,rfl,rfl,SqL.of N,fF (j:=a) (v:= .ref c) (by rw[cF,e];rfl),?_⟩;have O:(L.gs.getD a []).map nv=(zN (L.gs.getD a [])).map V.int:=by unfold zN;rw[List.map_map];rfl
  have l:=i;rw[O]at l;refine⟨⟨c,_,rfl,i⟩,_,rfl,n,_,_,_,rfl,rfl,SqT.of p,rfl,c,zN (L.gs.getD a []),_,rfl,rfl,SqT.of l,oP.mpr (mem j rfl),?_⟩;rw[FF];exact k
def L1{C:Ad}(F:Fun K "pair_behind" "LevelParts.pair_behind" yC f fd)(u_LevelParts:OwnC K C ["machine","group","tiles","turns","tile_count"])(B:e7 P w K mg base C "turned" 3 ["self","deed","turning"] (yG C))(D:e7 P w K mg base C "brought" 1 ["self","deed","turning","bringing"] (yt C)):FnOk P w K mg base cQ 5 f fd ["self","deed","pair"] (Fn C):=by
 refine F.ok Kd (λG H Q E h=>?_) (λI A c s H G Q E o h=>?_)
 .obtain⟨q,e,b,m,i,L,d,p,rfl,_⟩:=h;rfl
 obtain⟨q,e,b,m,i,L,d,p,rfl,j,v,l,x,lt,J,mem,M,k⟩:=h;obtain⟨y,g,t,u,N,z,_⟩:=id j;refine⟨_,(cM (dr (jg (c7 (cq (iW (pv 0) u_LevelParts.cl B o.m (c7 (cq (pv 1) (cq (cY dO (pv 2) cS (λ_ _=>rfl)) c8 rfl) rfl))) (cq (iW (pv 0) u_LevelParts.cl D o.m (c7 (cq (pv 1) (cq (cY dO (pv 2) cS (λ_ _=>rfl)) (cq (cY dO (pv 2) cS (λ_ _=>rfl)) c8 rfl) rfl) rfl))) c8 rfl) rfl))))),?_⟩;refine⟨_,rfl,q,y,_,rfl,z,(by kernel_rfl),_,rfl,_,rfl,b,_,_,_,rfl,rfl,SqT.of l,rfl,q,e,m,i,L,d,p.1,rfl,j,v,x,lt,J,mem,λO a=>?_⟩;refine⟨_,rfl,q,y,_,rfl,a _ _ z,(by kernel_rfl),_,rfl,_,rfl,b,_,_,_,rfl,rfl,SqT.of (a _ _ l),rfl,_,rfl,b,_,_,_,rfl,rfl,SqT.of (a _ _ l),rfl,q,e,m,i,L,d,p.1,p.2,rfl,j.keeps a.keeps,v.same a,x,M,by show 2<=sizeLine;decide,λr n=>?_⟩;exact k r _ (a.trans (cB n _)) cn
def FJ(o CR:Ad):Sp:=λq H Q _=> ∃(p l m:Ad) (e:As) (b:LN) (n:Nat) (d:LN) (a:List Lv) (prs:List (Nat×Nat)) (lt k:Nat),q=[.ref p,.ref l,nv lt]/\RowAt o CR H p m b n a/\Mach H m b n/\RowOf b n d a/\H l=some (.lst (e.map .ref))/\PairsAt H e (prs.take k)/\prs.length=a.length/\k<=a.length/\(∀(i:Nat) (L:Lv) (p:Nat×Nat),a[i]? =some L->prs[i]? =some p->PairOk L p)/\lt<b.length/\
 ∀r h t g j c,Same H c->c r=some (.tup [.ref h,.ref t,.ref g])->c h=some (.tup ((gj b n a prs k).map nv))->c t=some (.tup ((gM b n a prs lt k).map nv))->c g=some (.lst (j.map .ref))->PairsAt c j (oU b n a prs lt k)->Q (.ref r) c
def Gq{D CR:Ad}(F:Fun K "walked" "Row.walked" zV f fd)(u_LevelParts:OwnC K D ["machine","group","tiles","turns","tile_count"])(u_Row:OwnC K CR ["rooms","steps"])(jG:e7 P w K mg base D "deed_of" 5 ["self","here","there","letter"] (zp D K))(jL:e7 P w K mg base D "pair_behind" 5 ["self","deed","pair"] (Fn D))(jM:e7 P w K mg base D "within" 1 ["self","here","pair"] (DT D))(rO:mg "zip"=none):FnOk P w K mg base cQ 7 f fd ["self","pairs","letter"] (FJ D CR):=by
 refine F.ok jK (λvs H Q E h=>?_) (λao A aj s H vs Q E hr h=>?_)
 .obtain⟨p,l,m,as,c,n,aa,v,prs,lt,k,rfl,_⟩:=h;rfl
 obtain⟨p,l,m,as,c,n,aa,v,prs,lt,k,rfl,RA,M,R,el,PA,hl,kl,po,ll,q⟩:=h;have hu:=hr.units;obtain⟨dx,r,st,qs,h1,h2,h3,S⟩:=id RA;have lq:=S.len;have ap:=R.few;have la:as.length=k:=by rw[PA.len,eF];lia
 refine⟨_,(cH (df (i:=3) jK.nd rfl (Or.inl rfl) (fQ (pv 0) rfl)) (cH (df (i:=4) jK.nd rfl (Or.inl rfl) (fQ (pv 0) rfl)) (cH (df (i:=5) jK.nd rfl (Or.inl rfl) (fX cz)) (cH (hR gT rfl (HE rfl rO (c7 (cq (fQ (pv 0) rfl) (cq (pv 1) c8 rfl) rfl))) (qu rfl (iU (fh (i:=6) jK.nd rfl (Or.inl rfl)) (iU (fh (i:=7) jK.nd rfl (Or.inl rfl)) rg))) (cH (df (i:=8) jK.nd rfl (Or.inl rfl) (iW (pv 6) u_LevelParts.cl jL hr.m (c7 (cq (iW (pv 6) u_LevelParts.cl jG hr.m (c7 (cq (pv 3) (cq (pv 4) (cq (pv 2) c8 rfl) rfl) rfl))) (cq (pv 7) c8 rfl) rfl)))) (cH (df (i:=3) jK.nd rfl (Or.inl rfl) (iW (pv 6) u_LevelParts.cl jM hr.m (c7 (cq (pv 3) (cq (pv 7) c8 rfl) rfl)))) (cH (df (i:=4) jK.nd rfl (Or.inl rfl) (iW (pv 6) u_LevelParts.cl jM hr.m (c7 (cq (pv 4) (cq (pv 8) c8 rfl) rfl)))) (cM (jb (iN iF lA ku lI (pv 5) (cE (pv 8) cz)))))))) (cM (dr (jg (c7 (cq (pv 3) (cq (pv 4) (cq (pv 5) c8 rfl) rfl) rfl))))))))),?_⟩;refine⟨_,rfl,p,CR,dx,_,_,rfl,h1,u_Row.cl,u_Row.no,E2,?_⟩;refine⟨_,rfl,p,CR,dx,_,_,rfl,h1,u_Row.cl,u_Row.no,E2,?_⟩;refine⟨by show 0<=sizeLine;decide,λT ab=>?_⟩;have U:=cB ab (.lst [])
 let Pv:Nat->L2.St->Hp->Prop:=λi σ Y=>Same H Y/\ ∃(h t:Ad) (N:As) (o6 o7 o8:Option V),Y h=some (.tup ((gj c n v prs i).map nv))/\Y t=some (.tup ((gM c n v prs lt i).map nv))/\Y T=some (.lst (N.map .ref))/\PairsAt Y N (oU c n v prs lt i)/\σ=[some (.ref p),some (.ref l),some (nv lt),some (.ref h),some (.ref t),some (.ref T),o6,o7,o8]
 refine⟨_,rfl,p,CR,dx,_,_,rfl,U _ _ h1,u_Row.cl,u_Row.no,xH,_,rfl,st,l,_,_,rfl,SqL.of (U _ _ h3),SqL.of (U _ _ el),IX (xs:=qs.map .ref) (ys:=as.map .ref) Pv ⟨U,r,r,[],_,_,_,U _ _ h2,U _ _ h2,cn,⟨rfl,λi a p e=>by simp at e⟩,rfl⟩ (λi σ Y p=>⟨SqL.of (p.1 _ _ h3),SqL.of (p.1 _ _ el)⟩) (λi x y Tp σ H1 hx hy nT pv=>?_) (λσ H1 pv=>?_)⟩
 .obtain⟨g1,h,t,N,o6,o7,o8,eh,et,ef,d,rfl⟩:=pv;rw[cF]at hx hy;obtain⟨b,eb,rfl⟩:=dR.mp hx;obtain⟨G,ae,rfl⟩:=dR.mp hy;have li:=(cA.mp eb).1;have lk:=(cA.mp ae).1;obtain⟨L,I⟩: ∃L,v[i]? =some L:=⟨_,ck (by lia)⟩;obtain⟨o,j⟩: ∃o,prs[i]? =some o:=⟨_,ck (by lia)⟩;have ok:=R.ok L (cK I);have J:=xi M R hl po ll i (by lia);have pk:=po i L o I j;obtain⟨n1,n2,n3,n4⟩:=wI M R I pk ll J.hf J.hp J.tf J.s;have le:=d.len;rw[CF hl (by lia)]at le;have kT:=cB nT (.tup [.ref b,.ref G]);have eT:cg H1 Tp (.tup [.ref b,.ref G]) Tp=some (.tup [.ref b,.ref G]):=cn;generalize cg H1 Tp (.tup [.ref b,.ref G])=H2 at kT eT⊢;have g2:=g1.trans kT;have SA:=(S.is i b L eb I).keeps g2.keeps;obtain⟨z,g,tt,u,gr,s1,_⟩:=id SA;have af:H G=some (.tup [nv o.1,nv o.2]):=PA.is i G o ae (by rw[oG (by lia)];exact j);have pm:=ok.pm M R.ff (cK (eW pk.g));have gl:(L.gs.getD o.1 []).length=L.us.length:=by rw[pm.length_eq,fV]
  have few:=(ok.p.inU M R.ff).2;refine⟨Tp,_,rfl,SqT.of eT,rfl,_,_,rfl,_,_,rfl,rfl,?_⟩;refine⟨_,rfl,b,z,_,rfl,s1,(by kernel_rfl),_,rfl,b,z,_,rfl,s1,(by kernel_rfl),_,rfl,_,rfl,_,rfl,b,h,t,m,c,n,aa,L,_,_,lt,rfl,SA,M.same g2,R.ff,ok,kT _ _ eh,kT _ _ et,J.hf,ll,λct no=>A1 M R I ll J.hf J.hp J.s ct no,λda H3 B DA=>?_⟩;have g3:=kT.trans B;have ak:=g1.trans g3;have ag:=SA.keeps B.keeps;have dl: ∀x∈L.gs.getD o.1 [],x<(eK c L (gj c n v prs i) (gM c n v prs lt i) lt).1.length:=λx hx=>by
   have xl:x<L.us.length:=eE.mp (pm.mem_iff.mp hx);have ed:(eK c L (gj c n v prs i) (gM c n v prs lt i) lt).1.length=L.us.length:=by
    unfold eK;split
    .split
     .show(gw _ _ _ _).length=_;unfold gw;rw[cj,rj]
     .exact fV
    .exact fV
   rw[ed];exact xl
  refine⟨_,rfl,b,da,G,m,c,L,_,o,rfl,ag,DA,ak _ _ af,pk.g,dl,by lia,n3,n4,λen H4 C e4=>?_⟩;have g4:=g3.trans C;have ah:=g1.trans g4;have ai:=ag.keeps C.keeps;refine⟨_,rfl,b,z,_,rfl,(B.trans C) _ _ s1,(by kernel_rfl),_,rfl,_,rfl,b,h,G,m,c,L,_,o,rfl,ai,g4 _ _ eh,ah _ _ af,ok.wok M R.ff pk,λh' al=>?_⟩;refine⟨_,rfl,b,z,_,rfl,(B.trans C) _ _ s1,(by kernel_rfl),_,rfl,_,rfl,b,t,en,m,c,L,_,_,rfl,ai,g4 _ _ et,e4,ok.wok M R.ff n1,λt' am=>?_⟩;have O:=g4 _ _ ef;refine⟨_,rfl,.inl ⟨rfl,_,SqL.of O⟩,_,rfl,T,_,_,rfl,rfl,O,by rw[cj,db];lia,?_⟩;have lo:uq H4 (cg H4 T (.lst (N.map V.ref++[.ref en]))):=Stays.offL O;refine⟨gZ ah ab,h',t',N++[en],_,_,_,?_,?_,by rw[cn,dP];rfl,?_,rfl⟩
  .rw[CT I j];exact lo.a al
  .rw[Do I j];exact lo.a am
  .rw[Eh I j];exact((d.st (jd g4)).st lo).snoc (lo.a e4)
 .obtain⟨g1,h,t,N,o6,o7,o8,eh,et,ef,d,rfl⟩:=pv;have lm:min (qs.map V.ref).length (as.map V.ref).length=k:=by rw[cj,cj,lq,la];lia
  rw[lm]at eh et d;refine⟨_,rfl,_,rfl,_,rfl,by show 3<=sizeLine;decide,λrr an=>?_⟩;have kr:=cB an (.tup [.ref h,.ref t,.ref T]);exact q rr h t T N _ (g1.trans kr) cn (kr _ _ eh) (kr _ _ et) (kr _ _ ef) (d.st (jd kr))
def SqL.keeps{K:W.Frag}{H b:Hp}{a:Ad}{xs:List V}(h:SqL K H a xs)(g:Keeps H b):SqL K b a xs:=by
 rcases h with(h|⟨o,h⟩)|h
 .exact .inl (.inl (g _ _ (nU h)))
 .exact .inl (.inr ⟨o,g _ _ (nU h)⟩)
 .exact .inr h
def GS{i:Nat}{L:Lv}(h:0<L.us.length){p:Bool×Nat×Nat}(a:p∈hV i L):0<p.2.2:=by
 unfold hV at a
 rcases di.mp a with z|z
 .by_cases c:1<L.gs.length
  .rw[wB c]at z;rw[cW.mp z];exact uQ Nat.zero_lt_one c
  .rw[wA c]at z;cases z
 .rw[cW.mp z];exact h
theorem E4{a:List Lv}(h: ∀L∈a,0<L.us.length): ∀(i:Nat) (p:Bool×Nat×Nat),p∈gA a i->0<p.2.2
 |0,_,b=>nomatch b
 | i+1,p,b=>by
  rcases di.mp (show p∈gA a i++_ from b)with z|z
  .exact E4 h i p z
  .cases e:a[i]? with
   |none=>
    rw[e]at z;cases z
   |some L=>
    rw[e]at z;exact GS (h L (cK e)) z
def RowOf.pos{H:Hp}{m:Ad}{b:LN}{n:Nat}{a:LN}{c:List Lv}(M:Mach H m b n)(R:RowOf b n a c){p:Bool×Nat×Nat}(d:p∈dY c):0<p.2.2:=E4 (λL e=>zP M R.ff (R.ok L e).p) _ p d
def eA{c:Int}{k:Nat}(h:0<k): ∃r:Nat,V.int (c%(k:Int))=nv r/\r<k:=by
 have a:=Int.emod_nonneg c (show((k:Nat):Int)≠0 by lia);have b:=Int.emod_lt_of_pos c (show(0:Int)<((k:Nat):Int) by lia);exact⟨(c%(k:Int)).toNat,by show V.int _=V.int _;rw[Int.toNat_of_nonneg a],by lia⟩
section
variable{ts:LN}{n:Nat}{Ls:List Lv}{prs prs':List (Nat×Nat)}{l i j:Nat}{L:Lv}{row row':cf}
theorem vX{p:Bool×Nat×Nat}: ∀i,i<=Ls.length-> ∀j,(gA Ls i)[j]? =some p-> ∃k L,Ls[k]? =some L/\((p=(true,k,L.gs.length)/\1<L.gs.length/\j=gG Ls k)∨(p=(false,k,L.us.length)/\j=gG Ls k+(if 1<L.gs.length then 1 else 0)))
 |0,_,j,e=>by simp[gA]at e
 | i+1,h,j,e=>by
  have a:=ck (show i<Ls.length from h);rw[wW a]at e;by_cases c:j<(gA Ls i).length
  .rw[eV c]at e;exact vX i (fj h) j e
  .rw[eU (by lia)]at e;refine⟨i,_,a,?_⟩;have b:j=gG Ls i+(j-(gA Ls i).length):=by unfold gG;lia
   rw[b]
   revert e
   generalize j-(gA Ls i).length=t;intro e;unfold hV at e;by_cases g:1<(Ls[i]'h).gs.length
   .rw[wB g]at e;rw[wB g]
    match t,e with
    |0,e=>cases e;exact .inl ⟨rfl,g,rfl⟩
    |1,e=>cases e;exact .inr ⟨rfl,rfl⟩
   .rw[wA g]at e;rw[wA g]
    match t,e with
    |0,e=>cases e;exact .inr ⟨rfl,rfl⟩
def jp(ts:LN)(n:Nat)(Ls:List Lv)(row:cf)(l:Nat)(p:Bool×Nat×Nat)(L:Lv)(r:Nat):Nat:=
 if p.1 then hJ L (eK ts L (gj ts n Ls (gK Ls row) p.2.1) (gM ts n Ls (gK Ls row) l p.2.1) l) r else jk L (eK ts L (gj ts n Ls (gK Ls row) p.2.1) (gM ts n Ls (gK Ls row) l p.2.1) l) (fg Ls row p.2.1 L).1 r
def Kb{p:Bool×Nat×Nat}(a:p∈dY Ls): ∃L,Ls[p.2.1]? =some L:=by
 obtain⟨j,e⟩:=qr a;obtain⟨k,L,b,h⟩:=vX Ls.length (cD _) j e
 rcases h with⟨rfl,_⟩|⟨rfl,_⟩<;>exact⟨L,b⟩
end
def zy(p:Bool×Nat×Nat):Dt:= .tup [.str (ot p.1),.int (p.2.1:Int),.int (p.2.2:Int)]
def Gr{K:W.Frag}{H:Hp}{l:Ad}{e:As}{g:List (Bool×Nat×Nat)}(h:H l=some (.lst (e.map .ref)))(S:PartsAt H e g):Rep K H 2 (.lst (g.map zy)) (.ref l):=by
 refine .lst (SqL.of h) (by rw[cj,cj,S.len]) λi d v b c=>?_;rw[cF]at b c;obtain⟨p,k,rfl⟩:=dR.mp b;obtain⟨a,m,rfl⟩:=dR.mp c;refine .tup (SqT.of (S.is i a p m k)) rfl λj d v b c=>?_
 match j,b,c with
 |0,b,c=>cases b;cases c;exact .str _ _
 |1,b,c=>cases b;cases c;exact .int _ _
 |2,b,c=>cases b;cases c;exact .int _ _
def DO(h CR:Ad):Sp:=λi H Q _=> ∃(p g m:Ad) (c:LN) (n:Nat) (d:LN) (b:List Lv) (a:cf) (j lt:Nat) (pt:Bool×Nat×Nat) (L:Lv),i=[.ref p,nv j,.ref g,nv lt]/\RowAt h CR H p m c n b/\Mach H m c n/\RowOf c n d b/\H g=some (.tup (a.map nv))/\a.length=j/\RowIn b (a++List.replicate ((dY b).length-j) 0)/\(dY b)[j]? =some pt/\b[pt.2.1]? =some L/\lt<c.length/\
 ∀t e,Same H e->e t=some (.tup (((List.range pt.2.2).map (jp c n b (a++List.replicate ((dY b).length-j) 0) lt pt L)).map nv))->Q (.ref t) e
def D4(a:List V)(k:Nat):nB a none (some (k:Int))=a.take k:=by
 unfold nB;rw[HT.sIx_none,HT.sIx_nat,uV,Nat.sub_zero,List.take_eq_take_iff];lia
def EQ(b:LN)(L:Lv)(here a:cf)(l:Nat):(eK b L here a l).1.length=L.us.length:=by
 unfold eK;split
 .split
  .show(gw _ _ _ _).length=_;unfold gw;rw[cj,rj]
  .exact fV
 .exact fV
def PairsAt.take{H:Hp}{c:As}{d:List (Nat×Nat)}(h:PairsAt H c d)(k:Nat):PairsAt H (c.take k) (d.take k):=⟨by rw[eF,eF,h.len],λi a p b e=>by
 have g:i<k:=by
  have:=(cA.mp b).1;rw[eF]at this;lia
 rw[oG g]at b e;exact h.is i a p b e⟩
def LP{B CR:Ad}(F:Fun K "move" "Row.move" rZ f fd)(u_LevelParts:OwnC K B ["machine","group","tiles","turns","tile_count"])(u_Row:OwnC K CR ["rooms","steps"])(jV:e7 P w K mg base CR "parts" 3 ["self"] (yV B CR))(qK:e7 P w K mg base CR "paired" 3 ["self","row"] (Ea B CR))(qL:e7 P w K mg base CR "walked" 7 ["self","pairs","letter"] (FJ B CR))(jG:e7 P w K mg base B "deed_of" 5 ["self","here","there","letter"] (zp B K))(jI:e7 P w K mg base B "turned" 3 ["self","deed","turning"] (yG B))(jF:e7 P w K mg base B "brought" 1 ["self","deed","turning","bringing"] (yt B))(jB:mg "len"=none)(jD:mg "tuple"=none)(jC:mg "range"=none):FnOk P w K mg base cQ 9 f fd ["self","n","ahead","letter"] (DO B CR):=by
 refine F.ok kL (λvs H Q E h=>?_) (λaL A aB s H vs Q E T h=>?_)
 .obtain⟨p,aa,m,o,n,Y,a,d,j,lt,pt,L,rfl,_⟩:=h;rfl
 obtain⟨p,aa,m,o,n,Y,a,d,j,lt,pt,L,rfl,RA,M,R,aC,la,ri,ep,G,ll,q⟩:=h;have hu:=T.units;obtain⟨dx,r,st,qs,h1,h2,h3,S⟩:=id RA;have aM:=R.few;have lz:(dY a).length<=2 * a.length:=vT a a.length;have jl:=(cA.mp ep).1;refine⟨_,(cH (df (i:=4) kL.nd rfl (Or.inl rfl) (cY fe (uw (pv 0) u_Row.cl jV T.m) (pv 1) (λ_ _=>rfl))) (cH (df (i:=5) kL.nd rfl (Or.inr rfl) (cY fe (fQ (pv 0) rfl) (cY dO (pv 4) cS (λ_ _=>rfl)) (λ_ _=>rfl))) (cH (df (i:=6) kL.nd rfl (Or.inl rfl) (iW (pv 0) u_Row.cl qK T.m (cE (ez GG (pv 2) (ez LW (jg (cE cS cz)) (ez GH (dS fJ rfl jB fc (cE (uw (pv 0) u_Row.cl jV T.m) cz)) (pv 1)))) cz))) (cH (df (i:=7) kL.nd rfl (Or.inl rfl) (iW (pv 0) u_Row.cl qL T.m (c7 (cq (wc vL (pv 6) C0 (qt (cY dO (pv 4) cS (λ_ _=>rfl)))) (cq (pv 3) c8 rfl) rfl)))) (cH (df (i:=8) kL.nd rfl (Or.inr rfl) (iW (pv 5) u_LevelParts.cl jG T.m (c7 (cq (cY dO (pv 7) cS (λ_ _=>rfl)) (cq (cY dO (pv 7) cS (λ_ _=>rfl)) (cq (pv 3) c8 rfl) rfl) rfl)))) (cH (fS (fA nY (cY dO (pv 4) cS (λ_ _=>rfl)) rb (eI _)) (cM (dr (gD mC rfl jD jz (cE (gh (CompSc.to (N:=["self","n","ahead","letter","part","step","pairs","sets","deed","turning"]) (osc:=cL rZ) (vs:=["room"]) {}) rfl rfl (jy rfl jC (cE (cY dO (pv 4) cS (λ_ _=>rfl)) cz)) (λ_ _ _ _=>gR) (λ_ _ _ _=>(iW (pv 6) u_LevelParts.cl jI T.m (c7 (cq (pv 9) (cq (pv 0) c8 rfl) rfl))))) cz)))) gn) (cH (df (i:=9) kL.nd rfl (Or.inr rfl) (cY dO (cY fe (pv 6) (cY dO (pv 4) cS (λ_ _=>rfl)) (λ_ _=>rfl)) cS (λ_ _=>rfl))) (cM (dr (gD mC rfl jD jz (cE (gh (CompSc.to (N:=["self","n","ahead","letter","part","step","pairs","sets","deed","turning"]) (osc:=cL rZ) (vs:=["room"]) {}) rfl rfl (jy rfl jC (cE (cY dO (pv 4) cS (λ_ _=>rfl)) cz)) (λ_ _ _ _=>gR) (λ_ _ _ _=>(iW (pv 6) u_LevelParts.cl jF T.m (c7 (cq (pv 9) (cq (pv 10) (cq (pv 0) c8 rfl) rfl) rfl))))) cz))))))))))),?_⟩;refine⟨_,rfl,p,dx,_,rfl,h1,(by kernel_rfl),p,m,o,n,a,rfl,RA,R.few,λl ps H1 g1 nl el PS=>?_⟩;obtain⟨C,an⟩: ∃C,ps[j]? =some C:=⟨_,ck (by rw[PS.len];exact jl)⟩;have ao:=PS.is j C pt an ep;obtain⟨b,eb⟩: ∃b,qs[pt.2.1]? =some b:=⟨_,ck (by rw[S.len];exact(cA.mp G).1)⟩;have kl:=(cA.mp G).1;refine⟨_,rfl,l,_,_,_,rfl,rfl,SqL.of el,fF (j:=j) (v:= .ref C) (by rw[cF,an];rfl),?_⟩;refine⟨_,rfl,p,CR,dx,_,_,rfl,g1 _ _ h1,u_Row.cl,u_Row.no,xH,_,rfl,C,_,_,_,rfl,rfl,SqT.of ao,rfl,st,_,_,_,rfl,rfl,SqL.of (g1 _ _ h3),fF (j:=pt.2.1) (v:= .ref b) (by rw[cF,eb];rfl),?_⟩;refine⟨_,rfl,p,dx,_,rfl,g1 _ _ h1,(by kernel_rfl),_,rfl,by show 1<=sizeLine;decide,λz hz=>?_⟩;have kz:=cB hz (.tup [V.int 0]);have g2:=g1.trans kz;refine⟨_,rfl,p,dx,_,rfl,g2 _ _ h1,(by kernel_rfl),p,m,o,n,a,rfl,RA.keeps g2.keeps,R.few,λl2 aD H3 g3 aN aE aF=>?_⟩;have aG:=g2.trans g3;have k1:V.int (((aD.map V.ref).length:Nat)-((j:Nat):Int))=V.int ((((dY a).length-j-1+1:Nat)):Int):=by
  rw[cj,aF.len]
  congr 1
  lia
 refine⟨l2,_,rfl,.inl (SqL.of aE),_,rfl,_,_,rfl,rfl,z,[V.int 0],(dY a).length-j-1,rfl,k1,g3 _ _ cn,by lia,by decide,λzz H4 g4 aH=>?_⟩;have ap:=aG.trans g4;have e0:d.map nv++(List.replicate ((dY a).length-j-1+1) [V.int 0]).flatten=(d++List.replicate ((dY a).length-j) 0).map nv:=by
  rw[Cd,dP,Bp,show(dY a).length-j-1+1=(dY a).length-j by lia];rfl
 refine⟨aa,zz,_,_,rfl,rfl,ap _ _ aC,aH,?_,λra H5 g5 ab=>?_⟩
 .rw[Cd,cj,vV,db];lia
 rw[e0]at ab;have po:=ri.po M R;have rl:=ri.len;have hl:(gK a (d++List.replicate ((dY a).length-j) 0)).length=a.length:=rh (cD _);have ae:=zq (row:=d++List.replicate ((dY a).length-j) 0) G;have J:=xi M R hl po ll pt.2.1 (fj kl);have p0:=po _ _ _ G ae;have ns: ∀p,PairOk L p->_:=λp pk=>(wI M R G (p:=p) pk ll J.hf J.hp J.tf J.s).2.2;have aq:=λct no=>A1 M R G ll J.hf J.hp J.s ct no;unfold jp at q;generalize d++List.replicate ((dY a).length-j) 0=c at ab ri po rl hl ae p0 J ns aq q;have ar:=ap.trans g5;refine⟨p,ra,m,o,n,a,c,rfl,RA.keeps ar.keeps,R.few,ab,rl,λpl as H6 g6 aO au PA=>?_⟩;have av:=ar.trans g6;have U:=(((kz.trans g3).trans g4).trans (g5.trans g6)) _ _ ao;refine⟨_,rfl,p,dx,_,rfl,av _ _ h1,(by kernel_rfl),_,rfl,_,rfl,C,_,_,_,rfl,rfl,SqT.of U,rfl,_,rfl,pl,_,rfl,SqL.of au,λsl aI=>?_⟩;rw[D4,<-List.map_take];have ks:=cB aI (.lst ((as.take pt.2.1).map V.ref));have af:=av.trans ks;refine⟨_,rfl,p,sl,m,as.take pt.2.1,o,n,Y,a,gK a c,lt,pt.2.1,rfl,RA.keeps af.keeps,M.same af,R,cn,(PA.st (jd ks)).take _,hl,fj kl,po,ll,λrr h t fo es H8 g8 er eh et ef PE=>?_⟩;have ag:=af.trans g8;have SA:=(S.is pt.2.1 b L eb G).keeps ag.keeps;obtain⟨ah,g,tt,u,gr,s1,_⟩:=id SA;have ok:=R.ok L (cK G);refine⟨_,rfl,b,ah,_,rfl,s1,(by kernel_rfl),_,rfl,rr,_,_,_,rfl,rfl,SqT.of er,rfl,_,rfl,rr,_,_,_,rfl,rfl,SqT.of er,rfl,_,rfl,b,h,t,m,o,n,Y,L,_,_,lt,rfl,SA,M.same ag,R.ff,ok,eh,et,J.hf,ll,aq,λda H9 g9 DA=>?_⟩;have aw:=ag.trans g9;have ax:=SA.keeps g9.keeps;have ay:=g9 _ _ s1;have e:=((ks.trans g8).trans g9) _ _ U;have az:=((ks.trans g8).trans g9) _ _ au;have aJ:=PA.st (jd ((ks.trans g8).trans g9));have dl:=EQ o L (gj o n a (gK a c) pt.2.1) (gM o n a (gK a c) lt pt.2.1) lt;generalize eK o L (gj o n a (gK a c) pt.2.1) (gM o n a (gK a c) lt pt.2.1) lt=dd at DA dl q ns;have pd:(pt.1=true/\pt.2.2=L.gs.length)∨(pt.1=false/\pt.2.2=L.us.length):=by
  obtain⟨k,L',e1,h⟩:=vX a.length (cD _) j ep
  rcases h with⟨rfl,_,_⟩|⟨rfl,_⟩
  .have D:a[k]? =some L:=G;rw[e1]at D;cases D;exact .inl ⟨rfl,rfl⟩
  .have D:a[k]? =some L:=G;rw[e1]at D;cases D;exact .inr ⟨rfl,rfl⟩
 have gf:=ok.few M R.ff;have uf:=(ok.p.inU M R.ff).2;obtain⟨tf,i,mn⟩:=pt
 rcases pd with⟨rfl,rfl⟩|⟨rfl,rfl⟩
 .refine⟨_,rfl,C,_,_,_,rfl,rfl,SqT.of e,rfl,rfl,_,rfl,eY ?_⟩;refine⟨_,rfl,C,_,_,_,rfl,rfl,SqT.of e,rfl,(L.gs.length:Int),rfl,by lia,by lia,oK (λk O I=>Same H9 I/\O=((List.range k).map (hJ L dd)).map nv) (by rw[gb,db];lia) ⟨Same.refl _,rfl⟩ (λk O I _ p=>by rw[p.2,cj,cj,fV];exact cD _) (λk O I hk p=>?_) (λO I p ai aj=>?_)⟩
  .obtain⟨y,rfl⟩:=p;have ak:k<L.gs.length:=by simpa using hk
   have zk:V.int ((0:Int)+((k:Nat):Int))=nv k:=by show V.int (0+(k:Int))=V.int (k:Int);rw[nI]
   rw[zk];have pm:=ok.pm M R.ff (cK (eW ak));have gl:(L.gs.getD k []).length=L.us.length:=by rw[pm.length_eq,fV]
   refine⟨gm,iz ⟨_,rfl,b,ah,_,rfl,y _ _ ay,(by kernel_rfl),_,rfl,_,rfl,b,da,m,o,L,dd,k,rfl,ax.keeps y.keeps,DA.same y,ak,λx hx=>by rw[dl];exact eE.mp (pm.mem_iff.mp hx),by lia,(ns (k,(fg a c i L).2) ⟨ak,p0.t⟩).1,λI g'=>⟨y.trans g',?_⟩⟩⟩;rw[yX,dP,dP];rfl
  .obtain⟨y,rfl⟩:=p;have al:=cB aj (.lst (((List.range (L.gs.length:Int).toNat).map (hJ L dd)).map nv));refine⟨ai,_,rfl,.inl ⟨SqL.of cn,λt2 am=>?_⟩⟩;exact q t2 _ (((aw.trans y).trans al).trans (cB am _)) cn
 .refine⟨_,rfl,C,_,_,_,rfl,rfl,SqT.of e,rfl,rfl,_,rfl,dU ?_⟩;obtain⟨pb,aA⟩: ∃pb,as[i]? =some pb:=⟨_,ck (by rw[PA.len,hl];exact kl)⟩;have aK:=aJ.is i pb _ aA ae;refine⟨_,rfl,_,rfl,C,_,_,_,rfl,rfl,SqT.of e,rfl,pl,_,_,_,rfl,rfl,SqL.of az,fF (j:=i) (v:= .ref pb) (by rw[cF,aA];rfl),pb,_,_,_,rfl,rfl,SqT.of aK,rfl,?_⟩;refine⟨_,rfl,C,_,_,_,rfl,rfl,SqT.of e,rfl,(L.us.length:Int),rfl,by lia,by lia,oK (λk O I=>Same H9 I/\O=((List.range k).map (jk L dd (fg a c i L).1)).map nv) (by rw[gb,db];lia) ⟨Same.refl _,rfl⟩ (λk O I _ p=>by rw[p.2,cj,cj,fV];exact cD _) (λk O I hk p=>?_) (λO I p ai aj=>?_)⟩
  .obtain⟨y,rfl⟩:=p;have zk:V.int ((0:Int)+((k:Nat):Int))=nv k:=by show V.int (0+(k:Int))=V.int (k:Int);rw[nI]
   rw[zk];refine⟨gm,iz ⟨_,rfl,b,ah,_,rfl,y _ _ ay,(by kernel_rfl),_,rfl,_,rfl,_,rfl,b,da,m,o,L,dd,_,k,rfl,ax.keeps y.keeps,DA.same y,p0.g,(ns _ p0).2,y,?_⟩⟩;rw[yX,dP,dP];rfl
  .obtain⟨y,rfl⟩:=p;have al:=cB aj (.lst (((List.range (L.us.length:Int).toNat).map (jk L dd (fg a c i L).1)).map nv));refine⟨ai,_,rfl,.inl ⟨SqL.of cn,λt2 am=>?_⟩⟩;exact q t2 _ (((aw.trans y).trans al).trans (cB am _)) cn
theorem B8{d:cf}(nd:d.Nodup): ∀{x y:cf},(∀r∈x,r<d.length)->(∀r∈y,r<d.length)->dL x d=dL y d->x=y
 | [],[],_,_,_=>rfl
 | [],_::_,_,_,e=>nomatch e
 |_::_,[],_,_,e=>nomatch e
 | a::x,b::y,g,h,e=>by
  unfold dL at e;rw[fM,fM]at e;injection e with i j
  have k:=g a (dC ..);have l:=h b (dC ..);have z:a=b:=by
   rw[dI,dI,ck k,ck l]at i;exact(List.getElem_inj nd).mp i
  rw[z,B8 nd (λr c=>g r (eO _ c)) (λr c=>h r (eO _ c)) j]
structure Kind(L:Lv)(turn:Bool)(xs:cf):Prop where
 some_:0<xs.length
 lt: ∀x∈xs,x<xs.length
 tl:turn=true->xs.length=L.gs.length/\xs.Nodup/\ ∀r,r<xs.length->L.gs.getD (xs.getD r 0) []=dL (L.gs.getD r []) (L.gs.getD (xs.getD 0 0) [])
 bl:turn=false->xs=List.range xs.length∨ ∃c,xs=List.replicate xs.length c
section
variable{H:Hp}{m:Ad}{ts:LN}{n:Nat}{fam:LN}{Ls:List Lv}{l j:Nat}{L:Lv}{row:cf}
def LvOk.us32(M:Mach H m ts n)(a:FamOf ts n fam)(ok:LvOk ts fam L):L.us.length<=32:=dt (ko (U:=fam) (rc M a ok.p) λu b=>by rw[ok.p.tl]at b;exact((lE M a).mp b).1) (a.few M)
def Kc(M:Mach H m ts n)(R:RowOf ts n fam Ls)(J:RowIn Ls row)(D:l<ts.length){p:Bool×Nat×Nat}(N:(dY Ls)[j]? =some p)(E:Ls[p.2.1]? =some L):p.2.2<=4000/\Kind L p.1 ((List.range p.2.2).map (jp ts n Ls row l p L)):=by
 obtain⟨k,L',y,h⟩:=vX Ls.length (cD _) j N;have O:p.2.1=k:=by rcases h with⟨z,_⟩|⟨z,_⟩<;>rw[z]
 rw[O,y]at E;cases E;have lk:=(cA.mp y).1;have ok:=R.ok L (cK y);have Q:(gK Ls row).length=Ls.length:=rh (cD _);have po:=J.po M R;have b:=xi M R Q po D k (fj lk);have T:=po k _ _ y (zq (row:=row) y);have s:0<L.us.length:=zP M R.ff ok.p;have st: ∀{q:Nat×Nat},PairOk L q->_:=λ{q} U=>wI M R y U D b.hf b.hp b.tf b.s;have dl:=EQ ts L (gj ts n Ls (gK Ls row) k) (gM ts n Ls (gK Ls row) l k) l;generalize G:eK ts L (gj ts n Ls (gK Ls row) k) (gM ts n Ls (gK Ls row) l k) l=d at st dl
 rcases h with⟨rfl,g,_⟩|⟨rfl,_⟩
 .have em: ∀r,jp ts n Ls row l (true,k,L.gs.length) L r=hJ L d r:=λr=>by
   unfold jp;rw[wB rfl,G]
  have lt: ∀r,r<L.gs.length->hJ L d r<L.gs.length:=λr c=>(st (q:=(r,0)) ⟨c,s⟩).1.g;have i: ∀r,r<L.gs.length->L.gs.getD (hJ L d r) []=dL (L.gs.getD r []) d.1:=λr c=>(wr (st (q:=(r,0)) ⟨c,s⟩).2.2.1).2;have g0:0<L.gs.length:=by lia
  have Y:L.gs.getD 0 []=List.range L.us.length:=by rw[dI,ok.first M R.ff];rfl
  have I:L.gs.getD (hJ L d 0) []=d.1:=by rw[i 0 g0,Y,Db dl]
  have dm:d.1∈L.gs:=by rw[<-I];exact cK (eW (lt 0 g0))
  have dp:=ok.pm M R.ff dm;have inj: ∀r A,r<L.gs.length->A<L.gs.length->hJ L d r=hJ L d A->r=A:=λr A c u e=>by
   have z:=i r c;rw[e,i A u]at z;have lt': ∀{r:Nat},r<L.gs.length-> ∀x∈L.gs.getD r [],x<d.1.length:=λ{r} c x v=>by
    rw[dl];exact eE.mp ((ok.pm M R.ff (cK (eW c))).mem_iff.mp v)
   have B:=B8 (dp.nodup_iff.mpr xq) (lt' u) (lt' c) z;exact(g7 c ok.nd).mp ((eW c).trans (by rw[<-B];exact(eW u).symm))
  have C:(List.range L.gs.length).map (jp ts n Ls row l (true,k,L.gs.length) L)=(List.range L.gs.length).map (hJ L d):=lK λr _=>em r;refine⟨ok.few M R.ff,?_⟩;show Kind L true ((List.range L.gs.length).map _);rw[C];have o:((List.range L.gs.length).map (hJ L d)).length=L.gs.length:=by rw[cj,fV]
  refine⟨by rw[o];exact g0,λx v=>?_,λ_=>⟨o,?_,λr c=>?_⟩,(λz=>nomatch z)⟩
  .obtain⟨r,c,rfl⟩:=cO.mp v;rw[o];exact lt r (eE.mp c)
  .rw[List.Nodup,nJ];exact xt (λ{a b} ha hb ne e=>ne (inj a b (eE.mp ha) (eE.mp hb) e)) xq
  .rw[o]at c;rw[AZ c,AZ g0,i r c,I]
 .have em: ∀r,jp ts n Ls row l (false,k,L.us.length) L r=jk L d (fg Ls row k L).1 r:=λr=>by
   unfold jp;rw[wA (by simp),G]
  have lt: ∀r,r<L.us.length->jk L d (fg Ls row k L).1 r<L.us.length:=λr c=>(st (q:=((fg Ls row k L).1,r)) ⟨T.g,c⟩).1.t;have C:(List.range L.us.length).map (jp ts n Ls row l (false,k,L.us.length) L)=(List.range L.us.length).map (jk L d (fg Ls row k L).1):=lK λr _=>em r;refine⟨dt (ok.us32 M R.ff) (by decide),?_⟩;show Kind L false ((List.range L.us.length).map _);rw[C];have o:((List.range L.us.length).map (jk L d (fg Ls row k L).1)).length=L.us.length:=by rw[cj,fV]
  refine⟨by rw[o];exact s,λx v=>?_,(λz=>nomatch z),λ_=>?_⟩
  .obtain⟨r,c,rfl⟩:=cO.mp v;rw[o];exact lt r (eE.mp c)
  .rw[o];cases B:d.2 with
   |none=>
    refine .inl ?_;have:(List.range L.us.length).map (jk L d (fg Ls row k L).1)=(List.range L.us.length).map id:=lK λr _=>by unfold jk;rw[B];rfl
    rw[this,vS]
   |some t=>
    refine .inr ⟨(L.gs.getD (fg Ls row k L).1 []).idxOf t,?_⟩;rw[List.eq_replicate_iff];refine⟨o,λx v=>?_⟩;obtain⟨r,c,rfl⟩:=cO.mp v;unfold jk;rw[B]
end
theorem FH: ∀(b a:Zs),(a++b).Nodup->b.foldl gP a=a++b
 | [],a,_=>by simp
 | x::b,a,h=>by
  have c:x∉a:=λz=>by
   rw[xC]at h;exact h.2.2 x z x (dC ..) rfl
  have e:gP a x=a++[x]:=by unfold gP;rw[wA c]
  have d:(a++[x]++b).Nodup:=by rw[eX];exact h
  show b.foldl gP (gP a x)=_;rw[e,FH b _ d,eX];rfl
theorem Fp(c:Int): ∀k,(List.replicate k c).foldl gP [c]=[c]
 |0=>rfl
 |k+1=>by
  rw[oz];show(List.replicate k c).foldl gP (gP [c] c)=_;have e:gP [c] c=[c]:=by unfold gP;rw[wB (List.mem_singleton.mpr rfl)]
  rw[e,Fp c k]
def LS(c:Int){k:Nat}(h:0<k):ky (List.replicate k c)=[c]:=by
 obtain⟨k,rfl⟩:=mL (j6 h);rw[oz];exact Fp c k
def zs(a:cf):Zs:=a.map λ(x:Nat)=>(x:Int)
def yO(a:cf):a.map nv=(zs a).map V.int:=by
 unfold zs;rw[hI];rfl
def K5{c:cf}(h:c.Nodup):(ky (zs c)).length=c.length:=by
 have z:=FH (zs c) [] (by
  rw[ub];unfold zs;rw[List.Nodup,nJ];exact h.imp λ{a b} d e=>d (by lia))
 unfold ky;rw[z];unfold zs;simp
def PartsAt.take{H:Hp}{c:As}{d:List (Bool×Nat×Nat)}(h:PartsAt H c d)(k:Nat):PartsAt H (c.take k) (d.take k):=⟨by rw[eF,eF,h.len],λi a p b e=>by
 have g:i<k:=by
  have:=(cA.mp b).1;rw[eF]at this;lia
 rw[oG g]at b e;exact h.is i a p b e⟩
def Hu{d:List Lv}{a:cf}{j:Nat}(pos: ∀p∈dY d,0<p.2.2)(g:j<=(dY d).length)(h:a.length=j)(lt: ∀(i:Nat) (p:Bool×Nat×Nat) (r:Nat),((dY d).take j)[i]? =some p->a[i]? =some r->r<p.2.2):RowIn d (a++List.replicate ((dY d).length-j) 0):=by
 refine⟨by rw[dz,vV];lia,λi p r e b=>?_⟩;by_cases c:i<j
 .rw[eV (by lia)]at b;exact lt i p r (by rw[oG c];exact e) b
 .rw[eU (by lia),List.getElem?_replicate]at b;split at b
  .cases b;exact pos p (cK e)
  .cases b
def CP(a:Zs)(lo b:Option Int): ∃c:Zs,nB (a.map V.int) lo b=c.map V.int/\c.length<=a.length:=by
 refine⟨(a.drop (HT.sIx (a.map V.int).length 0 lo)).take (HT.sIx (a.map V.int).length (a.map V.int).length b-HT.sIx (a.map V.int).length 0 lo),?_,?_⟩
 .unfold nB;rw[List.map_take,List.map_drop]
 .rw[eF,oj];lia
def LX(b:Bool):decide (V.str (ot b)=V.str "turn")=b/\decide (V.str (ot b)=V.str "bring")= !b:=by cases b<;>exact⟨by decide+kernel,by decide+kernel⟩
def u8(K:W.Frag):Sp:=λc H Q _=> ∃(a:Ad) (b:Zs),c=[.ref a]/\SqL K H a (b.map V.int)/\b.length<=63/\Tabs H/\ ∀d,Q (.bl true) d
def CI:Sp:=λh H Q _=> ∃(l e:Ad) (g:As) (b:List (Bool×Nat×Nat)) (c:Zs) (i:Int),h=[.ref l,.ref e,.int i]/\H l=some (.lst (g.map .ref))/\PartsAt H g b/\b.length<=64/\(∀p∈b,0<p.2.2)/\H e=some (.lst (c.map V.int))/\1<=c.length/\c.length<=80/\
 ∀(t:Ad) (a:cf) d,Same H d->d t=some (.tup (a.map nv))->a.length=b.length->(∀(j:Nat) (p:Bool×Nat×Nat) (r:Nat),b[j]? =some p->a[j]? =some r->r<p.2.2)->Q (.ref t) d
def DG:Sp:=tI
def BM:Sp:=λd H Q _=> ∃(fa g:Ad) (bs:As) (a:cf) (b:LN) (u:Nat),d=[.ref fa,.ref g]/\H fa=some (.tup (a.map nv))/\H g=some (.lst (bs.map .ref))/\TupsAt H bs b/\0<a.length/\a.length<=4000/\a.length=b.length/\u<=1000/\(∀t∈b,t.length=u/\ ∀r∈t,r<u)/\(∀x∈a,x<a.length)/\(∀r,r<a.length->b.getD (a.getD r 0) []=dL (b.getD r []) (b.getD (a.getD 0 0) []))/\
 ∀c,Same H c->Q (.bl true) c
def BI:Sp:=λd H Q _=> ∃(fa:Ad) (a:cf),d=[.ref fa]/\H fa=some (.tup (a.map nv))/\0<a.length/\a.length<=4000/\(a=List.range a.length∨ ∃c,a=List.replicate a.length c)/\
 ∀b,Same H b->Q (.bl true) b
def Ha(F:Fun K "_law_row" "_law_row" yq f fd)(U:mg "len"=none)(jD:mg "tuple"=none):FnOk P w K mg base cQ 1 f fd ["_law_parts","_law_cells","_law_cell"] CI:=by
 refine F.ok kU (λvs H Q E h=>?_) (λaa A C s H vs Q E hr h=>?_)
 .obtain⟨l,u,Y,x,y,z,rfl,_⟩:=h;rfl
 obtain⟨l,u,Y,x,y,z,rfl,el,PS,ab,pos,k,c1,ae,q⟩:=h;have hu:=hr.units;refine⟨_,(cH (df (i:=3) kU.nd rfl (Or.inl rfl) (fX cz)) (cH (hR gT rfl (gF (pv 0)) (qu rfl (iU (fh (i:=4) kU.nd rfl (Or.inl rfl)) (iU (fh (i:=5) kU.nd rfl (Or.inl rfl)) (iU (fh (i:=6) kU.nd rfl (Or.inl rfl)) rg)))) (cH (df (i:=7) kU.nd rfl (Or.inl rfl) (dS fJ rfl U fc (cE (pv 3) cz))) (cH (df (i:=5) kU.nd rfl (Or.inl rfl) (cY fe (pv 1) (ez iE (ez qg (ez KP (pv 7) cS) (pv 2)) (dS fJ rfl U fc (cE (pv 1) cz))) (λ_ _=>rfl))) (cM (jb (iN iF lA ku lI (pv 3) (cE (ez iE (ez qg (ez rn (pv 5) (ez qg cS (ez iE (pv 7) cS))) (ez rn (pv 2) cS)) (pv 6)) cz))))))) (cM (dr (gD mC rfl jD jz (cE (pv 3) cz)))))),?_⟩;refine⟨by show 0<=sizeLine;decide,λm n=>?_⟩;have k0:=cB n (.lst []);have D:=PS.len
 let Pv:Nat->L2.St->Hp->Prop:=λi B G=>Same H G/\ ∃(a:cf) (I J L M:Option V),G m=some (.lst (a.map nv))/\a.length=i/\(∀(j:Nat) (p:Bool×Nat×Nat) (r:Nat),x[j]? =some p->a[j]? =some r->r<p.2.2)/\B=[some (.ref l),some (.ref u),some (.int z),some (.ref m),I,J,L,M]
 refine⟨_,rfl,l,rfl,⟨_,SqL.of (k0 _ _ el)⟩,ni (xs:=Y.map .ref) Pv ⟨k0,[],none,none,none,none,cn,rfl,(λj p r _ e=>by simp at e),rfl⟩ (λi B G _ p=>SqL.of (p.1 _ _ el)) (λi v B H2 hv pv=>?_) (λB H2 pv=>?_)⟩
 .obtain⟨d,a,I,J,L,M,o,g,N,rfl⟩:=pv;rw[cF]at hv;obtain⟨b,eb,rfl⟩:=dR.mp hv;have li:=(cA.mp eb).1;obtain⟨p,O⟩: ∃p,x[i]? =some p:=⟨_,ck (by lia)⟩;have hb:=d _ _ (PS.is i b p eb O);have T:=pos p (cK O);refine⟨b,_,rfl,SqT.of hb,rfl,_,_,rfl,_,_,rfl,_,_,rfl,rfl,?_⟩;refine⟨_,rfl,m,_,rfl,.inl (SqL.of o),?_⟩
  try dsimp only
  rw[cj,g];obtain⟨j,hj,lj⟩:=eA (c:=((i:Nat):Int) * 5+z) (show 0<y.length by lia);obtain⟨c,ec⟩: ∃c,y[j]? =some c:=⟨_,ck lj⟩;refine⟨_,rfl,_,rfl,_,_,rfl,rfl,.inr ⟨by decide,by decide⟩,_,rfl,_,_,rfl,rfl,_,rfl,u,_,rfl,.inl (SqL.of (d _ _ k)),?_⟩
  try dsimp only
  rw[cj];refine⟨_,_,rfl,rfl,(by show(0:Int)<((y.length:Nat):Int);lia),?_⟩
  try dsimp only
  rw[hj];refine⟨u,_,_,_,rfl,rfl,SqL.of (d _ _ k),fF (j:=j) (v:= .int c) (by rw[cF,ec];rfl),?_⟩;refine⟨_,rfl,.inl ⟨rfl,_,SqL.of o⟩,_,rfl,_,rfl,_,_,rfl,rfl,(by show(0:Int)<7;decide),_,_,rfl,rfl,_,_,rfl,rfl,⟨by lia,by lia⟩,_,rfl,_,_,rfl,rfl,⟨by decide,by decide⟩,_,_,rfl,rfl,_,rfl,_,_,rfl,rfl,(by show(0:Int)<((p.2.2:Nat):Int);lia),?_⟩;obtain⟨r,er,rl⟩:=eA (c:=c/ (1+((i:Nat):Int)%7)+z/64) T
  try dsimp only
  rw[er];refine⟨m,_,_,rfl,rfl,o,by rw[cj,db];lia,?_⟩;refine⟨gZ d n,a++[r],_,_,_,_,by rw[cn,dP];rfl,by rw[dz,g];rfl,λj' p' r' e1 e2=>?_,rfl⟩;refine mo (P:=λj r=> ∀p,x[j]? =some p->r<p.2.2) (λj r e p e'=>N j p r e' e) (λp' e=>?_) j' r' e2 p' e1;rw[g,O]at e;cases e;exact rl
 .obtain⟨d,a,I,J,L,M,o,g,N,rfl⟩:=pv;rw[cj,D]at g;refine⟨_,rfl,m,_,rfl,.inl ⟨SqL.of o,λt ht=>?_⟩⟩;exact q t a _ (d.trans (cB ht _)) cn g N
def JZ(F:Fun K "_law_after" "_law_after" w6 f fd)(l:mg "tuple"=none):FnOk P w K mg base cQ 1 f fd ["_law_one","_law_other"] DG:=by
 refine F.ok JH (λm H Q E h=>?_) (λn A d s H m Q E B h=>?_)
 .obtain⟨a,b,g,c,rfl,_⟩:=h;rfl
 obtain⟨a,b,g,c,rfl,k,o,j,r,q⟩:=h;refine⟨_,(cM (dr (gD mC rfl l jz (cE (gh (CompSc.to (N:=["_law_one","_law_other"]) (osc:=cL w6) (vs:=["_law_k"]) {}) rfl rfl (tS (pv 0)) (λ_ _ _ _=>gR) (λ_ _ _ _=>(cY (IxR.k (K:=K) mY dO rfl) (pv 2) (pv 0) (λ_ _=>rfl)))) cz)))),?_⟩;have e:(g.map nv).map (λv=>match v with| .int i=>nv (c.getD i.toNat 0)|v=>v)=(dL g c).map nv:=by
  unfold dL;rw[hI,hI];rfl
 refine⟨_,rfl,a,rfl,⟨_,SqT.of k⟩,uY (f:=λv=>match v with| .int i=>nv (c.getD i.toNat 0)|v=>v) (by rw[cj];exact small r) (SqT.of k) (λv Q u q=>?_) (λp y=>?_)⟩
 .obtain⟨x,z,rfl⟩:=cO.mp u;exact⟨_,rfl,_,rfl,b,_,_,_,rfl,rfl,SqT.of o,ki (j x z),q⟩
 .rw[e];exact⟨p,_,rfl,.inl ⟨SqL.of cn,λt ht=>q t _ ((cB y _).trans (cB ht _)) cn⟩⟩
def Jt(F:Fun K "_law_is_turning" "_law_is_turning" xc f fd)(qM:dw P w K mg base "_law_after" 1 ["_law_one","_law_other"] DG)(jB:mg "len"=none)(jC:mg "range"=none):FnOk P w K mg base cQ 3 f fd ["_law_found","_law_group"] BM:=by
 refine F.ok qO (λvs H Q E h=>?_) (λae A D s H vs Q E c h=>?_)
 .obtain⟨fa,g,bs,o,x,u,rfl,_⟩:=h;rfl
 obtain⟨fa,g,bs,o,x,u,rfl,d,G,TG,I,x4,xl,u1,gu,J,rule,q⟩:=h;have hu:=c.units;refine⟨_,(cH (df (i:=2) qO.nd rfl (Or.inr rfl) (cY fe (pv 1) (cY dO (pv 0) cS (λ_ _=>rfl)) (λ_ _=>rfl))) (cM (dr (nL (tE hu) (gh (CompSc.to (N:=["_law_found","_law_group","_law_by"]) (osc:=cL xc) (vs:=["_law_room"]) {}) rfl rfl (jy rfl jC (cE (dS fJ rfl jB fc (cE (pv 0) cz)) cz)) (λ_ _ _ _=>ow (fA (OpR.k (K:=K) (λK=>ph K true) (qa hu) rfl) (cY (IxR.k (K:=K) qp fe rfl) (pv 2) (cY (IxR.k (K:=K) mY dO rfl) (pv 1) (pv 0) (λ_ _=>rfl)) (λ_ _=>rfl)) (dB qM c.m rfl (c7 (cq (cY (IxR.k (K:=K) qp fe rfl) (pv 2) (pv 0) (λ_ _=>rfl)) (cq (pv 3) c8 rfl) rfl))) (eI _))) (λ_ _ _ _=>(pv 0))) (fX cz) (eI _))))),?_⟩;have bl:=TG.len;have l: ∀{r:Nat},r<x.length-> ∃b,bs[r]? =some b/\H b=some (.tup ((x.getD r []).map nv)):=λ{r} c=>by
  obtain⟨b,eb⟩: ∃b,bs[r]? =some b:=⟨_,ck (by lia)⟩;exact⟨b,eb,TG.is r b _ eb (eW c)⟩
 have L: ∀r,r<o.length->o.getD r 0<x.length:=λr c=>by rw[<-xl];exact J _ (cK (cT c))
 obtain⟨b0,M,O⟩:=l (L 0 I);refine⟨_,rfl,_,rfl,fa,_,_,_,rfl,rfl,SqT.of d,ki (k:=0) I,g,_,_,_,rfl,rfl,SqL.of G,fF (j:=o.getD 0 0) (v:= .ref b0) (by rw[cF,M];rfl),?_⟩;refine⟨_,rfl,fa,_,rfl,.inr (SqT.of d),?_⟩
 try dsimp only
 rw[cj];refine⟨_,rfl,by lia,by lia,oK (lo:=0) (n:=o.length) (λi B C=>Same H C/\B=[]) (by rw[db];lia) ⟨Same.refl _,rfl⟩ (λi B C _ ⟨_,e⟩=>by rw[e];exact gN _) (λi B C T ⟨a,e⟩=>?_) (λB C ⟨a,e⟩ p hp=>?_)⟩
 .have z:V.int (0+((i:Nat):Int))=nv i:=by rw[nI]
  rw[z];obtain⟨b1,U,Y⟩:=l (L i T);obtain⟨b2,aa,ab⟩:=l (show i<x.length by lia);have m2:=gu _ (cK (eW (show i<x.length by lia)));have m0:=gu _ (cK (eW (L 0 I)));refine⟨gm,_,rfl,_,rfl,_,rfl,fa,_,_,_,rfl,rfl,SqT.of (a _ _ d),ki (k:=i) T,g,_,_,_,rfl,rfl,SqL.of (a _ _ G),fF (j:=o.getD i 0) (v:= .ref b1) (by rw[cF,U];rfl),_,rfl,_,rfl,g,_,_,_,rfl,rfl,SqL.of (a _ _ G),fF (j:=i) (v:= .ref b2) (by rw[cF,aa];rfl),_,rfl,b2,b0,_,_,rfl,a _ _ ab,a _ _ O,λr c=>by rw[m0.1];exact m2.2 r c,by rw[m2.1];exact u1,λt H2 gt et=>?_⟩;refine⟨b1,t,0,_,_,rfl,rfl,gW (SqT.of ((a.trans gt) _ _ Y)),gW (SqT.of et),by decide,λcc hc=>⟨_,rfl,?_⟩⟩;have m:cc=true:=hc.mpr (by rw[rule i T]);subst m;exact dU ⟨a.trans gt,e⟩
 .subst e;have kp:=cB hp (.lst []);refine⟨by show 0<=sizeLine;decide,λl2 y=>⟨p,l2,0,_,_,rfl,rfl,n' (is:=[]) (SqL.of (cB y _ _ _ cn)),n' (is:=[]) (SqL.of cn),by decide,λcc hc=>?_⟩⟩;have m:cc=true:=hc.mpr rfl;subst m;exact q _ ((a.trans kp).trans (cB y _))
def Ij(F:Fun K "_law_is_bringing" "_law_is_bringing" Az f fd)(j:mg "len"=none)(k:mg "list"=none)(o:mg "range"=none)(r:mg "set"=none):FnOk P w K mg base cQ 1 f fd ["_law_found"] BI:=by
 refine F.ok J1 (λt H Q E h=>?_) (λu A g s H t Q E v h=>?_)
 .obtain⟨fa,b,rfl,_⟩:=h;rfl
 obtain⟨fa,b,rfl,d,x,Y,y,q⟩:=h;have B:=v.units;refine⟨_,(cM (dr (sS (nL (tE B) (gD LA rfl k boot_list (cE (pv 0) cz)) (gD (C5 rfl) rfl k boot_list (cE (gD yF rfl o boot_range (cE (dS fJ rfl j fc (cE (pv 0) cz)) cz)) cz)) (eI _)) (uN (nL nY (dS Fk rfl j fc (cE (gD (EG rfl) rfl r Bz (cE (pv 0) cz)) cz)) cS (eI _)))))),?_⟩;refine⟨_,rfl,fa,_,rfl,.inr (SqT.of d),λC l=>⟨_,rfl,fa,_,rfl,.inr (SqT.of (cB l _ _ _ d)),?_⟩⟩;have D:=cB l (.lst (b.map nv))
 try dsimp only
 rw[cj];refine⟨_,rfl,λp G=>?_⟩;have m:=cB G (.rng 0 ((b.length:Nat):Int));refine⟨p,_,rfl,cn,by lia,by lia,λI i=>?_⟩;have n:=cB i (.lst (iB ((b.length:Nat):Int).toNat));have e:=(D.trans m).trans n;refine⟨C,I,0,_,_,rfl,rfl,n' (is:=b) (SqL.of ?_),n' (is:=List.range b.length) (SqL.of ?_),by decide,λJ L=>⟨_,rfl,?_⟩⟩
 .exact(m.trans n) _ _ cn
 .rw[cn,LU];rfl
 cases J with
 |true=>exact eY (q _ e)
 | false=>
  refine dU ?_;have M:b≠List.range b.length:=λz=>by
   have:=L.mpr (by rw[<-z]);cases this
  obtain⟨c,N⟩:=y.resolve_left M;refine⟨_,rfl,fa,zs b,rfl,SqT.of (by rw[<-yO];exact e _ _ d),by unfold zs;rw[List.length_map];lia,λa O=>⟨a,zs b,rfl,cn,?_⟩⟩;have T:(ky (zs b)).length=1:=by
   have U:zs b=List.replicate b.length (c:Int):=by
    conv=>lhs;rw[N]
    unfold zs;rw[Bp]
   rw[U,LS _ x];rfl
  rw[T];refine⟨rfl,?_⟩;rw[dD (show V.int ((1:Nat):Int)=V.int 1 from rfl)];exact q _ (e.trans (cB O _))
def KZ{CL CR T:Ad}(F:Fun K "law" "law" oJ f fd)(u_Row:OwnC K CR ["rooms","steps"])(kW:dw P w K mg base "_law_machine" 3 ["_law_script"] (Fy K))(rP:tL P w K mg base "Row" CR 20 ["self","machine"] (Ch CL CR))(jV:e7 P w K mg base CR "parts" 3 ["self"] (yV CL CR))(qU:e7 P w K mg base CR "move" 9 ["self","n","ahead","letter"] (DO CL CR))(qD:dw P w K mg base "levels" 18 ["machine"] (yS T (⟨49,40,49,93⟩:Pos)))(jT:dw P w K mg base "level_group" 13 ["machine","level"] zm)(qV:dw P w K mg base "_law_row" 1 ["_law_parts","_law_cells","_law_cell"] CI)(qA:dw P w K mg base "_law_is_row" 3 ["_law_found"] Eg)(kJ:dw P w K mg base "_law_is_turning" 3 ["_law_found","_law_group"] BM)(kA:dw P w K mg base "_law_is_bringing" 1 ["_law_found"] BI)(jB:mg "len"=none)(rQ:mg "max"=none)(rR:mg "min"=none)(qX:mg "set"=none):FnOk P w K mg base cQ 22 f fd ["_law_script"] (u8 K):=by
 refine F.ok qN (λvs H Q E h=>?_) (λbu A a1 s H vs Q E G h=>?_)
 .obtain⟨a,J,rfl,_⟩:=h;rfl
 obtain⟨a,J,rfl,hS,bv,hT,q⟩:=h;have hu:=G.units;have bw:=iG G;refine⟨_,(cH (df (i:=1) qN.nd rfl (Or.inr rfl) (dB kW G.m rfl (cE (pv 0) cz))) (cH (df (i:=2) qN.nd rfl (Or.inl rfl) (Cn rP G.m rfl (cE (pv 1) cz))) (cH (df (i:=3) qN.nd rfl (Or.inl rfl) (uw (pv 2) u_Row.cl jV G.m)) (cH (yM (CompSc.to (N:=["_law_script","_law_machine_here","_law_some","_law_parts","_law_groups_of","_law_cells","_law_cell","_law_n","_law_found","_law_word","_law_number","_law_many"]) (osc:=cL oJ) (vs:=["_law_level"]) {}) rfl rfl qN.nd (j:=4) rfl rfl (gF (dB qD G.m rfl (cE (pv 1) cz))) (λ_ _ _ _=>gR) (λ_ _ _ _=>(dB jT G.m rfl (c7 (cq (pv 2) (cq (pv 0) c8 rfl) rfl))))) (cH (df (i:=5) qN.nd rfl (Or.inl rfl) (ez wY (wc vL (pv 0) (qt cS) (qt cS)) (fX (cE (dS fJ rfl jB fc (cE (pv 0) cz)) cz)))) (cH (hR gT rfl (gF (ez wY (wc vL (pv 0) (qt cS) (qt cS)) (fX (cE cS cz)))) (fh (i:=6) qN.nd rfl (Or.inl rfl)) (cM (fS (fA (qa hu) (pv 3) (fX cz) (eI _)) (cH (df (i:=7) qN.nd rfl (Or.inl rfl) (ez iE (ez rn (pv 6) cS) (dS fJ rfl jB fc (cE (pv 3) cz)))) (cH (df (i:=8) qN.nd rfl (Or.inl rfl) (iW (pv 2) u_Row.cl qU G.m (c7 (cq (pv 7) (cq (dB qV G.m rfl (c7 (cq (wc vL (pv 3) C0 (qt (pv 7))) (cq (pv 5) (cq (pv 6) c8 rfl) rfl) rfl))) (cq (ez iE (pv 6) (dS fJ rfl jB fc (cE (pv 1) cz))) c8 rfl) rfl) rfl)))) (cH (uF (cY fe (pv 3) (pv 7) (λ_ _=>rfl)) (qu rfl (iU (fh (i:=9) qN.nd rfl (Or.inl rfl)) (iU (fh (i:=10) qN.nd rfl (Or.inl rfl)) (iU (fh (i:=11) qN.nd rfl (Or.inl rfl)) rg))))) (cH (fS (PW.pt (xo (re (l7 (dB qA G.m rfl (cE (pv 8) cz)))) (xo (fA CN (dS fJ rfl jB fc (cE (pv 8) cz)) (pv 11) (eI _)) (xo (fA tr (dS (JD rfl) rfl rQ boot_max (cE (pv 8) cz)) (pv 11) (eI _)) (DI (fA tD (dS (Gj rfl) rfl rR boot_min (cE (pv 8) cz)) cS (eI _))))))) (cM (dr pU)) gn) (cH (fS (PW.pt (m9 (fA nY (pv 9) rb (eI _)) (nr (re (l7 (dB kJ G.m rfl (c7 (cq (pv 8) (cq (cY fe (pv 4) (pv 10) (λ_ _=>rfl)) c8 rfl) rfl)))))))) (cM (dr pU)) gn) (cM (fS (PW.pt (xo (PW.pt (m9 (fA nY (pv 9) rb (eI _)) (nr (fA CN (dS Fk rfl jB fc (cE (gD (EG rfl) rfl qX Bz (cE (pv 8) cz)) cz)) (pv 11) (eI _))))) (DI (PW.pt (m9 (fA nY (pv 9) rb (eI _)) (nr (re (l7 (dB kA G.m rfl (cE (pv 8) cz)))))))))) (cM (dr pU)) gn))))))) gn))) (cM (dr pU)))))))),?_⟩;refine⟨_,rfl,a,J,rfl,hS,λm ts n H1 g1 M=>?_⟩;refine⟨_,rfl,λx dx nx a2 bx=>?_⟩;have gx:Same H1 (cg (cg H1 dx (.own x)) x (.ins CR dx [])):=λb o hb=>by
  rw[cw (dG hb nx),cw (dG hb a2)];exact hb
 refine⟨H1,x,dx,m,ts,n,rfl,gx,nx,cn,M,hT.same g1,λak d H4 k4 T4 R RA=>⟨rfl,?_⟩⟩;obtain⟨aB,r,st,qs,r1,r2⟩:=id RA;have M4:=M.keeps k4;have a3:SqL K H4 a (J.map V.int):=SqL.keeps (g1.seq hS) k4;have bz:=R.few;have lz:(dY d).length<=2 * d.length:=vT d d.length;refine⟨_,rfl,x,aB,_,rfl,r1,(by kernel_rfl),x,m,ts,n,d,rfl,RA,R.few,λl ps H5 g5 nl el PS=>?_⟩;have aC:=PS.len;refine⟨_,rfl,m,ts,n,rfl,M4.same g5,T4.same g5,λlv as told bt ys H6 k6 T6 bA aD ff od sub bB LL nw ap bC=>?_⟩;have ef:=R.ff.uniq ff;subst ef;have et:=R.od.uniq od;subst et;have la:=LL.len;have aE:=g5.keeps.trans k6;refine⟨lv,rfl,⟨_,SqL.of aD⟩,jc (xs:=as.map .ref) (λi vs u=>Keeps H6 u/\Tabs u/\ ∃gl:As,vs=gl.map V.ref/\gl.length=i/\ ∀(j:Nat) (g:Ad) (L:Lv),gl[j]? =some g->d[j]? =some L-> ∃bs,u g=some (.lst (bs.map .ref))/\TupsAt u bs L.gs) (by rw[cj];exact small (by rw[la,cj];lia)) ⟨Keeps.refl _,T6,[],rfl,rfl,λj g L e=>by simp at e⟩ (λi vs u _ pv=>?_) (λi v vs u hv pv=>?_) (λvs u pv sg aF=>?_)⟩
 .obtain⟨k7,_,gl,rfl,lg,_⟩:=pv;exact⟨SqL.of (k7 _ _ (nz aD)),by rw[cj,lg];exact cD _⟩
 .obtain⟨k7,T7,gl,rfl,lg,G7⟩:=pv;rw[cF]at hv;obtain⟨b,eb,rfl⟩:=dR.mp hv;have li:=(cA.mp eb).1;rw[la,cj]at li;have eL:=ck li;have ec:(d.map (·.c))[i]? =some (d[i]).c:=by rw[cF,eL];rfl
  have aa:=R.ok _ (iZ li);obtain⟨aG,a4,lp,wd⟩:=(LL.is i b _ eb ec).lvw (sub _ (cK ec));have a5:=aE.trans k7;refine⟨gm,iz ⟨_,rfl,_,rfl,m,b,ts,n,ak,_,_,aG,rfl,M4.keeps a5,R.ff,LvH.keeps a4 k7,lp,T7,λl' bs gs mk ws H8 k8 T8 bD a6 TG pm up Mk TT=>?_⟩⟩;have e:d[i]=⟨(d[i]).c,gL ak ((d[i]).c.headD []),aG,gs⟩:=aa.uniq ⟨lp,wd,Fm M R.ff lp pm up Mk TT⟩ rfl;refine⟨k7.trans k8,T8,gl++[l'],by rw[dP];rfl,by rw[dz,lg];rfl,λj g L e1 e2=>?_⟩;refine mo (P:=λj g=> ∀L,d[j]? =some L-> ∃bs,H8 g=some (.lst (bs.map .ref))/\TupsAt H8 bs L.gs) (λj g e1 L e2=>?_) (λL e2=>?_) j g e1 L e2
  .obtain⟨bs,z1,z2⟩:=G7 j g L e1 e2;exact⟨bs,k8 _ _ (nz z1),j7 z2 k8⟩
  .rw[lg,eL]at e2;cases e2;rw[e];exact⟨bs,a6,TG⟩
 obtain⟨k7,T7,gl,rfl,lg,G7⟩:=pv;rw[cj,la,cj]at lg;have ks:=cB aF (.lst (gl.map V.ref));have aH:cg u sg (.lst (gl.map V.ref)) sg=some (.lst (gl.map V.ref)):=cn;have ab:=k7.trans ks.keeps;have al:=aE.trans ab;have G8: ∀(j:Nat) (g:Ad) (L:Lv),gl[j]? =some g->d[j]? =some L-> ∃bs,cg u sg (.lst (gl.map V.ref)) g=some (.lst (bs.map .ref))/\TupsAt (cg u sg (.lst (gl.map V.ref))) bs L.gs:=λj g L e1 e2=>let⟨bs,z1,z2⟩:=G7 j g L e1 e2;⟨bs,ks _ _ z1,j7 z2 ks.keeps⟩
 have aI:=(k6.trans ab) _ _ (nz el);have aJ:=PS.st (wZ (k6.trans ab));have ae:SqL K (cg u sg (.lst (gl.map V.ref))) a (J.map V.int):=SqL.keeps a3 al;generalize cg u sg (.lst (gl.map V.ref))=H8 at aH al G8 aI aJ ae⊢;clear ab ks k7 T7 G7 aF;refine⟨_,rfl,_,rfl,_,rfl,a,_,rfl,ae,λsl aK=>?_⟩;obtain⟨c0,a7,bE⟩:=CP J (some 6) (some 70);rw[a7];have k1:=cB aK (.lst (c0.map V.int));refine⟨_,rfl,a,_,rfl,.inl (k1.seq ae),by show 1<=sizeLine;decide,λs2 aL=>?_⟩;have k2:=cB aL (.lst [V.int (((J.map V.int).length:Nat):Int)]);refine⟨sl,s2,_,_,rfl,rfl,SqL.of (k2 _ _ cn),SqL.of cn,by rw[cj,db];show c0.length+1<=_;lia,λce aM=>?_⟩;obtain⟨cs,a8,bF⟩: ∃cs:Zs,c0.map V.int++[V.int (((J.map V.int).length:Nat):Int)]=cs.map V.int/\cs.length=c0.length+1:=⟨c0++[(((J.map V.int).length:Nat):Int)],by rw[dP];rfl,by rw[dz];rfl⟩;rw[a8];have k3:=cB aM (.lst (cs.map V.int));have am:cg (cg (cg H8 sl (.lst (c0.map V.int))) s2 (.lst [V.int (((J.map V.int).length:Nat):Int)])) ce (.lst (cs.map V.int)) ce=some (.lst (cs.map V.int)):=cn;have g9:=(k1.trans k2).trans k3;generalize cg (cg (cg H8 sl (.lst (c0.map V.int))) s2 (.lst [V.int (((J.map V.int).length:Nat):Int)])) ce (.lst (cs.map V.int))=H9 at am g9⊢;clear k1 k2 k3 aK aL aM;refine⟨_,rfl,_,rfl,_,rfl,a,_,rfl,g9.seq ae,λan ah=>⟨by show 1<=sizeLine;decide,λs3 ao=>?_⟩⟩;obtain⟨d0,a9,bG⟩:=CP J (some 6) (some 26);rw[a9]at ao⊢;have aN:=cB ah (.lst (d0.map V.int));have aq:=cB ao (.lst [V.int 0]);refine⟨an,s3,_,_,rfl,rfl,SqL.of (aq _ _ cn),SqL.of cn,by rw[cj,db];show d0.length+1<=_;lia,λle aO=>?_⟩;obtain⟨ds,ba⟩: ∃ds:Zs,d0.map V.int++[V.int 0]=ds.map V.int:=⟨d0++[0],by rw[dP];rfl⟩;rw[ba];have k9:=cB aO (.lst (ds.map V.int));have ar:cg (cg (cg H9 an (.lst (d0.map V.int))) s3 (.lst [V.int 0])) le (.lst (ds.map V.int)) le=some (.lst (ds.map V.int)):=cn;have au:=(aN.trans aq).trans k9;have ai:=au _ _ am;have g8:=g9.trans au;generalize cg (cg (cg H9 an (.lst (d0.map V.int))) s3 (.lst [V.int 0])) le (.lst (ds.map V.int))=bb at ar ai g8⊢;clear aN aq k9 au ah ao aO am g9;have aP:=al.trans g8.keeps;have I:=g8 _ _ aI;have O:=aJ.st (jd g8);have av:=g8 _ _ aH;have pos: ∀p∈dY d,0<p.2.2:=λp hp=>R.pos M hp
 let P2:Nat->L2.St->Hp->Prop:=λi σ u=>Same bb u/\ ∃(o6 o7 o8 o9 aQ aR:Option V),σ=[some (.ref a),some (.ref m),some (.ref x),some (.ref l),some (.ref sg),some (.ref ce),o6,o7,o8,o9,aQ,aR]
 refine⟨le,rfl,⟨_,SqL.of ar⟩,ni (xs:=ds.map V.int) P2 ⟨Same.refl _,none,none,none,none,none,none,rfl⟩ (λi σ u _ p=>SqL.of (p.1 _ _ ar)) (λi v σ aS hv pv=>?_) (λσ aS pv=>q _)⟩;obtain⟨bc,o6,o7,o8,o9,aQ,aR,rfl⟩:=pv;rw[cF]at hv;obtain⟨c,ec,rfl⟩:=dR.mp hv;refine⟨_,rfl,by show 0<=sizeLine;decide,λe0 aT=>?_⟩;have ke:=cB aT (.lst []);have C:=bc.trans ke;refine⟨l,e0,1,_,_,rfl,rfl,Gr (C _ _ I) (O.st (jd C)),n' (is:=[]) (SqL.of cn),by decide,λcc hc=>⟨_,rfl,?_⟩⟩;generalize cg aS e0 (.lst [])=bd at C⊢;clear ke aT;cases cc with
 |true=>exact dU ⟨C,_,_,_,_,_,_,rfl⟩
 |false=>
 refine eY ?_;have p1:0<(dY d).length:=by
  cases ep:dY d with
  |nil=>
   have:=hc.mpr (by rw[ep];rfl);cases this
  |cons _ _=>exact Nat.succ_pos _
 refine⟨_,rfl,_,_,rfl,rfl,⟨by decide,by decide⟩,_,rfl,l,_,rfl,.inl (SqL.of (C _ _ I)),_,_,rfl,rfl,?_⟩
 try dsimp only
 rw[cj,aC];refine⟨(by show(0:Int)<(((dY d).length:Nat):Int);lia),?_⟩;obtain⟨j,ej,jl⟩:=eA (c:=c/4) p1;rw[ej];have be:=aP.trans C.keeps;refine⟨_,rfl,x,aB,_,rfl,be _ _ (nz r1),(by kernel_rfl),_,rfl,_,rfl,_,rfl,_,rfl,l,_,rfl,SqL.of (C _ _ I),λsa bf=>?_⟩;rw[D4,<-List.map_take];have ka:=cB bf (.lst ((ps.take j).map V.ref));have bg:cg bd sa (.lst ((ps.take j).map V.ref)) sa=some (.lst ((ps.take j).map V.ref)):=cn;have aw:=C.trans ka;refine⟨_,rfl,_,rfl,sa,ce,ps.take j,(dY d).take j,cs,c,rfl,bg,(O.st (jd aw)).take j,by rw[eF];lia,λp hp=>pos p (oI hp),aw _ _ ai,by lia,by lia,λra ax bH bh bi U ay=>?_⟩;rw[eF,pe (fj jl)]at U;have ri:=Hu pos (fj jl) U ay;have Y:=aw.trans bh;have aj:=aP.trans Y.keeps;have aU:=M4.keeps aj;obtain⟨rs,hm,bj,_⟩:=aU.refs;have t1:=M.some1;obtain⟨lt,bk,dM⟩:=eA (c:=c) (show 0<ts.length by lia);refine⟨_,rfl,_,rfl,m,_,rfl,.inr (SqT.of hm),_,_,rfl,rfl,?_⟩
 try dsimp only
 rw[cj,bj];refine⟨(by show(0:Int)<((ts.length:Nat):Int);lia),?_⟩;rw[bk];obtain⟨pt,af⟩: ∃pt,(dY d)[j]? =some pt:=⟨_,ck jl⟩;obtain⟨L,eL⟩:=Kb (cK af);refine⟨x,ra,m,ts,n,ak,d,ax,j,lt,pt,L,rfl,RA.keeps aj,aU,R,bi,U,ri,af,eL,dM,λfo bI bl az=>?_⟩;obtain⟨few,K1⟩:=Kc M4 R ri dM af eL;have lx:((List.range pt.2.2).map (jp ts n d (ax++List.replicate ((dY d).length-j) 0) lt pt L)).length=pt.2.2:=by rw[cj,fV]
 generalize(List.range pt.2.2).map (jp ts n d (ax++List.replicate ((dY d).length-j) 0) lt pt L)=xs at az K1 lx;have D:=Y.trans bl;obtain⟨pa,aV⟩: ∃pa,ps[j]? =some pa:=⟨_,ck (by rw[aC];exact jl)⟩;have bm:=D _ _ (O.is j pa pt aV af);refine⟨_,rfl,_,rfl,l,_,_,_,rfl,rfl,SqL.of (D _ _ I),fF (j:=j) (v:= .ref pa) (by rw[cF,aV];rfl),pa,_,rfl,SqT.of bm,rfl,_,_,rfl,_,_,rfl,_,_,rfl,rfl,?_⟩;refine⟨_,rfl,fo,xs,rfl,az,by lia,λaW aX=>⟨_,rfl,?_⟩⟩;refine dU ?_;have k:=aX _ _ az;have hx:SqT K aW fo ((zs xs).map V.int):=SqT.of (by rw[<-yO];exact k);have aY:zs xs≠[]:=λe=>by
  have e':xs=[]:=zB.mp e;have z:=K1.some_;rw[e']at z;exact wC z (i5 0)
 have aZ: ∀z∈zs xs,0<=z/\z<((pt.2.2:Nat):Int):=λz hz=>by
  obtain⟨y,hy,rfl⟩:=cO.mp hz;have:=K1.lt y hy;show 0<=((y:Nat):Int)/\((y:Nat):Int)<_;lia
 refine⟨_,rfl,fo,_,rfl,.inr (SqT.of k),?_⟩
 try dsimp only
 rw[cj,lx];refine⟨_,rfl,rfl,_,rfl,?_⟩;rw[dD (show V.int ((pt.2.2:Nat):Int)=nv pt.2.2 from rfl)];refine dU ?_;refine⟨_,rfl,fo,zs xs,rfl,hx,aY,λmx bn=>⟨_,rfl,_,_,rfl,rfl,_,rfl,?_⟩⟩;rw[d9 (by have:=aZ mx bn;lia)];refine dU ?_;refine⟨_,rfl,fo,zs xs,rfl,hx,aY,λmn bo=>⟨_,_,rfl,rfl,_,rfl,?_⟩⟩;rw[d9 (by have:=aZ mn bo;lia)];refine dU ?_;obtain⟨w1,w2⟩:=LX pt.1;have B:=D.trans aX;have aA:=B _ _ av;have last: ∀u,Same aW u->P2 (i+1) [some (.ref a),some (.ref m),some (.ref x),some (.ref l),some (.ref sg),some (.ref ce),some (.int c),some (nv j),some (.ref fo),some (.str (ot pt.1)),some (nv pt.2.1),some (nv pt.2.2)] u:=λu g'=>⟨B.trans g',_,_,_,_,_,_,rfl⟩;have kl:=(cA.mp eL).1;refine⟨_,rfl,rfl,_,rfl,?_⟩
 try dsimp only
 rw[w1];cases eb:pt.1 with
 | true=>
  rw[eb]at K1 w1 w2;obtain⟨bp,t2,t3⟩:=K1.tl rfl;obtain⟨ga,a0⟩: ∃g,gl[pt.2.1]? =some g:=⟨_,ck (by lia)⟩;obtain⟨bs,z1,z2⟩:=G8 _ ga L a0 eL;have aa:=R.ok L (cK eL);refine eY ⟨_,rfl,_,rfl,_,rfl,sg,_,_,_,rfl,rfl,SqL.of aA,fF (j:=pt.2.1) (v:= .ref ga) (by rw[cF,a0];rfl),fo,ga,bs,xs,L.gs,L.us.length,rfl,k,(g8.trans B) _ _ z1,j7 z2 (g8.trans B).keeps,K1.some_,by lia,bp,?_,λt ht=>?_,K1.lt,t3,λbq ag=>⟨_,rfl,dU ?_⟩⟩
  .exact dt (aa.us32 M R.ff) (by decide)
  .have pm:=aa.pm M R.ff ht;exact⟨by rw[pm.length_eq,fV],λr G=>eE.mp (pm.mem_iff.mp G)⟩
  refine⟨_,rfl,rfl,_,rfl,?_⟩
  try dsimp only
  rw[w1];refine eY ⟨_,rfl,fo,zs xs,rfl,SqT.of (by rw[<-yO];exact ag _ _ k),by unfold zs;rw[List.length_map];lia,λsb br=>⟨sb,zs xs,rfl,cn,?_⟩⟩;rw[K5 t2,lx];refine⟨_,rfl,rfl,_,rfl,?_⟩;rw[dD (show V.int ((pt.2.2:Nat):Int)=nv pt.2.2 from rfl)];refine dU ⟨_,rfl,rfl,_,rfl,?_⟩
  try dsimp only
  rw[w2];rw[eb]at last;exact dU (dU (last _ (ag.trans (cB br _))))
 |false=>
  rw[eb]at K1 w1 w2 last;refine dU (dU ⟨_,rfl,rfl,_,rfl,?_⟩)
  try dsimp only
  rw[w1];refine dU ⟨_,rfl,rfl,_,rfl,?_⟩
  try dsimp only
  rw[w2];exact eY ⟨_,rfl,fo,xs,rfl,k,K1.some_,by lia,K1.bl rfl,λbq ag=>⟨_,rfl,dU (last _ ag)⟩⟩
theorem iS{b:Type}{P:List b->Prop}(h: ∀a,P [a]): ∀c:List b,c.length=1->P c
 | [a],_=>h a
theorem ik{c:Type}{P:List c->Prop}(h: ∀a b,P [a,b]): ∀d:List c,d.length=2->P d
 | [a,b],_=>h a b
theorem jh{d:Type}{P:List d->Prop}(h: ∀a b c,P [a,b,c]): ∀e:List d,e.length=3->P e
 | [a,b,c],_=>h a b c
theorem uu{e:Type}{P:List e->Prop}(h: ∀a b c d,P [a,b,c,d]): ∀g:List e,g.length=4->P g
 | [a,b,c,d],_=>h a b c d
abbrev Rw(K:W.Frag)(x:Str)(st:Stmt)(f:Ad)(fd:Fd):Prop:=PySem.W.nsIn K mainGlobals x=some (some (.ref f))/\Fun K x x st f fd
def eR{K:W.Frag}{mg:SV}{x:Str}{k:Nat}{a:Ss}{e:Sp}{st:Stmt}{f:Ad}{fd:Fd}{h:Heap}(P:Pg)(w:World)(base:Heap)(X:K.In h)(G:h.Ns mainGlobals mg)(r:Rw K x st f fd)(o:FnOk P w K mg base cQ k f fd a e)
  (g: ∀(kV b pm:Vl) (i:Option Ad) (c j:Vl) (d:Vs),d.length=a.length->bindArgs (PySem.W.fnOf x x (iX st) (hE st) (cL st) .none kV b pm i c j) ⟨d,[]⟩=pure (a.zip d)):dw P w K mg base x k a e:=⟨f,fd,o,PySem.W.mg_of X G r.1,r.2.kp,r.2.binds g⟩
set_option maxHeartbeats 0 in
def e1c{l:W.OpenLaw}{w:World}{K:W.Frag}{h:Heap}{mg:SV}{fa f1 f2 f3 f4 f5 f6 f7 f8 f9 be bf bg bh bi bj bk bl bm bn bo bp bq br bs bt ab bu bv bw bx bz bA bB bC bD bE ae U M:Ad}{d1 d2 d3 d5 d6 d7 d8 bF bG bH bI bJ bK bL bM bN bO bP bQ bR bS bT bU bV bW bX bY bZ b0 b1 b2 b3 b4:Fd}(X:K.In h)(G:h.Ns mainGlobals mg)(b5:mg "law"=some (.ref fa))
  {b6 ax b7 ay az ai:Option Ad} {b8 b9 aA:Array (Option Vl)} {ca aB aC aD af aE cb aF aG aH aI aJ aj ak al am:Vl} {aK:Obj} {cc:Nat}
  (r1:Rw K "_wall" si f1 d1)
  (r2:Rw K "led" ou f2 d2)
  (r3:Rw K "refuse_more" zI f3 d3)
  (a4:W.nsIn K mainGlobals "reached"=some (some (.ref f4))) (l4:K.lookup f4=some ⟨ca,b6,.func (W.fnOf "reached" "reached" (iX mZ) (hE mZ) (cL mZ) (.ref ae) aB aC aD ax af aE),b8⟩) (c4:W.codeIn K af "reached"=true) (k4:W.keepIn K (.ref f4)=true)
  (lD4:K.lookup ae=some aK) (qD4:aK.data= .seq ([.none]:Vs).toArray cc)
  (r5:Rw K "place_of" Be f5 d5)
  (r6:Rw K "in_order" yZ f6 d6)
  (r7:Rw K "lies_in" wD f7 d7)
  (r8:Rw K "carried" uZ f8 d8)
  (a9:W.nsIn K mainGlobals "sets_reached"=some (some (.ref f9))) (l9:K.lookup f9=some ⟨cb,b7,.func (W.fnOf "sets_reached" "sets_reached" (iX lG) (hE lG) (cL lG) .none aF aG aH ay (.ref U) aI),b9⟩) (c9:W.codeIn K (.ref U) "sets_reached"=true) (k9:W.keepIn K (.ref f9)=true)
  (hd9:W.codeHdIn K U 101=true)
  (aL:Rw K "still" AE be bF)
  (aM:Rw K "behind" wT bf bG)
  (aN:Rw K "pictures" yf bg bH)
  (aO:Rw K "family" qo bh bI)
  (aP:Rw K "is_covered" vN bi bJ)
  (aQ:Rw K "tiles" rz bj bK)
  (aR:Rw K "words_between" zo bk bL)
  (aS:Rw K "alike_sets" wp bl bM)
  (aT:Rw K "sets_of_levels" Bq bm bN)
  (aU:Rw K "is_led_to" vz bn bO)
  (aV:Rw K "levels_in_order" su bo bP)
  (aW:Rw K "levels" u6 bp bQ)
  (aX:Rw K "tile" Av bq bR)
  (aY:Rw K "tiles_of_set" wS br bS)
  (aZ:Rw K "tiles_turned" xT bs bT)
  (a0:Rw K "all_tiles_turned" Ax bt bU)
  (a26:W.nsIn K mainGlobals "level_group"=some (some (.ref ab))) (l26:K.lookup ab=some ⟨aJ,az,.func (W.fnOf "level_group" "level_group" (iX lL) (hE lL) (cL lL) .none aj ak al ai (.ref M) am),aA⟩) (c26:W.codeIn K (.ref M) "level_group"=true) (k26:W.keepIn K (.ref ab)=true)
  (hd26:W.codeHdIn K M 200=true)
  (a1:Rw K "_law_cell_at" xY bu bV)
  (a2:Rw K "_law_turn" AN bv bW)
  (a3:Rw K "_law_machine" wJ bw bX)
  (a5:Rw K "_law_whole" Ac bx bY)
  (a6:Rw K "_law_is_row" vq bz bZ)
  (a7:Rw K "_law_row" yq bA b0)
  (a8:Rw K "_law_after" w6 bB b1)
  (ba:Rw K "_law_is_turning" xc bC b2)
  (bb:Rw K "_law_is_bringing" Az bD b3)
  (bc:Rw K "law" oJ bE b4)
  {E:Ad} (n_LevelParts:W.nsIn K mainGlobals "LevelParts"=some (some (.ref E))) (u_LevelParts:OwnC K E ["machine","group","tiles","turns","tile_count"]) (mk_LevelParts:W.makesIn K E=true) (kp_LevelParts:W.keepIn K (.ref E)=true)
  {Q:Ad} (n_Row:W.nsIn K mainGlobals "Row"=some (some (.ref Q))) (u_Row:OwnC K Q ["rooms","steps"]) (mk_Row:W.makesIn K Q=true) (kp_Row:W.keepIn K (.ref Q)=true)
  {j:Ad} {k:Fd} (v_LevelParts___init__:iY K E "__init__" "LevelParts.__init__" w9 j k)
  {c:Ad} {d:Fd} (v_LevelParts_is_turning:iY K E "is_turning" "LevelParts.is_turning" zZ c d)
  {q:Ad} {r:Fd} (v_LevelParts_within:iY K E "within" "LevelParts.within" zf q r)
  {g:Ad} {i:Fd} (v_LevelParts_least_tile:iY K E "least_tile" "LevelParts.least_tile" va g i)
  {m:Ad} {n:Fd} (v_LevelParts_deed_of:iY K E "deed_of" "LevelParts.deed_of" yP m n)
  {t:Ad} {u:Fd} (v_LevelParts_turned:iY K E "turned" "LevelParts.turned" zg t u)
  {o:Ad} {p:Fd} (v_LevelParts_brought:iY K E "brought" "LevelParts.brought" y3 o p)
  {a:Ad} {b:Fd} (v_LevelParts_pair_behind:iY K E "pair_behind" "LevelParts.pair_behind" yC a b)
  {x:Ad} {y:Fd} (v_Row___init__:iY K Q "__init__" "Row.__init__" vM x y)
  {H:Ad} {I:Fd} (v_Row_parts:iY K Q "parts" "Row.parts" AL H I)
  {z:Ad} {A:Fd} (v_Row_paired:iY K Q "paired" "Row.paired" Ai z A)
  {B:Ad} {C:Fd} (v_Row_walked:iY K Q "walked" "Row.walked" zV B C)
  {N:Ad} {O:Fd} (v_Row_move:iY K Q "move" "Row.move" rZ N O)
  (ao:W.nsIn K mainGlobals "len"=some none) (Y:W.nsIn K mainGlobals "range"=some none) (aa:W.nsIn K mainGlobals "tuple"=some none) (ag:W.nsIn K mainGlobals "list"=some none) (T:W.nsIn K mainGlobals "sorted"=some none) (ap:W.nsIn K mainGlobals "set"=some none) (aq:W.nsIn K mainGlobals "all"=some none) (ar:W.nsIn K mainGlobals "any"=some none) (J:W.nsIn K mainGlobals "enumerate"=some none) (as:W.nsIn K mainGlobals "zip"=some none) (D:W.nsIn K mainGlobals "isinstance"=some none) (au:W.nsIn K mainGlobals "int"=some none) (ah:W.nsIn K mainGlobals "bool"=some none) (av:W.nsIn K mainGlobals "max"=some none) (aw:W.nsIn K mainGlobals "min"=some none):
  ∃fd:Fd,(∀(s:Sh) (v:Vl),BindsTo s fd ⟨[v],[]⟩ [("_law_script",v)])/\ ∀base:Heap,K.In base->base.Ns mainGlobals mg->lX mg base->FnOk l.prog w K mg base cQ 22 fa fd ["_law_script"] (u8 K):=by
 have e:=b5.symm.trans (W.mg_of X G bc.1);cases e;have F4:DefAt K "reached" mZ f4 (W.fnOf "reached" "reached" (iX mZ) (hE mZ) (cL mZ) (.ref ae) aB aC aD ax af aE) (.ref ae) af:=⟨c4,⟨_,_,_,_,_,rfl⟩,_,_,_,l4⟩;have F9:DefAt K "sets_reached" lG f9 (W.fnOf "sets_reached" "sets_reached" (iX lG) (hE lG) (cL lG) .none aF aG aH ay (.ref U) aI) .none (.ref U):=⟨c9,⟨_,_,_,_,_,rfl⟩,_,_,_,l9⟩;have cd:DefAt K "level_group" lL ab (W.fnOf "level_group" "level_group" (iX lL) (hE lL) (cL lL) .none aj ak al ai (.ref M) am) .none (.ref M):=⟨c26,⟨_,_,_,_,_,rfl⟩,_,_,_,l26⟩;have L:=iq X G ao;have jC:=iq X G Y;have jD:=iq X G aa;have kZ:=iq X G ag;have kG:=iq X G T;have qX:=iq X G ap;have rM:=iq X G aq;have rC:=iq X G ar;have kE:=iq X G J;have rO:=iq X G as;have jS:=iq X G D;have rN:=iq X G au;have rG:=iq X G ah;have rQ:=iq X G av;have rR:=iq X G aw;have rL:=bc.2;obtain⟨_,_,kV,dc,pm,an,cv,ct,_,rfl,_,_⟩:=id rL.ex;refine⟨W.fnOf "law" "law" (iX oJ) (hE oJ) (cL oJ) .none kV dc pm an cv ct,λs v=> .of_eq rfl,λbase KB _ bd=>?_⟩;have qZ:=W.codeHd_of_K KB hd9;have rB:=W.codeHd_of_K KB hd26;have jU:=eR l.prog w base X G a1 (Mw a1.2 L) λ_ _ _ _ _ _=>ik λ_ _=>rfl;have qP:=eR l.prog w base X G a2 (Hk a2.2 jC jD kZ) λ_ _ _ _ _ _=>ik λ_ _=>rfl;have kW:=eR l.prog w base X G a3 (Ho a3.2 jU qP jC jD) λ_ _ _ _ _ _=>iS λ_=>rfl;have rK:=eR l.prog w base X G r2 (GY r2.2) λ_ _ _ _ _ _=>jh λ_ _ _=>rfl;have qR:=eR l.prog w base X G r5 (Ju r5.2 L) λ_ _ _ _ _ _=>iS λ_=>rfl;have qT:=eR l.prog w base X G r6 (Gp r6.2 qR kG) λ_ _ _ _ _ _=>iS λ_=>rfl;have jH:=eR l.prog w base X G r8 (GK r8.2 rK jD kG qX) λ_ _ _ _ _ _=>jh λ_ _ _=>rfl;have kN:=eR l.prog w base X G r3 (J4 r3.2 L) λ_ _ _ _ _ _=>ik λ_ _=>rfl;have kQ:wU l.prog w K mg base "reached" _ _ _ [.non]:=⟨_,_,[.none],IC (P:=l.prog) (w:=w) (base:=base) F4 kN jC,W.mg_of X G a4,k4,(λs us KX hl=>by have ce:us.length=3:=(by simpa using hl);clear hl;revert us;exact jh (λ_ _ _=>BindsTo.of_defaults rfl (KX _ _ lD4) qD4 rfl rfl)),.cons rfl .nil⟩;have jO:dw l.prog w K mg base "sets_reached" _ _ _:=⟨_,_,Hv (P:=l.prog) (w:=w) (base:=base) F9 qZ bd zD jH kQ L,W.mg_of X G a9,k9,.all (ik (λ_ _=>rfl))⟩;have kP:=eR l.prog w base X G aL (J5 aL.2 jD jC) λ_ _ _ _ _ _=>iS λ_=>rfl;have kI:=eR l.prog w base X G aM (IF aM.2 jD) λ_ _ _ _ _ _=>ik λ_ _=>rfl;have qS:=eR l.prog w base X G aN (JU aN.2 kP jO L kZ) λ_ _ _ _ _ _=>iS λ_=>rfl;have qC:=eR l.prog w base X G aO (FR aO.2 qS qT L jC) λ_ _ _ _ _ _=>iS λ_=>rfl;have jW:=eR l.prog w base X G r7 (Li r7.2 rM) λ_ _ _ _ _ _=>ik λ_ _=>rfl;have qG:=eR l.prog w base X G aP (J7 aP.2 jW rC) λ_ _ _ _ _ _=>ik λ_ _=>rfl;have rD:=eR l.prog w base X G aQ (Gm aQ.2 qC jW qG) λ_ _ _ _ _ _=>ik λ_ _=>rfl;have kO:=eR l.prog w base X G aR (L9 aR.2 qC jO L) λ_ _ _ _ _ _=>iS λ_=>rfl;have qH:=eR l.prog w base X G aS (LC aS.2) λ_ _ _ _ _ _=>ik λ_ _=>rfl;have kM:=eR l.prog w base X G aT (JR aT.2 qH) λ_ _ _ _ _ _=>iS λ_=>rfl;have qQ:=eR l.prog w base X G aU (MH aU.2 rC) λ_ _ _ _ _ _=>jh λ_ _ _=>rfl;have kH:=eR l.prog w base X G aV (MG aV.2 qQ) λ_ _ _ _ _ _=>ik λ_ _=>rfl;have qD:=eR l.prog w base X G aW (Md aW.2 kO kM kH rD) λ_ _ _ _ _ _=>iS λ_=>rfl;have rF:=eR l.prog w base X G aX (J9 aX.2 jH) λ_ _ _ _ _ _=>uu λ_ _ _ _=>rfl;have jJ:=eR l.prog w base X G aY (GI aY.2 rF L jC) λ_ _ _ _ _ _=>jh λ_ _ _=>rfl;have jP:=eR l.prog w base X G aZ (Km aZ.2 jH jJ jD) λ_ _ _ _ _ _=>uu λ_ _ _ _=>rfl;have jZ:=eR l.prog w base X G a0 (Ke a0.2 jP L jC) λ_ _ _ _ _ _=>ik λ_ _=>rfl;have jT:dw l.prog w K mg base "level_group" _ _ _:=⟨_,_,ID (P:=l.prog) (w:=w) (base:=base) cd rB bd zJ jZ kP kI kQ L kG,W.mg_of X G a26,k26,.all (ik (λ_ _=>rfl))⟩;have qJ:tL l.prog w K mg base "LevelParts" E _ _ _:=⟨_,_,HW (P:=l.prog) (w:=w) (mg:=mg) (base:=base) v_LevelParts___init__.2.2 u_LevelParts jT jJ jP kE jC L,⟨mk_LevelParts,v_LevelParts___init__.1,v_LevelParts___init__.2.1,kp_LevelParts⟩,W.mg_of X G n_LevelParts,v_LevelParts___init__.2.2.binds (ps:=["self","machine","level"]) λ_ _ _ _ _ _=>jh (λ_ _ _=>rfl)⟩;have jE:e7 l.prog w K mg base E "is_turning" _ _ _:=⟨_,_,LF (P:=l.prog) (w:=w) (mg:=mg) (base:=base) v_LevelParts_is_turning.2.2 u_LevelParts L,⟨v_LevelParts_is_turning.1,v_LevelParts_is_turning.2.1,v_LevelParts_is_turning.2.2.kp⟩,v_LevelParts_is_turning.2.2.binds (ps:=["self"]) λ_ _ _ _ _ _=>iS (λ_=>rfl)⟩;have jM:e7 l.prog w K mg base E "within" _ _ _:=⟨_,_,Hi (P:=l.prog) (w:=w) (mg:=mg) (base:=base) v_LevelParts_within.2.2 u_LevelParts,⟨v_LevelParts_within.1,v_LevelParts_within.2.1,v_LevelParts_within.2.2.kp⟩,v_LevelParts_within.2.2.binds (ps:=["self","here","pair"]) λ_ _ _ _ _ _=>jh (λ_ _ _=>rfl)⟩;have jQ:e7 l.prog w K mg base E "least_tile" _ _ _:=⟨_,_,Ky (P:=l.prog) (w:=w) (mg:=mg) (base:=base) v_LevelParts_least_tile.2.2 u_LevelParts jW,⟨v_LevelParts_least_tile.1,v_LevelParts_least_tile.2.1,v_LevelParts_least_tile.2.2.kp⟩,v_LevelParts_least_tile.2.2.binds (ps:=["self","here","rooms"]) λ_ _ _ _ _ _=>jh (λ_ _ _=>rfl)⟩;have jG:e7 l.prog w K mg base E "deed_of" _ _ _:=⟨_,_,ME (P:=l.prog) (w:=w) (mg:=mg) (base:=base) v_LevelParts_deed_of.2.2 u_LevelParts jH jQ,⟨v_LevelParts_deed_of.1,v_LevelParts_deed_of.2.1,v_LevelParts_deed_of.2.2.kp⟩,v_LevelParts_deed_of.2.2.binds (ps:=["self","here","there","letter"]) λ_ _ _ _ _ _=>uu (λ_ _ _ _=>rfl)⟩;have jI:e7 l.prog w K mg base E "turned" _ _ _:=⟨_,_,LQ (P:=l.prog) (w:=w) (mg:=mg) (base:=base) v_LevelParts_turned.2.2 u_LevelParts kI,⟨v_LevelParts_turned.1,v_LevelParts_turned.2.1,v_LevelParts_turned.2.2.kp⟩,v_LevelParts_turned.2.2.binds (ps:=["self","deed","turning"]) λ_ _ _ _ _ _=>jh (λ_ _ _=>rfl)⟩;have jF:e7 l.prog w K mg base E "brought" _ _ _:=⟨_,_,IR (P:=l.prog) (w:=w) (mg:=mg) (base:=base) v_LevelParts_brought.2.2 u_LevelParts,⟨v_LevelParts_brought.1,v_LevelParts_brought.2.1,v_LevelParts_brought.2.2.kp⟩,v_LevelParts_brought.2.2.binds (ps:=["self","deed","turning","bringing"]) λ_ _ _ _ _ _=>uu (λ_ _ _ _=>rfl)⟩;have jL:e7 l.prog w K mg base E "pair_behind" _ _ _:=⟨_,_,L1 (P:=l.prog) (w:=w) (mg:=mg) (base:=base) v_LevelParts_pair_behind.2.2 u_LevelParts jI jF,⟨v_LevelParts_pair_behind.1,v_LevelParts_pair_behind.2.1,v_LevelParts_pair_behind.2.2.kp⟩,v_LevelParts_pair_behind.2.2.binds (ps:=["self","deed","pair"]) λ_ _ _ _ _ _=>jh (λ_ _ _=>rfl)⟩;have rP:tL l.prog w K mg base "Row" Q _ _ _:=⟨_,_,Ji (P:=l.prog) (w:=w) (mg:=mg) (base:=base) v_Row___init__.2.2 u_Row qJ qD kP L,⟨mk_Row,v_Row___init__.1,v_Row___init__.2.1,kp_Row⟩,W.mg_of X G n_Row,v_Row___init__.2.2.binds (ps:=["self","machine"]) λ_ _ _ _ _ _=>ik (λ_ _=>rfl)⟩;have jV:e7 l.prog w K mg base Q "parts" _ _ _:=⟨_,_,Ic (P:=l.prog) (w:=w) (mg:=mg) (base:=base) v_Row_parts.2.2 u_LevelParts u_Row jE kE L,⟨v_Row_parts.1,v_Row_parts.2.1,v_Row_parts.2.2.kp⟩,v_Row_parts.2.2.binds (ps:=["self"]) λ_ _ _ _ _ _=>iS (λ_=>rfl)⟩;have qK:e7 l.prog w K mg base Q "paired" _ _ _:=⟨_,_,HM (P:=l.prog) (w:=w) (mg:=mg) (base:=base) v_Row_paired.2.2 u_LevelParts u_Row jE,⟨v_Row_paired.1,v_Row_paired.2.1,v_Row_paired.2.2.kp⟩,v_Row_paired.2.2.binds (ps:=["self","row"]) λ_ _ _ _ _ _=>ik (λ_ _=>rfl)⟩;have qL:e7 l.prog w K mg base Q "walked" _ _ _:=⟨_,_,Gq (P:=l.prog) (w:=w) (mg:=mg) (base:=base) v_Row_walked.2.2 u_LevelParts u_Row jG jL jM rO,⟨v_Row_walked.1,v_Row_walked.2.1,v_Row_walked.2.2.kp⟩,v_Row_walked.2.2.binds (ps:=["self","pairs","letter"]) λ_ _ _ _ _ _=>jh (λ_ _ _=>rfl)⟩;have qU:e7 l.prog w K mg base Q "move" _ _ _:=⟨_,_,LP (P:=l.prog) (w:=w) (mg:=mg) (base:=base) v_Row_move.2.2 u_LevelParts u_Row jV qK qL jG jI jF L jD jC,⟨v_Row_move.1,v_Row_move.2.1,v_Row_move.2.2.kp⟩,v_Row_move.2.2.binds (ps:=["self","n","ahead","letter"]) λ_ _ _ _ _ _=>uu (λ_ _ _ _=>rfl)⟩;have qI:=eR l.prog w base X G a5 (Hw a5.2 jS rN rG) λ_ _ _ _ _ _=>iS λ_=>rfl;have qA:=eR l.prog w base X G a6 (FY a6.2 qI jS jD) λ_ _ _ _ _ _=>iS λ_=>rfl;have qV:=eR l.prog w base X G a7 (Ha a7.2 L jD) λ_ _ _ _ _ _=>jh λ_ _ _=>rfl;have qM:=eR l.prog w base X G a8 (JZ a8.2 jD) λ_ _ _ _ _ _=>ik λ_ _=>rfl;have kJ:=eR l.prog w base X G ba (Jt ba.2 qM L jC) λ_ _ _ _ _ _=>ik λ_ _=>rfl;have kA:=eR l.prog w base X G bb (Ij bb.2 L kZ jC qX) λ_ _ _ _ _ _=>iS λ_=>rfl;exact KZ (P:=l.prog) (w:=w) (base:=base) rL u_Row kW rP jV qU qD jT qV qA kJ kA L rQ rR qX
def tabsW:List (Str×Ad):=[("sets_reached",101),("level_group",200)]
def walk{l:PySem.W.OpenLaw}{q:Pg}{b:Ss}{m:SV->Heap->Prop}{j:World->Heap->Prop}{d:DefRec}{K:Params->W.Frag}(o:l.most=some 63)(g:d.params.defaults=[])
  (p: ∀(w:World) (h:Heap),j w h->(K w.params).In h) (hT: ∀w:World,∀t∈tabsW,(K w.params).lookup t.2=none/\(∃c,PySem.W.tabIn (K w.params) t.1=some (c,t.2))/\ ∃e,(recsOf q).find? (λr=>r.name==t.1)=some e)
  (F: ∀(w:World) (mg:SV) (fa:Ad) (h:Heap),(K w.params).In h->h.Ns mainGlobals mg->mg d.name=some (.ref fa)->
   ∃fd:Fd,(∀(s:Sh) (u:Vl),BindsTo s fd ⟨[u],[]⟩ [("_law_script",u)])/\ ∀base:Heap,(K w.params).In base->base.Ns mainGlobals mg->lX mg base->FnOk l.prog w (K w.params) mg base cQ 22 fa fd ["_law_script"] (u8 (K w.params))):
  PySem.W.WalkO q b m j l.row.toRowW d [] (λf v=>PySem.call f v):=
 L2.d2n (n:=63) (k:=22) (x:="_law_script") (tabs:=tabsW) (sp:=λw=>u8 (K w.params)) o (by decide) g ⟨rfl,by decide,by decide⟩ p hT F λw H a y A ht B=>⟨a,y,rfl,B,A,(λq C=>by
  have z:q.2.2∈tabsW.map (·.2):=(show eQ.map (·.2.2)=tabsW.map (·.2)from rfl)▸List.mem_map_of_mem C;obtain⟨t,i,e⟩:=cO.mp z;rw[<-e];exact .inl (ht t i)),λ_=>rfl⟩
end My
namespace PySem.W.Fast
def tw9177936329346562996 := ()
theorem te9177936329346562996 : True := ⟨⟩
def tw15978334782787247596:=()
def tw18250161430295080996:=()
def tw124634138168556810:=()
def tw17045593817205253602:=()
def tw2360449855731619809:=()
def tw3391827715678317976:=()
def tw15920737682233260710:=()
def tw5894080713747426973:=()
def tw2700948497117624590:=()
def tw17245972295980702457:=()
def tw11720826795595288971:=()
def tw6167808297946516469:=()
def tw12241220008772634441:=()
def tw16704941413760475507:=()
def tw15850513869786782599:=()
def tw1569703901865208460:=()
def tw17866208634881989538:=()
def tw13603858319294575346:=()
def tw8618715056894696879:=()
def tw11700246258058097845:=()
def tw11438970433994386440:=()
def tw6309776584349746744:=()
def tw488801204335427183:=()
def tw15781669920284055972:=()
def tw13872756525439130591:=()
def tw12551896927278693205:=()
def tw8264792237574988329:=()
def tw1637132243951431923:=()
def tw7811311811148479172:=()
def tw15133780573698940884:=()
def tw2501677544680312007:=()
def tw4316981680698897936:=()
def tw7591510135215207339:=()
def tw837088074796373610:=()
def tw1810347746379671617:=()
def tw6325187253181069319:=()
def tw1159112037005465220:=()
def tw16655561970121575715:=()
def tw5394023217044204062:=()
def tw18267447421183518537:=()
def tw8811797756778980324:=()
def tw2986903279448012521:=()
def tw9697832243082989004:=()
def tw969355865268250767:=()
def tw10782338686689198336:=()
def tw10431631477025183521:=()
def tw541355987751266039:=()
def tw16639864583602087389:=()
def tw15322235925153582068:=()
def tw1646139216623104532:=()
def tw16818496766180785225:=()
def tw3135942608932777016:=()
def tw13265074186011898648:=()
def tw8892310841206581962:=()
def tw2826744715683791931:=()
def tw16468647574099495242:=()
def tw10018058155758560493:=()
def tw18055485514758213269:=()
def tw13264950623416019617:=()
def tw9791910407941010923:=()
def tw17709721622426859723:=()
def tw2358087416783117800:=()
def tw7013923948430273840:=()
def tw4451635180249226752:=()
def tw9438545469567142704:=()
def tw14366000901930512832:=()
def tw15033067498133324368:=()
def tw17604476128544890698:=()
def tw9432543750840589496:=()
def tw16834014539927154090:=()
def tw21319203726350585:=()
def tw14517739270737989814:=()
def tw2853253683999399118:=()
def tw441725884561510752:=()
def tw4635360387914263885:=()
def tw1012194867134821348:=()
def tw7203135625181030847:=()
def tw3242473831748827496:=()
def tw2494654846984704838:=()
def tw3799970387421899298:=()
def tw17385439160952791864:=()
def tw9029610572536878153:=()
def tw7082778532826143282:=()
def tw4916248704031576843:=()
def tw13188957124215101730:=()
def tw15085280815370351673:=()
def tw10525151250167015261:=()
def tw9971293244406584782:=()
def tw6956590692696138201:=()
def tw10469003350171368923:=()
def tw13519389319681293059:=()
def tw4133625796042702180:=()
def tw763504532348999293:=()
def tw4124640150322656920:=()
def tw13043559919252171481:=()
def tw11994652182610883146:=()
def tw11135480130009053636:=()
def tw8498126809083810997:=()
def tw13705971655102455701:=()
def tw5412681500067131190:=()
def tw18404372942975400385:=()
def tw3305963259079468393:=()
def tw12539495625038540154:=()
def tw2867253083621690769:=()
def tw2257667280952773200:=()
def tw16096387656491372200:=()
def tw9205252725145993952:=()
def tw8501372763986670619:=()
def tw587387243264352238:=()
def tw18350276390797165125:=()
def tw462843006980071683:=()
def tw1604790683832934155:=()
def tw2012934262690291325:=()
def tw986838038873854537:=()
def tw10968297882365821316:=()
def tw17697271907188822161:=()
def tw12887242857867141429:=()
def tw10158630397719759918:=()
def tw14673616598463474258:=()
def tw9702253898776943519:=()
def tw17812713757680619025:=()
def tw6045488413044699163:=()
def tw15213656896793345486:=()
def tw16935912444640121686:=()
def tw4315683203965382253:=()
def tw8066244020845538305:=()
def tw3715924598415564454:=()
def tw16965891487471931779:=()
def tw5834714141960411020:=()
def tw134440612830395397:=()
end PySem.W.Fast
open PySem PySem.W PyProof.Rows
set_option maxRecDepth 100000 in
set_option maxHeartbeats 0 in
theorem PySem.Challenge.cw_cascade_k91_whole_each_move_is_of_its_ki_holds : PySem.Challenge.rw_cascade_k91_whole_each_move_is_of_its_ki.Holds := by
 w_on; o_law; k_head; (case hw => w_witness2)
 k_fill
 refine' My.walk (l := PySem.Challenge.rw_cascade_k91_whole_each_move_is_of_its_ki) rfl rfl (fun w h Y => PySem.W.km_in_of Y) ?hT ?F
 case hT =>
  intro w t ht
  simp only [My.tabsW, List.mem_cons, List.not_mem_nil, or_false] at ht
  rcases ht with rfl | rfl
  ·exact ⟨by kernel_rfl, ⟨105, by kernel_rfl⟩, _, rfl⟩
  ·exact ⟨by kernel_rfl, ⟨204, by kernel_rfl⟩, _, rfl⟩
 case F =>
  intro w mg fa h KX G hmg
  refine' My.e1c KX G hmg ?_ ?_ ?_ ?a4 ?l4 ?c4 ?k4 ?lD4 ?qD4 ?_ ?_ ?_ ?_ ?a9 ?l9 ?c9 ?k9 ?hd9 ?_ ?_ ?_ ?_ ?_ ?_ ?_ ?_ ?_ ?_ ?_ ?_ ?_ ?_ ?_ ?_ ?a26 ?l26 ?c26 ?k26 ?hd26 ?_ ?_ ?_ ?_ ?_ ?_ ?_ ?_ ?_ ?_  ?n_LevelParts ?u_LevelParts ?mk_LevelParts ?kp_LevelParts ?n_Row ?u_Row ?mk_Row ?kp_Row ?v_LevelParts___init__ ?v_LevelParts_is_turning ?v_LevelParts_within ?v_LevelParts_least_tile ?v_LevelParts_deed_of ?v_LevelParts_turned ?v_LevelParts_brought ?v_LevelParts_pair_behind ?v_Row___init__ ?v_Row_parts ?v_Row_paired ?v_Row_walked ?v_Row_move  ?_ ?_ ?_ ?_ ?_ ?_ ?_ ?_ ?_ ?_ ?_ ?_ ?_ ?_ ?_
  (case a4 => k_is); (case l4 => k_is); (case c4 => k_is); (case k4 => k_is)
  (case lD4 => k_is); (case qD4 => rfl)
  (case a9 => k_is); (case l9 => k_is); (case c9 => k_is); (case k9 => k_is)
  (case hd9 => kernel_rfl)
  (case a26 => k_is); (case l26 => k_is); (case c26 => k_is); (case k26 => k_is)
  (case hd26 => kernel_rfl)
  (case n_LevelParts => k_is); (case u_LevelParts => exact ⟨⟨by k_is, by k_is, by k_is, by k_is⟩, (.cons (by k_is) (.cons (by k_is) (.cons (by k_is) (.cons (by k_is) (.cons (by k_is) .nil)))))⟩); (case mk_LevelParts => k_is); (case kp_LevelParts => k_is)
  (case n_Row => k_is); (case u_Row => exact ⟨⟨by k_is, by k_is, by k_is, by k_is⟩, (.cons (by k_is) (.cons (by k_is) .nil))⟩); (case mk_Row => k_is); (case kp_Row => k_is)
  (case v_LevelParts___init__ => refine' ⟨?a, ?i, L2.a4q ?l ?c ?k⟩; (case a => k_is); (case i => k_is); (case l => k_is); (case c => k_is); (case k => k_is))
  (case v_LevelParts_is_turning => refine' ⟨?a, ?i, L2.a4q ?l ?c ?k⟩; (case a => k_is); (case i => k_is); (case l => k_is); (case c => k_is); (case k => k_is))
  (case v_LevelParts_within => refine' ⟨?a, ?i, L2.a4q ?l ?c ?k⟩; (case a => k_is); (case i => k_is); (case l => k_is); (case c => k_is); (case k => k_is))
  (case v_LevelParts_least_tile => refine' ⟨?a, ?i, L2.a4q ?l ?c ?k⟩; (case a => k_is); (case i => k_is); (case l => k_is); (case c => k_is); (case k => k_is))
  (case v_LevelParts_deed_of => refine' ⟨?a, ?i, L2.a4q ?l ?c ?k⟩; (case a => k_is); (case i => k_is); (case l => k_is); (case c => k_is); (case k => k_is))
  (case v_LevelParts_turned => refine' ⟨?a, ?i, L2.a4q ?l ?c ?k⟩; (case a => k_is); (case i => k_is); (case l => k_is); (case c => k_is); (case k => k_is))
  (case v_LevelParts_brought => refine' ⟨?a, ?i, L2.a4q ?l ?c ?k⟩; (case a => k_is); (case i => k_is); (case l => k_is); (case c => k_is); (case k => k_is))
  (case v_LevelParts_pair_behind => refine' ⟨?a, ?i, L2.a4q ?l ?c ?k⟩; (case a => k_is); (case i => k_is); (case l => k_is); (case c => k_is); (case k => k_is))
  (case v_Row___init__ => refine' ⟨?a, ?i, L2.a4q ?l ?c ?k⟩; (case a => k_is); (case i => k_is); (case l => k_is); (case c => k_is); (case k => k_is))
  (case v_Row_parts => refine' ⟨?a, ?i, L2.a4q ?l ?c ?k⟩; (case a => k_is); (case i => k_is); (case l => k_is); (case c => k_is); (case k => k_is))
  (case v_Row_paired => refine' ⟨?a, ?i, L2.a4q ?l ?c ?k⟩; (case a => k_is); (case i => k_is); (case l => k_is); (case c => k_is); (case k => k_is))
  (case v_Row_walked => refine' ⟨?a, ?i, L2.a4q ?l ?c ?k⟩; (case a => k_is); (case i => k_is); (case l => k_is); (case c => k_is); (case k => k_is))
  (case v_Row_move => refine' ⟨?a, ?i, L2.a4q ?l ?c ?k⟩; (case a => k_is); (case i => k_is); (case l => k_is); (case c => k_is); (case k => k_is))
  any_goals (refine' ⟨?a, L2.a4q ?l ?c ?k⟩; (case a => k_is); (case l => k_is); (case c => k_is); (case k => k_is))
  any_goals k_is
