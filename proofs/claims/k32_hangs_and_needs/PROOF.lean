
import PyProof.Rows.All
import Wide.All
import OpenK.AllK
import Wide.FinOn
import Lean
import KE.KRevIter
import KE.KPairComp
import KE.KIntText
import PyProof.NsDelKeeps
import PyProof.NeKinds
import KE.KNestM
import KE.KLam
import OpenK.KTop
import PyProof.FactsAll.dict_1
import PyProof.FactsAll.subtypes_4
import PyProof.Rows.SetFrom
import PyProof.SetNew
import PyProof.SetRoads
import PyProof.Rows.SortRuns
import PyProof.Rows.SortIns
import PyProof.Rows.SortShell
import PyProof.Rows.SortWalk
import KE.KSortTup
import KE.KDictOf
import PyProof.AttrMissHeap
import KE.KRevIter
import PyProof.SeqI3
import PyProof.SliceList
import PyProof.ListIndex
import PyProof.SeqWrite
import PyProof.InstEq
import PyProof.TupleKey
import PyProof.IsRules
import PyProof.EqAt
import PyProof.EqKinds
import PyProof.TupleCall
import PySem.Challenge.RW_halvedpictures_k32_hangs_and_needs
set_option Elab.async false
set_option linter.all false
set_option maxRecDepth 100000
namespace WN
abbrev L:=List Nat
abbrev S:=List (Nat×L)
def dt:L->L->Nat
 | a::x,c::p=>c*a+dt x p
 | _,_=>0
def pa:L->L->L
 | a::p,b::q=>(a+b)::pa p q
 | [],q=>q
 | p,[]=>p
def ge:L->L->Bool
 | a::p,b::q=>and (b.ble a) (ge p q)
 | p,[]=>true
 | [],b::q=>and (b.beq 0) (ge [] q)
def gt:L->Nat->Nat
 | a::_,0=>a
 | _::x,i+1=>gt x i
 | [],_=>0
def un:Nat->L
 | 0=>[1]
 | i+1=>0::un i
def sc(k:Nat):L->L
 | []=>[]
 | a::p=>k*a::sc k p
def p2:S->(Nat->L->Nat->L->S->Prop)->Prop
 | (b,q)::(a,p)::s,k=>k a p b q s
 | _,_=>True
def p1:S->(Nat->L->S->Prop)->Prop
 | (a,p)::s,k=>k a p s
 | _,_=>True
def D(x:L):Nat->S->Nat->L->L->Nat->Prop
 | 0,_,_,_,_,_=>True
 | f+1,s,m,l,r,N=>
  let d:=N%28;let M:=N/28
  bif d.ble 1 then bif d.beq 0 then p2 s fun a p b q s=>D x f ((a+b,pa p q)::s) m l r M else p1 s fun a p s=>D x f ((a+1,pa p [1])::s) m l r M
  else bif d.ble 5 then
   bif d.beq 2 then D x f ((M%28,[M%28])::s) m l r (M/28)
   else bif d.beq 3 then D x f ((M%4096,[M%4096])::s) m l r (M/4096)
   else p1 s fun a p s=>D x f ((bif d.beq 4 then M%28*a else a*(M%28),sc (M%28) p)::s) m l r (M/28)
  else bif d.ble 11 then p2 s fun a p b q s=>
   let j:Prop->L->L->Prop:=fun P u v=>P->D x f s 1 (pa l (sc m u)) (pa r (sc m v)) M
   bif d.beq 6 then j (a≤b) p q else bif d.beq 7 then j (a<b) (pa p [1]) q else bif d.beq 8 then j (a=b) p q else bif d.beq 9 then j (a=b) q p else bif d.beq 10 then j (¬a≤b) (pa q [1]) p else j (¬a<b) q p
  else bif d.beq 12 then D x f s (M%28) l r (M/28)
  else bif d.beq 15 then bif ge l (pa [1] r) then False else True
  else bif d.ble 15 then p2 s fun a p b q _=>bif ge (pa l (sc m (bif d.beq 13 then pa q [1] else q))) (pa [1] (pa r (sc m p))) then bif d.beq 13 then a≤b else a<b else True
  else D x f ((gt x (d-15),un (d-15))::s) m l r M
theorem dpa(x:L):∀p q,dt x (pa p q)=dt x p+dt x q:=by
 induction x with
 | nil=>intro p q;cases p<;>cases q<;>rfl
 | cons a x h=>intro p q;cases p<;>cases q<;>simp [dt,pa,h,Nat.add_mul];omega
theorem dsc(k:Nat)(x:L):∀p,dt x (sc k p)=k*dt x p:=by
 induction x with
 | nil=>intro p;cases p<;>rfl
 | cons a x h=>intro p;cases p<;>simp [dt,sc,h,Nat.mul_add,Nat.mul_assoc]
theorem dge(x:L):∀p q,ge p q=true->dt x q≤dt x p:=by
 induction x with
 | nil=>intro p q _;cases q<;>exact Nat.zero_le _
 | cons a x h=>
  intro p q e;cases q with
  | nil=>exact Nat.zero_le _
  | cons c q=>
   cases p with
   | nil=>simp [ge,dt] at *;rw [e.1];have:=h [] q e.2;cases x<;>simp_all [dt]
   | cons b p=>simp [ge,dt] at *;exact Nat.add_le_add (Nat.mul_le_mul_right a e.1) (h p q e.2)
theorem dun(x:L):∀k,gt x k=dt x (un k):=by
 induction x with
 | nil=>intro k;cases k<;>rfl
 | cons a x h=>intro k;cases k<;>simp [dt,un,gt,h]
theorem bi{b:Bool}{P Q:Prop}(h:b=true->P)(k:b=false->Q):bif b then P else Q:=by cases b;exact k rfl;exact h rfl
theorem ok(y:L):∀f s m l r N,(∀e∈s,e.1=dt (1::y) e.2)->dt (1::y) l≤dt (1::y) r->D (1::y) f s m l r N:=by
 generalize hx:1::y=x
 have c1:∀k,k=dt x [k]:=fun k=>by subst hx;cases y<;>simp [dt]
 have c2:∀p,dt x (pa p [1])=dt x p+1:=fun p=>by rw [dpa,←c1 1]
 have up:∀{a p}{s:S},a=dt x p->(∀e∈s,e.1=dt x e.2)->∀i∈(a,p)::s,i.1=dt x i.2:=fun h k=>List.forall_mem_cons.2 ⟨h,k⟩
 have ad:∀{l r p q m},dt x l≤dt x r->dt x p≤dt x q->dt x (pa l (sc m p))≤dt x (pa r (sc m q)):=fun h k=>by rw [dpa,dpa,dsc,dsc];exact Nat.add_le_add h (Nat.mul_le_mul_left _ k)
 have no:∀{l r},dt x l≤dt x r->ge l (pa [1] r)=true->False:=fun h k=>by have:=dge x _ _ k;rw [dpa,←c1 1] at this;omega
 have q2:∀{s:S}{k},(∀e∈s,e.1=dt x e.2)->(∀a p b q s,a=dt x p->b=dt x q->(∀e∈s,e.1=dt x e.2)->k a p b q s)->p2 s k:=fun{s k} h g=>by
  match s with
  | []=>trivial
  | [_]=>trivial
  | (b,q)::(a,p)::s=>exact g a p b q s (h _ (.tail _ (.head _))) (h _ (.head _)) fun e i=>h e (.tail _ (.tail _ i))
 have q1:∀{s:S}{k},(∀e∈s,e.1=dt x e.2)->(∀a p s,a=dt x p->(∀e∈s,e.1=dt x e.2)->k a p s)->p1 s k:=fun{s k} h g=>by
  match s with
  | []=>trivial
  | (a,p)::s=>exact g a p s (h _ (.head _)) fun e i=>h e (.tail _ i)
 intro f
 induction f with
 | zero=>intros;trivial
 | succ f ih=>
  intro s m l r N hs hl
  unfold D
  refine bi (fun _=>bi (fun _=>q2 hs fun a p b q s h k g=>ih _ _ _ _ _ (up (by rw [dpa,h,k]) g) hl) fun _=>q1 hs fun a p s h g=>ih _ _ _ _ _ (up (by rw [c2,h]) g) hl) fun _=>?_
  refine bi (fun _=>bi (fun _=>ih _ _ _ _ _ (up (c1 _) hs) hl) fun _=>bi (fun _=>ih _ _ _ _ _ (up (c1 _) hs) hl) fun _=>q1 hs fun a p s h g=>ih _ _ _ _ _ (up ?_ g) hl) fun _=>?_
  · rw [dsc,←h];cases (N%28).beq 4;exact Nat.mul_comm _ _;rfl
  refine bi (fun _=>q2 hs fun a p b q s h k g=>?_) fun _=>?_
  · have j:∀(P:Prop) u v,(P->dt x u≤dt x v)->P->D x f s 1 (pa l (sc m u)) (pa r (sc m v)) (N/28):=fun P u v i z=>ih _ _ _ _ _ g (ad hl (i z))
    refine bi (fun _=>j _ _ _ ?_) fun _=>bi (fun _=>j _ _ _ ?_) fun _=>bi (fun _=>j _ _ _ ?_) fun _=>bi (fun _=>j _ _ _ ?_) fun _=>bi (fun _=>j _ _ _ ?_) fun _=>j _ _ _ ?_<;>(try rw [c2])<;>rw [←h,←k]<;>omega
  refine bi (fun _=>ih _ _ _ _ _ hs hl) fun _=>bi (fun _=>bi (fun e=>no hl e) fun _=>trivial) fun _=>bi (fun _=>q2 hs fun a p b q s h k g=>bi (fun e=>?_) fun _=>trivial) fun _=>ih _ _ _ _ _ (up (dun _ _) hs) hl
  revert e;cases (N%28).beq 13<;>exact fun e=>Classical.byContradiction fun i=>no (ad hl (by (try dsimp only [cond]);(try rw [c2]);rw [←h,←k];simp at i;omega)) e
def A:Nat->L->Nat->Prop
 | 0,x,N=>D (1::x) 99 [] 1 [] [] N
 | k+1,x,N=>∀{a},A k (a::x) N
theorem F0:∀k x N,A k x N
 | 0,x,N=>ok x _ _ _ _ _ _ (fun _ h=>nomatch h) (Nat.le_refl _)
 | k+1,x,N=>F0 k _ N
end WN
theorem WF(N:Nat):WN.A (N%28) [] (N/28):=WN.F0 _ _ _
theorem V1{a b:Nat}:a≤a-b+b:=Nat.le_add_of_sub_le (Nat.le_refl _)
theorem V2{a b:Nat}:a-b≤a:=Nat.sub_le _ _
theorem V3{a b:Nat}(h:b≤a):a-b+b≤a:=Nat.le_of_eq (Nat.sub_add_cancel h)
theorem V4{a b:Nat}(h:a≤b):a-b≤0:=Nat.le_of_eq (Nat.sub_eq_zero_of_le h)
theorem V5{a k:Nat}(h:0<k):a<a/k*k+k:=Nat.lt_div_mul_add h
open Array renaming getElem?_toList→dm,length_toList→dy,getElem?_eq_getElem→eR,getD_eq_getD_getElem?→gp,toList_push→gs,toList_append→ku,getElem?_eq_some_iff→ml,toList_extract→oo,toList_inj→ro,getElem?_eq_none→tq,toList_reverse→LA,toList_setIfInBounds→QE,size_setIfInBounds→Rb,getElem?_replicate→Rf,toList_filterMap→RM,forIn_toList→S4,toList_map→T2,size_ofFn→Uh,range→Vm
open Bool renaming false_eq_true→fi,false_ne_true→js,and_eq_true→kn,not_true→oM,not_false→QK,true_xor→Rh,or_eq_true→RZ,false_and→Sb,and_false→Sh,or_false→UM
open Classical renaming byContradiction→uS
open False renaming elim→mM
open ForInStep renaming yield→uT
open Int renaming toNat_natCast→et,eq_ofNat_of_zero_le→mx,toNat_of_nonneg→oB,emod_lt_of_pos→GM,le_refl→LP,emod_nonneg→Pd,fdiv_eq_ediv_of_nonneg→Qm,reduceEq→RN,natCast_mul→R1,le_trans→TJ,ediv_one→U5,lt_trans→U9
open List renaming getElem?_map→ba,length_append→bM,range→cj,mem_cons→cS,getD_eq_getElem?_getD→dq,length_drop→dw,map_append→dE,length_take→dU,mem_cons_of_mem→eh,mem_append_right→el,mem_append→eE,size_toArray→eH,length_cons→eK,getElem?_append_left→eQ,mem_of_getElem?→eW,lookup_cons→fg,map_cons→fO,mem_singleton→fP,getElem?_append_right→hC,mem_cons_self→hG,append_assoc→hQ,nodup_cons→hX,take_of_length_le→iA,pairwise_append→iR,map_map→iS,getElem?_eq_none→iT,mem_range→iU,mem_map→jc,mem_append_left→ji,append_nil→jw,map_congr_left→jx,pairwise_cons→kq,extract_eq_drop_take→lu,not_mem_nil→lz,take_length→lD,take_append_drop→lH,filterMap_cons→lI,pairwise_map→mD,getElem?_range→mK,ext_getElem?→ng,getElem?_cons_succ→nT,drop_of_length_le→oz,length_range→oD,flatten_cons→oE,length_set→oJ,pairwise_lt_range→qp,getElem_of_mem→qv,mem_filter→qA,getElem?_eq_none_iff→qB,length_filter_le→ra,getElem?_drop→rp,filter_append→rr,getElem?_of_mem→rC,mem_of_mem_take→rD,length_nil→sL,flatten_append→tp,all_eq_true→tx,mem_reverse→tD,mem_filterMap→tR,map→uP,take_sublist→vc,drop_sublist→vr,getElem?_take_of_lt→ya,map_take→ze,take_succ→BS,getElem?_cons_zero→CH,filter_cons_of_neg→CQ,lookup→Do,eq_nil_of_length_eq_zero→Ea,set_cons_zero→GD,getElem?_take→Ht,map_drop→HG,length_replicate→HT,singleton_append→IR,getElem?_mapIdx→KI,nodup_nil→KM,mem_of_mem_drop→Lr,flatten_nil→Mr,pairwise_iff_getElem→Ng,drop_eq_getElem_cons→NV,reverse_append→NY,nil_append→Pa,set_cons_succ→Pg,eraseIdx_cons_succ→Pk,filter_cons_of_pos→Pl,getElem?_set_self→Pm,map_nil→Pt,getElem?_set→Pw,drop_zero→PF,perm_middle→PP,cons_append→PQ,all_cons→PV,drop_append_of_le_length→Qb,take_append_of_le_length→Qc,replicate→Qr,zip_cons_cons→Qw,length_mapIdx→Qx,length_eraseIdx_of_lt→QD,perm_ext_iff_of_nodup→QH,length→QS,getElem_take→QV,getElem?_inj→QY,length_erase_of_mem→Re,getD→Rm,getElem_mem→Rn,pairwise_filterMap→Rp,length_eq_zero_iff→Rq,pairwise_singleton→Rv,length_pos_of_mem→RK,of_mem_zip→RT,range_succ→R0,length_singleton→R6,getElem?_set_ne→Sa,mem_erase_of_ne→Sr,zip_eq_zipWith→SE,Pairwise→SJ,filterMap_map→SU,mem_replicate→SX,map_filterMap→S5,reverse_cons→To,nodup_append→Ts,drop_append→T1,nodup_range→T3,map_id→Ua,foldl_cons→Uo,filterMap→UB,take_zero→UH,any_cons→UN,take_nil→UV,map_set→Va
open List.Pairwise renaming sublist→ko,nil→oC,imp_of_mem→yd,imp→Tp,map→TL,imp₂→Vo
open List.Perm renaming refl→oF,append_left→qO,trans→OZ,append_right→RJ,swap→Sk,of_eq→Uk,cons→UD
open List.cons renaming injEq→RW
open Nat renaming le_refl→bU,div_mul_le_self→ea,zero_le→eg,le_of_lt→fq,lt_of_lt_of_le→fC,ne_of_lt→hY,le_trans→kj,lt_irrefl→ky,le_antisymm→ly,min_le_left→lC,min_eq_left→lE,min_le_right→mu,add_sub_cancel_left→mv,succ_pos→nz,lt_of_le_of_ne→oq,lt_succ_self→ox,zero_add→rx,lt_succ_of_lt→sr,min_eq_right→tF,sub_self→vk,le_of_lt_succ→vx,testBit_eq_decide_div_mod_eq→wh,testBit_two_pow→zC,le_succ→KB,testBit_or→LQ,lt_or_eq_of_le→Pe,le_of_eq→Pp,le_of_succ_le→Pu,lt_trans→Pv,lt_trichotomy→Py,mod_lt→QC,add_mul_mod_self_right→QJ,add_sub_of_le→QX,reduceAdd→Rg,le_max_right→Ru,div_eq_of_lt→Rx,sub_zero→RI,add_mul_div_right→R9,mul_le_mul_right→Ss,add_assoc→SI,add_zero→TC,lt_succ_of_le→TH,mod_eq_of_lt→T5,strongRecOn→Ug,div_add_mod→Uq,ne_of_gt→U4,lt_or_ge→U6,succ_mul→Vc,add_comm→Vd
open Nat.succ renaming inj→U7
open Ne renaming symm→lj
open Option renaming map_eq_some_iff→oA,getD_some→tE,bind_some→MJ,isSome_iff_exists→Os,map_some→OY,bind_eq_some_iff→Ry,map→SY,getD_none→TY,map_none→Ul,none→Vl
open Option.some renaming inj→hF,injEq→mC
open Or renaming inl→ei,inr→jg
open Prod renaming ext→Sf
open Prod.mk renaming inj→Vn
open PyProof.Rows renaming wpS_bind→dV,wpS_pure→eL,callWith_type1→jl,pendingOf→lg,wpS_forRange→mF,failedOf→om,wpS_modify→qr,slot_tuple_getitem→td,callWith_builtin1→AX,wpS_mono→Lx,SortKind→PD,IntsAre→PU,wpS_get→PY,AllBare→QP,subscriptTail→Q6,subscriptTail_builtinR→RE,entry_list_sort→RY,slot_list_sort→Sn,args_list_sort→So,listUpdate_at→SL,boot_range→SR,Subscript_→SW,plain_sorted→Tv,entry_sorted→Tw,args_sorted1→Tx,gallopOf→Tz,kind_sorted→Uc,seqEpoch_at→Ud,minRun'→Us,sortedHeap→UI
open PyProof.Rows.F renaming plain_set_update_loop→Pj,entry_set_update_loop→Rt
open PyProof.Rows.SortSt renaming mk'→Pf
open PySem renaming wpAny_bind→aI,wpAny_pure→aP,starEach→ed,sizeLine_eq→ew,mainGlobals→fT,foldedSetIterable→ic,wpAny_holding→jz,sliceBounds→lh,wpAny_newObj_type→mz,wpAny_setState_of→mE,SetTable→mH,Comprehension→mJ,bootBuiltins→mP,Program→nI,wpAny_Call_Name_kw→oi,wpAny_setField_rec→oj,wpAny_call_entry→oy,letOwnedTupleGo→oG,assignEach→pv,NameKind→qo,cellsFrom→qu,Value→qw,wpAny_of_eq→qz,codeAny→qG,wpAny_askSetting→rd,standAt→ru,wpAny_truthy_bool→sg,codeAny_builtin→sH,FuncData→tj,mem_of_lookup→tm,compareOp→tu,wpAny_mono→tG,binaryOp→uU,Builtin→zq,swapsWith→zJ,wpAny_callSpecial?_slot→Bk,wpAny_field→DM,Shared→Es,intKind→Fk,wpAny_pyIter_rangeiter→Fn,wpAny_standAt→Hx,keywordEach→KF,wpAny_seqItems→KN,codeAny_mono→Mp,swapsWithSole→NZ,swappedStores→Oi,behindInMarks→Ol,attributeBase→Oo,wpAny_comprehension_free→Oz,wpAny_passesOwn→OD,wpAny_specialOf→OE,wpAny_typeOf→Pr,wpAny_storeSet_of→PC,Addr→PK,builtinsNs→PL,Expr→PM,wpAny_rule→PN,wpAny_newList→PX,codeAny_call_builtin→Qa,wpAny_updateSeq→Qd,setItem→Qh,Str→Qj,backToKw→Qq,newFunctionEnv→Qu,compTurn→Qv,IsRangeIter→QR,slot_list_getitem→QU,ofAClassStatement→QZ,hashByValue→Q0,searchCouldBeSeen→Q5,wpAny_getItem_list_slice→Q7,plainId_quiet→Q8,getMethod→Ri,relayAll→Ro,pickOrder→Rr,wpAny_forIn_list→Rz,wpAny_pyNext_list_item→RB,wpAny_pyNext_range_end→RC,sliceRange→RF,intKind_is→RG,setsByText→RH,wpAny_execs_nil→RP,codeAny_of_tree→RU,wpAny_pyNext_list_end→R3,wpAny_eqIsQuiet_tuple→R8,setField→Sm,wpAny_listPart→Sq,getItem→Sw,slicePick→Sx,Keyword→Sy,callerA→Sz,scanBound→SA,rawPart→SB,wpAny_setEntries_of→SD,evalPart_none→SH,wpAny_attempt→SK,Heap→SM,wpAny_call→SS,Within→S7,wpAny_assign_Name→S9,wpAny_pyIter_list→Ta,BindsTo→Tg,callWith→Th,wpAny_sequenceKey→Ti,seqIndex_neg→Tj,wpAny_pyIter_enum→Tn,setNextDrawn→Tt,wpAny_setEpoch_of→Tu,slot_list_setitem→TF,Pos→TM,wpAny_execs_cons→TQ,lastMarks→TU,wpAny_isInstance→TZ,wpAny_Slice→T7,seqIndex_of→T8,wpAny_alloc→T9,setNext→Ur,Stmt→Ut,wpAny_Name→Uu,wpAny_load→Uv,bindArgs→Uw,typeLookup→Uy,call→Uz,closureFor→UA,raiseNew→UF,checkCount→UG,Env→UW,PassesOwn→UX,updateSeq→UY,compStart→UZ,DictEntry→U1,Result→U3,CmpOp→Vf,Scope→Vg
open PySem.Around renaming under_plainId→ry,under→Qi
open PySem.Builtin renaming bitAnd→AC,bitOr→HD,bitNot→PH
open PySem.Builtin.Frozenset renaming updateFrom→Uj,newClass→UE,oneOther→UJ,sizeOf→UR,addrOf→UU,slot0→U2
open PySem.Builtin.List renaming listExtendWith→Jo,listTooLong→Ow,listSameRef→OC,listAllItems→QM
open PySem.Builtin.Range renaming rangeFitsLong→lG,rangeSize→Ph,rangeFields→UL
open PySem.Builtin.Slice renaming slicePlaces→uR,sliceAdjust→MP,sliceApplied→Qs,slicePartIndex→Ue,sliceFields→UK
open PySem.Builtin.Tuple renaming tupleExact→yb,tupleItemsOf→Ux
open PySem.Calls renaming spliced_cons→Fv,spliced_nil→IV,call_function_entry→NQ,Name_function_global→Ql
open PySem.Challenge renaming pw_halvedpictures_k32_hangs_and_needs→Qg
open PySem.Code renaming quiet_builtin→S0,isGuard→Te,isFrame→Tf,frames→Vj,guards→Vk
open PySem.Data renaming fields→Vh
open PySem.Expr renaming SetComp→Vb
open PySem.F renaming called_set→Gc,plain_extend_loop→NX,slot_range_reversed→PJ,plainAttrs_list→Rk,slot_list_append→R5,slot_list_extend→R7,plain_reversed_new→Si,entry_extend_loop→SC,slot_set_iter→Um
open PySem.Heap renaming get?_push_of_some→bh,lt_size→er,get?_push_size→ey,size_push→mG,SameBut→ov,get?_update_self→uQ,get?_update_other→FI,get?_update_ne→SF,ExtBut→Ub,get?→U0
open PySem.Heap.IsSliceOf renaming new→Qt
open PySem.Heap.SameBut renaming update→zl,refl→Tr
open PySem.IsRange renaming new→T6
open PySem.NameKind renaming free→ir,cell→mB
open PySem.Obj renaming mapSeq→mO,putSet→FS
open PySem.PassesOwn renaming never→kr
open PySem.SeqAt renaming EqAt→Vq
open PySem.SeqAt.EqAt renaming same→RA,int_int→Sg,int_str→SN,str_int→SO
open PySem.SetTable renaming below→hP,runEnd→iL,insertAt→jf,bits→oT,grown→qq,turns→qt,toList_insertAt→yc,has→Pz,Probe→Qy,sizeAbove→Qz,layClean→QW,slot→Q9,laid→Ra,leap→Rc,tooFull→T4,relaid→Ui,fits→UQ,fill→UT
open PySem.SetTable.Probe.mk renaming injEq→Rw
open PySem.SetTable.below renaming go→Px
open PySem.SetTable.layClean renaming free→GR
open PySem.SetTable.probe renaming go→vl
open PySem.Shared renaming TypeIs→US
open PySem.Str renaming ofString→fS,empty→rb
open PySem.Value renaming ref→ou,none→xb,type→xt,int→Me,str→Qk,bool→SQ,isInt_shape→S6,builtin→UO
open PySem.W renaming kitOne→bL,nsIn→fQ,findIn→hE,mg_none_of→jv,emptyDict→km,instObj→lx,keepIn→lF,mg_of→ot,kia_one→oH,plainGet→oK,hasDictIn→qm,makesIn→qx,plainOver→sm,fnOf→FB,cellsFrom_some→Pq,OpenLaw→PZ,plainGet_of→Qe,callWith_K0→Qf,lookIn→Qn,callWith_K→Qp,methodObj→QN,makes_of→Rj,isFn→RD,takerIn→RQ,KeysLit→RX,methodCall_KW→R4,looks_findIn→Sd,codeIn→Se,CodeHd→Sj,Looks→SG,callWith_F→SZ,make_core→Tb,kitx_list→Tc,kitx_dict→Td,handedIn→TV,InitBack→TX,tabObj→UC,WalkO→UP,FnAt→U8
open PySem.W.Looks renaming of_pure→Ve,here→Vp,ld→Vs
open PySem.W.WShape renaming has→Vr
open PySem.Walks renaming range→Vi
open PySem.pickOrder renaming go→Tq
open Sum renaming inl→Su,inr→Sv
open True renaming intro→Qo
set_option bootstrap.genMatcherCode false
set_option compiler.extract_closed false
theorem wEX (h:True:=by rfl):True:=h
def wE:=wEX._auto_1
theorem wPX (h:True:=by decide):True:=h
def wP:=wPX._auto_1
theorem wTX (h:True:=by intro _;rfl):True:=h
def wT:=wTX._auto_1
theorem wq0X (h:True:=by first | exact .inl rfl | exact .inr rfl | assumption):True:=h
def wq0:=wq0X._auto_1
theorem wq1X (h:True:=by with_unfolding_all rfl):True:=h
def wq1:=wq1X._auto_1
theorem wq2X (h:True:=by first | exact ei rfl | exact jg (ei rfl) | exact jg (jg rfl)):True:=h
def wq2:=wq2X._auto_1
theorem wq3X (h:True:=by intros;rfl):True:=h
def wq3:=wq3X._auto_1
theorem wq4X (h:True:=by lia):True:=h
def wq4:=wq4X._auto_1
abbrev Fg0:=PySem.W.Frag
abbrev Pn:=List (PK×PySem.Obj)
abbrev VS:=qw->Es->Prop
abbrev On:=List (Option Nat)
abbrev SV:=Qj->Option qw
noncomputable abbrev LL0:=List (List Int)
noncomputable abbrev Li0:=List Int
abbrev La0:=List PK
noncomputable abbrev Lv0:=List qw
noncomputable abbrev Ls0:=List Qj
theorem lM0 {a b:Type}{as:List a}(f:a->b):(as.map f).length=as.length:=List.length_map f
theorem gE0 {a:Type}{l:List a}{i:Nat}(h:i<l.length):l[i]?=some l[i]:=List.getElem?_eq_getElem h
theorem gS0 {b:Type}{l:List b}{i:Nat}{a:b}(h:l[i]?=some a):∃h:i<l.length,l[i]=a:=List.getElem?_eq_some_iff.mp h
set_option genSizeOf false
variable {u:qw}{a:PK}{P:nI}{w:PySem.World}{h h':SM}{x:Qj}{g':Array PySem.GenState}{t' i:Nat}{d':PySem.Drawn}{M:PySem.Model}{A:PySem.Around}{E:VS}
namespace _2
open PySem PySem.Spec PyProof.Rows
abbrev Key:=Sum Int Str
noncomputable def Io:Key->Value->Bool
 | .inl k,v=>Value.isInt k v
 | .inr x,v=>Value.isStrOf x v
noncomputable def Oy (w:World):Key->Int
 | .inl k=>hashInt k
 | .inr x=>hashStr w x
theorem cv:∀ {k:Key} {v:Value},Io k v=true->(∃ i t,k=Su i/\v=Me i t)\/(∃ x t,k=Sv x/\v=Qk x t)
 | .inl i,v,h=>by
  obtain⟨t,e⟩:=S6 (k:=i) (v:=v) h;exact .inl ⟨i,t,rfl,e⟩
 | .inr x,v,h=>by
  obtain⟨t,e⟩:=Value.isStrOf_shape (x:=x) (v:=v) h;exact .inr ⟨x,t,rfl,e⟩
theorem Kt(a b:Int):decide ((Su a:Key)=Su b)=(a == b):=by
 by_cases e:a=b
 .subst e;simp
 .have h:¬ (Su a:Key)=Su b:=λq=>e (Sum.inl.inj q);rw[decide_eq_false h];exact(beq_eq_false_iff_ne.mpr e).symm
theorem Kp(a b:Str):decide ((Sv a:Key)=Sv b)=decide (a=b):=by
 by_cases e:a=b
 .subst e;simp
 .have h:¬ (Sv a:Key)=Sv b:=λq=>e (Sum.inr.inj q);rw[decide_eq_false h,decide_eq_false e]
theorem Ks(a:Int)(b:Str):decide ((Su a:Key)=Sv b)=false:=decide_eq_false (λq=>nomatch q)
theorem Kq(a:Str)(b:Int):decide ((Sv a:Key)=Su b)=false:=decide_eq_false (λq=>nomatch q)
noncomputable def AE (prog:nI)(w:World):PySem.KeyKind prog w Key where
 is:=Io
 hash:=Oy w
 inj:=λv a b l f=>by
  rcases cv l with ⟨i,t,rfl,rfl⟩ | ⟨x,t,rfl,rfl⟩
  .rcases cv f with ⟨j,u,rfl,e⟩ | ⟨y,u,rfl,e⟩
   .injection e with c _;rw[c]
   .exact nomatch e
  .rcases cv f with ⟨j,u,rfl,e⟩ | ⟨y,u,rfl,e⟩
   .exact nomatch e
   .injection e with c _;rw[c]
 byValue:=λk v h=>by
  rcases cv h with ⟨i,t,rfl,rfl⟩ | ⟨x,t,rfl,rfl⟩ <;> rfl
 pyHash:=λd h=>by
  rcases cv d with ⟨i,t,rfl,rfl⟩ | ⟨x,t,rfl,rfl⟩
  .exact wpAny_pyHash_int h
  .exact wpAny_pyHash_str h
 eqBool:=λg d h=>by
  rcases cv g with ⟨i,t,rfl,rfl⟩ | ⟨x,t,rfl,rfl⟩
  .rcases cv d with ⟨j,u,rfl,rfl⟩ | ⟨y,u,rfl,rfl⟩
   .rw[Kt] at h;exact wpAny_eqBool_int h
   .rw[Ks] at h;exact SN i t y u _ _ _ _ h
  .rcases cv d with ⟨j,u,rfl,rfl⟩ | ⟨y,u,rfl,rfl⟩
   .rw[Kq] at h;exact SO x t j u _ _ _ _ h
   .rw[Kp] at h;exact wpAny_eqBool_str h
 «strs»:=λk x t v h=>by
  rcases cv h with ⟨i,u,rfl,e⟩ | ⟨y,u,rfl,e⟩
  .exact nomatch e
  .injection e with c _
   subst c;cases v <;> rfl
inductive V where
 | non | bl (b:Bool) | int (i:Int) | str (x:Str) | ref (a:Addr) | ty (n:String)
noncomputable def RelV:V->Value->Prop
 | .non,u=>u=xb
 | .bl b,u=>u=SQ b
 | .int i,u=>∃ t,u=Me i t
 | .str x,u=>∃ t,u=Qk x t
 | .ref a,u=>u=ou a
 | .ty n,u=>u=xt n
noncomputable abbrev Vals:List V->Lv0->Prop:=Paired RelV
theorem Vals.length{xs:List V}{us:Lv0}(r:Vals xs us):xs.length=us.length:=Paired.length r
theorem Vals.get:∀ {xs:List V} {us:Lv0} {i:Nat} {x:V},Vals xs us->xs[i]?=some x->∃ u,us[i]?=some u/\RelV x u
 | _,_,_,_,.nil,e=>by simp -iota at e
 | _,_,0,_,.cons r _,e=>by simp -iota at e;subst e;exact⟨_,rfl,r⟩
 | _,_,i + 1,x,.cons _ t,e=>by
  obtain⟨u,b,a⟩:=Vals.get (i:=i) (x:=x) t (by simpa using e);exact⟨u,by simpa using b,a⟩
theorem Vals.set{x:V}(r:RelV x u):∀ {xs:List V} {us:Lv0} (i:Nat),Vals xs us->Vals (xs.set i x) (us.set i u)
 | _,_,_,.nil=>.nil
 | _,_,0,.cons _ t=>.cons r t
 | _,_,i + 1,.cons q t=>.cons q (Vals.set r i t)
theorem Vals.append:∀ {xs ys:List V} {us ws:Lv0},Vals xs us->Vals ys ws->Vals (xs++ys) (us++ws)
 | _,_,_,_,.nil,s=>s
 | _,_,_,_,.cons r t,s=>.cons r (Vals.append t s)
theorem Vals.take:∀ {xs:List V} {us:Lv0} (n:Nat),Vals xs us->Vals (xs.take n) (us.take n)
 | _,_,0,_=>.nil
 | _,_,_ + 1,.nil=>.nil
 | _,_,n + 1,.cons r t=>.cons r (Vals.take n t)
theorem Vals.drop:∀ {xs:List V} {us:Lv0} (n:Nat),Vals xs us->Vals (xs.drop n) (us.drop n)
 | _,_,0,r=>r
 | _,_,_ + 1,.nil=>.nil
 | _,_,n + 1,.cons _ t=>Vals.drop n t
theorem Vals.none_of:∀ {xs:List V} {us:Lv0} {i:Nat},Vals xs us->xs[i]?=none->us[i]?=none:=λ{xs us i} r e=>by
 have b:=r.length;have a:xs.length<=i:=qB.mp e;exact qB.mpr (by lia)
noncomputable def tT:Option V->Option Value->Prop
 | some v,some u=>RelV v u
 | none,none=>True
 | _,_=>False
noncomputable def KV {a:Type}:List (a×V)->List (a×Value)->Prop:=Paired λ(p:a×V) (q:a×Value)=>p.1=q.1/\RelV p.2 q.2
noncomputable def kV:Key->V
 | .inl i=>.int i
 | .inr x=>.str x
set_option genInjectivity false in
inductive HO where
 | lst (xs:List V)
 | tup (xs:List V)
 | dK (kvs:List (Key×V)) | dT (kvs:List (List Key×V))
 | set (S:Int->Bool) (n:Nat)
 | ins (C dx:Addr) (fs:List (Str×V))
 | own (x:Addr)
 | xd (fs:List (Str×V))
 | met (f x:Addr)
 | rng (lo hi:Int)
 | frz (o:Obj) (u:HO)
 | tbl (ps:Array Value)
 | ext (φ:Heap->Prop)
 | cod (c:Addr) (q:Str)
abbrev Hp:=Addr->Option HO
def yE (H:Hp)(v:Value)(q:Str):Prop:=∃ c a vs t b,v=.ref c/\H c=some (.frz a (.ext b))/\a.data=.fields vs/\vs[1]?=some (.str q t)
theorem yE.mono{H H':Hp}{v:Value}{q:Str}(x:yE H v q)(h:∀ b o e,H b=some (.frz o (.ext e))->H' b=some (.frz o (.ext e))):yE H' v q:=
 let ⟨c,g,f,t,e,a,b,d⟩:=x;⟨c,g,f,t,e,a,h _ _ _ b,d⟩
noncomputable def upd (H:Hp)(a:Addr)(o:HO):Hp:=λb=>if b=a then some o else H b
theorem aC{H:Hp}{o:HO}:upd H a o a=some o:=by delta upd;rw[if_pos rfl]
theorem ao{H:Hp}{b:Addr}{o:HO}(h:b≠a):upd H a o b=H b:=by delta upd;rw[if_neg h]
theorem a_{H:Hp}{b:Addr}{o:HO}(h:H a=some o)(h':H b=none):a≠b:=by
 intro e;subst e;rw[h] at h';cases h'
section
variable (P:nI)(w:World)
noncomputable def eC (H:Hp)(h:Heap)(a:Addr):HO->Prop
 | .lst xs=>xs.length<=sizeLine/\∃ (its:Lv0) (n:Nat),Vals xs its/\h.get? a=some { cls:=.type "list",data:=.seq its.toArray n }
 | .tup xs=>xs.length<=sizeLine/\∃ its:Lv0,Vals xs its/\IsTup h a its.toArray
 | .dK kvs=>kvs.length<=sizeLine/\(a == sysModules)=false/\∃ vs,KV kvs vs/\h.DictOf (AE P w) a vs
 | .dT kvs=>kvs.length<=sizeLine/\(a == sysModules)=false/\∃ xs:List (List Key×Addr×Value),
   Paired (λ(p:List Key×V) (q:List Key×Addr×Value)=>p.1=q.1/\H q.2.1=some (.tup (p.1.map kV))/\RelV p.2 q.2.2) kvs xs/\
   ∃ o es ep,h.get? a=some o/\o.ExactDict/\o.data=.dict es ep/\es.toList=xs.map (entryOfKey (tupleKind (AE P w)))/\(xs.map (·.1)).Nodup
 | .set S n=>h.SetOf (Fk P w) a S n
 | .ins C dx fs=>H dx=some (.own a)/\fs.length<=1000/\dx≠a/\h.get? a=some (lx C dx)/\
   ∃ mA,h.Ns1 dx mA/\(∀ f,tT (fs.lookup f) (mA f))/\S7 mA (fs.map (·.1))
 | .own _=>∃ o,h.get? a=some o
 | .xd fs=>∃ mA,h.Ns1 a mA/\∀ f,tT (fs.lookup f) (mA f)
 | .rng lo hi=>∃ t u v,h.get? a=some { cls:=.type "range",data:=.fields #[.int lo t,.int hi u,.int 1 v] }
 | .frz o u=>h.get? a=some o/\eC H h a u
 | .tbl ps=>∃ q t qs,ps[0]?=some (Qk q t)/\h.get? a=some { cls:=.none,data:=.fields qs }/\TriplesOk qs.toList/\∀ pos v,codeAmong pos qs.toList=some v->yE H v q
 | .cod c q=>(∃ o,h.get? a=some o)/\yE H (.ref c) q
 | .met f x=>h.get? a=some (QN (.ref f) (.ref x))
 | .ext b=>b h/\(∃ o,h.get? a=some o)/\∀ h1 h2:Heap,b h1->(∀ o,h1.get? a=some o->h2.get? a=some o)->b h2
def HOk (H:Hp)(h:Heap):Prop:=∀ a o,H a=some o->eC P w H h a o
end
section
variable {H H':Hp}{o:HO}
theorem eC.lt(x:eC P w H h a o):a < h.objs.size:=by
 cases o with
 | lst d=>obtain⟨_,_,_,_,e⟩:=x;exact er e
 | tup d=>obtain⟨_,_,_,p⟩:=x;exact p.lt
 | dK b=>obtain⟨_,_,_,_,o,_,_,e,_⟩:=x;exact er e
 | dT b=>obtain⟨_,_,_,_,o,_,_,e,_⟩:=x;exact er e
 | set S n=>obtain⟨o,_,_,_,e,_⟩:=x;exact er e
 | ins C m g=>obtain⟨_,_,_,e,_⟩:=x;exact er e
 | own y=>obtain⟨_,e⟩:=x;exact er e
 | xd g=>obtain⟨_,⟨_,_,_,e,_⟩,_⟩:=x;exact er e
 | rng lo l=>obtain⟨_,_,_,e⟩:=x;exact er e
 | frz k u=>obtain⟨e,_⟩:=x;exact er e
 | tbl j=>obtain⟨_,_,_,_,e,_⟩:=x;exact er e
 | cod c q=>obtain⟨⟨_,e⟩,_⟩:=x;exact er e
 | met f y=>exact er (show h.get? a=some _ from x)
 | ext i=>obtain⟨_,⟨_,e⟩,_⟩:=x;exact er e
theorem Paired.Mu{g e:Type}{F G:g->e->Prop}:∀ {d:List g} {c:List e},Paired F d c->(∀ a b,F a b->G a b)->Paired G d c
 | _,_,.nil,_=>.nil
 | _,_,.cons r t,f=>.cons (f _ _ r) (Paired.Mu t f)
theorem eC.w9(x:eC P w H h a o)(k:∀ b u,(b=a\/H b=some (.own a))->h.get? b=some u->h'.get? b=some u)(L:∀ b,H b=some (.own a)->H' b=some (.own a))(K:∀ b xs,H b=some (.tup xs)->H' b=some (.tup xs))(E:∀ b o m,H b=some (.frz o (.ext m))->H' b=some (.frz o (.ext m)):=by first | exact λ_ _ _ q=>q | (intro c o u q;rw[_root_._2.ao (_root_._2.a_ q (by assumption))];exact q)):eC P w H' h' a o:=by
 induction o with
 | lst xs=>obtain⟨z,l,n,r,e⟩:=x;exact⟨z,l,n,r,k _ _ (.inl rfl) e⟩
 | tup xs=>obtain⟨z,l,r,g,e,c⟩:=x;exact⟨z,l,r,g,k _ _ (.inl rfl) e,c⟩
 | dK B=>obtain⟨z,y,F,r,g,i,j,e,c⟩:=x;exact⟨z,y,F,r,g,i,j,k _ _ (.inl rfl) e,c⟩
 | dT B=>
  obtain⟨z,y,xs,r,g,i,j,e,c⟩:=x;exact⟨z,y,xs,Paired.Mu r λp q z=>⟨z.1,K _ _ z.2.1,z.2.2⟩,g,i,j,k _ _ (.inl rfl) e,c⟩
 | set S n=>obtain⟨g,i,j,t,e,c⟩:=x;exact⟨g,i,j,t,k _ _ (.inl rfl) e,c⟩
 | ins C U M=>
  obtain⟨d,z,I,e,A,⟨s,i,j,D,c⟩,r⟩:=x;exact⟨L _ d,z,I,k _ _ (.inl rfl) e,A,⟨s,i,j,k _ _ (.inr d) D,c⟩,r⟩
 | own y=>obtain⟨g,e⟩:=x;exact⟨g,k _ _ (.inl rfl) e⟩
 | xd M=>obtain⟨A,⟨s,i,j,e,c⟩,r⟩:=x;exact⟨A,⟨s,i,j,k _ _ (.inl rfl) e,c⟩,r⟩
 | rng lo T=>obtain⟨t,u,v,e⟩:=x;exact⟨t,u,v,k _ _ (.inl rfl) e⟩
 | frz g u J=>obtain⟨e,q⟩:=x;exact⟨k _ _ (.inl rfl) e,J q⟩
 | tbl R=>obtain⟨q,t,G,Q,D,O,N⟩:=x;exact⟨q,t,G,Q,k a _ (.inl rfl) D,O,λp v r=>(N p v r).mono E⟩
 | cod c q=>obtain⟨⟨u,e⟩,y⟩:=x;exact⟨⟨u,k a _ (.inl rfl) e⟩,y.mono E⟩
 | met f y=>
  have e:h.get? a=some (QN (.ref f) (.ref y)):=x;show h'.get? a=some (QN (.ref f) (.ref y));exact k a _ (.inl rfl) e
 | ext m=>obtain⟨p,⟨o,e⟩,st⟩:=x;exact⟨st _ _ p λo q=>k _ _ (.inl rfl) q,⟨o,k _ _ (.inl rfl) e⟩,st⟩
theorem HOk.lt(x:HOk P w H h)(e:H a=some o):a < h.objs.size:=(x a o e).lt
theorem HOk.fresh(x:HOk P w H h)(e:h.objs.size<=a):H a=none:=by
 cases q:H a with
 | none=>rfl
 | some u=>exact absurd (fC (x.lt q) e) (ky _)
theorem HOk.kept(x:HOk P w H h)(k:∀ b u,h.get? b=some u->h'.get? b=some u):HOk P w H h':=λa o e=>
 (x a o e).w9 (λb u _ q=>k b u q) (λ_ q=>q) λ_ _ q=>q
theorem HOk.laid(x:HOk P w H h)(k:∀ b u,h.get? b=some u->h'.get? b=some u)(i:h.objs.size<=a)(d:eC P w (upd H a o) h' a o):HOk P w (upd H a o) h':=λb u e=>by
 have f:=x.fresh i;by_cases g:b=a
 .subst g;rw[aC] at e;cases e;exact d
 .rw[ao g] at e;exact(x b u e).w9 (λc v _ q=>k c v q) (λc q=>by rw[ao (a_ q f)];exact q) λc j q=>by rw[ao (a_ q f)];exact q
end
def Rd (H:Hp)(a:Addr)(u:HO):Prop:=H a=some u\/∃ o,H a=some (.frz o u)
theorem Rd.ok{H:Hp}{u:HO}(r:Rd H a u)(x:HOk P w H h):eC P w H h a u:=by
 rcases r with r | ⟨o,r⟩
 .exact x a u r
 .obtain⟨_,q⟩:=x a _ r;exact q
noncomputable def Mut:Option HO->Prop
 | some (.lst _)=>True
 | some (.dK _)=>True
 | some (.dT _)=>True
 | some (.set _ _)=>True
 | some (.ins _ _ _)=>True
 | some (.ext _)=>True
 | _=>False
section
variable {H:Hp}{x e:Addr}{o':HO}
theorem HOk.write(ok:HOk P w H h)(f:Mut (H x))(p:e=x\/H e=some (.own x))(k:∀ b u,b≠e->h.get? b=some u->h'.get? b=some u)(m:∃ u,h'.get? e=some u)(l:eC P w (upd H x o') h' x o'):HOk P w (upd H x o') h':=λb u q=>by
 have d:∀ c y,H c=some (.own y)->c≠x:=λc y r z=>by subst z;rw[r] at f;exact f
 have g:∀ c i,H c=some (.tup i)->c≠x:=λc i r z=>by subst z;rw[r] at f;exact f
 by_cases j:b=x
 .subst j;rw[aC] at q;cases q;exact l
 .rw[ao j] at q;by_cases a:b=e
  .have n:H b=some (.own x):=by
    rcases p with z | z
    .exact absurd (a.trans z) j
    .rw[a];exact z
   rw[q] at n;cases n;obtain⟨v,s⟩:=m;exact⟨v,by rw[a];exact s⟩
  .refine(ok b u q).w9 (λc v hc r=>k c v ?_ r) (λc r=>by rw[ao (d c b r)];exact r) (λc i r=>by rw[ao (g c i r)];exact r) λc o t r=>by rw[ao (λz=>by subst z;rw[r] at f;exact f)];exact r
   rcases hc with rfl | hc
   .exact a
   .rintro rfl;rcases p with z | z
    .exact d c b hc z
    .rw[hc] at z;cases z;exact j rfl
end
structure Un (fs ex:La0) (H H':Hp) (h h':Heap):Prop where
 keep:∀ b o,h.get? b=some o->H b=none->b∉fs->b∉ex->h'.get? b=some o
 slot:∀ b o,h.get? b=some o->H b=none->b∈fs->b∉ex->∃ sl,h'.get? b=some { o with slots:=sl }
 free:∀ b o,h.get? b=some o->H b=none->b∉ex->H' b=none
 there:∀ b o,h.get? b=some o->b∉ex->∃ o',h'.get? b=some o'
 tups:∀ b xs,H b=some (.tup xs)->H' b=some (.tup xs)
 frzs:∀ b o u,H b=some (.frz o u)->H' b=some (.frz o u)
 tbls:∀ b ps,H b=some (.tbl ps)->∃ more,H' b=some (.tbl (ps++more))
section
variable {fs fs' ex ex':La0}{H H1 H2:Hp}{h1 h2:Heap}{x e:Addr}{o:HO}
theorem Un.any(u:Un fs ex H H1 h h1){b:Addr}{a:Obj}(q:h.get? b=some a)(n:H b=none)(c:b∉ex):∃ e,h1.get? b=some { a with slots:=e }:=by
 by_cases d:b∈fs
 .exact u.slot b a q n d c
 .exact⟨a.slots,u.keep b a q n d c⟩
theorem Un.kept(k:∀ b u,h.get? b=some u->h'.get? b=some u):Un fs ex H H h h':=
 ⟨λb a q _ _ _=>k b a q,λb a q _ _ _=>⟨a.slots,k b a q⟩,λ_ _ _ n _=>n,λb a q _=>⟨a,k b a q⟩,λ_ _ q=>q,λ_ _ _ q=>q,λ_ c q=>⟨#[],by rw[q];simp⟩⟩
theorem Un.refl:Un fs ex H H h h:=Un.kept λ_ _ q=>q
theorem Un.laid(k:∀ b u,h.get? b=some u->h'.get? b=some u)(e:h.objs.size<=a)(c:H a=none):Un fs ex H (upd H a o) h h' where
 keep:=λb u q _ _ _=>k b u q
 slot:=λb u q _ _ _=>⟨u.slots,k b u q⟩
 free:=λb u q n _=>by rw[ao (hY (fC (er q) e))];exact n
 there:=λb u q _=>⟨u,k b u q⟩
 tups:=λb d q=>by rw[ao (a_ q c)];exact q
 frzs:=λb u d q=>by rw[ao (a_ q c)];exact q
 tbls:=λb f q=>⟨#[],by rw[ao (a_ q c),q];simp⟩
theorem Un.write(c:Mut (H x))(m:e=x\/H e=some (.own x))(k:∀ b u,b≠e->h.get? b=some u->h'.get? b=some u)(f:∃ u,h'.get? e=some u):Un fs ex H (upd H x o) h h':=by
 have g:∀ b,H b=none->b≠x:=λb n z=>by subst z;rw[n] at c;exact c
 have i:∀ b,H b=none->b≠e:=λb n z=>by
  subst z;rcases m with r | r
  .exact g b n r
  .rw[n] at r;cases r
 have d:∀ b u,H b=some u->¬ Mut (some u)->b≠x:=λb u q l z=>by subst z;rw[q] at c;exact l c
 refine⟨λb u q n _ _=>k b u (i b n) q,λb u q n _ _=>⟨u.slots,k b u (i b n) q⟩,λb u q n _=>by rw[ao (g b n)];exact n,λb u q _=>?_,
  λb j q=>by rw[ao (d b _ q λz=>z)];exact q,λb u j q=>by rw[ao (d b _ q λz=>z)];exact q,λb p q=>⟨#[],by rw[ao (d b _ q λz=>z),q];simp⟩⟩
 by_cases a:b=e
 .subst a;exact f
 .exact⟨u,k b u a q⟩
end
structure Mod (K:Fg0) (mg:SV) (base:Heap):Prop where
 kin:K.In base
 glob:base.Ns fT mg
 blt:∃ mb,base.Ns PL mb/\∀ x:Str,x≠"__name__"->mb x=mP x
 nolimit:base.NoLimit
 bm:∃ bm ob,mg "__builtins__"=some (.ref bm)/\bm≠PL/\base.get? bm=some ob/\ob.cls=.type "module"/\ob.dict=some PL/\ob.data=.plain
set_option genInjectivity false in
structure Cx where
 prog:nI
 w:World
 K:Fg0
 mg:Str->Option Value
 base:Heap
 A:Around
 N:Ls0
 s₀:Shared
 H₀:Hp
 env:Env
 outer:List Env
 stack:List Env
 ex:La0
 fn:Str->Bool
 calm:Bool
 pn:Pn
 xe:Value->Shared->Prop
noncomputable def frs (l:List Env):La0:=l.filterMap (·.frame)
noncomputable abbrev Cx.fs (X:Cx):La0:=frs X.outer
def Vis (a:Scope)(x:Str):Prop:=a.names.lookup x=some .local\/a.names.lookup x=some .cell\/a.names.lookup x=some .free
def Loc (a:Scope)(x:Str):Prop:=a.names.lookup x=some .local\/a.names.lookup x=some .cell
def Look (a:Env)(h:Heap)(m:SV)(x:Str)(u:Value):Prop:=
 (a.kindOf x=some .local/\m x=some u)\/((a.kindOf x=some .cell\/a.kindOf x=some .free)/\∃ c,a.cells.lookup x=some c/\h.IsCell c (some u))
def Kpt (H:Hp)(b:Addr)(o:Obj):Prop:=H b=none\/((∃ u,H b=some (.frz o u))/\∀ v,o.data≠.cell v)
def wX (base:Heap)(P:Addr)(q:Str):Prop:=base.objs[P]?=some { cls:=.str q 0,data:=.freed }
def TabsAt (base:Heap)(H:Hp):Prop:=∀ P q,wX base P q->∃ ps t,H P=some (.tbl ps)/\ps[0]?=some (.str q t)
structure Cx.Ok (X:Cx):Prop where
 mod:Mod X.K X.mg X.base
 kind:X.env.scope.kind=.function
 glob:X.env.globals=fT
 blt:X.env.builtins=PL
 above:X.s₀.heap.objs.size<=X.env.locals
 inj:∀ x y c,X.env.cells.lookup x=some c->X.env.cells.lookup y=some c->x=y
 has:∀ x,(X.env.kindOf x=some .cell\/X.env.kindOf x=some .free)->∃ c,X.env.cells.lookup x=some c
 cab:∀ x c,X.fn x=true->X.env.cells.lookup x=some c->X.s₀.heap.objs.size<=c
 hd:X.calm=true->X.A.handled=none
 frames:X.A.frames=some X.stack
 stk:X.stack=X.outer\/(X.stack=X.env::X.outer/\X.env.frame=some X.env.locals)
 exf:∀ b∈X.ex,b≠X.env.locals/\∀ x c,X.env.cells.lookup x=some c->c≠b
 bs:∀ b o,X.base.get? b=some o->X.s₀.heap.get? b=some o/\Kpt X.H₀ b o
 bsz:X.base.objs.size<=X.s₀.heap.objs.size
 noex:∀ b o,X.base.get? b=some o->b∉X.ex
 exfs:∀ b∈X.ex,b∉X.fs
 pW:X.s₀.heap.FunFrames X.base X.outer
 frf:∀ b∈X.fs,X.H₀ b=none
 tb:TabsAt X.base X.H₀
structure Inv (X:Cx) (pins:Pn) (σ:List (Option V)) (H:Hp) (s:Shared):Prop where
 ok:X.Ok
 os:s.os=X.s₀.os
 bare:QP s.gens
 base:Un X.fs X.ex X.H₀ H X.s₀.heap s.heap
 loc:∃ m,s.heap.Ns X.env.locals m/\∀ (i:Nat) (x:Str) (v:V),X.N[i]?=some x->σ[i]?=some (some v)->Vis X.env.scope x->∃ u,RelV v u/\Look X.env s.heap m x u
 cell:∀ x c,X.env.cells.lookup x=some c->∃ v,s.heap.IsCell c v
 free:H X.env.locals=none
 freeC:∀ x c,X.env.cells.lookup x=some c->H c=none
 pin:∀ p∈X.pn++pins,s.heap.get? p.1=some p.2/\H p.1=none/\p.1≠X.env.locals/\p.1∉X.fs/\∀ v,p.2.data≠.cell v
 hok:HOk X.prog X.w H s.heap
 len:σ.length=X.N.length
section
variable {X:Cx}{pins:Pn}{σ:List (Option V)}{H H':Hp}{s:Shared}
theorem Cx.Ok.Ob(ok:X.Ok){b:Addr}{o:Obj}(e:X.base.get? b=some o):b∉X.fs:=λa=>by
 have:=(ok.pW.mem a).1;rw[e] at this;cases this
theorem Inv.bs(I:Inv X pins σ H s):∀ b o,X.base.get? b=some o->s.heap.get? b=some o/\Kpt H b o:=λb o e=>by
 obtain⟨c,a | ⟨⟨u,a⟩,d⟩⟩:=I.ok.bs b o e
 .exact⟨I.base.keep b o c a (I.ok.Ob e) (I.ok.noex b o e),.inl (I.base.free b o c a (I.ok.noex b o e))⟩
 .have q:=I.base.frzs b o u a;obtain⟨z,_⟩:=I.hok b _ q;exact⟨z,.inr ⟨⟨u,q⟩,d⟩⟩
theorem TabsAt.un{base:Heap}{c d:La0}{H H':Hp}(x:TabsAt base H)(u:Un c d H H' h h'):TabsAt base H':=λP q r=>by
 obtain⟨b,t,f,a⟩:=x P q r;obtain⟨m,e⟩:=u.tbls P b f;exact⟨_,t,e,by rw[Array.getElem?_append_left (by obtain⟨z,_⟩:=ml.mp a;exact z)];exact a⟩
theorem Inv.tb(I:Inv X pins σ H s):TabsAt X.base H:=I.ok.tb.un I.base
theorem Inv.bk(I:Inv X pins σ H s):∀ b o,X.base.get? b=some o->s.heap.get? b=some o:=λb o e=>(I.bs b o e).1
theorem Inv.mod(I:Inv X pins σ H s):Mod X.K X.mg X.base:=I.ok.mod
theorem Inv.kIn(I:Inv X pins σ H s):X.K.In s.heap:=I.ok.mod.kin.keeps I.bk
theorem Inv.lt(I:Inv X pins σ H s):X.env.locals < s.heap.objs.size:=let ⟨_,a,_⟩:=I.loc;a.lt
theorem Inv.sz(I:Inv X pins σ H s):X.s₀.heap.objs.size<=s.heap.objs.size:=kj I.ok.above (fq I.lt)
theorem Inv.Oa(I:Inv X pins σ H s)(h:s.heap.objs.size<=a):a∉X.fs:=λc=>by
 obtain⟨_,o,b,_⟩:=I.ok.pW.mem c;exact absurd (fC (er b) (kj I.sz h)) (ky _)
theorem Inv.cne(I:Inv X pins σ H s):∀ x c,X.env.cells.lookup x=some c->c≠X.env.locals:=λx c e z=>by
 obtain⟨v,o,d,f⟩:=I.cell x c e;obtain⟨m,⟨g,h,i,a,b,_⟩,_⟩:=I.loc;rw[z,a] at d;cases d;rw[b] at f;cases f
theorem Inv.pW(I:Inv X pins σ H s):s.heap.FunFrames X.base X.outer:=by
 have all:∀ (l:List Env),(∀ b∈frs l,b∈X.fs)->X.s₀.heap.FunFrames X.base l->s.heap.FunFrames X.base l:=by
  intro l
  induction l with
  | nil=>intro _ _;trivial
  | cons p r g=>
   intro f k;obtain⟨m,⟨L,o,a,j,i,n⟩,h⟩:=k;have d:L∈X.fs:=f L (by delta frs;rw[lI,a];exact hG);obtain⟨q,e⟩:=I.base.slot L o i (I.ok.frf L d) d λz=>I.ok.exfs L z d;exact⟨m,⟨L,_,a,j,e,n⟩,g (λb c=>f b (by delta frs;rw[lI,a];exact eh _ c)) h⟩
 exact all X.outer (λ_ c=>c) I.ok.pW
theorem Inv.stack(I:Inv X pins σ H s):s.heap.FunFrames X.base X.stack:=by
 rcases I.ok.stk with e | ⟨e,b⟩
 .rw[e];exact I.pW
 .rw[e];obtain⟨m,a,_⟩:=I.loc;refine .cons (by rw[I.ok.kind];decide) b a ?_ I.pW;exact Heap.get?_none_of_le (kj I.ok.bsz I.ok.above)
theorem Inv.vq(I:Inv X pins σ H s):∀ b∈frs X.stack,b∈X.env.locals::X.fs:=λb a=>by
 rcases I.ok.stk with e | ⟨e,c⟩
 .rw[e] at a;exact eh _ a
 .rw[e] at a;delta frs at a;rw[lI,c] at a;exact a
theorem Inv.Ac(I:Inv X pins σ H s):∀ b∈frs X.stack,H b=none:=λb hb=>by
 rcases cS.mp (I.vq b hb) with e | hb
 .rw[e];exact I.free
 .obtain⟨_,o,a,_⟩:=I.ok.pW.mem hb;exact I.base.free b o a (I.ok.frf b hb) λz=>I.ok.exfs b z hb
theorem Inv.step{ch:La0}(I:Inv X pins σ H s)(j:∀ b∈ch,(b∈X.ex\/X.s₀.heap.objs.size<=b)/\b≠X.env.locals/\(∀ x c,X.env.cells.lookup x=some c->c≠b)/\∀ p∈X.pn++pins,p.1≠b)(h:∀ b o,b≠X.env.locals->b∉X.fs->b∉ch->s.heap.get? b=some o->H b=none->h'.get? b=some o)(A:∀ b o,b≠X.env.locals->b∈X.fs->b∉ch->s.heap.get? b=some o->H b=none->∃ M,h'.get? b=some { o with slots:=M })(f:∀ b o,b∉ch->s.heap.get? b=some o->H b=none->H' b=none)(B:∀ b o,b∉ch->s.heap.get? b=some o->∃ o',h'.get? b=some o')(E:∀ b xs,H b=some (.tup xs)->H' b=some (.tup xs))(J:∀ b o u,H b=some (.frz o u)->H' b=some (.frz o u))(F:∀ b ps,H b=some (.tbl ps)->∃ more,H' b=some (.tbl (ps++more)))(ns:∀ m,s.heap.Ns X.env.locals m->h'.Ns X.env.locals m)(N:HOk X.prog X.w H' h')(W:QP g') :
  Inv X pins σ H' { s with heap:=h',gens:=g',drawn:=d',toks:=t' }:=by
 have G:∀ b o,X.s₀.heap.get? b=some o->b≠X.env.locals:=λb o e=>hY (fC (er e) I.ok.above);have w:∀ b o,X.s₀.heap.get? b=some o->b∉X.ex->b∉ch:=λb o e a C=>by
  rcases(j b C).1 with z | z
  .exact a z
  .exact absurd (fC (er e) z) (ky _)
 have t:∀ x c,X.env.cells.lookup x=some c->∀ v,s.heap.IsCell c v->h'.IsCell c v:=λx c e v Z=>by
  obtain⟨o,D,O⟩:=Z;have g:c∉ch:=λz=>(j c z).2.2.1 x c e rfl;by_cases S:c∈X.fs
  .obtain⟨M,q⟩:=A c o (I.cne x c e) S g D (I.freeC x c e);exact⟨_,q,O⟩
  .exact⟨o,h c o (I.cne x c e) S g D (I.freeC x c e),O⟩
 refine⟨I.ok,I.os,W,⟨λb o e n C a=>?_,λb o e n C a=>?_,λb o e n a=>?_,λb o e a=>?_,λb xs e=>E b xs (I.base.tups b xs e),λb o xs e=>J b o xs (I.base.frzs b o xs e),λb ps e=>?_⟩,?_,λx c e=>?_,?_,λx c e=>?_,λp R=>?_,N,I.len⟩
 .exact h b o (G b o e) C (w b o e a) (I.base.keep b o e n C a) (I.base.free b o e n a)
 .obtain⟨M,y⟩:=I.base.slot b o e n C a;obtain⟨L,K⟩:=A b _ (G b o e) C (w b o e a) y (I.base.free b o e n a);exact⟨L,K⟩
 .obtain⟨o',y⟩:=I.base.there b o e a;exact f b o' (w b o e a) y (I.base.free b o e n a)
 .obtain⟨o',y⟩:=I.base.there b o e a;exact B b o' (w b o e a) y
 .obtain⟨m1,y⟩:=I.base.tbls b ps e;obtain⟨T,K⟩:=F b _ y;exact⟨m1++T,by rw[K,Array.append_assoc]⟩
 .obtain⟨m,U,V⟩:=I.loc;refine⟨m,ns m U,λi x v y K Y=>?_⟩;obtain⟨u,r,l⟩:=V i x v y K Y;refine⟨u,r,?_⟩;rcases l with l | ⟨k,c,e,z⟩
  .exact .inl l
  .exact .inr ⟨k,c,e,t x c e _ z⟩
 .obtain⟨v,z⟩:=I.cell x c e;exact⟨v,t x c e v z⟩
 .obtain⟨m,⟨o,_,_,D,_⟩,_⟩:=I.loc;exact f _ o (λz=>(j _ z).2.1 rfl) D I.free
 .obtain⟨v,o,D,O⟩:=I.cell x c e;exact f c o (λz=>(j c z).2.2.1 x c e rfl) D (I.freeC x c e)
 .obtain⟨e,n,Q,P,d⟩:=I.pin p R;have g:p.1∉ch:=λz=>(j p.1 z).2.2.2 p R rfl;exact⟨h p.1 p.2 Q P g e n,f p.1 p.2 g e n,Q,P,d⟩
theorem Inv.un(I:Inv X pins σ H s)(u:Un X.fs [] H H' s.heap h')(c:HOk X.prog X.w H' h'):Inv X pins σ H' { s with heap:=h',toks:=t' }:=by
 obtain⟨m,⟨o,t,v,h,r⟩,_⟩:=id I.loc;obtain⟨l,k⟩:=u.any h I.free (by simp);exact I.step (g':=s.gens) (d':=s.drawn) (ch:=[]) (λ_ z=>nomatch z) (λb o _ d _ e n=>u.keep b o e n d (by simp)) (λb o _ d _ e n=>u.slot b o e n d (by simp)) (λb o _ e n=>u.free b o e n (by simp)) (λb o _ e=>u.there b o e (by simp)) u.tups u.frzs u.tbls (λq j=>by
  obtain⟨p,f,g,a,i⟩:=j;rw[h] at a;cases a;exact⟨_,f,g,k,i⟩) c I.bare
theorem Inv.call{ch:La0}(I:Inv X pins σ H s)(u:Un (frs X.stack) ch H H' s.heap h')(g:HOk X.prog X.w H' h')(t:QP g')(f:∀ b∈ch,(b∈X.ex\/X.s₀.heap.objs.size<=b)/\b≠X.env.locals/\(∀ x c,X.env.cells.lookup x=some c->c≠b)/\∀ p∈X.pn++pins,p.1≠b) :
  Inv X pins σ H' { s with heap:=h',gens:=g',drawn:=d',toks:=t' }:=by
 obtain⟨m,⟨o,B,C,k,r⟩,_⟩:=id I.loc;obtain⟨w,h⟩:=u.any k I.free λz=>(f _ z).2.1 rfl;exact I.step (ch:=ch) f (λb o h v a e n=>u.keep b o e n (λz=>(cS.mp (I.vq b z)).elim h v) a) (λb o _ _ a e n=>u.any e n a) (λb o a e n=>u.free b o e n a) (λb o a e=>u.there b o e a) u.tups u.frzs u.tbls (λA q=>by
  obtain⟨y,i,j,d,l⟩:=q;rw[k] at d;cases d;exact⟨_,i,j,h,l⟩) g t
theorem Inv.turned{it:Addr}(I:Inv X pins σ H s)(k:∀ b o,b≠it->s.heap.get? b=some o->h'.get? b=some o)(h:H it=none)(f:it≠X.env.locals)(w:it∈X.ex\/X.s₀.heap.objs.size<=it)(t:∀ x c,X.env.cells.lookup x=some c->c≠it)(l:∀ p∈X.pn++pins,p.1≠it):Inv X pins σ H { s with heap:=h',toks:=t' }:=by
 have d:∀ b u,H b=some u->b≠it:=λb u e z=>by rw[z,h] at e;cases e
 refine I.step (g':=s.gens) (d':=s.drawn) (ch:=[it]) (λb j=>?_) (λb o _ _ a e _=>k b o (λz=>a (by simp -iota [z])) e) (λb o _ _ a e _=>⟨o.slots,k b o (λz=>a (by simp -iota [z])) e⟩) (λ_ _ _ _ n=>n)
  (λb o a e=>⟨o,k b o (λz=>a (by simp -iota [z])) e⟩) (λ_ _ e=>e) (λ_ _ _ e=>e) (λb B e=>⟨#[],by rw[e];simp⟩) (λm i=>?_) (λb u e=>?_) I.bare
 .have e:b=it:=by simpa using j
  subst e;exact⟨w,f,t,l⟩
 .obtain⟨o,y,A,g,r⟩:=i;exact⟨o,y,A,k _ o (lj f) g,r⟩
 .refine(I.hok b u e).w9 (λc v a q=>k c v ?_ q) (λ_ q=>q) λ_ _ q=>q;rcases a with z | z
  .rw[z];exact d b u e
  .exact d c _ z
theorem Inv.tok(I:Inv X pins σ H s)(t:Nat):Inv X pins σ H { s with toks:=t }:=I.un (h':=s.heap) (t':=t) Un.refl I.hok
theorem Inv.kept(I:Inv X pins σ H s)(k:∀ b u,s.heap.get? b=some u->h'.get? b=some u):Inv X pins σ H { s with heap:=h',toks:=t' }:=I.un (Un.kept k) (I.hok.kept k)
theorem Inv.laid{o:HO}(I:Inv X pins σ H s)(k:∀ b u,s.heap.get? b=some u->h'.get? b=some u)(d:s.heap.objs.size<=a)(c:eC X.prog X.w (upd H a o) h' a o) :
  Inv X pins σ (upd H a o) { s with heap:=h',toks:=t' }:=I.un (Un.laid k d (I.hok.fresh d)) (I.hok.laid k d c)
theorem Inv.write{x e:Addr}{o:HO}(I:Inv X pins σ H s)(d:Mut (H x))(f:e=x\/H e=some (.own x))(k:∀ b u,b≠e->s.heap.get? b=some u->h'.get? b=some u)(a:∃ u,h'.get? e=some u)(c:eC X.prog X.w (upd H x o) h' x o):Inv X pins σ (upd H x o) { s with heap:=h',toks:=t' }:=I.un (Un.write d f k a) (I.hok.write d f k a c)
theorem Inv.jV{a:Pn}(I:Inv X pins σ H s)(h:∀ p∈a,s.heap.get? p.1=some p.2/\H p.1=none/\p.1≠X.env.locals/\p.1∉X.fs/\∀ v,p.2.data≠.cell v):Inv X a σ H s:=
 ⟨I.ok,I.os,I.bare,I.base,I.loc,I.cell,I.free,I.freeC,λp b=>(eE.mp b).elim (λz=>I.pin p (ji _ z)) (h p),I.hok,I.len⟩
theorem xJ{N:Ls0}(hN:N.Nodup){j:Nat}(a:N[i]?=some x)(b:N[j]?=some x):i=j:=by
 obtain⟨f,d⟩:=gS0 a;obtain⟨e,c⟩:=gS0 b;exact(List.getElem_inj hN).mp (d.trans c.symm)
theorem uk{v:V}{Q:Unit->Shared->Prop}(I:Inv X pins σ H s)(hN:X.N.Nodup)(N:X.N[i]?=some x)(t:Loc X.env.scope x)(r:RelV v u)(h:∀ s',Inv X pins (σ.set i (some v)) H s'->(∃ a,ov a s.heap s'.heap/\(a=X.env.locals\/X.env.cells.lookup x=some a))->Q () s')(hf:autoParam (X.fn x=true\/X.env.scope.names.lookup x=some .local) wq0):wpAny M A (storeName X.env x u) Q E s:=by
 obtain⟨m,hn,hl⟩:=id I.loc;have O:(X.env.scope.kind == .class || (X.env.scope.kind == .module && X.env.locals != X.env.globals))=false:=by rw[I.ok.kind];rfl
 have C:i < σ.length:=by rw[I.len];exact(gS0 N).1
 have J:=I.cne;have g:∀ {a:Addr} {h':Heap},(∃ o,s.heap.get? a=some o/\H a=none)->ov a s.heap h'->HOk X.prog X.w H h':=λ{a h'} ha f b ob e=>by
  obtain⟨_,_,w⟩:=ha;refine(I.hok b ob e).w9 (λc S hc q=>(f.2 c ?_).trans q) (λ_ q=>q) λ_ _ q=>q;rintro rfl;rcases hc with rfl | hc
  .rw[w] at e;cases e
  .rw[w] at hc;cases hc
 rcases t with hk | hk
 .refine wpAny_storeName_local hk hn (λh' a2 f=>?_) O;obtain⟨oL,_,_,a1,_⟩:=id hn;refine h _ ⟨I.ok,I.os,I.bare,⟨λb o e n G t=>?_,λb o e n G t=>?_,I.base.free,λb o e t=>?_,I.base.tups,I.base.frzs,I.base.tbls⟩,⟨_,a2,λj y W l B e3=>?_⟩,λy c e=>?_,I.free,I.freeC,λp hp=>?_,g ⟨oL,a1,I.free⟩ f,by simpa using I.len⟩ ⟨_,f,.inl rfl⟩
  .exact(f.2 b (hY (fC (er e) I.ok.above))).trans (I.base.keep b o e n G t)
  .obtain⟨Z,l⟩:=I.base.slot b o e n G t;exact⟨Z,(f.2 b (hY (fC (er e) I.ok.above))).trans l⟩
  .obtain⟨o',l⟩:=I.base.there b o e t;exact⟨o',(f.2 b (hY (fC (er e) I.ok.above))).trans l⟩
  .by_cases D:j=i
   .subst D;rw[N] at l;cases l;rw[Pm C] at B;cases B;exact⟨u,r,.inl ⟨hk,by simp⟩⟩
   .rw[Sa (lj D)] at B;obtain⟨Y,r',q⟩:=hl j y W l B e3;refine⟨Y,r',?_⟩;rcases q with ⟨k,e⟩ | ⟨k,c,e,z⟩
    .refine .inl ⟨k,?_⟩;have:y≠x:=λe=>D (xJ hN l (e ▸ N));simp -iota [this,e]
    .exact .inr ⟨k,c,e,z.sameBut f (J y c e)⟩
  .obtain⟨S,z⟩:=I.cell y c e;exact⟨S,z.sameBut f (J y c e)⟩
  .obtain⟨e,n,T,nf,d⟩:=I.pin p hp;exact⟨(f.2 p.1 T).trans e,n,T,nf,d⟩
 .have F:X.fn x=true:=by
   rcases hf with z | z
   .exact z
   .rw[z] at hk;cases hk
  obtain⟨c,hc⟩:=I.ok.has x (.inl hk);obtain⟨S,z⟩:=I.cell x c hc;refine wpAny_storeName_cell I.ok.kind hk hc z (λh' R f=>?_);obtain⟨oc,L,K⟩:=id z;refine h { s with heap:=h' } ⟨I.ok,I.os,I.bare,⟨λb o e n G t=>?_,λb o e n G t=>?_,I.base.free,λb o e t=>?_,I.base.tups,I.base.frzs,I.base.tbls⟩,⟨m,hn.sameBut f (lj (J x c hc)),λj y W l B e3=>?_⟩,λy U e=>?_,I.free,I.freeC,λp hp=>?_,g ⟨oc,L,I.freeC x c hc⟩ f,by simpa using I.len⟩ ⟨c,f,.inr hc⟩
  .exact(f.2 b (hY (fC (er e) (I.ok.cab x c F hc)))).trans (I.base.keep b o e n G t)
  .obtain⟨Z,l⟩:=I.base.slot b o e n G t;exact⟨Z,(f.2 b (hY (fC (er e) (I.ok.cab x c F hc)))).trans l⟩
  .obtain⟨o',l⟩:=I.base.there b o e t;exact⟨o',(f.2 b (hY (fC (er e) (I.ok.cab x c F hc)))).trans l⟩
  .by_cases D:j=i
   .subst D;rw[N] at l;cases l;rw[Pm C] at B;cases B;exact⟨u,r,.inr ⟨.inl hk,c,hc,R⟩⟩
   .rw[Sa (lj D)] at B;obtain⟨Y,r',q⟩:=hl j y W l B e3;refine⟨Y,r',?_⟩;rcases q with q | ⟨k,U,e,z'⟩
    .exact .inl q
    .refine .inr ⟨k,U,e,z'.sameBut f ?_⟩;rintro rfl;exact D (xJ hN l (I.ok.inj _ _ _ e hc ▸ N))
  .by_cases P:U=c
   .subst P;exact⟨_,R⟩
   .obtain⟨w2,z2⟩:=I.cell y U e;exact⟨w2,z2.sameBut f P⟩
  .obtain⟨e,n,T,nf,d⟩:=I.pin p hp;refine⟨(f.2 p.1 ?_).trans e,n,T,nf,d⟩;intro q;rw[q,L] at e;have q':oc=p.2:=hF e;exact d S (by rw[<- q'];exact K)
theorem w8{v:V}{Q:Unit->Shared->Prop}(I:Inv X pins σ H s)(hN:X.N.Nodup)(b:X.N[i]?=some x)(a:Loc X.env.scope x)(r:RelV v u)(h:∀ s',Inv X pins (σ.set i (some v)) H s'->Q () s')(c:autoParam (X.fn x=true\/X.env.scope.names.lookup x=some .local) wq0):wpAny M A (storeName X.env x u) Q E s:=
 uk I hN b a r (λs' d _=>h s' d) c
theorem Inv.Nu{s':Shared}{ch:La0}(I:Inv X pins σ H s)(g:s'.os=s.os)(u:Un (frs X.stack) ch H H' s.heap s'.heap)(a:HOk X.prog X.w H' s'.heap)(h:QP s'.gens)(d:∀ b∈ch,(b∈X.ex\/X.s₀.heap.objs.size<=b)/\b≠X.env.locals/\(∀ x c,X.env.cells.lookup x=some c->c≠b)/\∀ p∈X.pn++pins,p.1≠b):Inv X pins σ H' s':=by
 obtain⟨i,g',d',t',f⟩:=s';have e:f=s.os:=g;subst e;exact I.call (g':=g') (t':=t') (d':=d') u a h d
end
abbrev XK:=Value->Option Addr->Hp->Prop
abbrev St:=List (Option V)
abbrev VK:=V->Hp->Prop
abbrev TE:=St->Hp->VK->Prop
abbrev TT:=St->Hp->(Bool->Hp->Prop)->Prop
abbrev TA:=St->Hp->(List V->Hp->Prop)->Prop
set_option genInjectivity false in
structure Ends where
 nx:St->Hp->Prop
 rt:VK
 bk:St->Hp->Prop:=λ_ _=>False
 ct:St->Hp->Prop:=λ_ _=>False
abbrev TS:=Ends->St->Hp->Prop
variable {X:_2.Cx}{e tg:PM}{t:_2.TA}{pos p:TM}{σ:_2.St}{H:_2.Hp}{Q:qw×Lv0->Es->Prop}{v y:_2.V}{ta te:_2.TE}{K:Fg0}{s':Es}{es:List PM}{k n:Nat}{o:Option qw}{vs:List _2.V}{fp:La0}{body:List Ut}{R:U3->Es->Prop}{op:Vf}{r:List _2.V->_2.Hp->_2.VK->Prop}{C dx f:PK}{g:Int->Int->Int}{us:Lv0}{mA mg:SV}{prog:nI}{name m qual:Qj}{kw:List (Qj×qw)}{base:SM}{fd:tj}{ps:Ls0}{outer:List UW}{gV:List _2.V->List _2.V->List _2.V}{scope:Vg}{osl:Array (Option qw)}
def EP (X:Cx)(a:Pn)(σ:St)(Q:VK)(u:Value)(b:Shared):Prop:=∃ v H',Inv X a σ H' b/\RelV v u/\Q v H'
def TP (X:Cx)(a:Pn)(σ:St)(Q:Bool->Hp->Prop)(b:Bool)(c:Shared):Prop:=∃ H',Inv X a σ H' c/\Q b H'
def AP (X:Cx)(a:Pn)(σ:St)(Q:List V->Hp->Prop)(us:Lv0)(b:Shared):Prop:=∃ vs H',Inv X a σ H' b/\Vals vs us/\Q vs H'
def SP (X:Cx)(a:Pn)(D:Ends)(f:Flow)(b:Shared):Prop:=
 match f with
 | .next=>∃ σ' H',Inv X a σ' H' b/\D.nx σ' H'
 | .brk=>∃ σ' H',Inv X a σ' H' b/\D.bk σ' H'
 | .cont=>∃ σ' H',Inv X a σ' H' b/\D.ct σ' H'
 | .ret u=>∃ v σ' H',Inv X a σ' H' b/\RelV v u/\D.rt v H'
def PE (X:Cx)(e:Expr)(t:TE):Prop:=
 ∀ (pins:Pn) (s:Shared) (σ:St) (H:Hp) (Q:VK),Inv X pins σ H s->t σ H Q->wpAny (model X.prog X.w) X.A (eval e X.env) (EP X pins σ Q) X.xe s
def PT (X:Cx)(e:Expr)(t:TT):Prop:=
 ∀ (pins:Pn) (s:Shared) (σ:St) (H:Hp) (Q:Bool->Hp->Prop),Inv X pins σ H s->t σ H Q->wpAny (model X.prog X.w) X.A (isTrue e X.env (eval e X.env)) (TP X pins σ Q) X.xe s
def PW (X:Cx)(e:Expr)(t:TT):Prop:=
 ∀ (a:Sem Value) (pins:Pn) (s:Shared) (σ:St) (H:Hp) (Q:Bool->Hp->Prop),Inv X pins σ H s->t σ H Q->wpAny (model X.prog X.w) X.A (isTrue e X.env a) (TP X pins σ Q) X.xe s
theorem PW.pt{t:TT}(h:PW X e t):PT X e t:=h _
def PA (X:Cx)(a:List Expr)(t:TA):Prop:=
 ∀ (pos:Pos) (pins:Pn) (s:Shared) (σ:St) (H:Hp) (Q:List V->Hp->Prop),Inv X pins σ H s->t σ H Q->wpAny (model X.prog X.w) X.A (spliced (backTo pos (ed a X.env))) (AP X pins σ Q) X.xe s
def PS (X:Cx)(st:Stmt)(t:TS):Prop:=
 ∀ (pins:Pn) (s:Shared) (σ:St) (H:Hp) (D:Ends),Inv X pins σ H s->t D σ H->wpAny (model X.prog X.w) X.A (exec st X.env) (SP X pins D) X.xe s
def PSs (X:Cx)(st:List Stmt)(t:TS):Prop:=
 ∀ (pins:Pn) (s:Shared) (σ:St) (H:Hp) (D:Ends),Inv X pins σ H s->t D σ H->wpAny (model X.prog X.w) X.A (execs st X.env) (SP X pins D) X.xe s
theorem thn{b:Type}{t:Sem b}{Q c:b->Shared->Prop}{s:Shared}(h:wpAny M A t Q E s)(d:∀ a s,Q a s->c a s):wpAny M A t c E s:=tG h d λ_ _ x=>x
section
def e9 (i:Nat):TE:=λσ H Q=>∃ v,σ[i]?=some (some v)/\Q v H
def tC (v:V):TE:=λ_ H Q=>Q v H
theorem v_(hN:X.N[i]?=some x)(k:Vis X.env.scope x)(d:autoParam ((x == ("__debug__":Str))=false) wP)(f:autoParam ((x == ("__classdict__":Str))=false) wP):PE X (.Name x pos) (e9 i):=by
 intro b s j H Q I h;obtain⟨v,e,h⟩:=h;obtain⟨m,n,p⟩:=I.loc;obtain⟨u,r,l⟩:=p i x v hN e k;have fin:EP X b j Q u s:=⟨v,H,I,r,h⟩;rcases l with ⟨hk,o⟩ | ⟨hk,c,g,a⟩
 .exact Uu (wpAny_loadName_local I.ok.kind hk n o fin) d
 .rcases hk with hk | hk
  .exact Uu (wpAny_loadName_cell I.ok.kind hk g a fin) d
  .exact Uu (wpAny_loadName_free I.ok.kind hk g a fin f) d
theorem yZ{i j pos}:PE X (.Constant (.int i) j pos) (tC (.int i)):=λ_ _ _ H _ I h=>wpAny_Constant_int ⟨.int i,H,I.tok _,⟨_,rfl⟩,h⟩
theorem Mc{b j pos}:PE X (.Constant (.bool b) j pos) (tC (.bl b)):=λ_ _ _ H _ I h=>Constant_bool ⟨.bl b,H,I,rfl,h⟩
theorem JI{x j pos}:PE X (.Constant (.str x) j pos) (tC (.str x)):=λ_ _ _ H _ I h=>Calls.Constant_str ⟨.str x,H,I.tok _,⟨_,rfl⟩,h⟩
def Gl (X:Cx)(x:Str):Prop:=X.env.kindOf x=some .globalImplicit
theorem nZ{a:Pn}{s:Shared}{Q:VS}(I:Inv X a σ H s)(c:Gl X x)(b:X.mg x=some u)(h:Q u s)(d:autoParam ((x == ("__debug__":Str))=false) wP):wpAny (model X.prog X.w) X.A (eval (.Name x pos) X.env) Q E s:=
 Ql I.ok.kind c (Calls.loadGlobal_global (by rw[I.ok.glob];exact I.mod.glob.keeps I.bk) b h) d
theorem ff{a:Pn}{s:Shared}{Q:VS}(I:Inv X a σ H s)(e:Gl X x)(d:X.mg x=none)(b:mP x=some u)(h:Q u s)(c:autoParam (x≠"__name__") wP)(f:autoParam ((x == ("__debug__":Str))=false) wP):wpAny (model X.prog X.w) X.A (eval (.Name x pos) X.env) Q E s:=by
 obtain⟨j,i,g⟩:=I.mod.blt;exact Ql I.ok.kind e (Calls.loadGlobal_builtin (by rw[I.ok.glob];exact I.mod.glob.keeps I.bk) d (by rw[I.ok.blt];exact i.keeps I.bk) ((g x c).trans b) h) f
theorem rm(b:Gl X x)(a:X.mg x=some u)(r:RelV v u)(c:autoParam ((x == ("__debug__":Str))=false) wP):PE X (.Name x pos) (tC v):=
 λ_ _ _ H _ I h=>nZ I b a ⟨v,H,I,r,h⟩ c
theorem Gq(d:Gl X x)(c:X.mg x=none)(a:mP x=some u)(r:RelV v u)(b:autoParam (x≠"__name__") wP)(e:autoParam ((x == ("__debug__":Str))=false) wP):PE X (.Name x pos) (tC v):=
 λ_ _ _ H _ I h=>ff I d c a ⟨v,H,I,r,h⟩ b e
variable {a b:Expr}{tb:TE}
def tB (t:TE):TT:=λσ H Q=>t σ H λx H1=>∃ c,x=.bl c/\Q c H1
theorem Jx{t:TE}(h:PE X e t)(j:autoParam (∀ a,isTrue e X.env a=(do let v <- a;ru e.pos;holding [v] (truthy v))) wT):PT X e (tB t):=by
 intro b s c H Q I i;refine isTrue_plain (thn (h b s c H _ I i) λv m Z=>?_) (j _);obtain⟨x,l,k,f,g⟩:=Z;obtain⟨d,rfl,q⟩:=g;cases f;exact sg ⟨l,k,q⟩
variable {tA tB':TT}{rest:List Expr}
def I_ (t u:TT):TT:=λσ H Q=>t σ H λc H1=>if c=true then u σ H1 Q else Q false H1
def tOr (t u:TT):TT:=λσ H Q=>t σ H λc H1=>if c=true then Q true H1 else u σ H1 Q
def IZ (t:TT):TT:=λσ H Q=>t σ H λc H1=>Q (!c) H1
theorem FZ(f:PT X a tA):PW X (.BoolOp .And [a] pos) tA:=by
 intro g b s d H Q I h;refine isTrue_and (thn (f b s d H Q I h) λc i e=>?_);cases c with
 | true=>exact isTrue_and_nil e
 | false=>exact e
theorem Ju(f:PT X a tA):PW X (.BoolOp .Or [a] pos) tA:=by
 intro g b s d H Q I h;refine isTrue_or (thn (f b s d H Q I h) λc i e=>?_);cases c with
 | false=>exact isTrue_or_nil e
 | true=>exact e
theorem Jv(m:PT X a tA)(l:PW X (.BoolOp .And (b::rest) pos) tB'):PW X (.BoolOp .And (a::b::rest) pos) (I_ tA tB'):=by
 intro j d s e H Q I h;refine isTrue_and (thn (m d s e H _ I h) λc k Z=>?_);obtain⟨i,g,f⟩:=Z;cases c with
 | true=>exact l j d k e i Q g f
 | false=>exact⟨i,g,f⟩
theorem L7(m:PT X a tA)(l:PW X (.BoolOp .Or (b::rest) pos) tB'):PW X (.BoolOp .Or (a::b::rest) pos) (tOr tA tB'):=by
 intro j d s e H Q I h;refine isTrue_or (thn (m d s e H _ I h) λc k Z=>?_);obtain⟨i,g,f⟩:=Z;cases c with
 | true=>exact⟨i,g,f⟩
 | false=>exact l j d k e i Q g f
theorem Jy(e:PT X a tA):PT X (.UnaryOp .Not a pos) (IZ tA):=by
 intro b s d H Q I h;exact isTrue_not (e b s d H (λc f=>Q (!c) f) I h)
def HP (ta a:TE):TE:=λσ H Q=>ta σ H λx H1=>∃ c,x=.bl c/\if c=true then a σ H1 Q else Q (.bl false) H1
def LD (ta a:TE):TE:=λσ H Q=>ta σ H λx H1=>∃ c,x=.bl c/\if c=true then Q (.bl true) H1 else a σ H1 Q
theorem JK{op}{t:TE}(h:PE X a t):PE X (.BoolOp op [a] pos) t:=λb s c H Q I d=>BoolOp_one (h b s c H Q I d)
theorem JN(m:PE X a ta)(l:PE X (.BoolOp .And (b::rest) pos) tb):PE X (.BoolOp .And (a::b::rest) pos) (HP ta tb):=by
 intro d s f H Q I h;refine BoolOp_and (thn (m d s f H _ I h) λv j Z=>?_);obtain⟨x,i,g,k,e⟩:=Z;obtain⟨c,rfl,e⟩:=e;cases k;refine sg ?_;cases c with
 | true=>exact l d j f i Q g e
 | false=>exact⟨.bl false,i,g,rfl,e⟩
theorem Ma(m:PE X a ta)(l:PE X (.BoolOp .Or (b::rest) pos) tb):PE X (.BoolOp .Or (a::b::rest) pos) (LD ta tb):=by
 intro d s f H Q I h;refine BoolOp_or (thn (m d s f H _ I h) λv j Z=>?_);obtain⟨x,i,g,k,e⟩:=Z;obtain⟨c,rfl,e⟩:=e;cases k;refine sg ?_;cases c with
 | false=>exact l d j f i Q g e
 | true=>exact⟨.bl true,i,g,rfl,e⟩
def tIf (t:TT)(ta a:TE):TE:=λσ H Q=>t σ H λc H1=>if c=true then ta σ H1 Q else a σ H1 Q
theorem DE{c:Expr}(l:PT X c tA)(n:PE X a ta)(m:PE X b tb):PE X (.IfExp c a b pos) (tIf tA ta tb):=by
 intro e s f H Q I h;refine wpAny_IfExp (thn (l e s f H _ I h) λd g Z=>?_);obtain⟨k,j,i⟩:=Z;cases d with
 | true=>exact n e g f k Q j i
 | false=>exact m e g f k Q j i
end
def SqL (K:Fg0)(H:Hp)(a:Addr)(xs:List V):Prop:=
 Rd H a (.lst xs)\/
  ∃ (o:Obj) (its:Array Value) (n:Nat),K.lookup a=some o/\o.cls=.type "list"/\o.dict=none/\o.data=.seq its n/\its.size<=sizeLine/\Vals xs its.toList
def SqT (K:Fg0)(H:Hp)(a:Addr)(xs:List V):Prop:=
 Rd H a (.tup xs)\/
  ∃ (o:Obj) (its:Array Value) (n:Nat),K.lookup a=some o/\o.cls=.type "tuple"/\o.data=.seq its n/\its.size<=sizeLine/\Vals xs its.toList
noncomputable def O6:Value->Option V
 | .none=>some .non
 | .bool b=>some (.bl b)
 | .int i _=>some (.int i)
 | .str x _=>some (.str x)
 | .ref a=>some (.ref a)
 | .type n=>some (.ty n)
 | _=>none
theorem RelV.abs{x:V}(r:RelV x u):O6 u=some x:=by
 cases x with
 | non=>cases r;rfl
 | bl _=>cases r;rfl
 | int _=>obtain⟨t,rfl⟩:=r;rfl
 | str _=>obtain⟨t,rfl⟩:=r;rfl
 | ref _=>cases r;rfl
 | ty _=>cases r;rfl
theorem RelV.inj{x:V}(r:RelV x u)(q:RelV y u):x=y:=hF (r.abs.symm.trans q.abs)
theorem Vals.inj:∀ {xs ys:List V} {us:Lv0},Vals xs us->Vals ys us->xs=ys
 | _,_,_,.nil,.nil=>rfl
 | _,_,_,.cons r t,.cons b a=>by rw[r.inj b,Vals.inj t a]
section
variable {pins:Pn}{s:Shared}{xs ys:List V}
theorem SqL.of(h:H a=some (.lst xs)):SqL K H a xs:=.inl (.inl h)
theorem Inv.list(I:Inv X pins σ H s)(h:SqL X.K H a xs):∃ its:Lv0,Vals xs its/\PlainL s.heap a its.toArray/\xs.length<=sizeLine:=by
 rcases h with h | ⟨o,its,n,c,f,d,b,g,r⟩
 .obtain⟨z,its,n,r,e⟩:=h.ok I.hok;exact⟨its,r,⟨_,n,e,rfl,rfl,rfl⟩,z⟩
 .refine⟨its.toList,r,⟨o,n,I.kIn a o c,f,d,by simpa using b⟩,?_⟩;have e:=r.length;simp -iota only[dy] at e;lia
theorem Inv.tuple(I:Inv X pins σ H s)(h:SqT X.K H a xs):∃ its:Lv0,Vals xs its/\IsTup s.heap a its.toArray/\xs.length<=sizeLine:=by
 rcases h with h | ⟨o,its,n,c,d,b,f,r⟩
 .obtain⟨z,its,r,p⟩:=h.ok I.hok;exact⟨its,r,p,z⟩
 .refine⟨its.toList,r,⟨o,I.kIn a o c,d,n,by simpa using b⟩,?_⟩;have e:=r.length;simp -iota only[dy] at e;lia
theorem Inv.Eb(I:Inv X pins σ H s)(h:SqL X.K H a xs)(h':SqL X.K H a ys):xs=ys:=by
 obtain⟨b,r,⟨o,n,e,_,_,d⟩,_⟩:=I.list h;obtain⟨its',g,⟨j,k,c,_,_,f⟩,_⟩:=I.list h';rw[e] at c;cases c;rw[d] at f;injection f with i _
 have:b=its':=by simpa using congrArg Array.toList i
 subst this;exact r.inj g
end
noncomputable abbrev Cx.tY (X:Cx)(E:VS):Cx:={ X with xe:=E }
noncomputable abbrev Cx.nox (X:Cx):Cx:=X.tY λ_ _=>False
theorem Cx.Ok.tY(ok:X.Ok)(E:VS):(X.tY E).Ok:=
 ⟨ok.mod,ok.kind,ok.glob,ok.blt,ok.above,ok.inj,ok.has,ok.cab,ok.hd,ok.frames,ok.stk,ok.exf,ok.bs,ok.bsz,ok.noex,ok.exfs,ok.pW,ok.frf,ok.tb⟩
theorem Cx.Ok.kB(ok:(X.tY E).Ok):X.Ok:=
 ⟨ok.mod,ok.kind,ok.glob,ok.blt,ok.above,ok.inj,ok.has,ok.cab,ok.hd,ok.frames,ok.stk,ok.exf,ok.bs,ok.bsz,ok.noex,ok.exfs,ok.pW,ok.frf,ok.tb⟩
section
variable {pins:Pn}{s:Shared}
theorem Inv.tY(I:Inv X pins σ H s)(E:VS):Inv (X.tY E) pins σ H s:=⟨I.ok.tY E,I.os,I.bare,I.base,I.loc,I.cell,I.free,I.freeC,I.pin,I.hok,I.len⟩
theorem Inv.kB(I:Inv (X.tY E) pins σ H s):Inv X pins σ H s:=⟨I.ok.kB,I.os,I.bare,I.base,I.loc,I.cell,I.free,I.freeC,I.pin,I.hok,I.len⟩
theorem SP.kB{D:Ends}{f:Flow}(h:SP (X.tY E) pins D f s'):SP X pins D f s':=by
 cases f with
 | next=>obtain⟨a,b,I,q⟩:=h;exact⟨a,b,I.kB,q⟩
 | brk=>obtain⟨a,b,I,q⟩:=h;exact⟨a,b,I.kB,q⟩
 | cont=>obtain⟨a,b,I,q⟩:=h;exact⟨a,b,I.kB,q⟩
 | ret u=>obtain⟨v,a,b,I,r,q⟩:=h;exact⟨v,a,b,I.kB,r,q⟩
theorem PSs.nox{st:List Stmt}{t:TS}(h:PSs X.nox st t):PSs X st t:=λa s b H D I c=>
 tG (h a s b H D (I.tY _) c) (λ_ _ q=>q.kB) λ_ _ z=>mM z
end
section
variable {st:Stmt}{rest:List Stmt}{t u:TS}
def CK:TS:=λD σ H=>D.nx σ H
def CJ (t u:TS):TS:=λD σ H=>t { D with nx:=u D } σ H
theorem Ar:PSs X [] CK:=λ_ _ a H _ I h=>RP ⟨a,H,I,h⟩
theorem nH(g:PS X st t)(e:PSs X rest u):PSs X (st::rest) (CJ t u):=by
 intro a s c H D I h;refine TQ (thn (g a s c H { D with nx:=u D } I h) λf d q=>?_);cases f with
 | next=>
  obtain⟨b,j,i,q⟩:=q;exact e a d b j D i q
 | ret v=>exact q
 | brk=>exact q
 | cont=>exact q
theorem vV(c:PS X st t):PSs X [st] t:=by
 intro a s b H D I h;refine TQ (thn (c a s b H D I h) λf d q=>?_);cases f with
 | next=>exact RP q
 | ret v=>exact q
 | brk=>exact q
 | cont=>exact q
theorem Inv.quiet{a:Pn}{s:Shared}(I:Inv X a σ H s):interactive X.env=false:=by simp -iota [interactive,I.ok.kind]
def w6 (te:TE):TS:=λD σ H=>te σ H λ_ H1=>D.nx σ H1
theorem As(d:PE X e te)(hs:autoParam (zJ e none pos.line X.env=pure false) wE):PS X (.Expr e pos) (w6 te):=by
 intro a s b H D I h;exact wpAny_Expr_any (thn (d a s b H _ I h) λv i ⟨x,g,f,j,c⟩=>⟨b,g,f,c⟩) I.quiet hs
def IY (te:TE):TS:=λD σ H=>te σ H D.rt
theorem Ds(f:PE X e te):PS X (.Return (some e) pos) (IY te):=by
 intro a s b H D I h;exact wpAny_Return_some (thn (f a s b H _ I h) λv j ⟨x,i,g,c,d⟩=>⟨x,b,i,g,c,d⟩)
def I0 (c:TT)(t u:TS):TS:=λD σ H=>c σ H λb H1=>if b=true then t D σ H1 else u D σ H1
theorem H8{c:Expr}{a b:List Stmt}{g:TT}(m:PT X c g)(o:PSs X a t)(n:PSs X b u):PS X (.If c a b pos) (I0 g t u):=by
 intro e s f H D I h;refine wpAny_If (thn (m e s f H _ I h) λd i Z=>?_);obtain⟨l,k,j⟩:=Z;cases d with
 | true=>exact o e i f l D k j
 | false=>exact n e i f l D k j
def CL:TS:=λ_ _ _=>False
theorem Dt:PS X st CL:=λ_ _ _ _ _ _ h=>h.elim
end
abbrev TG:=V->St->Hp->(St->Hp->Prop)->Prop
abbrev TGs:=List V->St->Hp->(St->Hp->Prop)->Prop
def PG (X:Cx)(a:Expr)(t:TG):Prop:=
 ∀ (pins:Pn) (s:Shared) (σ:St) (H:Hp) (v:V) (u:Value) (Q:St->Hp->Prop),Inv X pins σ H s->RelV v u->t v σ H Q->
  wpAny (model X.prog X.w) X.A (assign a X.env u) (λ_ s'=>∃ σ' H',Inv X pins σ' H' s'/\Q σ' H') X.xe s
def PGs (X:Cx)(ts:List Expr)(t:TGs):Prop:=
 ∀ (pins:Pn) (s:Shared) (σ:St) (H:Hp) (vs:List V) (us:Lv0) (Q:St->Hp->Prop),Inv X pins σ H s->Vals vs us->t vs σ H Q->
  wpAny (model X.prog X.w) X.A (assignInOrder ((pv ts X.env).map (·.2)) us) (λ_ s'=>∃ σ' H',Inv X pins σ' H' s'/\Q σ' H') X.xe s
noncomputable abbrev Ll:=V->V->V->Hp->(Hp->Prop)->Prop
def NU (X:Cx)(t:Ll):Prop:=
 ∀ (pins:Pn) (s:Shared) (σ:St) (H:Hp) (o i v:V) (a b u:Value) (Q:Hp->Prop),Inv X pins σ H s->RelV o a->RelV i b->RelV v u->t o i v H Q->
  wpAny (model X.prog X.w) X.A (Qh a b u) (λ_ s'=>∃ H',Inv X pins σ H' s'/\Q H') X.xe s
def gr (i:Nat):TG:=λv σ H Q=>Q (σ.set i (some v)) H
theorem bu(hN:X.N.Nodup)(c:X.N[i]?=some x)(b:Loc X.env.scope x)(d:autoParam (X.fn x=true\/X.env.scope.names.lookup x=some .local) wq0):PG X (.Name x pos) (gr i):=by
 intro a s f H v u Q I r h;exact S9 (w8 I hN c b r (λg e=>⟨_,H,e,h⟩) d)
def Nb:TGs:=λvs σ H Q=>vs=[]/\Q σ H
def IA (t:TG)(u:TGs):TGs:=λvs σ H Q=>∃ v r,vs=v::r/\t v σ H λσ' H'=>u r σ' H' Q
theorem dH:PGs X [] Nb:=by
 intro a s b H c d Q I r h;obtain⟨e,h⟩:=h;subst e;cases r;exact assignInOrder_nil ⟨b,H,I,h⟩
theorem aQ{t:TG}{u:TGs}(j:PG X e t)(i:PGs X es u)(hs:autoParam ((pv (e::es) X.env).map (·.2)=assign e X.env::(pv es X.env).map (·.2)) wE):PGs X (e::es) (IA t u):=by
 intro a s c H n p Q I r h;obtain⟨v,o,k,h⟩:=h;subst k;cases r with
 | cons r f=>
  rw[hs];refine assignInOrder_cons (thn (j a s c H _ _ _ I r h) λ_ d Z=>?_);obtain⟨b,m,l,g⟩:=Z;exact i a d b m _ _ Q l f g
def KS (K:Fg0)(n:Nat)(t:TGs):TG:=λv σ H Q=>∃ a xs,v=.ref a/\SqT K H a xs/\xs.length=n/\t xs σ H Q
theorem DA{t:TGs}(y:X.calm=true)(h:PGs X es t)(w:autoParam ((pv es X.env).length=n) wE)(f:autoParam ((pv es X.env).findIdx? (·.1)=none) wE):PG X (.Tuple es k pos) (KS X.K n t):=by
 intro c s g H v u Q I r d;obtain⟨a,j,A,q,x,d⟩:=d;subst A;cases r;obtain⟨l,i,p,C⟩:=I.tuple q;refine assign_Tuple_tuple (I.ok.hd y) p (by simp -iota [w,<- x,i.length]) f λz m=>?_;have B:Inv X c g H { s with heap:=z }:=I.kept (t':=s.toks) λb o e=>m b o (hY (er e)) e;exact h c _ g H j _ Q B (by simpa using i) d
def Cb (a b:TE)(t:Ll):TG:=λv σ H Q=>a σ H λo H1=>b σ H1 λi H2=>t o i v H2 λc=>Q σ c
theorem DB{o i:Expr}{c d:TE}{t:Ll}(n:PE X o c)(p:PE X i d)(hs:NU X t)(q:autoParam (∀ v,assign (.Subscript o i pos) X.env v=(do
   let O <- holding [v] (eval o X.env)
   let U <- holding [v,O] (eval i X.env)
   ru pos
   holding [v,O,U] (Qh O U v)
   release [v,O,U] [])) wT):PG X (.Subscript o i pos) (Cb c d t):=by
 intro a s b H v u Q I r h;rw[q];refine aI (jz (thn (n a s b H _ I h) λO f Z=>?_));obtain⟨x,D,A,j,m⟩:=Z;refine aI (jz (thn (p a f b D _ A m) λU e Z=>?_));obtain⟨y,C,z,g,l⟩:=Z;refine aI (Hx (aI (jz (thn (hs a e b C x y v O U u _ z j g r l) λ_ E Z=>?_))));obtain⟨B,w,k⟩:=Z;exact wpAny_release ⟨b,B,w,k⟩
def jo (te:TE)(g:TG):TS:=λD σ H=>te σ H λx H1=>g x σ H1 D.nx
theorem vW{g:TG}(k:PE X e te)(j:PG X tg g)(hs:autoParam (NZ [tg] e pos.line X.env=pure false) wE)(i:autoParam (Oi [tg] e X.env=pure none) wE)(l:autoParam ((pv [tg] X.env).map (·.2)=[assign tg X.env]) wE):PS X (.Assign [tg] e pos) (jo te g):=by
 intro a s b H D I h;refine wpAny_Assign_stores (thn (k a s b H _ I h) λv c Z=>?_) hs i;obtain⟨x,n,m,d,f⟩:=Z;rw[l];exact thn (j a c b n x v _ m d f) λ_ o q=>q
theorem Jz{a:Pos}(hN:X.N.Nodup)(j:X.N[i]?=some x)(g:Loc X.env.scope x)(l:PE X e te)(hs:autoParam (zJ e (some (.Name x a)) pos.line X.env=pure false) wE)(k:autoParam (X.fn x=true\/X.env.scope.names.lookup x=some .local) wq0) :
  PS X (.Assign [.Name x a] e pos) (jo te (gr i)):=by
 intro b s c H D I h;refine wpAny_Assign_Name (thn (l b s c H _ I h) λv q Z=>?_) hs;obtain⟨y,o,n,d,f⟩:=Z;exact w8 n hN j g d (λp m=>⟨_,o,m,f⟩) k
set_option genInjectivity false in
structure It where
 go:Nat->Hp->Prop
 yld:Nat->Hp->V->Hp->Prop
 stop:Nat->Hp->Prop
def iB (X:Cx)(a:Pn)(H:Hp)(b:Addr):Prop:=
 H b=none/\b≠X.env.locals/\b∉X.fs/\(b∈X.ex\/X.s₀.heap.objs.size<=b)/\(∀ x c,X.env.cells.lookup x=some c->c≠b)/\∀ p∈X.pn++a,p.1≠b
theorem Inv.qX{a:Pn}{H':Hp}{s:Shared}{b:Addr}(I:Inv X a σ H s)(d:s.heap.objs.size<=b)(g:H' b=none):iB X a H' b:=by
 refine⟨g,U4 (fC I.lt d),I.Oa d,.inr (kj I.sz d),λx c e z=>?_,λp f z=>?_⟩
 .obtain⟨v,q⟩:=I.cell x c e;exact absurd (fC q.lt (by rw[z];exact d)) (ky _)
 .exact absurd (fC (er (I.pin p f).1) (by rw[z];exact d)) (ky _)
structure Turn (P:nI) (w:World) (K:Fg0) (tg:Expr) (J:It) (fp:La0) (it:Addr) (tn:Nat->Heap->Prop):Prop where
 mem:it∈fp
 obj:∀ i h,tn i h->∀ b∈fp,∃ o,h.get? b=some o/\∀ v,o.data≠.cell v
 keep:∀ i h h',tn i h->(∀ b∈fp,∀ o,h.get? b=some o->h'.get? b=some o)->tn i h'
 item:∀ (X:Cx),X.prog=P->X.w=w->X.K=K->X.calm=true->∀ (i:Nat) (pins:Pn) (s:Shared) (σ:St) (H:Hp) (E:VS),Inv X pins σ H s->(∀ b∈fp,iB X pins H b)->tn i s.heap->J.go i H->
  wpAny (model P w) X.A (pyNext (.ref it)) (λr s1=>∃ u,r=some u/\
   wpAny (model P w) X.A (oG tg (.ref it) u) (λ_ s2=>∃ x H',Inv X pins σ H' s2/\RelV x u/\J.yld i H x H'/\tn (i + 1) s2.heap/\∀ b∈fp,H' b=none) E s1) E s
 done:∀ (X:Cx),X.prog=P->X.w=w->X.K=K->X.calm=true->∀ (i:Nat) (pins:Pn) (s:Shared) (σ:St) (H:Hp) (E:VS),Inv X pins σ H s->(∀ b∈fp,iB X pins H b)->tn i s.heap->J.stop i H->
  wpAny (model P w) X.A (pyNext (.ref it)) (λr s1=>r=none/\Inv X pins σ H s1) E s
 self:∀ (A:Around) (i:Nat) (s:Shared) (Q:VS) (E:VS),tn i s.heap->Q (.ref it) s->wpAny (model P w) A (pyIter (.ref it)) Q E s
abbrev TI:=St->Hp->(It->Hp->Prop)->Prop
def PIE (X:Cx)(a:Pn)(σ:St)(e:Expr)(R:It->Hp->Prop)(c:Value)(d:Shared):Prop:=
 ∃ (it:Addr) (fp:La0) (tn:Nat->Heap->Prop) (J:It) (H':Hp),c=.ref it/\Inv X a σ H' d/\Turn X.prog X.w X.K e J fp it tn/\tn 0 d.heap/\(∀ b∈fp,iB X a H' b)/\R J H'
def PI (X:Cx)(b iter:Expr)(a:TI):Prop:=
 ∀ (pins:Pn) (s:Shared) (σ:St) (H:Hp) (R:It->Hp->Prop),Inv X pins σ H s->a σ H R->
  wpAny (model X.prog X.w) X.A (eval iter X.env) (λv c=>wpAny (model X.prog X.w) X.A (pyIter v) (PIE X pins σ b R) X.xe c) X.xe s
theorem AS{s:Shared}{it:Addr}{o:Obj}{n:String}{vs:Array Value}{Q:Unit->Shared->Prop}(b:s.heap.get? it=some o)(e:o.cls=.type n)(d:o.data=.fields vs)(c:["enumerate","zip","dict_itemiterator","dict_reverseitemiterator","odict_iterator","itertools.zip_longest","itertools.pairwise"].contains n=false)(a:Q () s):wpAny M A (oG tg (.ref it) u) Q E s:=by
 delta oG;cases tg <;> first
  | exact aP a
  | (cases u <;> first
    | exact aP a
    | (refine aI (Uv b ?_);rw[e,d];show wpAny M A (if (["enumerate","zip","dict_itemiterator","dict_reverseitemiterator","odict_iterator","itertools.zip_longest","itertools.pairwise"].contains n && vs[0]? == some (rawInt _))=true then _ else _) Q E s;rw[if_neg (by intro h;rw[c,Sb] at h;cases h)];exact aP a))
noncomputable def Itl (K:Fg0)(a:Addr):It:=
 ⟨λi H=>∃ xs x,SqL K H a xs/\xs[i]?=some x,λi H x H'=>H'=H/\∀ xs,SqL K H a xs->xs[i]?=some x,λi H=>∃ xs,SqL K H a xs/\xs.length<=i⟩
noncomputable def Itr (lo:Int)(n:Nat):It:=⟨λi _=>i < n,λi H x H'=>H'=H/\x=.int (lo + i),λi _=>n<=i⟩
theorem Bm(a it:Addr):Turn P w K tg (Itl K a) [it] it (λi h=>h.IsListIter it a i) where
 mem:=by simp
 obj:=λi h st b g=>by
  have e:b=it:=by simpa using g
  subst e;obtain⟨o,e,c,d⟩:=st;exact⟨o,e,λv z=>by rw[d] at z;cases z⟩
 keep:=λi h n st k=>st.at λo e=>k it (by simp) o e
 item:=by
  intro X B y C M i f s L H E I m st A;subst B y C;obtain⟨N,x,l,t⟩:=A;obtain⟨r,q,p,R⟩:=I.list l;obtain⟨u,T,Q⟩:=q.get t;obtain⟨f0,J,U,G,F,D⟩:=m it (by simp);refine RB st p.isList (x:=u) (by simpa using T) λn j O=>?_;have W:Inv X f L H { s with heap:=n }:=I.turned (t':=s.toks) (λb o g e=>(O.2 b g).trans e) f0 J G F D;obtain⟨o,e,c,d⟩:=id j;exact⟨u,rfl,AS (s:={ s with heap:=n }) e c d (by decide) ⟨x,H,W,Q,⟨rfl,λY S=>by rw[I.Eb S l];exact t⟩,j,λb g=>(m b g).1⟩⟩
 done:=by
  intro X B y C M i f s L H E I m st A;subst B y C;obtain⟨N,l,t⟩:=A;obtain⟨r,q,p,R⟩:=I.list l;obtain⟨f0,J,U,G,F,D⟩:=m it (by simp);have Z:=q.length;exact R3 (I.ok.hd M) st p.isList (by simp;lia) λn V=>⟨rfl,I.turned (t':=s.toks) (λb o g e=>V b o g e) f0 J G F D⟩
 self:=λ_ _ _ _ _ st h=>wpAny_pyIter_listiter st h
theorem yG(it:Addr)(lo:Int)(n:Nat):Turn P w K tg (Itr lo n) [it] it (λi h=>QR h it (lo + (i:Nat) * 1) ((n:Int) - (i:Nat)) 1) where
 mem:=by simp
 obj:=λi h st b c=>by
  have e:b=it:=by simpa using c
  subst e;exact⟨_,st,λv z=>by
   have C:Vh _=Data.cell v:=z;cases C⟩
 keep:=λi h g st k=>k it (by simp) _ st
 item:=by
  intro X p j q m i a s A H E I f st l;subst p j q;obtain⟨f0,y,G,x,u,r⟩:=f it (by simp);have W:=Vi (prog:=X.prog) (w:=X.w) (I.ok.hd m) it lo 1 n;refine W.item i s _ _ l st λv g B F d D=>?_;obtain⟨t,rfl⟩:=F;have L:Inv X a A H { s with heap:=g,toks:=B }:=I.turned (λb o c e=>D b o (by simpa using c) e) f0 y x u r;refine⟨_,rfl,AS (s:={ s with heap:=g,toks:=B }) (n:="range_iterator") d rfl rfl (by decide) ⟨.int (lo + i),H,L,⟨t,?_⟩,⟨rfl,rfl⟩,d,λb c=>(f b c).1⟩⟩;rw[Int.mul_one]
 done:=by
  intro X p j q m i a s A H E I f st l;subst p j q;obtain⟨f0,y,G,x,u,r⟩:=f it (by simp);exact RC (I.ok.hd m) st (by have:n<=i:=l;lia) λg J=>⟨rfl,I.turned (t':=s.toks) (λb o c e=>J b o c e) f0 y x u r⟩
 self:=λ_ _ _ _ _ st h=>Fn st h
def Iw (K:Fg0)(tl:TE):TI:=λσ H R=>tl σ H λx H1=>∃ a,x=.ref a/\(∃ xs,SqL K H1 a xs)/\R (Itl K a) H1
theorem Gh{l:Expr}{tl:TE}(n:PE X l tl):PI X tg l (Iw X.K tl):=by
 intro c s g H R I h;refine thn (n c s g H _ I h) λv d Z=>?_;obtain⟨x,t,f,i,j⟩:=Z;obtain⟨a,e,⟨u,m⟩,q⟩:=j;subst e;cases i;obtain⟨k,w,p,y⟩:=f.list m;refine Ta p.isList ?_;refine⟨d.heap.objs.size,[d.heap.objs.size],_,_,t,rfl,f.kept (t':=d.toks) λb o e=>bh _ e,Bm a _,⟨_,ey _ rfl,rfl,rfl⟩,λb r=>?_,q⟩;have e:b=d.heap.objs.size:=by simpa using r
 subst e;exact f.qX (bU _) (f.hok.fresh (bU _))
theorem xv{c:Pn}{s:Shared}{R:It->Hp->Prop}{lo a:Int}{t u v:Tok}{d:Nat}(I:Inv X c σ H s)(k:-(2 ^ 62)<=lo)(j:lo < 2 ^ 62)(i:-(2 ^ 62)<=a)(h:a < 2 ^ 62)(q:R (Itr lo (a - lo).toNat) H):wpAny (model X.prog X.w) X.A (pyIter (.ref s.heap.objs.size)) (PIE X c σ tg R) E { s with heap:=s.heap.push { cls:=.type "range",data:=.fields #[.int lo t,.int a u,.int 1 v] },toks:=d }:=by
 refine wpAny_pyIter_range (T6 ..) (small_one k j i h) ?_;have f:Inv X c σ H { s with heap:=s.heap.push { cls:=.type "range",data:=.fields #[.int lo t,.int a u,.int 1 v] },toks:=d }:=I.kept λb o e=>bh _ e;refine⟨(s.heap.push { cls:=.type "range",data:=.fields #[.int lo t,.int a u,.int 1 v] }).objs.size,[(s.heap.push { cls:=.type "range",data:=.fields #[.int lo t,.int a u,.int 1 v] }).objs.size],_,_,H,rfl,
  f.kept (t':=d) λb o e=>bh _ e,yG _ lo (a - lo).toNat,?_,λb g=>?_,q⟩
 .have m:lo + ((0:Nat):Int) * 1=lo:=by simp
  have l:(((a - lo).toNat:Nat):Int) - ((0:Nat):Int)=Ph lo a 1:=by rw[rangeSize_one];split <;> lia
  show QR _ _ (lo + ((0:Nat):Int) * 1) ((((a - lo).toNat:Nat):Int) - ((0:Nat):Int)) 1;rw[m,l];exact ey _ rfl
 .have e:b=(s.heap.push { cls:=.type "range",data:=.fields #[.int lo t,.int a u,.int 1 v] }).objs.size:=by simpa using g
  subst e;exact f.qX (bU _) (f.hok.fresh (bU _))
def Ir (ta:TA):TI:=λσ H R=>ta σ H λvs H1=>∃ j:Int,vs=[.int j]/\-(2 ^ 62)<=j/\j < 2 ^ 62/\R (Itr 0 j.toNat) H1
def Iq (ta:TA):TI:=λσ H R=>ta σ H λvs H1=>∃ i j:Int,vs=[.int i,.int j]/\(-(2 ^ 62)<=i/\i < 2 ^ 62/\-(2 ^ 62)<=j/\j < 2 ^ 62)/\R (Itr i (j - i).toNat) H1
theorem BG{a:Expr}{ta:TA}(l:Gl X "range")(k:X.mg "range"=none)(m:PA X [a] ta)(hs:autoParam (ed [a] X.env=[(false,eval a X.env)]) wE):PI X tg (.Call (.Name "range" p) [a] [] pos) (Ir ta):=by
 intro b s d H R I h;refine Call_ (ff I l k SR (jl (thn (m pos b s d H _ I h) λu v Z=>?_) hs rfl));obtain⟨o,w,n,g,c⟩:=Z;obtain⟨j,e,c,i,q⟩:=c;subst e;cases g with
 | cons r f=>
  cases f;obtain⟨t,rfl⟩:=r;exact call_range_1 (xv n (by decide) (by decide) c i (by simpa using q))
theorem BF{a b:Expr}{ta:TA}(w:Gl X "range")(v:X.mg "range"=none)(x:PA X [a,b] ta)(hs:autoParam (ed [a,b] X.env=[(false,eval a X.env),(false,eval b X.env)]) wE)(d:autoParam (ed [b] X.env=[(false,eval b X.env)]) wE) :
  PI X tg (.Call (.Name "range" p) [a,b] [] pos) (Iq ta):=by
 intro c s k H R I h;refine Call_ (ff I w v SR (jl (thn (x pos c s k H _ I h) λA C ⟨z,D,y,l,g⟩=>?_) (by rw[hs,d]) (by rw[d];rfl)));obtain⟨i,j,e,⟨g,u,o,n⟩,q⟩:=g;subst e;cases l with
 | cons r f=>
  cases f with
  | cons m f=>
   cases f;obtain⟨t,rfl⟩:=r;obtain⟨B,rfl⟩:=m;exact call_range_2 (xv y g u o n q)
def I9 (c:TI)(g:TG)(d:TS):TS:=λD σ H=>c σ H λJ H1=>∃ W:Nat->Nat->St->Hp->Prop,(∃ m,W 0 m σ H1)/\∀ i m σ H,W i m σ H->
 (J.stop i H/\D.nx σ H)\/(J.go i H/\∃ N:St->Hp->Prop,(∀ σ' H',N σ' H'->∃ b,b < m/\W (i + 1) b σ' H')/\∀ x H',J.yld i H x H'->g x σ H' λa H2=>d { D with nx:=N,ct:=N,bk:=D.nx } a H2)
noncomputable def sh (a:La0)(h:Heap):Pn:=a.filterMap λb=>(h.get? b).map λo=>(b,o)
theorem jZ{b:Addr}{o:Obj}(a:b∈fp)(e:h.get? b=some o):(b,o)∈sh fp h:=tR.mpr ⟨b,a,by rw[e];rfl⟩
theorem uD{p:Addr×Obj}(a:p∈sh fp h):p.1∈fp/\h.get? p.1=some p.2:=by
 obtain⟨b,c,e⟩:=tR.mp a;cases q:h.get? b with
 | none=>rw[q] at e;cases e
 | some o=>
  rw[q] at e;have d:(b,o)=p:=hF e;subst d;exact⟨c,q⟩
theorem Inv.pinned{a:Pn}{s:Shared}(I:Inv X a σ H s)(i:∀ b∈fp,iB X a H b)(h:∀ b∈fp,∃ o,s.heap.get? b=some o/\∀ v,o.data≠.cell v):Inv X (a++sh fp s.heap) σ H s:=
 I.jV λp g=>(eE.mp g).elim (λz=>I.pin p (el _ z)) λz=>by
  obtain⟨c,e⟩:=uD z;obtain⟨f0,k,j,_⟩:=i p.1 c;obtain⟨o,f,d⟩:=h p.1 c;rw[e] at f;cases f;exact⟨e,f0,k,j,d⟩
theorem Inv.rH{a pl:Pn}{s:Shared}(I:Inv X (a++pl) σ H s):Inv X a σ H s:=I.jV λp b=>I.pin p (el _ (ji _ b))
theorem Du{iter:Expr}{S:TI}{g:TG}{V:TS}(C:UX (model X.prog X.w) X.A X.env X.xe)(hc:X.calm=true)(hi:PI X tg iter S)(hg:PG X tg g)(p:PSs X body V)(hs:autoParam (∀ x,ic iter X.env x=pure x) wT):PS X (.For tg iter body [] pos) (I9 S g V):=by
 intro c s R H D I h;refine wpAny_For (thn (hi c s R H _ I h) λv s1 h1=>thn h1 λa1 s2 h2=>?_) hs;obtain⟨it,F,U,J,H2,e,I2,T,L,f2,W,⟨m0,w0⟩,z⟩:=h2;subst e;have l:∀ {H':Hp},(∀ b∈F,H' b=none)->∀ b∈F,iB X c H' b:=λhn b p=>⟨hn b p,(f2 b p).2⟩;refine codeAny_forLoop_any (λn s'=>∃ i k H',Inv X c k H' s'/\U i s'.heap/\(∀ b∈F,H' b=none)/\W i n k H') ?_ m0 ⟨0,R,H2,I2,L,λb p=>(f2 b p).1,w0⟩;rintro n s3 ⟨i,j,G,I3,A,E,w3⟩;rcases z i n j G w3 with ⟨stop,qn⟩ | ⟨go,N,hN,step⟩
 .refine OD C (thn (T.done X rfl rfl rfl hc i c s3 j G X.xe I3 (l E) A stop) λr s4 Z=>?_);obtain⟨O,I4⟩:=Z;subst O;exact RP ⟨j,G,I4,qn⟩
 .refine OD C (thn (T.item X rfl rfl rfl hc i c s3 j G X.xe I3 (l E) A go) λr s4 Z=>?_);obtain⟨u,O,h4⟩:=Z;subst O;refine OD C (thn h4 λ_ Y Z=>?_);obtain⟨x,H5,I5,r5,y5,y,P⟩:=Z;have Q:=I5.pinned (l P) (T.obj _ _ y);refine OD C (thn (hg _ Y j H5 x u _ Q r5 (step x H5 y5)) λ_ s6 Z=>?_);obtain⟨K,H6,I6,q6⟩:=Z;refine OD C (thn (p _ s6 K H6 _ I6 q6) λf M w=>?_);have again:∀ {a:St} {t:Hp},Inv X (c++sh F Y.heap) a t M->N a t->∃ m,m < n/\∃ i k H',Inv X c k H' M/\U i M.heap/\(∀ b∈F,H' b=none)/\W i m k H':=λ{a t} q B=>by
   obtain⟨m',hm,w7⟩:=hN a t B;refine⟨m',hm,i + 1,a,t,q.rH,T.keep _ _ _ y λb p o e=>(q.pin (b,o) (el _ (el _ (jZ p e)))).1,λb p=>?_,w7⟩;obtain⟨o,e,d⟩:=T.obj _ _ y b p;exact(q.pin (b,o) (el _ (el _ (jZ p e)))).2.1
  cases f with
  | next=>obtain⟨a,t,q,B⟩:=w;exact again q B
  | cont=>obtain⟨a,t,q,B⟩:=w;exact again q B
  | brk=>obtain⟨a,t,q,w⟩:=w;exact⟨a,t,q.rH,w⟩
  | ret v=>obtain⟨x7,a,t,q,r7,w⟩:=w;exact⟨x7,a,t,q.rH,r7,w⟩
abbrev R2:=V->V->Hp->VK->Prop
def OpR (X:Cx)(f:Value->Value->Sem Value)(r:R2):Prop:=
 ∀ (pins:Pn) (s:Shared) (σ:St) (H:Hp) (x y:V) (v u:Value) (Q:VK),Inv X pins σ H s->RelV x v->RelV y u->r x y H Q->
  wpAny (model X.prog X.w) X.A (f v u) (EP X pins σ Q) X.xe s
def UnR (X:Cx)(f:Value->Sem Value)(r:V->Hp->VK->Prop):Prop:=
 ∀ (pins:Pn) (s:Shared) (σ:St) (H:Hp) (x:V) (v:Value) (Q:VK),Inv X pins σ H s->RelV x v->r x H Q->
  wpAny (model X.prog X.w) X.A (f v) (EP X pins σ Q) X.xe s
def dG (X:Cx)(f:Value)(r:List V->Hp->VK->Prop):Prop:=
 ∀ (pins:Pn) (s:Shared) (σ:St) (H:Hp) (xs:List V) (us:Lv0) (Q:VK),Inv X pins σ H s->Vals xs us->r xs H Q->
  wpAny (model X.prog X.w) X.A (call f us) (EP X pins σ Q) X.xe s
def tOp (r:R2)(ta a:TE):TE:=λσ H Q=>ta σ H λx H1=>a σ H1 λy H2=>r x y H2 Q
def tUn (r:V->Hp->VK->Prop)(ta:TE):TE:=λσ H Q=>ta σ H λx H1=>r x H1 Q
def rI (C:Int->Int->Prop)(g:Int->Int->V):R2:=λx y H Q=>∃ i j,x=.int i/\y=.int j/\C i j/\Q (g i j) H
def rI0 (g:Int->Int->V):R2:=λx y H Q=>∃ i j,x=.int i/\y=.int j/\Q (g i j) H
noncomputable def rU (g:Int->V):V->Hp->VK->Prop:=λx H Q=>∃ i,x=.int i/\Q (g i) H
section
variable {a b c:Expr}{tb tc:TE}
theorem Li(o:PE X a ta)(n:PE X b tb){c:Pn}{s:Shared}{R:V->V->Hp->Prop}(I:Inv X c σ H s)(h:ta σ H λx H1=>tb σ H1 λy H2=>R x y H2){Q:VS}{f:Value->Value->Sem Value}(m:∀ v u s2 x y H2,Inv X c σ H2 s2->RelV x v->RelV y u->R x y H2->wpAny (model X.prog X.w) X.A (f v u) Q X.xe s2) :
  wpAny (model X.prog X.w) X.A (eval a X.env) (λv e=>wpAny (model X.prog X.w) X.A (eval b X.env) (λu d=>wpAny (model X.prog X.w) X.A (f v u) Q X.xe d) X.xe e) X.xe s:=by
 refine thn (o c s σ H _ I h) λv g Z=>?_;obtain⟨x,H1,q,j,l⟩:=Z;refine thn (n c g σ H1 _ q l) λu s2 Z=>?_;obtain⟨y,H2,p,i,k⟩:=Z;exact m v u s2 x y H2 p j i k
theorem kR{d:Operator}{r:R2}(j:OpR X (uU d) r)(l:PE X a ta)(k:PE X b tb):PE X (.BinOp a d b pos) (tOp r ta tb):=by
 intro c s e H Q I h;exact wpAny_BinOp (Li l k I h λv u f x y n m i g q=>j c f e n x y v u Q m i g q)
theorem L_{d:UnaryOp}{r:V->Hp->VK->Prop}(i:UnR X (unaryOp d) r)(j:PE X a ta):PE X (.UnaryOp d a pos) (tUn r ta):=by
 intro b s c H Q I h;exact UnaryOp_ (thn (j b s c H _ I h) λv e ⟨x,l,k,f,g⟩=>i b e c l x v Q k f g)
theorem opI{f:Value->Value->Sem Value}{C:Int->Int->Prop}(rule:∀ (i j:Int) (t u:Tok) (s:Shared) (Q:VS) (E:VS),C i j->Q (.int (g i j) s.toks) { s with toks:=s.toks + 1 }->wpAny (model X.prog X.w) X.A (f (.int i t) (.int j u)) Q E s) :
  OpR X f (rI C λi j=>.int (g i j)):=by
 intro a s k H x y v u Q I d c h;obtain⟨i,j,rfl,rfl,e,q⟩:=h;obtain⟨t,rfl⟩:=d;obtain⟨b,rfl⟩:=c;exact rule i j t b s _ _ e ⟨.int (g i j),H,I.tok _,⟨_,rfl⟩,q⟩
theorem qR{f:Value->Value->Sem Value}(rule:∀ (i j:Int) (t u:Tok) (s:Shared) (Q:VS) (E:VS),Q (.int (g i j) s.toks) { s with toks:=s.toks + 1 }->wpAny (model X.prog X.w) X.A (f (.int i t) (.int j u)) Q E s) :
  OpR X f (rI0 λi j=>.int (g i j)):=by
 intro a s e H x y v u Q I d c h;obtain⟨i,j,rfl,rfl,q⟩:=h;obtain⟨t,rfl⟩:=d;obtain⟨b,rfl⟩:=c;exact rule i j t b s _ _ ⟨.int (g i j),H,I.tok _,⟨_,rfl⟩,q⟩
theorem GA{f:Value->Value->Sem Value}{g:Int->Int->Bool}(rule:∀ (i j:Int) (t u:Tok) (s:Shared) (Q:VS) (E:VS),Q (.bool (g i j)) s->wpAny (model X.prog X.w) X.A (f (.int i t) (.int j u)) Q E s) :
  OpR X f (rI0 λi j=>.bl (g i j)):=by
 intro a s e H x y v u Q I d c h;obtain⟨i,j,rfl,rfl,q⟩:=h;obtain⟨t,rfl⟩:=d;obtain⟨b,rfl⟩:=c;exact rule i j t b s _ _ ⟨.bl (g i j),H,I,rfl,q⟩
def p_ (i j:Int):Prop:=0 < j/\j < 1073741824
def Cu (i j:Int):Prop:=0<=j/\j<=1000000/\i.natAbs < 2 ^ 64
def ug (i j:Int):Prop:=(-(2 ^ 64) < i/\i < 2 ^ 64)\/(-(2 ^ 64) < j/\j < 2 ^ 64)
theorem ug.ok{i j:Int}(h:ug i j):IntMulOk i j:=by
 rcases h with ⟨b,a⟩ | ⟨b,a⟩
 .exact .of_left (intBits_le_64 b a)
 .exact .of_right (intBits_le_64 b a)
theorem yF(k:Nat):(0:Int)<=2 ^ k:=by
 rw[two_pow_cast];exact Int.natCast_nonneg _
theorem J3:OpR X (uU .Add) (rI0 λi j=>.int (i + j)):=qR λ_ _ _ _ _ _ _ q=>add_int q
theorem JS:OpR X (uU .Sub) (rI0 λi j=>.int (i - j)):=qR λ_ _ _ _ _ _ _ q=>sub_int q
theorem JX:OpR X (uU .Mult) (rI ug λi j=>.int (i * j)):=opI λ_ _ _ _ _ _ _ a q=>mul_int q a.ok
theorem Gy:OpR X (uU .FloorDiv) (rI p_ λi j=>.int (i / j)):=opI λi j _ _ _ _ _ a q=>by
 have c:(0:Int) < j:=a.1;have b:j < 1073741824:=a.2;exact floordiv_int (by lia) (by rw[Qm i (by lia)];exact q) (.inl (PyProof.noPylong_small (by omega)))
theorem JY:OpR X (uU .Mod) (rI (λ_ j=>0 < j) λi j=>.int (i % j)):=opI λi j _ _ _ _ _ a q=>by
 have b:(0:Int) < j:=a;exact mod_int' (by lia) (by rw[Int.fmod_eq_emod_of_nonneg i (by lia)];exact q)
theorem JV:OpR X (uU .Pow) (rI Cu λi j=>.int (i ^ j.toNat)):=opI λ_ _ _ _ _ _ _ a q=>pow_int_small a.1 a.2.1 a.2.2 q
theorem JU:OpR X (uU .LShift) (rI Cu λi j=>.int (i * 2 ^ j.toNat)):=opI λ_ _ _ _ _ _ _ a q=>lshift_int_small a.1 a.2.1 a.2.2 q
theorem JT:OpR X (uU .RShift) (rI (λ_ j=>0<=j) λi j=>.int (i / 2 ^ j.toNat)):=opI λi j _ _ _ _ _ a q=>
 rshift_int a (by rw[Qm i (yF _)];exact q)
theorem J2:OpR X (uU .BitAnd) (rI0 λi j=>.int (AC i j)):=qR λ_ _ _ _ _ _ _ q=>and_int q
theorem Mh:OpR X (uU .BitOr) (rI0 λi j=>.int (HD i j)):=qR λ_ _ _ _ _ _ _ q=>or_int q
theorem unI{f:Value->Sem Value}{g:Int->Int}(rule:∀ (i:Int) (t:Tok) (s:Shared) (Q:VS) (E:VS),Q (.int (g i) s.toks) { s with toks:=s.toks + 1 }->wpAny (model X.prog X.w) X.A (f (.int i t)) Q E s) :
  UnR X f (rU λi=>.int (g i)):=by
 intro a s c H x v Q I b h;obtain⟨i,rfl,q⟩:=h;obtain⟨t,rfl⟩:=b;exact rule i t s _ _ ⟨.int (g i),H,I.tok _,⟨_,rfl⟩,q⟩
theorem IT:UnR X (unaryOp .USub) (rU λi=>.int (-i)):=unI λ_ _ _ _ _ q=>neg_int q
theorem Er{a:Pn}{s:Shared}{Q:VK}{k b:Bool}(I:Inv X a σ H s)(q:Q (.bl k) H)(e:k=b):EP X a σ Q (.bool b) s:=by
 subst e;exact⟨.bl k,H,I,rfl,q⟩
theorem Mi:OpR X (tu .Lt) (rI0 λi j=>.bl (decide (i < j))):=GA λ_ _ _ _ _ _ _ q=>lt_int q
theorem Mj:OpR X (tu .LtE) (rI0 λi j=>.bl (decide (i<=j))):=GA λ_ _ _ _ _ _ _ q=>le_int q
theorem Ml:OpR X (tu .Gt) (rI0 λi j=>.bl (decide (j < i))):=GA λ_ _ _ _ _ _ _ q=>gt_int q
theorem Mm:OpR X (tu .GtE) (rI0 λi j=>.bl (decide (j<=i))):=GA λ_ _ _ _ _ _ _ q=>ge_int q
theorem OpR.or{f:Value->Value->Sem Value}{r e:R2}(h:OpR X f r)(h':OpR X f e):OpR X f (λx y H Q=>r x y H Q\/e x y H Q):=by
 intro a s b H x y v u Q I d c q;rcases q with q | q
 .exact h a s b H x y v u Q I d c q
 .exact h' a s b H x y v u Q I d c q
theorem aO(b:Expr)(h:autoParam (op≠.In) wP)(a:autoParam (op≠.NotIn) wP):Ol op b=false:=by
 have d:(op == CmpOp.In)=false:=by cases op <;> first | rfl | exact absurd rfl h
 have c:(op == CmpOp.NotIn)=false:=by cases op <;> first | rfl | exact absurd rfl a
 cases b <;> simp [Ol,d,c]
theorem Gp{r:R2}(i:OpR X (tu op) r)(l:PE X a ta)(k:PE X b tb)(j:Ol op b=false):PE X (.Compare a [op] [b] pos) (tOp r ta tb):=by
 intro c s d H Q I h;exact wpAny_Compare1 (Li l k I h λv u e x y n m g f q=>i c e d n x y v u Q m g f q) j
def z9 (t:TE):TT:=λσ H Q=>t σ H λx H'=>∃ k,x=.bl k/\Q k H'
theorem Ga{r:R2}(q:OpR X (tu op) r)(A:PE X a ta)(w:PE X b tb)(t:Ol op b=false):PT X (.Compare a [op] [b] pos) (z9 (tOp r ta tb)):=by
 intro d s f H Q I h;refine wpAny_isTrue_Compare1 (thn (A d s f H _ I h) λv i ⟨x,G,D,m,p⟩=>thn (w d i f G _ D p) λu g ⟨y,F,C,l,o⟩=>
  thn (q d g f F x y v u _ C m l o) λc J ⟨z,E,B,j,k,e,n⟩=>?_) t
 subst e;cases j;exact sg ⟨E,B,n⟩
def rM (r e:R2)(ta d c:TE):TE:=λσ H Q=>ta σ H λx H1=>d σ H1 λy H2=>r x y H2 λz a=>∃ k,z=.bl k/\
 (if k=true then c σ a λb f=>e y b f Q else Q (.bl false) a)
theorem DF{g:CmpOp}{r m:R2}(L:OpR X (tu op) r)(j:OpR X (tu g) m)(P:PE X a ta)(O:PE X b tb)(N:PE X c tc)(M:autoParam (TU [op,g] [b,c]=false) wq1):PE X (.Compare a [op,g] [b,c] pos) (rM r m ta tb tc):=by
 intro f s i H Q I h;refine Compare_chain (thn (P f s i H _ I h) λv C ⟨x,W,T,F,K⟩=>chain_link (thn (O f C i W _ T K) λu B ⟨y,V,S,l,J⟩=>
  thn (L f B i V x y v u _ S F l J) λd A ⟨z,p,o,E,k,e,n⟩=>?_)) M
 subst e;cases E;refine sg ?_;cases k with
 | false=>exact ite_ff ⟨.bl false,p,o,rfl,n⟩
 | true=>exact ite_tt (chain_last (thn (N f A i p _ o n) λt w ⟨q,U,R,D,G⟩=>j f w i U y q u t Q R l D G))
theorem Dr{g:CmpOp}{r m:R2}(O:OpR X (tu op) r)(j:OpR X (tu g) m)(T:PE X a ta)(S:PE X b tb)(R:PE X c tc)(P:autoParam (TU [op,g] [b,c]=false) wq1):PT X (.Compare a [op,g] [b,c] pos) (z9 (rM r m ta tb tc)):=by
 intro f s i H Q I h;refine isTrue_chain (thn (T f s i H _ I h) λv C ⟨x,H1,I1,G,M⟩=>test_link (thn (S f C i H1 _ I1 M) λu B ⟨y,H2,I2,l,L⟩=>
  thn (O f B i H2 x y v u _ I2 G l L) λd A ⟨z,p,o,F,k,e,n⟩=>?_)) P
 subst e;cases F;refine sg ?_;cases k with
 | false=>
  obtain⟨k',V,N⟩:=n;cases V;exact ite_ff ⟨p,o,N⟩
 | true=>
  refine ite_tt (test_last (thn (R f A i p _ o n) λt w ⟨q,H4,Y,E,K⟩=>thn (j f w i H4 y q u t _ Y l E K) λd' s5 Z=>?_));obtain⟨z2,H5,W,D,k2,U,J⟩:=Z;subst U;cases D;exact sg ⟨H5,W,J⟩
theorem pP:(sizeLine:Nat) < 2 ^ 63:=by rw[ew];decide
theorem y4:OpR X (uU .Add) (λx y H Q=>∃ i j,x=.str i/\y=.str j/\i.length + j.length<=sizeLine/\Q (.str (i++j)) H):=by
 intro a s f H x y v u Q I d c h;obtain⟨i,j,rfl,rfl,e,q⟩:=h;obtain⟨t,rfl⟩:=d;obtain⟨b,rfl⟩:=c;exact add_str (λb g=>⟨.str (i++j),H,I.tok _,⟨_,rfl⟩,q⟩) e
theorem vals1{x:V}(r:Vals [x] us):∃ u,us=[u]/\RelV x u:=by
 cases r with
 | cons b a=>cases a;exact⟨_,rfl,b⟩
theorem vals2{x:V}(r:Vals [x,y] us):∃ u w',us=[u,w']/\RelV x u/\RelV y w':=by
 cases r with
 | cons d c=>
  cases c with
  | cons b a=>cases a;exact⟨_,_,rfl,d,b⟩
theorem Cj(c:X.calm=true):dG X (.builtin "max") (λxs H Q=>∃ i j,xs=[.int i,.int j]/\Q (.int (if j > i then j else i)) H):=by
 intro b s d H xs f Q I r h;obtain⟨i,j,rfl,q⟩:=h;obtain⟨u,e,rfl,⟨t,rfl⟩,⟨l,rfl⟩⟩:=vals2 r;refine max_two_ints (I.ok.hd c) λm g k=>⟨_,H,I.kept k,?_,q⟩;by_cases a:j > i
 .rw[if_pos a,if_pos a];exact⟨_,rfl⟩
 .rw[if_neg a,if_neg a];exact⟨_,rfl⟩
theorem Ci(c:X.calm=true):dG X (.builtin "min") (λxs H Q=>∃ i j,xs=[.int i,.int j]/\Q (.int (if j < i then j else i)) H):=by
 intro b s d H xs f Q I r h;obtain⟨i,j,rfl,q⟩:=h;obtain⟨u,e,rfl,⟨t,rfl⟩,⟨l,rfl⟩⟩:=vals2 r;refine min_two_ints (I.ok.hd c) λm g k=>⟨_,H,I.kept k,?_,q⟩;by_cases a:j < i
 .rw[if_pos a,if_pos a];exact⟨_,rfl⟩
 .rw[if_neg a,if_neg a];exact⟨_,rfl⟩
theorem Ck:dG X (.type "int") (λxs H Q=>(∃ i,xs=[.int i]/\Q (.int i) H)\/∃ k,xs=[.bl k]/\Q (.int (if k then 1 else 0)) H):=by
 intro a s c H xs d Q I r h;rcases h with ⟨i,rfl,q⟩ | ⟨k,rfl,q⟩
 .obtain⟨u,rfl,t,rfl⟩:=vals1 r;exact call_int_int ⟨.int i,H,I,⟨_,rfl⟩,q⟩
 .obtain⟨u,rfl,b⟩:=vals1 r;cases b;exact call_int_bool ⟨.int (if k then 1 else 0),H,I.tok _,⟨_,rfl⟩,q⟩
end
structure zS (h:Heap) (x dx C:Addr) (mA:SV):Prop where
 obj:h.get? x=some (lx C dx)
 ns:h.Ns1 dx mA
 ne:dx≠x
theorem BZ(n:h.Ns1 dx mA):∃ c,h.get? dx=some c/\∀ name,Qn name c=some (mA name):=by
 obtain⟨o,d,m,g,k,j,_,i⟩:=n;refine⟨o,g,λname=>?_⟩;have e:=i name;unfold nsFind findBy at e;rw[<- Array.find?_toList] at e;delta Qn;rw[k];dsimp only;split
 .rename_i y q;rw[q] at e;exact congrArg some e
 .rename_i q;rw[q] at e;have a:d.toList.any (·.refKey)=false:=by
   rw[List.any_eq_false];intro y f;obtain⟨z,t,b⟩:=j y (Array.mem_toList_iff.mp f);simp -iota [DictEntry.refKey,b]
  have l:¬ d.toList.any (·.refKey)=true:=by rw[a];exact js
  rw[if_neg l];exact congrArg some e
theorem zS.look{x:Addr}(I:zS h x dx C mA):∃ a,PySem.W.InstAt h x (lx C dx) C (some a)/\∀ name,Qn name a=some (mA name):=
 let ⟨a,b,c⟩:=BZ I.ns
 ⟨a,⟨I.obj,rfl,rfl,b⟩,c⟩
section
variable {s:Shared}{x:Addr}{v:Value}
theorem get_map{a:Bool}{Q:VS}(X:K.In s.heap)(I:zS s.heap x dx C mA)(f:oK K C name=true)(e:qm K C=true)(g:hE K (.ref C) name=some none)(c:mA name=some v)(b:TV v=true)(h:Q v { s with toks:=s.toks + 1 }) :
  wpAny (model prog w) A (getAttr (.ref x) name a) Q E s:=by
 obtain⟨i,J,d⟩:=I.look;exact PySem.W.get_value X J (Qe f).1 (PySem.W.findObj_own e g rfl (by rw[d,c])) b h
theorem Ej{pl:Sem Bool}(X:K.In s.heap)(I:zS s.heap x dx C mA)(a:oK K C name=true)(g:hE K (.ref C) name=some (some (.ref f)))(d:RD K (.ref f)=true)(c:mA name=none)(h:Q (.ref f,[.ref x]) s) :
  wpAny (model prog w) A (Ri (.ref x) name pl) Q E s:=by
 obtain⟨b,J,e⟩:=I.look;exact PySem.W.method_fn X J (Qe a).1 (Qe a).2 g (beq_iff_eq.mp d) (by show (Qn name b).map (·.isSome)=some false;rw[e,c];rfl) h
theorem Fz{ns:Ls0}{Q:Unit->Shared->Prop}(X:K.In s.heap)(I:zS s.heap x dx C mA)(hs:hE K (.ref C) "__setattr__"=some (some (.builtin "object.__setattr__")))(m:sm K C=true)(l:RQ K C name=some none)(n:qm K C=true)(k:S7 mA ns)(hsz:ns.length<=sizeLine)(h:∀ h',zS h' x dx C (λy=>if y=name then some v else mA y)->ov dx s.heap h'->Q () { s with heap:=h',toks:=s.toks + 2 }) :
  wpAny (model prog w) A (setAttr (.ref x) name v) Q E s:=by
 obtain⟨t,J,z⟩:=I.look;refine PySem.W.set_plain X J hs (PySem.W.osa_open (s:={ s with toks:=s.toks + 1 }) (r:=none) X J m l λb=>?_);obtain⟨B,o,g⟩:=PySem.W.any_some n;have j:s.heap.get? x=some ⟨.ref C,some dx,.plain,#[]⟩:=I.obj;refine aI (aP (aI (aI (wpAny_loadPart j (aI (Vp (s:={ s with toks:=s.toks + 1 }) (PySem.W.looks_clsIn X o) ?_))))));rw[g];refine aP (a:=some dx) (aI (aP (aI ?_)));refine wpAny_nsSet1 (s:={ s with toks:=s.toks + 1 }) I.ns λh' d c=>?_;obtain⟨u,p,q,e,f,i⟩:=d.count (PySem.Within.cons name v k);refine aI (wpAny_lookBehind e (by rw[f];exact pastItsLine_dict (kj i (by rw[eK];lia))) ?_);exact aP (h _ ⟨(c.2 _ (lj I.ne)).trans I.obj,d,I.ne⟩ c)
theorem D5{vs:Lv0}(X:K.In s.heap)(b:qx K C=true)(c:hE K (.ref C) "__init__"=some (some (.ref f)))(e:PySem.W.typeIn K (.ref f)=some (.type "function"))(h:qG (model prog w) (A.under (.builtin "type.__call__" ⟨.ref C::vs,kw⟩)) (.call (.ref f) ⟨.ref (s.heap.objs.size + 1)::vs,kw⟩) (TX (s.heap.objs.size + 1) R)
   { s with heap:=(s.heap.push km).push (lx C s.heap.objs.size) }) :
  qG (model prog w) A (.call (.ref C) ⟨vs,kw⟩) R s:=by
 obtain⟨i,g,d,t,os⟩:=s;exact Tb (Rj X b) (Sd X c) (λa=>PySem.W.bind_fn X a e) (.inl rfl) h
theorem BW(X:K.In s.heap)(b:qx K C=true)(c:hE K (.ref C) "__init__"=some (some (.builtin "object.__init__")))(e:∀ a,SG (model prog w) s.heap (bindSpecial (.builtin "object.__init__") a) (.builtin "object.__init__",[a]))(h:qG (model prog w) (A.under (.builtin "type.__call__" ⟨[.ref C],[]⟩)) (.call (.builtin "object.__init__") ⟨[.ref (s.heap.objs.size + 1)],[]⟩) (TX (s.heap.objs.size + 1) R)
   { s with heap:=(s.heap.push km).push (lx C s.heap.objs.size) }) :
  qG (model prog w) A (.call (.ref C) ⟨[],[]⟩) R s:=by
 obtain⟨f,g,d,t,os⟩:=s;exact Tb (Rj X b) (Sd X c) e (.inr ⟨rfl,rfl⟩) h
end
noncomputable def kQ (f:Str)(v:V):List (Str×V)->List (Str×V)
 | []=>[(f,v)]
 | (g,x)::r=>if g=f then (g,v)::r else (g,x)::kQ f v r
theorem qk (f g:Str)(v:V):∀ fs:List (Str×V),(kQ f v fs).lookup g=if g=f then some v else fs.lookup g
 | []=>by
  show Do g [(f,v)]=_;by_cases h:g=f
  .have a:(g == f)=true:=beq_iff_eq.mpr h;simp only[Do,a,if_pos h]
  .have a:(g == f)=false:=beq_eq_false_iff_ne.mpr h;simp only[Do,a,if_neg h]
 | (k,x)::r=>by
  have c:=qk f g v r;rw[show kQ f v ((k,x)::r)=(if k=f then (k,v)::r else (k,x)::kQ f v r) from rfl];by_cases b:k=f
  .rw[if_pos b];by_cases h:g=k
   .have a:(g == k)=true:=beq_iff_eq.mpr h;simp only[Do,a,if_pos (h.trans b)]
   .have a:(g == k)=false:=beq_eq_false_iff_ne.mpr h;simp only[Do,a,if_neg (λe:g=f=>h (e.trans b.symm))]
  .rw[if_neg b];by_cases h:g=k
   .have a:(g == k)=true:=beq_iff_eq.mpr h;simp only[Do,a,if_neg (λe:g=f=>b (h.symm.trans e))]
   .have a:(g == k)=false:=beq_eq_false_iff_ne.mpr h;simp only[Do,a];exact c
theorem pR (f:Str)(v:V):∀ fs:List (Str×V),f∈(kQ f v fs).map (·.1)/\∀ g,g∈fs.map (·.1)->g∈(kQ f v fs).map (·.1)
 | []=>⟨by simp -iota [kQ],λg h=>by simp -iota at h⟩
 | (k,x)::r=>by
  obtain⟨b,i2⟩:=pR f v r;rw[show kQ f v ((k,x)::r)=(if k=f then (k,v)::r else (k,x)::kQ f v r) from rfl];by_cases a:k=f
  .rw[if_pos a];subst a;exact⟨by simp,λg h=>by simpa using h⟩
  .rw[if_neg a];refine⟨?_,λg h=>?_⟩
   .rw[fO];exact eh _ b
   .rw[fO] at h ⊢;rcases cS.mp h with e | e
    .exact cS.mpr (.inl e)
    .exact eh _ (i2 g e)
theorem ql (f:Str)(v:V):∀ fs:List (Str×V),(kQ f v fs).length<=fs.length + 1
 | []=>by simp -iota [kQ]
 | (k,x)::r=>by
  have b:=ql f v r;rw[show kQ f v ((k,x)::r)=(if k=f then (k,v)::r else (k,x)::kQ f v r) from rfl];by_cases a:k=f
  .rw[if_pos a,eK,eK];exact KB _
  .rw[if_neg a,eK,eK];exact WF 0xdb83949eb3a9e b
theorem tT.some_of(r:tT (some v) o):∃ u,o=some u/\RelV v u:=by
 cases o with
 | none=>exact(show False from r).elim
 | some u=>exact⟨u,rfl,r⟩
theorem tT.none_of(r:tT none o):o=none:=by
 cases o with
 | none=>rfl
 | some u=>exact(show False from r).elim
theorem Ca(r:RelV v u):TV u=true:=by
 cases v with
 | non=>cases (show u=xb from r);rfl
 | bl b=>cases (show u=SQ b from r);rfl
 | int i=>obtain⟨t,e⟩:=(show ∃ t,u=Me i t from r);cases e;rfl
 | str x=>obtain⟨t,e⟩:=(show ∃ t,u=Qk x t from r);cases e;rfl
 | ref a=>cases (show u=ou a from r);rfl
 | ty n=>cases (show u=xt n from r);rfl
section
variable {H':Hp}{fs fs':List (Str×V)}
theorem rB(b:HOk P w H h)(e:H a=some (.ins C dx fs)):∃ mA,zS h a dx C mA/\(∀ f,tT (fs.lookup f) (mA f))/\S7 mA (fs.map (·.1))/\fs.length<=1000/\H dx=some (.own a):=by
 obtain⟨d,z,g,c,mA,n,r,q⟩:=(show eC P w H h a (.ins C dx fs) from b a _ e);exact⟨mA,⟨c,n,g⟩,r,q,z,d⟩
end
structure Cls (K:Fg0) (C:Addr):Prop where
 pg:oK K C rb=true
 hd:qm K C=true
 po:sm K C=true
 sa:hE K (.ref C) "__setattr__"=some (some (.builtin "object.__setattr__"))
theorem Cls.get(c:Cls K C)(f:Str):oK K C f=true:=c.pg
def ft (K:Fg0)(C:Addr)(f:Str):Prop:=hE K (.ref C) f=some none
theorem ft.Ly{f:Str}(n:ft K C f):RQ K C f=some none:=by
 delta RQ;rw[show hE K (.ref C) f=some none from n]
 rfl
structure Meth (K:Fg0) (C:Addr) (m:Str) (f:Addr):Prop where
 at_:hE K (.ref C) m=some (some (.ref f))
 fn:RD K (.ref f)=true
 kp:lF K (.ref f)=true
section
variable {pins:Pn}{s:Shared}{fs:List (Str×V)}{f:Str}
theorem zw{b:Bool}{Q:VS}(I:Inv X pins σ H s)(e:H a=some (.ins C dx fs))(c:Cls X.K C)(n:ft X.K C f)(l:fs.lookup f=some v)(h:∀ u s',Inv X pins σ H s'->RelV v u->Q u s'):wpAny (model X.prog X.w) A (getAttr (.ref a) f b) Q E s:=by
 obtain⟨g,O,r,_,_,_⟩:=rB I.hok e;obtain⟨u,i,d⟩:=tT.some_of (v:=v) (o:=g f) (by rw[<- l];exact r f);exact get_map I.kIn O (c.get f) c.hd n i (Ca d) (h u _ (I.tok _) d)
theorem sT{g:Addr}{pl:Sem Bool}(I:Inv X pins σ H s)(e:H a=some (.ins C dx fs))(c:Cls X.K C)(k:Meth X.K C m g)(l:fs.lookup m=none)(h:Q (.ref g,[.ref a]) s):wpAny (model X.prog X.w) A (Ri (.ref a) m pl) Q E s:=by
 obtain⟨b,O,r,_,_,_⟩:=rB I.hok e;have d:b m=none:=tT.none_of (by rw[<- l];exact r m);exact Ej I.kIn O (c.get m) k.at_ k.fn d h
theorem yO{Q:Unit->Shared->Prop}(I:Inv X pins σ H s)(e:H a=some (.ins C dx fs))(c:Cls X.K C)(n:ft X.K C f)(F:fs.length < 1000)(m:RelV y u)(h:∀ s',Inv X pins σ (upd H a (.ins C dx (kQ f y fs))) s'->Q () s'):wpAny (model X.prog X.w) A (setAttr (.ref a) f u) Q E s:=by
 obtain⟨j,O,r,i,_,k⟩:=rB I.hok e;have p:(fs.map (·.1)).length<=sizeLine:=by rw[lM0,ew];lia
 refine Fz I.kIn O c.sa c.po n.Ly c.hd i p λB d l=>h _ ?_;have v:∃ o,B.get? dx=some o:=let ⟨o,_,_,D,_⟩:=d.ns;⟨o,D⟩
 refine I.write (x:=a) (e:=dx) (by rw[e];exact Qo) (.inr k) (λb q w z=>(l.2 b w).trans z) v ?_;refine⟨by rw[ao O.ne];exact k,?_,O.ne,d.obj,_,d.ns,λg=>?_,λg t=>?_⟩
 .have:=ql f y fs;lia
 .show tT ((kQ f y fs).lookup g) (if g=f then some u else j g);rw[qk];by_cases q:g=f
  .rw[if_pos q,if_pos q];exact m
  .rw[if_neg q,if_neg q];exact r g
 .by_cases q:g=f
  .rw[q];exact(pR f y fs).1
  .refine(pR f y fs).2 g (i g λz=>t ?_);show (if g=f then some u else j g)=none;rw[if_neg q];exact z
theorem Inv.made(I:Inv X pins σ H s):Inv X pins σ (upd (upd H s.heap.objs.size (.own (s.heap.objs.size + 1))) (s.heap.objs.size + 1) (.ins C s.heap.objs.size []))
  { s with heap:=(s.heap.push km).push (lx C s.heap.objs.size) }:=by
 have d:(s.heap.push km).get? s.heap.objs.size=some km:=ey s.heap rfl;have i:((s.heap.push km).push (lx C s.heap.objs.size)).get? (s.heap.objs.size + 1)=some (lx C s.heap.objs.size):=by
  have:=ey (s.heap.push km) (o:=lx C s.heap.objs.size) rfl
  rwa [mG] at this
 have h:(s.heap.push km).Ns s.heap.objs.size (λ_=>none):=⟨km,#[],_,d,rfl,(λe g=>absurd g (by simp)),λ_=>rfl⟩;have j:=I.laid (a:=s.heap.objs.size) (o:=.own (s.heap.objs.size + 1)) (h':=s.heap.push km) (t':=s.toks) (λb u q=>bh _ q) (bU _) ⟨_,d⟩;refine j.laid (a:=s.heap.objs.size + 1) (o:=.ins C s.heap.objs.size []) (t':=s.toks) (λb u q=>bh _ q) (Pp (mG _ _)) ?_;have c:s.heap.objs.size≠s.heap.objs.size + 1:=hY (ox _);refine⟨by rw[ao c,aC],eg _,c,i,λ_=>none,(Heap.Ns1.of_empty h).at λo q=>bh _ q,λ_=>Qo,λy f=>absurd rfl f⟩
theorem Hm{a:Env}{f:Str}{s:Shared}{Q:VS}(c:Oo e f a (eval e a)=eval e a)(h:wpAny (model prog w) A (eval e a) (λo b=>wpAny (model prog w) A (getAttr o f true) Q E b) E s):wpAny (model prog w) A (eval (.Attribute e f pos) a) Q E s:=
 Attribute_any_ h (by rw[arm_eval_Attribute,c])
end
def LG (K:Fg0)(ta:TE)(f:Str):TE:=λσ H Q=>ta σ H λx H1=>∃ a C dx fs v,x=.ref a/\H1 a=some (.ins C dx fs)/\Cls K C/\ft K C f/\fs.lookup f=some v/\Q v H1
def Jh (K:Fg0)(ta b:TE)(f:Str):TS:=λD σ H=>b σ H λy H1=>ta σ H1 λx H2=>∃ a C dx fs,x=.ref a/\H2 a=some (.ins C dx fs)/\Cls K C/\ft K C f/\fs.length < 1000/\
 D.nx σ (upd H2 a (.ins C dx (kQ f y fs)))
section
variable {o value:Expr}{f:Str}{pos' tpos:Pos}{tv:TE}
theorem JM(j:PE X e ta)(k:Oo e f X.env (eval e X.env)=eval e X.env):PE X (.Attribute e f pos) (LG X.K ta f):=by
 intro b s d H Q I h;refine Hm k (thn (j b s d H _ I h) λu z Z=>?_);obtain⟨x,t,r,g,a,C,B,A,v,m,o,c,n,l,q⟩:=Z;subst m;obtain rfl:u=ou a:=g;exact zw r o c n l λw y p i=>⟨v,t,p,i,q⟩
theorem JA(p:PE X o ta)(m:PE X value tv)(hs:zJ value (some (.Attribute o f pos')) pos.line X.env=pure false):PS X (.Assign [.Attribute o f pos'] value pos) (Jh X.K ta tv f):=by
 intro b s d H D I h;refine plainObj_wpAny_Assign_Attribute (thn (m b s d H _ I h) λu e ⟨y,A,z,g,q⟩=>thn (p b e d A _ z q) λk E Z=>?_) hs;obtain⟨x,J,w,i,a,C,G,F,r,t,c,n,l,j⟩:=Z;subst r;obtain rfl:k=ou a:=i;exact yO w t c n l g λB v=>⟨d,_,v,j⟩
end
section
variable {pins:Pn}{s:Shared}{Q:VS}{c:Value}{b:Bool}
inductive p8 (K:Fg0) (H:Hp):V->Value->Prop where
 | non:p8 K H .non (.type "NoneType")
 | bl (x:Bool):p8 K H (.bl x) (.type "bool")
 | int (i:Int):p8 K H (.int i) (.type "int")
 | str (x:Str):p8 K H (.str x) (.type "str")
 | lst {a:Addr} {xs:List V} (e:H a=some (.lst xs)):p8 K H (.ref a) (.type "list")
 | frz {a:Addr} {o:Obj} {xs:List V} (e:H a=some (.frz o (.lst xs))):p8 K H (.ref a) (.type "list")
 | tup {a:Addr} {xs:List V} (e:H a=some (.tup xs)):p8 K H (.ref a) (.type "tuple")
 | dK {a:Addr} {kvs:List (Key×V)} (e:H a=some (.dK kvs)):p8 K H (.ref a) (.type "dict")
 | dT {a:Addr} {kvs:List (List Key×V)} (e:H a=some (.dT kvs)):p8 K H (.ref a) (.type "dict")
 | ins {a C dx:Addr} {fs:List (Str×V)} (e:H a=some (.ins C dx fs)) (cl:Cls K C) (ha:hE K (.ref C) "__class__"=some (some (.builtin "object.__class__")))
   (hn:PySem.W.specialIn K (.builtin "object.__class__") "__get__"=some (some (.builtin "getset_descriptor.__get__"))) (htk:PySem.W.takesIn K (.builtin "object.__class__")=some true)
   (hm:PySem.W.mroIn K C (.type "object")=some true):p8 K H (.ref a) (.ref C)
theorem B6{x:V}{t:Value}(I:Inv X pins σ H s)(f:RelV x u)(v:p8 X.K H x t)(e:bL X.K t c=some b)(h:∀ tk,Q (.bool b) { s with toks:=tk }) :
  wpAny (model X.prog X.w) A (call (.builtin "isinstance") [u,c]) Q E s:=by
 cases v with
 | non=>cases (show u=xb from f);exact oH PySem.W.kitx_none I.kIn Qo e (λz=>nomatch z) h
 | bl y=>cases (show u=SQ y from f);exact oH PySem.W.kitx_bool I.kIn Qo e (λz=>nomatch z) h
 | int i=>obtain⟨t,q⟩:=(show ∃ t,u=Me i t from f);cases q;exact oH PySem.W.kitx_int I.kIn Qo e (λz=>nomatch z) h
 | str y=>obtain⟨t,q⟩:=(show ∃ t,u=Qk y t from f);cases q;exact oH PySem.W.kitx_str I.kIn Qo e (λz=>nomatch z) h
 | @lst a k d=>
  cases (show u=ou a from f);obtain⟨_,_,n,_,g⟩:=(show eC X.prog X.w H s.heap a (.lst k) from I.hok a _ d);exact oH Tc I.kIn ⟨_,g,rfl⟩ e (λz=>nomatch z) h
 | @frz a w k d=>
  cases (show u=ou a from f);obtain⟨_,_,_,n,_,g⟩:=(show eC X.prog X.w H s.heap a (.frz w (.lst k)) from I.hok a _ d);exact oH Tc I.kIn ⟨_,g,rfl⟩ e (λz=>nomatch z) h
 | @tup a k d=>
  cases (show u=ou a from f);obtain⟨_,_,_,p⟩:=(show eC X.prog X.w H s.heap a (.tup k) from I.hok a _ d);obtain⟨o,g,l,_⟩:=p;exact oH PySem.W.kitx_tuple I.kIn ⟨o,g,l⟩ e (λz=>nomatch z) h
 | @dK a j d=>
  cases (show u=ou a from f);obtain⟨_,_,L,_,p⟩:=(show eC X.prog X.w H s.heap a (.dK j) from I.hok a _ d);obtain⟨o,G,K,g,l,_⟩:=p;exact oH Td I.kIn ⟨o,g,l.1⟩ e (λz=>nomatch z) h
 | @dT a j d=>
  cases (show u=ou a from f);obtain⟨_,_,k,_,o,G,K,g,l,_⟩:=(show eC X.prog X.w H s.heap a (.dT j) from I.hok a _ d);exact oH Td I.kIn ⟨o,g,l.1⟩ e (λz=>nomatch z) h
 | @ins a C R P d r F B m D=>
  cases (show u=ou a from f);obtain⟨N,O,_⟩:=rB I.hok d;obtain⟨M,J,_⟩:=O.look;exact oH (PySem.W.kitx_own (r.get _) r.hd F B m D) I.kIn J e (λz=>nomatch z) h
end
structure cz (k:Nat) (A:Around):Prop where
 hd:A.handled=none
 dp:A.depth + 3 * k + 5 < recursionLimit
 un:A.units + 16 * k + 200 < cLine
 gd:A.guards=some []
theorem cz.mono{j:Nat}(r:cz k A)(h:j<=k):cz j A:=⟨r.hd,by have:=r.dp;exact WF 0x108d687587fad7372a2c3b847dc19938 h this,by have:=r.un;exact WF 0x567a09ec1ad28f5cda95ed89f9961678638 h this,r.gd⟩
theorem cz.deeper(r:cz (k + 1) A)(a:Env):cz k (A.deeper a):=
 ⟨r.hd,by have:=r.dp;show A.depth + 1 + 3 * k + 5 < _;exact WF 0x316a744f34d51d434e1114ba63cb this,by have:=r.un;show A.units + 3 + 16 * k + 200 < _;exact WF 0x316a4ed00f53928203c7d1764d44110fcb this,r.gd⟩
theorem zb:(A.under (.builtin "type.__call__" ⟨.ref C::us,kw⟩)).depth=A.depth + 1:=by
 first | rfl | simp [Qi,Code.weight,Code.isCreation,Te,Code.isCaller,Vj,Tf,guardIds]
theorem za:(A.under (.builtin "type.__call__" ⟨.ref C::us,kw⟩)).units=A.units + 1:=by
 first | rfl | simp [Qi,Code.cUnits,Vj,Tf]
theorem xS:(A.under (.builtin "type.__call__" ⟨.ref C::us,kw⟩)).guards=A.guards:=by
 first | rfl | simp [Qi,pushGuards,Vk,Te,guardIds] | (cases A;simp [Qi,pushGuards,Vk,Te,guardIds])
theorem cz.make(r:cz (k + 1) A)(C:Addr)(us:Lv0)(a:List (Str×Value)):cz k (A.under (.builtin "type.__call__" ⟨.ref C::us,a⟩)):=
 ⟨r.hd,by have:=r.dp;rw[zb];exact WF 0x316a744f34d51d434e1114ba63cb this,by have:=r.un;rw[za];exact WF 0x1022b6782eccec3b44e984bd44110fcb this,by have:=r.gd;rw[xS];exact this⟩
theorem cz.depth(r:cz k A):A.depth < recursionLimit:=by have:=r.dp;exact WF 0x524f45eeec974900b this
def rK:TA:=λ_ H Q=>Q [] H
def rL (ta:TE)(a:TA):TA:=λσ H Q=>ta σ H λx H1=>a σ H1 λxs H2=>Q (x::xs) H2
theorem wa:PA X [] rK:=λ_ _ _ _ H Q I h=>IV ⟨[],H,I,.nil,h⟩
theorem rq(m:PE X e te)(l:PA X es t)(hs:autoParam (ed (e::es) X.env=(false,eval e X.env)::ed es X.env) wE):PA X (e::es) (rL te t):=by
 intro b a s c H Q I h;rw[hs];show wpAny _ _ (spliced ((false,eval e X.env)::backTo b (ed es X.env))) _ _ s;refine Fv (thn (m a s c H _ I h) λu f Z=>?_);obtain⟨x,q,o,i,k⟩:=Z;exact thn (l b a f c q _ o k) λr v ⟨d,p,n,g,j⟩=>⟨x::d,p,n,.cons i g,j⟩
def Lz (t:TA):TE:=λσ H Q=>t σ H λxs H1=>xs.length<=sizeLine/\∀ p,H1 p=none->Q (.ref p) (upd H1 p (.tup xs))
def LF (t:TA):TE:=λσ H Q=>t σ H λxs H1=>xs.length<=sizeLine/\∀ p,H1 p=none->Q (.ref p) (upd H1 p (.lst xs))
theorem JH{O}(h:PA X es t):PE X (.Tuple es O pos) (Lz t):=by
 intro a s g H Q I k;refine wpAny_Tuple_spliced (thn (h pos a s g H _ I k) λj c ⟨i,f,d,r,z,q⟩=>⟨by rw[<- r.length];exact z,?_⟩);have l:f c.heap.objs.size=none:=d.hok.fresh (bU _);refine⟨.ref c.heap.objs.size,upd f c.heap.objs.size (.tup i),d.laid (t':=c.toks) (λb u e=>bh _ e) (bU _) ?_,rfl,q _ l⟩;exact⟨z,j,r,⟨_,ey _ rfl,rfl,_,rfl⟩⟩
theorem JL(h:PA X es t):PE X (.List es pos) (LF t):=by
 intro a s g H Q I k;refine wpAny_List_spliced (thn (h pos a s g H _ I k) λj c ⟨i,f,d,r,z,q⟩=>⟨by rw[<- r.length];exact z,?_⟩);have l:f c.heap.objs.size=none:=d.hok.fresh (bU _);refine⟨.ref c.heap.objs.size,upd f c.heap.objs.size (.lst i),d.laid (t':=c.toks) (λb u e=>bh _ e) (bU _) ?_,rfl,q _ l⟩;exact⟨z,j,0,r,ey _ rfl⟩
abbrev Sp:=List V->Hp->VK->XK->Prop
abbrev CXT:=List Env->Hp->Shared->XK->Value->Shared->Prop
structure zU (P:nI) (w:World) (K:Fg0) (mg:SV) (base:Heap) (A:Around) (outer:List Env) (s:Shared) (H:Hp):Prop where
 frames:A.frames=some outer
 mod:Mod K mg base
 bs:∀ b o,base.get? b=some o->s.heap.get? b=some o/\Kpt H b o
 bsz:base.objs.size<=s.heap.objs.size
 pW:s.heap.FunFrames base outer
 frf:∀ b∈frs outer,H b=none
 hok:HOk P w H s.heap
 bare:QP s.gens
 tb:TabsAt base H
def CE (a:List Env)(P:nI)(w:World)(H:Hp)(s:Shared)(Q:VK)(u:Value)(b:Shared):Prop:=
 ∃ v H',b.os=s.os/\QP b.gens/\Un (frs a) [] H H' s.heap b.heap/\HOk P w H' b.heap/\RelV v u/\Q v H'
def CR (CX:CXT)(a:List Env)(P:nI)(w:World)(H:Hp)(s:Shared)(Q:VK)(E:XK)(r:Result)(b:Shared):Prop:=
 match r with
 | .ok (.ret u)=>CE a P w H s Q u b
 | .ok _=>False
 | .error e=>CX a H s E e b
structure aM (P:nI) (w:World) (K:Fg0) (mg:SV) (base:Heap) (CX:CXT) (k:Nat) (f:Addr) (fd:tj) (ps:Ls0) (sp:Sp):Prop where
 len:∀ vs H Q E,sp vs H Q E->vs.length=ps.length
 run:∀ (A:Around) (outer:List Env) (s:Shared) (H:Hp) (args:Args) (us:Lv0) (vs:List V) (Q:VK) (E:XK),cz k A->zU P w K mg base A outer s H->Tg s fd args (ps.zip us)->Vals vs us->sp vs H Q E->
  qG (model P w) A (.call (.ref f) args) (CR CX outer P w H s Q E) s
theorem aM.imp{CX:CXT}{sp sp':Sp}(F:aM P w K mg base CX k f fd ps sp)(h:∀ vs H Q E,sp' vs H Q E->sp vs H Q E):aM P w K mg base CX k f fd ps sp':=
 ⟨λvs H Q E q=>F.len vs H Q E (h _ _ _ _ q),λA a s H args b vs Q E e g i c d=>F.run A a s H args b vs Q E e g i c (h _ _ _ _ d)⟩
theorem zU.make{s:Shared}(e:zU P w K mg base A outer s H)(C:Addr)(us:Lv0)(a:List (Str×Value)) :
  zU P w K mg base (A.under (.builtin "type.__call__" ⟨.ref C::us,a⟩)) outer s H:=⟨by first | exact e.frames | (simpa [Qi,Code.envs,Tf,pushEnvs] using e.frames),e.mod,e.bs,e.bsz,e.pW,e.frf,e.hok,e.bare,e.tb⟩
section
variable {pins:Pn}{s:Shared}
theorem Inv.Nk(I:Inv X pins σ H s):zU X.prog X.w X.K X.mg X.base X.A X.stack s H:=
 ⟨I.ok.frames,I.ok.mod,I.bs,kj I.ok.bsz I.sz,I.stack,I.Ac,I.hok,I.bare,I.tb⟩
theorem Inv.after{Q:VK}(I:Inv X pins σ H s)(h:CE X.stack X.prog X.w H s Q u s'):EP X pins σ Q u s':=by
 obtain⟨v,f,os,bare,un,c,r,q⟩:=h;obtain⟨e,g,d,t,a⟩:=s';obtain rfl:a=s.os:=os;exact⟨v,f,I.call (h':=e) (g':=g) (d':=d) (t':=t) (ch:=[]) un c bare (λb z=>absurd z (by simp)),r,q⟩
end
def qb (sp:Sp)(dvs:List V)(E:XK)(t:TA):TE:=λσ H Q=>t σ H λvs H1=>sp (vs++dvs) H1 Q E
def w5 (C:Addr)(m:Str)(sp:Sp)(dvs:List V)(E:XK)(ta:TE)(t:TA):TE:=λσ H Q=>ta σ H λx H1=>∃ a dx fs,x=.ref a/\H1 a=some (.ins C dx fs)/\fs.lookup m=none/\
 t σ H1 λvs H2=>sp (x::(vs++dvs)) H2 Q E
def CM (C:Addr)(sp:Sp)(dvs:List V)(E:XK)(t:TA):TE:=λσ H Q=>t σ H λvs H1=>∀ x dx,H1 x=none->H1 dx=none->dx≠x->
 sp (.ref x::(vs++dvs)) (upd (upd H1 dx (.own x)) x (.ins C dx [])) (λv H2=>v=.non/\Q (.ref x) H2) E
def Binds (K:Fg0)(b:tj)(a:Ls0)(ds:Lv0):Prop:=
 ∀ (s:Shared) (us:Lv0),K.In s.heap->(us++ds).length=a.length->Tg s b ⟨us,[]⟩ (a.zip (us++ds))
theorem Binds.all(h:∀ us:Lv0,us.length=ps.length->Uw fd ⟨us,[]⟩=pure (ps.zip us)):Binds K fd ps []:=λs us _ a=>by
 rw[jw] at a ⊢;exact .of_eq (h us a)
def Passes (CX:CXT)(X:Cx)(E:XK):Prop:=∀ (pins:Pn) (σ:St) (H:Hp) (s:Shared) (e:Value) (s':Shared),Inv X pins σ H s->CX X.stack H s E e s'->X.xe e s'
section
variable {CX:CXT}{sp:Sp}{dvs:List V}{ds:Lv0}{E:XK}{apos:Pos}{o:Expr}
theorem pG{a:Pn}{s:Shared}{Q:VK}(F:aM X.prog X.w X.K X.mg X.base CX k f fd ps sp)(i:cz k X.A)(m:Binds X.K fd ps ds)(l:Vals dvs ds)(g:Passes CX X E)(I:Inv X a σ H s)(r:Vals vs us)(h:sp (vs++dvs) H Q E):wpAny (model X.prog X.w) X.A (call (.ref f) us) (EP X a σ Q) X.xe s:=by
 have c:Vals (vs++dvs) (us++ds):=r.append l;have j:(us++ds).length=ps.length:=by rw[<- c.length];exact F.len _ _ _ _ h
 refine SS (Mp (F.run X.A X.stack s H ⟨us,[]⟩ (us++ds) (vs++dvs) Q E i I.Nk (m s us I.kIn j) c h) λr d b=>?_);cases r with
 | error e=>exact g a σ H s e d I b
 | ok n=>
  cases n with
  | ret u=>exact I.after b
  | next=>exact mM b
  | brk=>exact mM b
  | cont=>exact mM b
theorem Av(F:aM X.prog X.w X.K X.mg X.base CX k f fd ps sp)(j:cz k X.A)(n:Gl X x)(l:X.mg x=some (.ref f))(m:lF X.K (.ref f)=true)(v:Binds X.K fd ps ds)(u:Vals dvs ds)(i:Passes CX X E)(w:PA X (e::es) t)(c:autoParam ((x == ("__debug__":Str))=false) wP)(o:autoParam (ed (e::es) X.env=(false,eval e X.env)::ed es X.env) wE)(b:autoParam ((backTo pos (ed es X.env)).any (·.1)=false) wE) :
  PE X (.Call (.Name x p) (e::es) [] pos) (qb sp dvs E t):=by
 intro a s g H Q I h;refine oi (nZ I n l ?_ c);refine Qp (h₀:=X.base) I.ok.mod.kin m (thn (w pos a s g H _ I h) λz A ⟨y,B,d,r,q⟩=>⟨d.kIn,?_⟩) o b;exact pG F j v u i d r q
theorem DJ(F:aM X.prog X.w X.K X.mg X.base CX k f fd ps sp)(d:cz k X.A)(i:Gl X x)(e:X.mg x=some (.ref f))(g:lF X.K (.ref f)=true)(l:Binds X.K fd ps ds)(j:Vals dvs ds)(c:Passes CX X E)(a:autoParam ((x == ("__debug__":Str))=false) wP):PE X (.Call (.Name x p) [] [] pos) (qb sp dvs E rK):=by
 intro b s m H Q I h;refine oi (nZ I i e ?_ a);exact Qf I.kIn g (pG (us:=[]) F d l j c I .nil h)
theorem Gk{pl:Sem Bool}(D:PE X o ta)(c:Cls X.K C)(j:Meth X.K C m f)(F:aM X.prog X.w X.K X.mg X.base CX k f fd ps sp)(B:cz k X.A)(J:Binds X.K fd ps ds)(G:Vals dvs ds)(z:Passes CX X E)(K:PA X (e::es) t)(d:autoParam (ed (e::es) X.env=(false,eval e X.env)::ed es X.env) wE)(g:autoParam ((backTo pos (ed es X.env)).any (·.1)=false) wE)(A:autoParam (eval (.Call (.Attribute o m apos) (e::es) [] pos) X.env=(do
   let O <- eval o X.env
   ru apos.atName
   let (f,first) <- holding [O] (Ri O m pl)
   Th pos f first (backTo pos (ed (e::es) X.env)) (Qq pos (KF [] X.env)))) wE) :
  PE X (.Call (.Attribute o m apos) (e::es) [] pos) (w5 C m sp dvs E ta t):=by
 intro b s i H Q I h;refine R4 (pl:=pl) (thn (D b s i H _ I h) λu v Z=>?_) A;obtain⟨x,N,p,w,a,S,R,L,M,l,q⟩:=Z;subst L;obtain rfl:u=ou a:=w;refine sT p M c j l ?_;refine Qp (first:=[.ref a]) (h₀:=X.base) I.ok.mod.kin j.kp (thn (K pos b v i N _ p q) λus P ⟨vs,T,n,r,y⟩=>⟨n.kIn,?_⟩) d g;exact pG (us:=.ref a::us) (vs:=.ref a::vs) F B J G z n (.cons rfl r) y
theorem DC{pl:Sem Bool}(r:PE X o ta)(c:Cls X.K C)(e:Meth X.K C m f)(F:aM X.prog X.w X.K X.mg X.base CX k f fd ps sp)(p:cz k X.A)(v:Binds X.K fd ps ds)(t:Vals dvs ds)(j:Passes CX X E)(n:autoParam (eval (.Call (.Attribute o m apos) [] [] pos) X.env=(do
   let O <- eval o X.env
   ru apos.atName
   let (f,first) <- holding [O] (Ri O m pl)
   Th pos f first (backTo pos (ed [] X.env)) (Qq pos (KF [] X.env)))) wE) :
  PE X (.Call (.Attribute o m apos) [] [] pos) (w5 C m sp dvs E ta rK):=by
 intro b s g H Q I h;refine R4 (pl:=pl) (thn (r b s g H _ I h) λu z Z=>?_) n;obtain⟨x,D,d,i,a,B,A,w,y,l,q⟩:=Z;subst w;obtain rfl:u=ou a:=i;refine sT d y c e l ?_;exact Qf (first:=[.ref a]) d.kIn e.kp (pG (us:=[.ref a]) (vs:=[.ref a]) F p v t j d (.cons rfl .nil) q)
structure Mk (K:Fg0) (C f:Addr):Prop where
 makes:qx K C=true
 init:hE K (.ref C) "__init__"=some (some (.ref f))
 fn:RD K (.ref f)=true
 kp:lF K (.ref C)=true
theorem C4{a:Pn}{s:Shared}{Q:VK}(M:Mk X.K C f)(F:aM X.prog X.w X.K X.mg X.base CX k f fd ps sp)(n:cz (k + 1) X.A)(q:Binds X.K fd ps ds)(p:Vals dvs ds)(m:Passes CX X E)(I:Inv X a σ H s)(r:Vals vs us)(h:∀ x dx,H x=none->H dx=none->dx≠x->sp (.ref x::(vs++dvs)) (upd (upd H dx (.own x)) x (.ins C dx [])) (λv H2=>v=.non/\Q (.ref x) H2) E) :
  wpAny (model X.prog X.w) X.A (call (.ref C) us) (EP X a σ Q) X.xe s:=by
 have g:=h (s.heap.objs.size + 1) s.heap.objs.size (I.hok.fresh (KB _)) (I.hok.fresh (bU _)) (hY (ox _));have c:=Inv.made (C:=C) I;have d:Vals (V.ref (s.heap.objs.size + 1)::(vs++dvs)) (ou (s.heap.objs.size + 1)::(us++ds)):=.cons rfl (r.append p);have o:(ou (s.heap.objs.size + 1)::us++ds).length=ps.length:=by
  have e:=d.length;rw[F.len _ _ _ _ g] at e;exact e.symm
 refine SS (D5 (f:=f) I.kIn M.makes M.init (beq_iff_eq.mp M.fn) (Mp (F.run _ X.stack _ _ ⟨ou (s.heap.objs.size + 1)::us,[]⟩ (ou (s.heap.objs.size + 1)::(us++ds)) _ _ E (n.make C us [])
  (c.Nk.make C us []) (q _ (ou (s.heap.objs.size + 1)::us) c.kIn o) d g) λr i b=>?_))
 cases r with
 | error e=>exact m a σ _ _ e i c b
 | ok t=>
  cases t with
  | ret u=>
   obtain⟨v,z,y,j,w,l⟩:=c.after b;subst w;exact⟨j,⟨V.ref (s.heap.objs.size + 1),z,y,rfl,l⟩⟩
  | next=>exact mM b
  | brk=>exact mM b
  | cont=>exact mM b
theorem Gm(M:Mk X.K C f)(F:aM X.prog X.w X.K X.mg X.base CX k f fd ps sp)(j:cz (k + 1) X.A)(m:Gl X x)(l:X.mg x=some (.ref C))(u:Binds X.K fd ps ds)(o:Vals dvs ds)(i:Passes CX X E)(v:PA X (e::es) t)(c:autoParam ((x == ("__debug__":Str))=false) wP)(n:autoParam (ed (e::es) X.env=(false,eval e X.env)::ed es X.env) wE)(b:autoParam ((backTo pos (ed es X.env)).any (·.1)=false) wE) :
  PE X (.Call (.Name x p) (e::es) [] pos) (CM C sp dvs E t):=by
 intro a s g H Q I h;refine oi (nZ I m l ?_ c);refine Qp (h₀:=X.base) I.ok.mod.kin M.kp (thn (v pos a s g H _ I h) λy z ⟨w,A,d,r,q⟩=>⟨d.kIn,?_⟩) n b;exact C4 M F j u o i d r q
end
structure ar (N P:Ls0) (sc:Scope):Prop where
 kind:sc.kind=.function
 co:sc.isCoroutine=false
 gen:sc.isGenerator=false
 nd:N.Nodup
 pre:N.take P.length=P
 par:∀ x∈P,sc.names.lookup x=some .local\/sc.names.lookup x=some .cell
 nofree:∀ y∈sc.names,y.2≠.free
theorem ve {kindOf:Str->Option qo}{x:Str}:∀ {a:List (Str×Value)} {m:SV},(∀ v,(x,v)∉a)->bindL kindOf a m x=m x
 | [],_,_=>rfl
 | (n,v)::r,m,h=>by
  unfold bindL;rw[ve λw b=>h w (eh _ b)];split
  .have:x≠n:=by rintro rfl;exact h v hG
   simp -iota [this]
  .rfl
theorem vg {kindOf:Str->Option qo}{x:Str}:∀ {a:List (Str×Value)} {m:SV},(∀ v,(x,v)∉a)->bindC kindOf a m x=m x
 | [],_,_=>rfl
 | (n,v)::r,m,h=>by
  unfold bindC;rw[vg λw b=>h w (eh _ b)];split
  .rfl
  .have:x≠n:=by rintro rfl;exact h v hG
   simp -iota [this]
theorem vf {kindOf:Str->Option qo}{x:Str}{v:Value}:∀ {P:Ls0} {vs:Lv0} {i:Nat} {m:SV},P.Nodup->P[i]?=some x->vs[i]?=some v->kindOf x=some .local->
  bindL kindOf (P.zip vs) m x=some v
 | [],_,_,_,_,h,_,_=>by simp -iota at h
 | _::_,[],_,_,_,_,h,_=>by simp -iota at h
 | p::P,w::vs,0,m,c,b,a,d=>by
  simp -iota at b a;subst b;subst a;show bindL kindOf ((p,w)::P.zip vs) m p=_;unfold bindL;rw[ve λv e=>(hX.mp c).1 (RT e).1,if_pos d];simp
 | p::P,w::vs,i + 1,m,c,b,a,d=>by
  show bindL kindOf ((p,w)::P.zip vs) m x=_;unfold bindL;exact vf (i:=i) (hX.mp c).2 (by simpa using b) (by simpa using a) d
theorem vh {kindOf:Str->Option qo}{x:Str}{v:Value}:∀ {P:Ls0} {vs:Lv0} {i:Nat} {m:SV},P.Nodup->P[i]?=some x->vs[i]?=some v->kindOf x≠some .local->
  bindC kindOf (P.zip vs) m x=some v
 | [],_,_,_,_,h,_,_=>by simp -iota at h
 | _::_,[],_,_,_,_,h,_=>by simp -iota at h
 | p::P,w::vs,0,m,c,b,a,d=>by
  simp -iota at b a;subst b;subst a;show bindC kindOf ((p,w)::P.zip vs) m p=_;unfold bindC;rw[vg λv e=>(hX.mp c).1 (RT e).1,if_neg d];simp
 | p::P,w::vs,i + 1,m,c,b,a,d=>by
  show bindC kindOf ((p,w)::P.zip vs) m x=_;unfold bindC;exact vh (i:=i) (hX.mp c).2 (by simpa using b) (by simpa using a) d
noncomputable def start (N:Ls0)(vs:List V):St:=vs.map some++Qr (N.length - vs.length) none
noncomputable def yj (CX:CXT)(P:nI)(w:World)(K:Fg0)(mg:SV)(base:Heap)(N:Ls0)(a:Str)(scope:Scope)(f:Addr)(c:Value)(A:Around)(outer:List Env)(s:Shared)(H:Hp)(E:XK):Cx where
 prog:=P
 w:=w
 K:=K
 mg:=mg
 base:=base
 A:=A.deeper (envOfC a scope s.heap.objs.size f c)
 N:=N
 s₀:=s
 H₀:=H
 env:=envOfC a scope s.heap.objs.size f c
 outer:=outer
 stack:=envOfC a scope s.heap.objs.size f c::outer
 ex:=[]
 calm:=true
 fn:=λ_=>true
 pn:=[]
 xe:=λe s'=>wpAny (model P w) (A.deeper (envOfC a scope s.heap.objs.size f c)) (leaving (envOfC a scope s.heap.objs.size f c) e) (λ_ b=>CX outer H s E e b) (λd b=>CX outer H s E d b) s'
theorem yl{a:Scope}(h:a.names.lookup x=some .cell):∃ c,(qu n a.names []).lookup x=some c:=by
 have q:=Pq a.names n [] (.inl h);exact Os.mp q
theorem B7{CX:CXT}{N:Ls0}{B:Value}{s s1:Shared}{E:XK}(S:ar N ps scope)(J:A.handled=none)(g:zU P w K mg base A outer s H)(I:vs.length=ps.length)(r:Vals vs us)(x:InCallC s s.heap.objs.size (bindL (envOfC qual scope s.heap.objs.size f B).kindOf (ps.zip us) λ_=>none) (qu (s.heap.objs.size + 1) scope.names []) (bindC (envOfC qual scope s.heap.objs.size f B).kindOf (ps.zip us) λ_=>none) s1) :
  Inv (yj CX P w K mg base N qual scope f B A outer s H E) [] (start N vs) H s1:=by
 have G:ps.length<=N.length:=by have:=congrArg QS S.pre;rw[dU] at this;lia
 obtain⟨t,M,rfl,D⟩:=x.done;have j:∀ b:Addr,b∉(yj CX P w K mg base N qual scope f B A outer s H E).ex:=λb z=>absurd (show b∈([]:La0) from z) (by simp);refine⟨⟨g.mod,S.kind,rfl,rfl,bU _,λy z c t d=>?_,λy hy=>?_,λy c _ h=>?_,λ_=>J,Around.frames_deeper g.frames,.inr ⟨rfl,rfl⟩,λb z=>absurd z (j b),g.bs,g.bsz,λb _ _=>j b,λb z=>absurd z (j b),g.pW,g.frf,g.tb⟩,
  rfl,g.bare,Un.kept D,⟨_,x.toInCall.ns,λi y v t d O=>?_⟩,λy c h=>⟨_,x.cell y c h⟩,g.hok.fresh (bU _),λy c h=>?_,λp m=>absurd (show p∈([]:Pn) from m) (by simp),g.hok.kept D,?_⟩
 .exact name_of_addr x.apart (tm t) (tm d)
 .have hy:scope.names.lookup y=some .cell\/scope.names.lookup y=some .free:=hy;rcases hy with hy | hy
  .exact yl hy
  .exact absurd rfl (S.nofree _ (tm hy))
 .exact fq (x.above y c (tm h))
 .have o:i < vs.length:=by
   unfold start at d;by_cases o:i < vs.length
   .exact o
   .rw[hC (by simpa using o)] at d;rw[List.getElem?_replicate] at d;split at d <;> cases d
  have L:vs[i]?=some v:=by
   unfold start at d;rw[eQ (by simpa using o),ba] at d;cases e:vs[i]? with
   | none=>rw[e] at d;cases d
   | some a=>rw[e] at d;cases d;rfl
  obtain⟨u,C,F⟩:=r.get L;have m:ps[i]?=some y:=by
   rw[<- S.pre,ya (by exact WF 0x8cbc5a545c0b I o)];exact t
  have l:ps.Nodup:=by rw[<- S.pre];exact S.nd.sublist (vc _ _)
  refine⟨u,F,?_⟩;rcases S.par y (eW m) with k | k
  .exact .inl ⟨k,vf l m C k⟩
  .obtain⟨c,e⟩:=yl (n:=s.heap.objs.size + 1) k;refine .inr ⟨.inl k,c,e,?_⟩;have q:=x.cell y c e;rw[vh l m C (by show scope.names.lookup y≠_;rw[k];decide)] at q;exact q
 .exact g.hok.fresh (fq (x.above y c (tm h)))
 .delta start;show _=N.length;rw[bM,lM0,HT];lia
theorem Nh{CX:CXT}{c:Arguments}{D kV l C a F R:Value}{G O:Option Addr}{N:Ls0}{sp:Sp}(lk:K.lookup f=some ⟨R,O,.func (FB name qual c body scope D kV l C G a F),osl⟩)(B:Se K a qual=true)(S:ar N ps scope)(len:∀ vs H Q E,sp vs H Q E->vs.length=ps.length)(hbody:∀ (A:Around) (outer:List Env) (s:Shared) (H:Hp) (vs:List V) (Q:VK) (E:XK),cz k (A.deeper (envOfC qual scope s.heap.objs.size f a))->sp vs H Q E->
   ∃ t,PSs (yj CX P w K mg base N qual scope f a A outer s H E) body t/\t { nx:=λ_ H'=>Q .non H',rt:=Q } (start N vs) H) :
  aM P w K mg base CX (k + 1) f (FB name qual c body scope D kV l C G a F) ps sp:=by
 refine⟨len,λA outer s H args M vs Q E z j Z r i=>?_⟩;have X:=len _ _ _ _ i;have L:K.In s.heap:=j.mod.kin.keeps λb o e=>(j.bs b o e).1;have p:s.heap.NoLimit:=j.mod.nolimit.keeps λb o e=>(j.bs b o e).1;have g:∀ y∈ps.zip M,scope.names.lookup y.1=some .local\/(scope.names.lookup y.1=some .cell/\((qu (s.heap.objs.size + 1) scope.names []).lookup y.1).isSome=true):=λ⟨n,v⟩ T=>by
  rcases S.par n (RT T).1 with q | q
  .exact .inl q
  .exact .inr ⟨q,Pq _ _ _ (.inl q)⟩
 refine codeAny_call_function z.depth (L _ _ lk) rfl S.co S.gen rfl (PySem.W.codeRec_of L B) (Z _ _ _ _ ?_);refine wpAny_newFunctionEnv_cells S.kind g λa1 Y s1 x=>?_;subst Y;refine⟨p.keeps x.toInCall.keep,codeAny_func ?_⟩;obtain⟨t,U,W⟩:=hbody A outer s H vs Q E (z.deeper _) i;have I:Inv (yj CX P w K mg base N qual scope f a A outer s H E) [] (start N vs) H s1:=B7 S z.hd j X r x;refine tG (U [] s1 (start N vs) H _ I W) (λfl s' h=>?_) λe s' h=>h;have fin:∀ {d:St} {H':Hp} {v:V} {u:Value},Inv (yj CX P w K mg base N qual scope f a A outer s H E) [] d H' s'->RelV v u->Q v H'->CE outer P w H s Q u s':=
  λ{d H' v u} J m q=>⟨v,H',J.os,J.bare,J.base,J.hok,m,q⟩
 cases fl with
 | ret u=>
  obtain⟨v,d,H',J,m,q⟩:=h;exact fin J m q
 | next=>
  obtain⟨d,H',J,q⟩:=h;exact fin (v:=V.non) (u:=xb) J rfl q
 | brk=>
  obtain⟨_,_,_,q⟩:=h;exact mM q
 | cont=>
  obtain⟨_,_,_,q⟩:=h;exact mM q
section
variable {id T:String}
def tCB (r:List V->Hp->VK->Prop)(t:TA):TE:=λσ H Q=>t σ H λvs H1=>r vs H1 Q
theorem DH(u:dG X (.builtin id) r)(o:Gl X x)(n:X.mg x=none)(l:mP x=some (.builtin id))(v:PA X (e::es) t)(m:autoParam (x≠"__name__") wP)(c:autoParam ((x == ("__debug__":Str))=false) wP)(q:autoParam (ed (e::es) X.env=(false,eval e X.env)::ed es X.env) wE)(b:autoParam ((backTo pos (ed es X.env)).any (·.1)=false) wE):PE X (.Call (.Name x p) (e::es) [] pos) (tCB r t):=by
 intro a s d H Q I h;refine oi (ff I o n l ?_ m c);exact AX (thn (v pos a s d H _ I h) λg i ⟨f,y,w,j,k⟩=>u a i d y f g Q w j k) q b
theorem BJ(u:dG X (.type T) r)(o:Gl X x)(n:X.mg x=none)(l:mP x=some (.type T))(v:PA X (e::es) t)(m:autoParam (x≠"__name__") wP)(c:autoParam ((x == ("__debug__":Str))=false) wP)(q:autoParam (ed (e::es) X.env=(false,eval e X.env)::ed es X.env) wE)(b:autoParam ((backTo pos (ed es X.env)).any (·.1)=false) wE):PE X (.Call (.Name x p) (e::es) [] pos) (tCB r t):=by
 intro a s d H Q I h;refine oi (ff I o n l ?_ m c);exact jl (thn (v pos a s d H _ I h) λg i ⟨f,y,w,j,k⟩=>u a i d y f g Q w j k) q b
end
end _2
variable {prog:nI}{v cd it acc:qw}{o value tg elt iter:PM}{Q:Int×Int×Nat->Es->Prop}{lo hi:Option PM}{n j k:Nat}{t:_2.TA}{X:_2.Cx}{e p f l C L:PK}{te ta:_2.TE}{pos apos cpos p0:TM}{r:_2.V->Option Int->Option Int->_2.Hp->_2.VK->Prop}{σ:_2.St}{H H2 H' H₀ F F':_2.Hp}{xs dvs vs:List _2.V}{its its' us:Lv0}{y:_2.V}{es ifs:List PM}{name qual:Qj}{kvs:List (_2.Key×_2.V)}{env:UW}{K:Fg0}{mg:SV}{base:SM}{st:Ut}{fd:tj}{N ps Nc:Ls0}{osl:Array (Option qw)}{sc scope:Vg}{g:_2.TG}{oe:PySem.Obj}{fr:On}{s₀ s2:Es}{ex fp:La0}{R:U3->Es->Prop}{outer:List UW}{dx:Option PK}{tn:Nat->SM->Prop}{J:_2.It}{wi:_2.TI}
namespace _h
open PySem PyProof.Rows
section
variable {s:Shared}
noncomputable def sIx (n d:Nat):Option Int->Nat
 | none=>d
 | some v=>if v < 0 then (v + (n:Int)).toNat else min v.toNat n
theorem g0(n d:Nat):sIx n d none=d:=rfl
theorem iI(n d k:Nat):sIx n d (some (k:Int))=min k n:=by
 show (if (k:Int) < 0 then ((k:Int) + (n:Int)).toNat else min (k:Int).toNat n)=min k n;rw[if_neg (by lia),et]
theorem Jg(n d:Nat)(b:d<=n)(o:Option Int):sIx n d o<=n:=by
 cases o with
 | none=>exact b
 | some v=>
  show (if v < 0 then (v + (n:Int)).toNat else min v.toNat n)<=n;by_cases a:v < 0
  .rw[if_pos a];lia
  .rw[if_neg a];exact mu _ _
theorem A7(v:Int)(n d:Nat):(if v < 0 then max (v + (n:Int)) 0 else min v (n:Int))=((sIx n d (some v):Nat):Int):=by
 show (if v < 0 then max (v + (n:Int)) 0 else min v (n:Int))=(((if v < 0 then (v + (n:Int)).toNat else min v.toNat n):Nat):Int);by_cases a:v < 0
 .simp -iota only[if_pos a];lia
 .simp -iota only[if_neg a];lia
theorem zP(lo a:Option Int)(n:Nat):MP lo a 1 (n:Int)=(((sIx n 0 lo:Nat):Int),((sIx n n a:Nat):Int)):=by
 have b:¬ ((1:Int) < 0):=by decide
 delta MP;simp -iota only[b,if_false];refine Sf ?_ ?_
 .cases lo with
  | none=>rfl
  | some v=>exact A7 v n 0
 .cases a with
  | none=>rfl
  | some v=>exact A7 v n n
theorem yY(i j:Nat):uR (i:Int) (j:Int) 1=j - i:=by
 delta uR;have a:(1:Int) > 0:=by decide
 simp -iota only[a,if_true,U5];split <;> lia
theorem rS{o:Option Int}{Q:Option Int->Shared->Prop}(p:IsPart v o)(h:Q o s):wpAny (model prog w) A (Ue v) Q E s:=by
 cases p with
 | none=>exact slicePart_none h
 | int i t=>exact slicePart_int h
theorem ph{f:Addr}{e d:Value}{lo b:Option Int}(hs:s.heap.IsSliceOf f e d .none)(pl:IsPart e lo)(g:IsPart d b)(h:Q (((sIx n 0 lo:Nat):Int),1,sIx n n b - sIx n 0 lo) s):wpAny (model prog w) A (Qs (.ref f) (pure (n:Int))) Q E s:=by
 obtain⟨os,a,i,c⟩:=id hs;delta Qs UK;refine aI (aI (DM a c (x:=e) rfl (aI (DM a c (x:=d) rfl (aI (DM a c (x:=.none) rfl (aP ?_)))))));refine aI (slicePart_none ?_);show wpAny _ _ (if ((1:Int) == 0)=true then _ else _) _ _ s;rw[if_neg (by decide)];refine aI (rS pl (aI (rS g (aI (aP ?_)))));show wpAny _ _ (match MP lo b 1 (n:Int) with | (lo,b)=>pure (lo,(1:Int),uR lo b 1)) _ _ s;rw[zP lo b n];show wpAny _ _ (pure (((sIx n 0 lo:Nat):Int),(1:Int),uR ((sIx n 0 lo:Nat):Int) ((sIx n n b:Nat):Int) 1)) _ _ s;rw[yY];exact aP h
theorem Dy(xs:Array Value)(i k:Nat):((cj k).filterMap λ(m:Nat)=>xs[((i:Int) + (m:Int) * 1).toNat]?).toArray=((xs.toList.drop i).take k).toArray:=by
 have e:(λ(m:Nat)=>xs[((i:Int) + (m:Int) * 1).toNat]?)=λm=>xs[i + m]?:=by
  funext m
  have:((i:Int) + (m:Int) * 1).toNat=i + m:=by lia
  rw[this]
 rw[e];have:=pick_run xs i k;rw[SU] at this;have a:((λx=>xs[x]?) ∘ λx=>i + x)=λm=>xs[i + m]?:=rfl;rw[a] at this;rw[this]
theorem og{t d:Addr}{items:Array Value}{k j:Value}{lo b:Option Int}{Q:VS}(c:IsTup s.heap t items)(hs:s.heap.IsSliceOf d k j .none)(pl:IsPart k lo)(n:IsPart j b)(o:¬ (sIx items.size 0 lo=0/\sIx items.size items.size b=items.size))(h:Q (.ref s.heap.objs.size) { s with heap:=s.heap.push { cls:=.type "tuple",data:=.seq ((items.toList.drop (sIx items.size 0 lo)).take (sIx items.size items.size b - sIx items.size 0 lo)).toArray } })(hsz:items.size<=sizeLine):wpAny (model prog w) A (Sw (.ref t) (.ref d)) Q E s:=by
 have a:sizeOk (.seq ((items.toList.drop (sIx items.size 0 lo)).take (sIx items.size items.size b - sIx items.size 0 lo)).toArray):=by
  show ((items.toList.drop (sIx items.size 0 lo)).take (sIx items.size items.size b - sIx items.size 0 lo)).toArray.size<=sizeLine;rw[eH,dU,dw,dy];exact WF 0x2c0882e99b4aa0b8 hsz V2 (mu _ _)
 have p:sIx items.size items.size b<=items.size:=Jg _ _ (bU _) b;obtain⟨os,e,g,r⟩:=id hs;have i:s.TypeIs (.ref d) "slice":=⟨os,e,g⟩;delta Sw
 try with_reducible refine jz ?_
 first | refine aI (aP ?_) | skip
 refine aI (Ti c.typeIs (by decide) ?_);refine aI (Bk (name:=fS "__getitem__") c.typeIs td
  (oy td c.typeIs entry_tuple_getitem ?_ (args_tuple_getitem _ _)))
 show wpAny _ _ (Ux (.ref t) >>= _) _ _ s;refine aI (tupleItemsOf_ c ?_);refine aI (Pr i ?_);rw[if_pos (by decide)];refine aI (ph hs pl n ?_);have f:¬ ((((sIx items.size 0 lo:Nat):Int) == 0 && (1:Int) == 1 && (sIx items.size items.size b - sIx items.size 0 lo) == items.size)=true):=by
  intro q;rw[kn,kn] at q;have u:((sIx items.size 0 lo:Nat):Int)=0:=eq_of_beq q.1.1;have l:sIx items.size items.size b - sIx items.size 0 lo=items.size:=eq_of_beq q.2;exact o ⟨by lia,by exact ly (WF 6550533726 p) (WF 0x82c86c01ebcb l V2)⟩
 show wpAny _ _ (if (((sIx items.size 0 lo:Nat):Int) == 0 && (1:Int) == 1 && (sIx items.size items.size b - sIx items.size 0 lo) == items.size)=true then _ else _) _ _ s;rw[if_neg f,Dy]
 first
  | exact aI (m:=yb _) (mz (aP ⟨_,rfl,aP h⟩) a)
  | exact aI (m:=yb _) (mz (aI (aP (aP ⟨_,rfl,aP h⟩))) a)
  | exact aI (aI (m:=yb _) (mz (aP (aP ⟨_,rfl,aP h⟩)) a))
  | exact aI (aI (m:=yb _) (mz (aP ⟨_,rfl,aP h⟩) a))
end
end _h
namespace _2
open PySem PySem.Spec PyProof.Rows
abbrev TO:=St->Hp->(Option Int->Hp->Prop)->Prop
def PO (X:Cx)(e:Option Expr)(t:TO):Prop:=
 ∀ (pins:Pn) (s:Shared) (σ:St) (H:Hp) (Q:Option Int->Hp->Prop),Inv X pins σ H s->t σ H Q->
  wpAny (model X.prog X.w) X.A (evalPart e X.env) (λu s'=>∃ o H',Inv X pins σ H' s'/\IsPart u o/\Q o H') X.xe s
def z_:TO:=λ_ H Q=>Q none H
def HN (t:TE):TO:=λσ H Q=>t σ H λx H1=>∃ i,x=.int i/\Q (some i) H1
theorem intsAre_of{ns:Li0}:∀ {us:Lv0},Vals (ns.map V.int) us->PU us ns:=by
 induction ns with
 | nil=>intro us r;rw[Pt] at r;cases r;exact .nil
 | cons n ns c=>
  intro us r;rw[fO] at r;cases r with
  | cons b a=>
   obtain⟨t,e⟩:=b;subst e;exact .cons n t (c a)
section
variable {e:Expr}{tl th:TO}{p2:Pos}
theorem Gd:PO X none z_:=by
 intro a s b H Q I h;rw[SH];exact aP ⟨none,H,I,.none,h⟩
theorem Gb(h:PE X e te):PO X (some e) (HN te):=by
 intro a s b H Q I f;rw[evalPart_some];refine thn (h a s b H _ I f) λu k Z=>?_;obtain⟨x,j,g,c,d⟩:=Z;obtain⟨i,rfl,q⟩:=d;obtain⟨t,rfl⟩:=c;exact⟨some i,j,g,.int i t,q⟩
def SlR (X:Cx)(r:V->Option Int->Option Int->Hp->VK->Prop):Prop:=
 ∀ (pins:Pn) (s:Shared) (σ:St) (H:Hp) (x:V) (v a vu:Value) (lo hi:Option Int) (b:Addr) (Q:VK),Inv X pins σ H s->RelV x v->s.heap.IsSliceOf b a vu .none->IsPart a lo->IsPart vu hi->r x lo hi H Q->
  ∃ T id,Uy (.type T) "__getitem__"=pure (some (.builtin id))/\s.TypeIs v T/\wpAny (model X.prog X.w) X.A (Sw v (.ref b)) (EP X pins σ Q) X.xe s
def tSl (r:V->Option Int->Option Int->Hp->VK->Prop)(te:TE)(tl a:TO):TE:=λσ H Q=>te σ H λx H1=>tl σ H1 λl H2=>a σ H2 λu b=>r x l u b Q
theorem xB(z:SlR X r)(C:PE X e te)(A:PO X lo tl)(w:PO X hi th):PE X (.Subscript e (.Slice lo hi none p2) pos) (tSl r te tl th):=by
 intro a s d H Q I h;refine SW (thn (C a s d H _ I h) λv j Z=>?_);obtain⟨x,L,J,k,o⟩:=Z;refine T7 (thn (A a j d L _ J o) λf i ⟨l,K,G,t,n⟩=>thn (w a i d K _ G n) λvu c Z=>?_);obtain⟨u,g,F,p,m⟩:=Z;rw[SH];refine aP ?_;have E:Inv X a d g { c with heap:=c.heap.push { cls:=.type "slice",data:=.fields #[f,vu,.none] } }:=F.kept (t':=c.toks) λb M q=>bh _ q;obtain⟨T,id,D,y,B⟩:=z a { c with heap:=c.heap.push { cls:=.type "slice",data:=.fields #[f,vu,.none] } } d g x v f vu l u c.heap.objs.size Q E k (Qt ..) t p m;show wpAny (model X.prog X.w) X.A (Q6 e (.Slice lo hi none p2) v (.ref c.heap.objs.size)) (EP X a d Q) X.xe { c with heap:=c.heap.push { cls:=.type "slice",data:=.fields #[f,vu,.none] } };exact tail_any (ops:=[.ref c.heap.objs.size,v]) y D B (by with_unfolding_all rfl)
noncomputable def yk (xs:List V)(lo a:Option Int):List V:=(xs.drop (_h.sIx xs.length 0 lo)).take (_h.sIx xs.length xs.length a - _h.sIx xs.length 0 lo)
theorem qD(xs:List V)(lo a:Option Int):(yk xs lo a).length<=xs.length:=by
 delta yk;rw[dU,dw];exact WF 0x831d407ea08b V2 (mu _ _)
noncomputable def LY (K:Fg0):V->Option Int->Option Int->Hp->VK->Prop:=λx lo hi H Q=>∃ a xs,x=.ref a/\SqT K H a xs/\
 ¬ (_h.sIx xs.length 0 lo=0/\_h.sIx xs.length xs.length hi=xs.length)/\∀ p,H p=none->Q (.ref p) (upd H p (.tup (yk xs lo hi)))
theorem Je:SlR X (LY X.K):=by
 intro g s u H x v y w lo f z Q I k t m l h;obtain⟨a,d,rfl,n,p,q⟩:=h;cases k;obtain⟨e,r,j,i⟩:=I.tuple n;have c:e.toArray.size=d.length:=by rw[eH];exact r.length.symm
 refine⟨"tuple",_,td.lookup,j.typeIs,?_⟩;refine _h.og j t m l (by rw[c];exact p) ?_ (by rw[c];exact i);rw[c];refine⟨.ref s.heap.objs.size,_,I.laid (t':=s.toks) (o:=.tup (yk d lo f)) (λb A q=>bh _ q) (bU _) ?_,rfl,q _ (I.hok.fresh (bU _))⟩;exact⟨kj (qD d lo f) i,_,(r.drop (_h.sIx d.length 0 lo)).take (_h.sIx d.length d.length f - _h.sIx d.length 0 lo),IsTup.new _ _⟩
end
noncomputable def ixN (n:Nat)(i:Int):Option Nat:=if 0<=i then (if i < n then some i.toNat else none) else if -(n:Int)<=i then some (i + n).toNat else none
noncomputable def atI {α:Type}(xs:List α)(i:Int):Option α:=(ixN xs.length i).bind λj=>xs[j]?
theorem AK{i:Int}(h:ixN n i=some j):seqIndex? i n=some j/\j < n/\-(n:Int)<=i/\i < n:=by
 delta ixN at h;by_cases b:0<=i
 .rw[if_pos b] at h;by_cases a:i < n
  .rw[if_pos a] at h;have e:i.toNat=j:=hF h;exact⟨by rw[T8 b a,e],by lia,by lia,a⟩
  .rw[if_neg a] at h;cases h
 .rw[if_neg b] at h;by_cases a:-(n:Int)<=i
  .rw[if_pos a] at h;have e:(i + n).toNat=j:=hF h;exact⟨by rw[Tj (by lia) a,e],by lia,a,by lia⟩
  .rw[if_neg a] at h;cases h
theorem wR{a:Type}{xs:List a}{i:Int}{v:a}(h:atI xs i=some v):∃ j,seqIndex? i xs.length=some j/\xs[j]?=some v/\j < xs.length/\-(xs.length:Int)<=i/\i < xs.length:=by
 delta atI at h;cases e:ixN xs.length i with
 | none=>rw[e] at h;cases h
 | some j=>
  rw[e] at h;obtain⟨f,d,c,b⟩:=AK e;exact⟨j,f,h,d,c,b⟩
theorem Ho{a:Type}{xs:List a}{v:a}(h:xs[j]?=some v):atI xs (j:Int)=some v:=by
 have b:j < xs.length:=(gS0 h).1;have e:ixN xs.length (j:Int)=some j:=by
  delta ixN;rw[if_pos (by lia),if_pos (by lia)];simp
 delta atI;rw[e];exact h
def Bh (b:Expr):Prop:=∀ o i,subscripted b false o i=operate [o,i] (Sw o i)
def IxR (X:Cx)(r:R2):Prop:=
 ∀ (value slice:Expr) (pins:Pn) (s:Shared) (σ:St) (H:Hp) (x y:V) (v u:Value) (Q:VK),Inv X pins σ H s->RelV x v->RelV y u->r x y H Q->
  subscripted slice false v u=operate [v,u] (Sw v u)->wpAny (model X.prog X.w) X.A (Q6 value slice v u) (EP X pins σ Q) X.xe s
def MtR (X:Cx)(id:String)(r:V->List V->Hp->VK->Prop):Prop:=
 ∀ (pins:Pn) (s:Shared) (σ:St) (H:Hp) (x:V) (xs:List V) (v:Value) (us:Lv0) (Q:VK),Inv X pins σ H s->RelV x v->Vals xs us->r x xs H Q->
  wpAny (model X.prog X.w) X.A (call (.builtin id) (v::us)) (EP X pins σ Q) X.xe s
section
variable {a b:Expr}{tb:TE}
theorem IxR.or{r f:R2}(h:IxR X r)(h':IxR X f):IxR X (λx y H Q=>r x y H Q\/f x y H Q):=by
 intro a slice b s c H x y v u Q I e d q g;rcases q with q | q
 .exact h a slice b s c H x y v u Q I e d q g
 .exact h' a slice b s c H x y v u Q I e d q g
theorem Mb{r:R2}(i:IxR X r)(k:PE X a ta)(j:PE X b tb)(hs:Bh b):PE X (.Subscript a b pos) (tOp r ta tb):=by
 intro c s d H Q I h;exact SW (Li k j I h λv u e x y m l g f q=>i a b c e d m x y v u Q l g f q (hs _ _))
def L5 (K:Fg0):R2:=λx y H Q=>∃ p xs i v,x=.ref p/\y=.int i/\SqL K H p xs/\atI xs i=some v/\Q v H
def L1 (K:Fg0):R2:=λx y H Q=>∃ p xs i v,x=.ref p/\y=.int i/\SqT K H p xs/\atI xs i=some v/\Q v H
def L4:R2:=λx y H Q=>∃ z i c,x=.str z/\y=.int i/\z.length<=sizeLine/\atI z.cps.toList i=some c/\Q (.str ⟨#[c]⟩) H
theorem GX:IxR X (L5 X.K):=by
 intro c slice a s k H x y v u Q I B A h l;obtain⟨p,K,i,z,rfl,rfl,C,E,q⟩:=h;cases B;obtain⟨t,rfl⟩:=A;obtain⟨f,r,e,L⟩:=I.list C;obtain⟨j,b,J,N,G,F⟩:=wR E;obtain⟨w,n,d⟩:=r.get J;have D:=r.length;have M:=pP;have fin:EP X a k Q w s:=⟨z,H,I,d,q⟩;by_cases m:0<=i
 .have g:i.toNat=j:=by
   rw[T8 m F] at b;exact hF b
  exact item_listR e.isList m (by lia) (by rw[g];simpa using n) fin l
 .have g:(i + (f.toArray.size:Int)).toNat=j:=by
   rw[Tj (by lia) G] at b;rw[eH,<- D];exact hF b
  exact RE (x:=w) e.isList.typeIs QU.lookup
   (wpAny_getItem_list_neg (Q:=λr o=>r=w/\EP X a k Q r o) e.isList (by lia) (by rw[eH] <;> lia) (by lia) (by rw[g];simpa using n) ⟨rfl,fin⟩) l
theorem Ku:IxR X (L1 X.K):=by
 intro b slice a s d H x y v u Q I k g h m;obtain⟨p,E,i,z,rfl,rfl,n,A,q⟩:=h;cases k;obtain⟨t,rfl⟩:=g;obtain⟨l,r,e,F⟩:=I.tuple n;obtain⟨j,C,B,L,K,J⟩:=wR A;obtain⟨w,D,c⟩:=r.get B;have o:=r.length;have G:=pP;have fin:EP X a d Q w s:=⟨z,H,I,c,q⟩;exact RE (x:=w) e.typeIs td.lookup
  (getItem_tuple (j:=j) (Q:=λr f=>r=w/\EP X a d Q r f) e (by lia) (by lia) (by rw[eH,<- o];exact C) (by simpa using D) ⟨rfl,fin⟩) m
theorem Kv:IxR X L4:=by
 intro a slice b s w H x y v u Q I f e h g;obtain⟨z,i,c,rfl,rfl,B,l,q⟩:=h;obtain⟨t,rfl⟩:=f;obtain⟨A,rfl⟩:=e;obtain⟨j,d,o,D,n,m⟩:=wR l;have k:z.cps.toList.length=z.length:=by simp -iota [Str.length]
 rw[k] at d n m;have C:=pP;exact tail_any (typeIs_str s z t) slot_str_getitem.lookup (getItem_str (c:=c) (by
  have r:decide (i < -(2 ^ 63:Int))=false:=decide_eq_false (by lia);have p:decide (i≥2 ^ 63)=false:=decide_eq_false (by lia);rw[r,p,UM]) (by rw[d];simpa using o) ⟨.str ⟨#[c]⟩,H,I.tok _,⟨_,rfl⟩,q⟩) g
def rIx (K:Fg0):R2:=λx y H Q=>L5 K x y H Q\/L1 K x y H Q\/L4 x y H Q
theorem Kw:IxR X (rIx X.K):=GX.or (Ku.or Kv)
theorem y_(a:Lv0)(n j:Nat)(u:Value):mO (·.setIfInBounds j u) { cls:=.type "list",data:=.seq a.toArray n }={ cls:=.type "list",data:=.seq (a.set j u).toArray n }:=by
 simp [mO]
theorem Inv.lst {a:Pn}{σ:St}{H:Hp}{s:Shared}{p:Addr}{xs:List V}(I:Inv X a σ H s)(h:H p=some (.lst xs)) :
  ∃ (its:Lv0) (n:Nat),Vals xs its/\s.heap.get? p=some { cls:=.type "list",data:=.seq its.toArray n }/\xs.length<=sizeLine:=by
 obtain⟨z,its,n,r,e⟩:=I.hok p _ h;exact⟨its,n,r,e,z⟩
theorem Inv.D7{a:Pn}{s:Shared}{ys:List V}{n':Nat}{f:Obj->Obj}(I:Inv X a σ H s)(h:H p=some (.lst xs))(d:s.heap.get? p=some { cls:=.type "list",data:=.seq its.toArray n })(c:f { cls:=.type "list",data:=.seq its.toArray n }={ cls:=.type "list",data:=.seq its'.toArray n' })(r:Vals ys its')(hz:ys.length<=sizeLine)(t:Nat) :
  Inv X a σ (upd H p (.lst ys)) { s with heap:=s.heap.update p f,toks:=t }:=by
 have e:(s.heap.update p f).get? p=some { cls:=.type "list",data:=.seq its'.toArray n' }:=by
  rw[uQ f d (by rw[c] <;> rfl),c]
 refine I.write (x:=p) (e:=p) (by rw[h];trivial) (.inl rfl) (λb u g q=>(FI _ _ (lj g)).trans q) ⟨_,e⟩ ?_;exact⟨hz,its',n',r,e⟩
noncomputable def uy:V->V->V->Hp->(Hp->Prop)->Prop:=λo i v H Q=>∃ p xs k j,o=.ref p/\i=.int k/\H p=some (.lst xs)/\ixN xs.length k=some j/\Q (upd H p (.lst (xs.set j v)))
theorem set_list:NU X uy:=by
 intro a s y H o i v F G u Q I B C A h;obtain⟨p,z,k,j,rfl,rfl,g,E,q⟩:=h;cases B;obtain⟨t,rfl⟩:=C;obtain⟨b,n,r,d,D⟩:=I.lst g;obtain⟨c,K,m,l⟩:=AK E;have e:=r.length;have J:=pP;have x:Inv X a y (upd H p (.lst (z.set j v))) { s with heap:=s.heap.update p (mO (·.setIfInBounds j u)) }:=
  I.D7 g d (y_ b n j u) (r.set A j) (by rw[oJ];exact D) s.toks
 by_cases w:0<=k
 .have f:k.toNat=j:=by
   rw[T8 w l] at c;exact hF c
  exact PySem.W.ki_setAt d w (by lia) (by rw[eH,<- e];exact l) (by rw[f];exact⟨_,x,q⟩)
 .have f:(k + (b.toArray.size:Int)).toNat=j:=by
   rw[Tj (by lia) m] at c;rw[eH,<- e];exact hF c
  exact PySem.W.ki_setBack d (by lia) (by rw[eH,<- e];exact m) (by lia) (by rw[f];exact⟨_,x,q⟩)
theorem vy(lo a:Option Int)(n:Nat):(lh lo a none n).1=((_h.sIx n 0 lo:Nat):Int)/\(lh lo a none n).2.1=((_h.sIx n n a:Nat):Int)/\(lh lo a none n).2.2=1:=by
 refine⟨?_,?_,rfl⟩
 .cases lo with
  | none=>simp [lh,_h.sIx]
  | some i=>
   simp only[lh,_h.sIx,TY,show (1:Int) > 0 by decide,if_true];by_cases h:i < 0
   .simp -iota only[h,if_true] <;> lia
   .simp -iota only[h,if_false] <;> lia
 .cases a with
  | none=>simp [lh,_h.sIx]
  | some i=>
   simp only[lh,_h.sIx,TY,show (1:Int) > 0 by decide,if_true];by_cases h:i < 0
   .simp -iota only[h,if_true] <;> lia
   .simp -iota only[h,if_false] <;> lia
theorem tZ(a:Lv0)(lo b:Option Int):Sx a.toArray lo b none=((a.drop (_h.sIx a.length 0 lo)).take (_h.sIx a.length a.length b - _h.sIx a.length 0 lo)).toArray:=by
 obtain⟨e,d,c⟩:=vy lo b a.toArray.size;delta Sx;rw[e,d,c];simp -iota only[sliceRange_one,pick_run,eH] <;> rfl
noncomputable def LZ (K:Fg0):V->Option Int->Option Int->Hp->VK->Prop:=λx lo hi H Q=>∃ a xs,x=.ref a/\SqL K H a xs/\∀ p,H p=none->Q (.ref p) (upd H p (.lst (yk xs lo hi)))
theorem Fx:SlR X (LZ X.K):=by
 intro f s t H x v w u lo e y Q I i p k j h;obtain⟨a,c,rfl,n,q⟩:=h;cases i;obtain⟨l,r,g,m⟩:=I.list n;have d:=r.length;refine⟨"list",_,QU.lookup,g.isList.typeIs,?_⟩;refine Q7 g.isList p k j .none (by simp) ?_ (by rw[eH] <;> lia);rw[tZ,<- d];refine⟨.ref s.heap.objs.size,_,I.laid (t':=s.toks) (o:=.lst (yk c lo e)) (λb z q=>bh _ q) (bU _) ?_,rfl,q _ (I.hok.fresh (bU _))⟩;exact⟨kj (qD c lo e) m,_,0,(r.drop (_h.sIx c.length 0 lo)).take (_h.sIx c.length c.length e - _h.sIx c.length 0 lo),ey _ rfl⟩
noncomputable def my:V->Bool
 | .non=>true
 | .bl _=>true
 | .int _=>true
 | .str _=>true
 | _=>false
noncomputable def eqV:V->V->Bool
 | .non,.non=>true
 | .bl a,.bl b=>a == b
 | .bl a,.int b=>(if a then 1 else 0) == b
 | .int a,.bl b=>a == (if b then 1 else 0)
 | .int a,.int b=>a == b
 | .str a,.str b=>a == b
 | _,_=>false
theorem K7{s:Shared}{x:V}(e:RelV y u)(c:RelV x v)(fy:my y=true)(fx:my x=true):Vq A s u v (eqV y x):=by
 cases y with
 | non=>
  cases e;cases x with
  | non=>cases c;exact RA _
  | bl b=>cases c;exact SeqAt.EqAt.none_bool b
  | int b=>obtain⟨t,rfl⟩:=c;exact SeqAt.EqAt.none_int b t
  | str b=>obtain⟨t,rfl⟩:=c;exact SeqAt.EqAt.none_str b t
  | _=>exact absurd (show false=true from fx) js
 | bl a=>
  cases e;cases x with
  | non=>cases c;exact SeqAt.EqAt.bool_none a
  | bl b=>cases c;exact SeqAt.EqAt.bool_bool a b
  | int b=>obtain⟨t,rfl⟩:=c;exact SeqAt.EqAt.bool_int a b t
  | str b=>obtain⟨t,rfl⟩:=c;exact SeqAt.EqAt.bool_str a b t
  | _=>exact absurd (show false=true from fx) js
 | int a=>
  obtain⟨d,rfl⟩:=e;cases x with
  | non=>cases c;exact SeqAt.EqAt.int_none a d
  | bl b=>cases c;exact SeqAt.EqAt.int_bool a d b
  | int b=>obtain⟨t,rfl⟩:=c;exact Sg a d b t
  | str b=>obtain⟨t,rfl⟩:=c;exact SN a d b t
  | _=>exact absurd (show false=true from fx) js
 | str a=>
  obtain⟨d,rfl⟩:=e;cases x with
  | non=>cases c;exact SeqAt.EqAt.str_none a d
  | bl b=>cases c;exact SeqAt.EqAt.str_bool a d b
  | int b=>obtain⟨t,rfl⟩:=c;exact SO a d b t
  | str b=>obtain⟨t,rfl⟩:=c;exact SeqAt.EqAt.str_str a d b t
  | _=>exact absurd (show false=true from fx) js
 | _=>exact absurd (show false=true from fy) js
noncomputable def eqU (x:V)(u:Value):Bool:=match u with
 | .none=>eqV .non x
 | .bool b=>eqV (.bl b) x
 | .int i _=>eqV (.int i) x
 | .str z _=>eqV (.str z) x
 | _=>false
theorem Ew{x:V}(r:RelV y u)(f:my y=true):eqU x u=eqV y x:=by
 cases y with
 | non=>cases r;rfl
 | bl b=>cases r;rfl
 | int i=>obtain⟨t,rfl⟩:=r;rfl
 | str z=>obtain⟨t,rfl⟩:=r;rfl
 | _=>exact absurd (show false=true from f) js
theorem wV {x:V}:∀ {xs:List V} {us:Lv0},Vals xs us->xs.all my=true->us.any (eqU x)=xs.any λy=>eqV y x
 | _,_,.nil,_=>rfl
 | y::xs,u::us,.cons r t,f=>by
  rw[PV,kn] at f;rw[UN,UN,Ew r f.1,wV t f.2]
theorem sI {A:Around}{s:Shared}{x:V}{v:Value}(a:RelV x v)(fx:my x=true):∀ {xs:List V} {us:Lv0},Vals xs us->xs.all my=true->∀ u∈us,Vq A s u v (eqU x u)
 | _,_,.nil,_=>λu hu=>by cases hu
 | y::xs,u::us,.cons r t,f=>λb hu=>by
  rw[PV,kn] at f;rcases cS.mp hu with rfl | hu
  .rw[Ew r f.1];exact K7 r a f.1 fx
  .exact sI a fx t f.2 b hu
noncomputable def inV (x:V)(xs:List V):Bool:=xs.any λy=>eqV y x
def rIn (K:Fg0)(a:Bool):R2:=λx y H Q=>∃ p xs,y=.ref p/\(SqL K H p xs\/SqT K H p xs)/\my x=true/\xs.all my=true/\Q (.bl (if a then !inV x xs else inV x xs)) H
theorem BN:OpR X (tu .In) (rIn X.K false):=by
 intro f s j H x y v u Q I e g h;obtain⟨p,k,rfl,hq,fx,b,q⟩:=h;cases g;rcases hq with hq | hq
 .obtain⟨a,r,c,i⟩:=I.list hq;refine SeqAt.in_listAt (eqU x) c.isList (λw d=>sI e fx r b w (by simpa using d)) ⟨.bl _,H,I,rfl,?_⟩;rw[show a.toArray.any (eqU x)=a.any (eqU x) by simp,wV r b];exact q
 .obtain⟨a,r,c,i⟩:=I.tuple hq;refine SeqAt.in_tupleAt (eqU x) c (λw d=>sI e fx r b w (by simpa using d)) ⟨.bl _,H,I,rfl,?_⟩;rw[show a.toArray.any (eqU x)=a.any (eqU x) by simp,wV r b];exact q
theorem wO:dG X (.builtin "len") (λxs H Q=>∃ p ys,xs=[.ref p]/\(SqL X.K H p ys\/SqT X.K H p ys)/\Q (.int ys.length) H):=by
 intro e s i H xs j Q I r h;obtain⟨p,ys,rfl,hq,q⟩:=h;obtain⟨u,rfl,f⟩:=vals1 r;cases f;have k:=pP;rcases hq with hq | hq
 .obtain⟨d,b,c,g⟩:=I.list hq;have a:=b.length;exact Calls.call_len_list c.isList (by simp -iota only[eH] <;> lia) ⟨.int ys.length,H,I.tok _,⟨s.toks + 1,by rw[eH,a]⟩,q⟩
 .obtain⟨d,b,c,g⟩:=I.tuple hq;have a:=b.length;exact len_tuple c (by simp -iota only[eH] <;> lia) ⟨.int ys.length,H,I.tok _,⟨s.toks + 1,by rw[eH,a]⟩,q⟩
theorem wM:dG X (.builtin "len") (λxs H Q=>∃ z,xs=[.str z]/\z.length<=sizeLine/\Q (.int z.length) H):=by
 intro a s b H xs c Q I r h;obtain⟨z,rfl,d,q⟩:=h;obtain⟨u,rfl,t,rfl⟩:=vals1 r;have e:=pP;exact len_str (by lia) ⟨.int z.length,H,I.tok _,⟨_,rfl⟩,q⟩
theorem ue:dG X (.type "tuple") (λxs H Q=>∃ p ys,xs=[.ref p]/\((SqL X.K H p ys/\∀ l,H l=none->Q (.ref l) (upd H l (.tup ys)))\/(SqT X.K H p ys/\Q (.ref p) H))):=by
 intro a s j H xs x Q I r h;obtain⟨p,ys,rfl,h⟩:=h;obtain⟨u,rfl,t⟩:=vals1 r;cases t;rcases h with ⟨i,q⟩ | ⟨i,q⟩
 .obtain⟨c,f,g,k⟩:=I.list i;have m:=f.length;refine call_tuple_list g.isList (λd v=>?_) (by simp -iota only[eH] <;> lia);have n:Inv X a j H { s with heap:=d }:=I.kept (t':=s.toks) v;have w:Inv X a j (upd H d.objs.size (.tup ys)) { s with heap:=d.push { cls:=.type "tuple",data:=.seq c.toArray } }:=
   n.laid (t':=s.toks) (λb o e=>bh _ e) (bU _) (show eC X.prog X.w _ _ _ (.tup ys) from ⟨k,c,f,IsTup.new _ _⟩)
  exact⟨.ref d.objs.size,_,w,rfl,q _ (n.hok.fresh (bU _))⟩
 .obtain⟨c,f,g,k⟩:=I.tuple i;exact call_tuple_same g ⟨.ref p,H,I,rfl,q⟩
def tyV (K:Fg0)(T:String)(x:V)(H:Hp):Prop:=match x with
 | .str _=>T="str"
 | .int _=>T="int"
 | .ref p=>(T="list"/\∃ xs,SqL K H p xs)\/(T="tuple"/\∃ o,K.lookup p=some o/\o.cls=.type "tuple"/\o.dict=none)\/
   (T="dict"/\((∃ kvs,H p=some (.dK kvs))\/∃ kvs,H p=some (.dT kvs)))\/(T="set"/\∃ S n,H p=some (.set S n))
 | _=>False
theorem IU{f:Pn}{s:Shared}{T:String}{x:V}(I:Inv X f σ H s)(r:RelV x v)(g:tyV X.K T x H) :
  s.TypeIs v T/\∀ a,v=.ref a->∃ m,s.heap.get? a=some m/\m.dict=none:=by
 cases x with
 | str z=>
  obtain⟨t,rfl⟩:=r;cases (show T="str" from g);exact⟨typeIs_str s z t,λ_ e=>nomatch e⟩
 | int i=>
  obtain⟨t,rfl⟩:=r;cases (show T="int" from g);exact⟨typeIs_int s i t,λ_ e=>nomatch e⟩
 | ref p=>
  cases r;rcases g with ⟨rfl,y,u⟩ | ⟨rfl,o,b,w,j⟩ | ⟨rfl,b⟩ | ⟨rfl,S,n,b⟩
  .obtain⟨q,_,l,_⟩:=I.list u;refine⟨l.isList.typeIs,λa e=>?_⟩;cases e;obtain⟨o,n,e,c,j,_⟩:=l;exact⟨o,e,j⟩
  .refine⟨⟨o,I.kIn p o b,w⟩,λa e=>?_⟩;cases e;exact⟨o,I.kIn _ o b,j⟩
  .have z:∃ o,s.heap.get? p=some o/\o.ExactDict:=by
    rcases b with ⟨h,b⟩ | ⟨h,b⟩
    .obtain⟨_,_,_,_,o,_,_,e,d,_⟩:=I.hok p _ b;exact⟨o,e,d⟩
    .obtain⟨_,_,_,_,o,_,_,e,d,_⟩:=I.hok p _ b;exact⟨o,e,d⟩
   obtain⟨o,e,d⟩:=z;refine⟨⟨o,e,d.1⟩,λa k=>?_⟩;cases k;exact⟨o,e,d.2.1⟩
  .obtain⟨o,_,_,_,e,d,_⟩:=I.hok p _ b;refine⟨⟨o,e,d.1⟩,λa k=>?_⟩;cases k;exact⟨o,e,d.2.1⟩
 | _=>exact mM g
def tBM (K:Fg0)(T:String)(r:V->List V->Hp->VK->Prop)(a:TE)(t:TA):TE:=λσ H Q=>a σ H λx H1=>tyV K T x H1/\t σ H1 λxs H2=>r x xs H2 Q
variable {e:Expr}{to:TE}{T id:String}{r:V->List V->Hp->VK->Prop}
theorem H_(B:PlainAttrs T)(f:Slot T name id)(j:typeOf (.builtin id)=pure (.type "method_descriptor"))(D:MtR X id r)(C:PE X o to)(E:PA X (e::es) t)(d:autoParam (Oo o name X.env (eval o X.env)=eval o X.env) wE)(g:autoParam (((backTo cpos (ed (e::es) X.env)).all (λx=>!x.1) && (Qq cpos (KF [] X.env)).all (λx=>x.1.isSome)
   && decide ((e::es).length + ([]:List Sy).length + (if ([]:List Sy).isEmpty then 0 else 1) < 30))=true) wE)(c:autoParam ((apos.endLine == cpos.line)=true) wE)(hs:autoParam (ed (e::es) X.env=(false,eval e X.env)::ed es X.env) wE)(b:autoParam ((backTo cpos (ed es X.env)).any (·.1)=false) wE) :
  PE X (.Call (.Attribute o name apos) (e::es) [] cpos) (tBM X.K T r to t):=by
 intro a s i H Q I h;refine wpAny_Call_method_late d g c rfl (thn (C a s i H _ I h) λv w Z=>?_);obtain⟨x,L,m,k,q,A⟩:=Z;obtain⟨G,F⟩:=IU m k q;refine⟨T,id,B,f,j,G,F,?_⟩;have l:=E cpos a w i L _ m A;rw[hs] at l ⊢;refine Calls.callWith_builtin (by show (false || (backTo cpos (ed es X.env)).any (·.1))=false;rw[b] <;> rfl) (Calls.evalArgs_plain ?_);exact thn l λp u ⟨n,K,J,y,z⟩=>D a u i K x n v p Q J k y z
end
def MtM (X:Cx)(id:String)(r:V->List V->Hp->VK->Prop):Prop:=
 ∀ (pins:Pn) (s:Shared) (σ:St) (H:Hp) (x:V) (xs:List V) (v:Value) (us:Lv0) (Q:VK),Inv X pins σ H s->RelV x v->Vals xs us->r x xs H Q->
  wpAny (model X.prog X.w) X.A (call (.builtin id) (v::us)) (EP X pins σ Q) X.xe s
theorem Vals.one{x:V}(h:Vals [x] us):∃ u,us=[u]/\RelV x u:=by
 cases h with
 | cons r t=>cases t;exact⟨_,rfl,r⟩
section
variable {pins:Pn}{s:Shared}{b:Addr}{ys zs:List V}
theorem Inv.MF{f:Array Value->Array Value}(I:Inv X pins σ H s)(g:H l=some (.lst xs))(e:s.heap.get? l=some { cls:=.type "list",data:=.seq its.toArray n })(c:f its.toArray=its'.toArray)(a:Vals ys its')(hz:ys.length<=sizeLine) :
  Inv X pins σ (upd H l (.lst ys)) { s with heap:=s.heap.update l (mO f),toks:=t' }:=by
 have q:=PySem.IsL.update e f;rw[c] at q;refine I.write (x:=l) (e:=l) (by rw[g];exact trivial) (.inl rfl) (λh u d b=>(FI s.heap (mO f) (lj d)).trans b) ⟨_,q⟩ ?_;exact⟨hz,its',_,a,q⟩
theorem Inv.Ox(I:Inv X pins σ H s)(a:Vals ys its)(hz:ys.length<=sizeLine) :
  Inv X pins σ (upd H s.heap.objs.size (.lst ys)) { s with heap:=s.heap.push { cls:=.type "list",data:=.seq its.toArray },toks:=t' }:=
 I.laid (λ_ _ q=>bh _ q) (bU _) ⟨hz,its,0,a,ey _ rfl⟩
theorem Inv.fresh(I:Inv X pins σ H s):H s.heap.objs.size=none:=I.hok.fresh (bU _)
theorem Inv.D8(I:Inv X pins σ H s)(a:H l=some (.lst xs)):xs.length<=sizeLine/\∃ (its:Lv0) (n:Nat),Vals xs its/\xs.length=its.length/\s.heap.get? l=some { cls:=.type "list",data:=.seq its.toArray n }:=by
 obtain⟨z,its,n,r,e⟩:=I.hok l _ a;exact⟨z,its,n,r,r.length,e⟩
theorem xI(h:n<=sizeLine):Ow n=false:=by
 delta Ow;exact decide_eq_false (by lia)
end
noncomputable def vT:V->List V->Hp->VK->Prop:=λx vs H Q=>∃ l xs y,x=.ref l/\vs=[y]/\H l=some (.lst xs)/\xs.length < sizeLine/\Q .non (upd H l (.lst (xs++[y])))
theorem BV:MtM X "list.append" vT:=by
 intro b s i H x k v m Q I d f h;obtain⟨l,j,y,rfl,rfl,c,o,q⟩:=h;cases d;obtain⟨u,rfl,g⟩:=f.one;obtain⟨z,a,n,r,p,e⟩:=I.D8 c;refine call_meets R5 ⟨_,e,rfl⟩ F.entry_list_append (F.args_list_append_2 _ _) (PySem.list_append l a.toArray n u (by rw[eH];lia)) ⟨e,?_⟩;refine⟨.non,_,I.MF (its':=a++[u]) c e (by simp) (r.append (.cons g .nil)) ?_,rfl,q⟩;rw[bM,R6];assumption
noncomputable def vS:V->List V->Hp->VK->Prop:=λx vs H Q=>∃ l b xs zs,x=.ref l/\vs=[.ref b]/\H l=some (.lst xs)/\H b=some (.lst zs)/\xs.length + zs.length<=sizeLine/\Q .non (upd H l (.lst (xs++zs)))
theorem BU:MtM X "list.extend" vS:=by
 intro g s B H x E v G Q I j k h;obtain⟨l,b,D,C,rfl,rfl,i,y,J,q⟩:=h;cases j;obtain⟨u,rfl,m⟩:=k.one;cases m;obtain⟨z,c,n,r,w,e⟩:=I.D8 i;obtain⟨z2,a,p,o,t,A⟩:=I.D8 y;have f:c.toArray.size + a.toArray.size<=sizeLine:=by rw[eH,eH];lia
 have d:¬ (!c.toArray.isEmpty && Ow (c.toArray.size + a.toArray.size))=true:=by
  rw[xI f,Sh];exact js
 refine call_meets R7 ⟨_,e,rfl⟩ F.entry_list_extend (F.args_list_extend_2 _ _)
  (AutoSeq1.list_extend_list_list_0 l c.toArray n b a.toArray p d (by rw[eH];exact WF 0x831d94af5a8b z w) (by exact WF 0x180b147df6ace0b f)) ⟨e,A,?_⟩
 refine⟨.non,_,I.MF (its':=c++a) i e (by simp) (r.append o) ?_,rfl,q⟩;rw[bM];omega
def L6:R2:=λx y H Q=>∃ l b xs zs,x=.ref l/\y=.ref b/\H l=some (.lst xs)/\H b=some (.lst zs)/\xs.length + zs.length<=sizeLine/\∀ p,H p=none->Q (.ref p) (upd H p (.lst (xs++zs)))
theorem J1:OpR X (uU .Add) L6:=by
 intro d s t H x y v u Q I g f h;obtain⟨l,b,A,w,rfl,rfl,k,m,C,q⟩:=h;cases g;cases f;obtain⟨z,c,n,r,D,e⟩:=I.D8 k;obtain⟨z2,a,B,i,j,p⟩:=I.D8 m;refine PySem.P.add_list e p ?_ (by rw[eH,eH];lia);have o:c.toArray++a.toArray=(c++a).toArray:=by simp
 rw[o];exact⟨.ref _,_,I.Ox (t':=s.toks) (r.append i) (by rw[bM];omega),rfl,q _ I.fresh⟩
def Lo (i:Expr):Prop:=∀ a b,subscripted i false a b=operate [a,b] (Sw a b)
theorem Fq{s:Shared}{slice:Expr}{T id:String}{Q:VS}(g:Uy (.type T) "__getitem__"=pure (some (.builtin id)))(hs:Lo slice)(h:wpAny (model prog w) A (eval value env) (λo c=>wpAny (model prog w) A (eval slice env) (λi s₂=>s₂.TypeIs o T/\wpAny (model prog w) A (Sw o i) Q E s₂) E c) E s) :
  wpAny (model prog w) A (eval (.Subscript value slice pos) env) Q E s:=by
 refine SW (tG h (λo c e=>tG e (λi s₂ a=>?_) λ_ _ x=>x) λ_ _ x=>x);obtain⟨f,a⟩:=a;delta Q6;refine aI ?_;rw[getitemInPython_of_ne f.not_modules];refine aI (OE f g ?_);have fin:wpAny (model prog w) A (subscripted slice false o i) (λr b=>wpAny (model prog w) A (letTemporaryGo value o r >>= λ_=>pure r) Q E b) E s₂:=by
  rw[hs o i];exact wpAny_operating (tG a (λr b d=>aI (wpAny_letTemporaryGo (aP d))) λ_ _ x=>x)
 first
  | exact aP (aI fin)
  | exact aI (aP (aI fin))
  | exact aI fin
end _2
namespace _a
open PySem PySem.W PySem.Calls PyProof.Rows
theorem qW{P:Params}:∀ (ns:Li0) (vs:Lv0),WellAll P h vs (ns.map WData.int)->PU vs ns:=by
 intro ns
 induction ns with
 | nil=>
  intro vs w;rw[Pt] at w;cases w;exact .nil
 | cons n ns c=>
  intro vs w;rw[fO] at w;cases w with
  | cons a b=>
   cases a;exact .cons _ _ (c _ b)
theorem Bx{l:PZ}(u:l.most=some n){P:Params}{args:List WData}{b:Lv0}(c:l.row.toRowW.claim.pre args=true)(j:WellAll P h b args) :
  ∃ a vs ns,b=[ou a]/\args=[WData.list (ns.map WData.int)]/\h.get? a=some { cls:=.type "list",data:=.seq vs.toArray }/\PU vs ns/\ns.length<=n:=by
 have k:WShape.hasAll [] args [.list .int]=true:=(pre_splitW c).1;have m:l.pre.holds [] { args:=args }=true:=(pre_splitW c).2;obtain⟨d,r,rfl,x,w⟩:=hasAllW_cons k;obtain rfl:=hasAllW_nil w;obtain⟨y,rfl,v⟩:=hasW_list x;obtain⟨ns,rfl⟩:=items_int v;have e:ns.length<=n:=by
  delta OpenLaw.pre at m;have i:(WTm.not (.lt (.lit (.int (n:Int))) (.len (.arg 0)))).holds [] { args:=[.list (ns.map .int)] }=true:=by
   have i:=(holds_andW m).1;rw[u] at i;exact i
  have g:=condW_of i (w_not (w_lt w_lit (w_len_list (w_arg rfl))));rw[lM0] at g;refine Nat.le_of_not_lt λq=>?_;have s:(n:Int) < ((ns.length:Nat):Int):=by omega
  first
   | (rw[decide_eq_true s] at g;exact absurd g (by decide))
   | (simp at g;omega)
 cases j with
 | cons p o=>
  cases o;cases p with
  | list t f=>exact⟨_,_,ns,rfl,rfl,t,qW ns _ f,e⟩
theorem BD(l:PZ)(args:List WData):l.row.toRowW.claim.post args (.bool true) args=true:=
 postW_of (r:=l.row.toRowW) (X:=(true == true))
  (show Vr [] (.bool true) .bool=true by first | rfl | decide | simp [Vr,WShape.arms,WShape.armsAll])
  (show (WTm.eq .res (.lit (.bool true))).value [] { args:=args,res:=some (.bool true),after:=args }=some (.bool (true == true)) from w_eq_bool (w_res rfl) w_lit) rfl
theorem yq{l:PZ}{q:nI}{c:Ls0}{B:(SV)->Heap->Prop}{A:World->Heap->Prop}{d:DefRec}(F:l.most=some n)(u:d.params.defaults=[])(call:∀ (w:World) (s₀ b:Shared) (mg p:SV) (k:Addr) (o:Obj) (m cd g:Value) (a:Addr) (vs:Lv0) (ns:Li0),
   Ground q c [] B w s₀ mg p b.heap->A w b.heap->
   b.heap.get? k=some o->o.data=.func (docDef d.name d.params d.body d.scope m cd g)->b.heap.CodeRec cd d.name->mg d.name=some (.ref k)->
   b.heap.get? a=some { cls:=.type "list",data:=.seq vs.toArray }->PU vs ns->ns.length<=n->b.gens=#[]->
   qG (model l.prog w) Sz (.call (.ref k) ⟨[.ref a],[]⟩) (λr s'=>r=.ok (.ret (.bool true))/\OldK b.heap s'.heap/\s'.os=b.os/\QP s'.gens) b) :
  WalkO q c B A l.row.toRowW d [] (λf vs=>Uz f vs):=by
 intro w s₀ b mg p G Y k o m cd g O kV E K v z t J args x P h y C s I;obtain rfl:O=.none:=Dflts.none z u;obtain rfl:kV=.none:=Dflts.noKw z;obtain⟨a,vs,ns,rfl,rfl,i,e,j⟩:=Bx F h s;refine enter_call (Mp (call w s₀ b mg p k o m cd g a vs ns G Y E (fd_plain K) v t i e j J) λr s' D=>?_);obtain⟨rfl,N,M,L⟩:=D;exact⟨.inl ⟨.bool true,.bool true,[],rfl,λ_=>rfl,.bool true,BD l _,λ_=>⟨oC,λ_ H=>(nomatch H)⟩⟩,N,M,L⟩
end _a
namespace _2
open PySem PySem.Spec PyProof.Rows
theorem o9:∀ {vs:Lv0} {ns:Li0},PU vs ns->Vals (ns.map V.int) vs
 | _,_,.nil=>.nil
 | _,_,.cons n t h=>.cons ⟨t,rfl⟩ (o9 h)
def Ln (H:Hp):Prop:=∀ b,H b=none\/(∃ o xs,H b=some (.frz o (.lst xs)))\/∃ ps,H b=some (.tbl ps)
noncomputable def inClass (s:Stmt)(j:Nat):Stmt:=match s with
 | .ClassDef _ _ _ body _ _ _ _ _ _ _=>body.getD j (.Pass ⟨0,0,0,0⟩)
 | _=>.Pass ⟨0,0,0,0⟩
noncomputable def l9 (s:Stmt):Arguments:=match s with
 | .FunctionDef _ a _ _ _ _ _ _ _ _=>a
 | _=>{ posonlyargs:=[],args:=[],vararg:=none,kwonlyargs:=[],kw_defaults:=[],kwarg:=none,defaults:=[] }
noncomputable def gI (s:Stmt):List Stmt:=match s with
 | .FunctionDef _ _ b _ _ _ _ _ _ _=>b
 | _=>[]
noncomputable def ah (s:Stmt):Scope:=match s with
 | .FunctionDef _ _ _ _ _ _ sc _ _ _=>sc
 | _=>{ kind:=.function,names:=[],isGenerator:=false,isCoroutine:=false }
abbrev CX0:CXT:=λ_ _ _ _ _ _=>False
abbrev E0:XK:=λ_ _ _=>False
theorem qg:Passes CX0 X E0:=λ_ _ _ _ _ _ _ h=>h.elim
structure Fun (K:Fg0) (x qual:Str) (st:Stmt) (f:Addr) (fd:tj):Prop where
 ex:∃ (oc:Value) (od:Option Addr) (kV doc pm:Value) (an:Option Addr) (cdv ct:Value) (osl:Array (Option Value)),
  fd=FB x qual (l9 st) (gI st) (ah st) .none kV doc pm an cdv ct/\K.lookup f=some ⟨oc,od,.func fd,osl⟩/\Se K cdv qual=true
 kp:lF K (.ref f)=true
theorem Fun.ok{sp:Sp}(F:Fun K x qual st f fd)(S:ar N ps (ah st))(len:∀ vs H Q E,sp vs H Q E->vs.length=ps.length)(hbody:∀ (a:Value) (A:Around) (outer:List Env) (s:Shared) (H:Hp) (vs:List V) (Q:VK) (E:XK),cz k (A.deeper (envOfC qual (ah st) s.heap.objs.size f a))->sp vs H Q E->
   ∃ t,PSs (yj CX0 P w K mg base N qual (ah st) f a A outer s H E).nox (gI st) t/\t { nx:=λ_ H'=>Q .non H',rt:=Q } (start N vs) H):aM P w K mg base CX0 (k + 1) f fd ps sp:=by
 obtain⟨l,j,kV,g,i,n,a,m,d,rfl,lk,c⟩:=F.ex;refine Nh lk c S len λA outer s H vs Q E e b=>?_;obtain⟨t,h,q⟩:=hbody a A outer s H vs Q E e b;exact⟨t,h.nox,q⟩
theorem Fun.binds(F:Fun K x qual st f fd)(h:∀ (kV a c:Value) (e:Option Addr) (b d:Value) (us:Lv0),us.length=ps.length->Uw (FB x qual (l9 st) (gI st) (ah st) .none kV a c e b d) ⟨us,[]⟩=pure (ps.zip us)):Binds K fd ps []:=by
 obtain⟨k,j,kV,a,c,e,b,d,g,rfl,lk,i⟩:=F.ex;exact .all (h kV a c e b d)
theorem Em{i:Value}{h g:Option Addr}{kV b d a e:Value}(l:K.lookup f=some ⟨i,h,.func (FB x qual (l9 st) (gI st) (ah st) .none kV b d g a e),osl⟩)(c:Se K a qual=true)(k:lF K (.ref f)=true):Fun K x qual st f (FB x qual (l9 st) (gI st) (ah st) .none kV b d g a e):=⟨⟨i,h,kV,b,d,g,a,e,osl,rfl,l,c⟩,k⟩
theorem zj{A B:Prop}(h:B):if false=true then A else B:=by
 rw[if_neg js];exact h
theorem zi{A B:Prop}(h:A):if true=true then A else B:=by
 rw[if_pos rfl];exact h
def aB (H H':Hp):Prop:=∀ b o,H b=some o->H' b=some o
theorem aB.refl(H:Hp):aB H H:=λ_ _ h=>h
theorem aB.trans{d:Hp}(a:aB H d)(b:aB d H2):aB H H2:=λc o h=>b c o (a c o h)
theorem aB.free(e:aB H H')(h:H' l=Vl):H l=Vl:=by
 cases q:H l with
 | none=>rfl
 | some o=>
  rw[e l o q] at h;cases h
theorem aB.seq(e:aB H H')(h:SqL K H a xs):SqL K H' a xs:=by
 rcases h with (h | ⟨o,h⟩) | h
 .exact .inl (.inl (e _ _ h))
 .exact .inl (.inr ⟨o,e _ _ h⟩)
 .exact .inr h
noncomputable def takes (cells:List (Str×Addr)):List (Str×qo)->List (Str×Addr)->List (Str×Addr)
 | [],acc=>acc
 | (n,k)::r,acc=>takes cells r (if k=ir then (n,(cells.lookup n).getD 0)::acc else acc)
theorem ud(h:∀ y∈sc.names,y.2=.free->∃ c,env.cells.lookup y.1=some c):UA sc env=pure (takes env.cells sc.names []):=by
 have o:∀ (l:List (Str×qo)) (acc:List (Str×Addr)),(∀ y∈l,y.2=.free->∃ c,env.cells.lookup y.1=some c)->
   (forIn l acc (λ(x:Str×qo) (b:List (Str×Addr))=>match x with
    | (name,kind)=>if (kind == ir)=true then do let c <- cellOf env name;pure (uT ((name,c)::b)) else pure (uT b)):Sem (List (Str×Addr)))=pure (takes env.cells l acc):=by
  intro l
  induction l with
  | nil=>intro acc _;rfl
  | cons x l i=>
   intro acc e;obtain⟨n,k⟩:=x;rw[List.forIn_cons];by_cases f:k=ir
   .subst f;obtain⟨c,j⟩:=e (n,.free) hG rfl;have a:env.cells.lookup n=some c:=j;have p:cellOf env n=pure c:=by delta cellOf;rw[a]
    have g:takes env.cells ((n,ir)::l) acc=takes env.cells l ((n,c)::acc):=by
     show takes env.cells l (if ir=ir then (n,(env.cells.lookup n).getD 0)::acc else acc)=_;rw[if_pos rfl,a]
     rfl
    rw[g,<- i ((n,c)::acc) λy d=>e y (eh _ d)];show ((if (ir == ir)=true then (do let c <- cellOf env n;pure (uT ((n,c)::acc))) else pure (uT acc)) >>= _)=_;rw[if_pos (by decide),p,pure_bind,pure_bind]
   .have g:takes env.cells ((n,k)::l) acc=takes env.cells l acc:=by
     show takes env.cells l (if k=ir then _ else acc)=_;rw[if_neg f]
    have m:(k == ir)=false:=by simpa using f
    rw[g,<- i acc λy d=>e y (eh _ d)];show ((if (k == ir)=true then _ else pure (uT acc)) >>= _)=_;rw[m,if_neg js,pure_bind]
 have:=o sc.names [] h;delta UA
 first
  | exact(congrArg (λz=>z >>= λb=>pure b) this).trans (pure_bind _ _)
  | exact this
  | simpa using this
theorem ui {cells:List (Str×Addr)}{n:Str}{c:Addr}:∀ (a:List (Str×qo)) (acc:List (Str×Addr)),(takes cells a acc).lookup n=some c->
  acc.lookup n=some c\/((n,ir)∈a/\c=(cells.lookup n).getD 0)
 | [],_,h=>.inl h
 | (m,k)::r,acc,h=>by
  rcases ui r _ h with q | ⟨f,d⟩
  .by_cases b:k=ir
   .rw[if_pos b] at q;subst b;by_cases e:n=m
    .subst e;rw[fg,beq_self_eq_true] at q;exact .inr ⟨hG,(hF q).symm⟩
    .have:(n == m)=false:=by simpa using e
     rw[fg,this] at q;exact .inl q
   .rw[if_neg b] at q;exact .inl q
  .exact .inr ⟨eh _ f,d⟩
theorem uj {cells:List (Str×Addr)}{n:Str}:∀ (a:List (Str×qo)) (acc:List (Str×Addr)),(acc.lookup n).isSome=true->((takes cells a acc).lookup n).isSome=true
 | [],_,h=>h
 | (m,k)::r,acc,h=>by
  refine uj r _ ?_;by_cases b:k=ir
  .rw[if_pos b];cases e:n == m with
   | true=>rw[fg,e];rfl
   | false=>rw[fg,e];exact h
  .rw[if_neg b];exact h
theorem pf {cells:List (Str×Addr)}{n:Str}:∀ (a:List (Str×qo)) (acc:List (Str×Addr)),(n,ir)∈a->((takes cells a acc).lookup n).isSome=true
 | [],_,h=>by simp -iota at h
 | (m,k)::r,acc,h=>by
  rcases cS.mp h with e | h
  .cases e;refine uj r _ ?_;rw[if_pos rfl,fg,beq_self_eq_true]
   rfl
  .exact pf r _ h
structure Blk (N:Ls0) (osc sc:Scope) (Nc:Ls0) (fr:On):Prop where
 kind:sc.kind=.function
 own:∀ y∈sc.names,y.2=.cell->sc.names.lookup y.1=some .cell
 free:∀ y∈sc.names,y.2=.free->osc.names.lookup y.1=some .cell\/osc.names.lookup y.1=some .free
 locs:∀ y∈sc.names,y.2=.local->sc.names.lookup y.1=some .local
 nd:Nc.Nodup
 len:Nc.length=fr.length
 whence:∀ p∈Nc.zip fr,(p.2.all λj=>decide (N[j]?=some p.1) && decide (sc.names.lookup p.1=some .free))=true
noncomputable abbrev bcl (cells:List (Str×Addr))(a:Scope)(C:Addr):List (Str×Addr):=qu (C + 1) a.names (takes cells a.names [])
theorem A8 {x:Str}{c:Addr}:∀ (a:List (Str×qo)) (n:Nat) (acc:List (Str×Addr)),(qu n a acc).lookup x=some c->acc.lookup x=some c\/(n<=c/\(x,mB)∈a)
 | [],_,_,h=>.inl h
 | (y,k)::r,n,acc,h=>by
  unfold qu at h;split at h
  .rename_i f;have g:k=mB:=by simpa using f
   subst g;rcases A8 r _ _ h with q | ⟨d,b⟩
   .rw[fg] at q;cases e:x == y with
    | true=>
     rw[e] at q;cases q;rw[beq_iff_eq.mp e];exact .inr ⟨bU _,hG⟩
    | false=>rw[e] at q;exact .inl q
   .exact .inr ⟨Pu d,eh _ b⟩
  .rcases A8 r _ _ h with q | ⟨d,b⟩
   .exact .inl q
   .exact .inr ⟨d,eh _ b⟩
theorem zH {x:Str}{c:Addr}:∀ (a:List (Str×qo)) (n:Nat) (acc:List (Str×Addr)),(x,mB)∈a->(qu n a acc).lookup x=some c->n<=c
 | [],_,_,m,_=>nomatch m
 | (y,k)::r,n,acc,m,h=>by
  unfold qu at h;by_cases b:(x,mB)∈r
  .split at h
   .exact Pu (zH r _ _ b h)
   .exact zH r _ _ b h
  .have e:(x,mB)=(y,k):=(cS.mp m).resolve_right b;cases e;rw[if_pos (by rfl)] at h;rcases A8 r _ _ h with q | ⟨d,_⟩
   .rw[fg,beq_self_eq_true] at q;cases q;exact bU _
   .exact Pu d
theorem zG {x:Str}:∀ (a:List (Str×qo)) (n:Nat) (acc:List (Str×Addr)),(x,mB)∉a->(qu n a acc).lookup x=acc.lookup x
 | [],_,_,_=>rfl
 | (y,k)::r,n,acc,m=>by
  unfold qu;have b:(x,mB)∉r:=λz=>m (eh _ z);split
  .rename_i d;have e:k=mB:=by simpa using d
   subst e;rw[zG r _ _ b,fg];have:(x == y)=false:=by
    cases c:x == y with
    | false=>rfl
    | true=>exact absurd (by rw[beq_iff_eq.mp c];exact hG) m
   rw[this]
  .exact zG r _ _ b
theorem zI:∀ (b:List (Str×qo)) (n:Nat) (acc:List (Str×Addr)),(∀ x y c,acc.lookup x=some c->acc.lookup y=some c->x=y)->(∀ x c,acc.lookup x=some c->c < n)->
  ∀ x y c,(qu n b acc).lookup x=some c->(qu n b acc).lookup y=some c->x=y
 | [],_,_,h,_=>h
 | (z,k)::r,n,acc,h,lt=>by
  unfold qu;split
  .refine zI r (n + 1) ((z,n)::acc) (λx y c a e=>?_) λx c a=>?_
   .rw[fg] at a e;cases d:x == z with
    | true=>
     cases f:y == z with
     | true=>rw[beq_iff_eq.mp d,beq_iff_eq.mp f]
     | false=>
      rw[d] at a;rw[f] at e;cases a;exact absurd (lt y n e) (ky _)
    | false=>
     cases f:y == z with
     | true=>
      rw[d] at a;rw[f] at e;cases e;exact absurd (lt x n a) (ky _)
     | false=>rw[d] at a;rw[f] at e;exact h x y c a e
   .rw[fg] at a;cases d:x == z with
    | true=>rw[d] at a;cases a;exact ox _
    | false=>rw[d] at a;exact sr (lt x c a)
  .exact zI r n acc h lt
theorem BP{s:Shared}{g:Addr}{f:List (Str×Addr)}{i:Env}{Q:Env->Shared->Prop}(t:∀ h':Heap,h'.Ns s.heap.objs.size (λ_=>none)->(∀ b o,s.heap.get? b=some o->h'.get? b=some o)->(∀ n c,(qu (s.heap.objs.size + 1) sc.names f).lookup n=some c->f.lookup n=some c\/h'.IsCell c none)->
   Q { scope:=sc,locals:=s.heap.objs.size,globals:=g,cells:=qu (s.heap.objs.size + 1) sc.names f,qual:=qual,func:=none,code:=i.code,frame:=i.frame,builtins:=i.builtins } { s with heap:=h' }) :
  wpAny M A (Qu sc g f [] qual none .none (some i)) Q E s:=by
 simp only[Qu,Option.isSome_some,if_true];refine aI (T9 ?_);refine aI (wpAny_layCells _ (λname kind cells=>by cases j:kind == mB <;> simp -iota [j]) _ _ _ _ ?_);have u:∀ (a:List (Str×qo)) (h:Heap) (d:List (Str×Addr)) (P:Str->Addr->Prop),(∀ n c,d.lookup n=some c->P n c\/h.IsCell c none)->∀ n c,(qu h.objs.size a d).lookup n=some c->P n c\/(pushCells h a).IsCell c none:=by
  intro a
  induction a with
  | nil=>intro h d P x;exact x
  | cons p r l=>
   intro h d P x;obtain⟨y,k⟩:=p;unfold qu pushCells;split
   .have:=l (h.push { cls:=.type "cell",data:=.cell none }) ((y,h.objs.size)::d) P λn c e=>by
     rw[fg] at e;cases m:n == y with
     | true=>rw[m] at e;cases e;exact .inr ⟨_,ey _ rfl,rfl⟩
     | false=>
      rw[m] at e;rcases x n c e with q | q
      .exact .inl q
      .exact .inr (q.keeps λb o e=>bh _ e)
    rwa [mG] at this
   .exact l h d P x
 have ok:=u sc.names (s.heap.push { cls:=.type "dict",data:=.dict #[] }) f (λn c=>f.lookup n=some c) λn c e=>.inl e;rw[mG] at ok;rw[show ({ s with heap:=s.heap.push { cls:=.type "dict",data:=.dict #[] } }:Shared).heap.objs.size=s.heap.objs.size + 1 from mG ..];refine aI ?_;rw[List.forIn_nil];exact aP (aP (t _ ((Heap.Ns.new s.heap (.type "dict")).keeps (pushCells_keeps _ _)) (λb o e=>pushCells_keeps _ _ b o (bh _ e)) ok))
noncomputable abbrev aT (X:Cx)(a:Scope)(b:Ls0)(s₀:Shared)(H₀:Hp)(C:Addr)(ex:La0)(pn:Pn):Cx where
 prog:=X.prog
 w:=X.w
 K:=X.K
 mg:=X.mg
 base:=X.base
 A:=X.A
 N:=b
 s₀:=s₀
 H₀:=H₀
 env:=compEnvC a (bcl X.env.cells a C) C X.env
 outer:=X.stack
 stack:=X.stack
 ex:=ex
 fn:=λx=>a.names.lookup x == some .cell
 calm:=X.calm
 pn:=pn
 xe:=λ_ _=>False
noncomputable def mS (a:On)(σ:St):St:=a.map λo=>o.bind λj=>(σ[j]?).join
theorem kO{k:qo}(h:(relabel sc env).names.lookup x=some k):sc.names.lookup x=some k\/(k=.cell/\sc.names.lookup x=some .free):=by
 have j:∀ l:List (Str×qo),(l.map λ(n,k)=>if (k == ir && env.scope.kind == .function && env.kindOf n == some .cell) then (n,mB) else (n,k)).lookup x=some k->l.lookup x=some k\/(k=.cell/\l.lookup x=some .free):=by
  intro l
  induction l with
  | nil=>intro h;simp -iota at h
  | cons p r g=>
   intro h;obtain⟨n,d⟩:=p;rw[fO] at h;by_cases e:(d == ir && env.scope.kind == .function && env.kindOf n == some .cell)=true
   .have b:Do x ((n,mB)::r.map λ(n,k)=>if (k == ir && env.scope.kind == .function && env.kindOf n == some .cell) then (n,mB) else (n,k))=some k:=by
     have c:=h;simp only[e,if_true] at c;exact c
    have i:d=.free:=by
     simp -iota only[kn] at e;simpa using e.1.1
    subst i;cases a:x == n with
    | true=>
     rw[fg,a] at b;rw[fg,a];cases b;exact .inr ⟨rfl,rfl⟩
    | false=>
     rw[fg,a] at b;rw[fg,a];exact g b
   .have f:(d == ir && env.scope.kind == .function && env.kindOf n == some .cell)=false:=by simpa using e
    have b:Do x ((n,d)::r.map λ(n,k)=>if (k == ir && env.scope.kind == .function && env.kindOf n == some .cell) then (n,mB) else (n,k))=some k:=by
     have c:=h;simp only[f,fi,if_false] at c;exact c
    cases a:x == n with
    | true=>
     rw[fg,a] at b;rw[fg,a];exact .inl b
    | false=>
     rw[fg,a] at b;rw[fg,a];exact g b
 exact j _ h
theorem vR(h:sc.names.lookup x=some .free):(relabel sc env).names.lookup x=some .cell\/(relabel sc env).names.lookup x=some .free:=by
 have f:∀ l:List (Str×qo),l.lookup x=some .free->(l.map λ(n,k)=>if (k == ir && env.scope.kind == .function && env.kindOf n == some .cell) then (n,mB) else (n,k)).lookup x=some .cell\/(l.map λ(n,k)=>if (k == ir && env.scope.kind == .function && env.kindOf n == some .cell) then (n,mB) else (n,k)).lookup x=some .free:=by
  intro l
  induction l with
  | nil=>intro h;simp -iota at h
  | cons p r d=>
   intro h;obtain⟨n,c⟩:=p;rw[fO];by_cases e:(c == ir && env.scope.kind == .function && env.kindOf n == some .cell)=true
   .simp only[e,if_true];cases a:x == n with
    | true=>left;simp [fg,a]
    | false=>
     rw[fg,a] at h;simp only[fg,a];exact d h
   .have b:(c == ir && env.scope.kind == .function && env.kindOf n == some .cell)=false:=by simpa using e
    simp only[b,fi,if_false];cases a:x == n with
    | true=>
     rw[fg,a] at h
     right
     simp only[fg,a];exact h
    | false=>
     rw[fg,a] at h;simp only[fg,a];exact d h
 exact f _ h
section
variable {pins:Pn}
theorem gN(B:Blk X.N X.env.scope sc Nc fr)(ok:X.Ok){n:Str}{c:Addr}(h:(takes X.env.cells sc.names []).lookup n=some c):X.env.cells.lookup n=some c:=by
 rcases ui _ _ h with q | ⟨d,b⟩
 .simp -iota at q
 .obtain⟨e,a⟩:=ok.has n (B.free _ d rfl);rw[a] at b;rw[a,b]
  rfl
theorem vd(B:Blk X.N X.env.scope sc Nc fr)(ok:X.Ok){n:Str}{c:Addr}(h:(bcl X.env.cells sc C).lookup n=some c):X.env.cells.lookup n=some c\/C < c:=by
 rcases A8 _ _ _ h with q | ⟨q,_⟩
 .exact .inl (gN B ok q)
 .exact .inr q
theorem eP{n:Str}{k:qo}:∀ {l:List (Str×qo)},l.lookup n=some k->(n,k)∈l:=λh=>tm h
theorem Lg(B:Blk X.N X.env.scope sc Nc fr){g:Pn}(I:Inv X pins σ H₀ s₀)(d:s₀.heap.objs.size<=C)(hex:∀ b∈ex,b < s₀.heap.objs.size/\b∉X.fs/\b≠X.env.locals/\(∀ x c,X.env.cells.lookup x=some c->c≠b)/\∀ o,X.base.get? b≠some o):(aT X sc Nc s₀ H₀ C ex g).Ok where
 mod:=I.ok.mod
 kind:=B.kind
 glob:=I.ok.glob
 blt:=I.ok.blt
 above:=d
 inj:=zI _ _ _ (λx y c j i=>I.ok.inj x y c (gN B I.ok j) (gN B I.ok i)) λx c h=>by
  obtain⟨v,o,e,_⟩:=I.cell x c (gN B I.ok h);exact sr (fC (er e) d)
 has:=λx hx=>by
  have f:sc.names.lookup x=some .cell\/sc.names.lookup x=some .free:=by
   rcases hx with hx | hx
   .rcases kO hx with q | ⟨_,q⟩
    .exact .inl q
    .exact .inr q
   .rcases kO hx with q | ⟨_,q⟩
    .exact .inr q
    .exact .inr q
  refine Os.mp (Pq _ _ _ ?_);rcases f with q | q
  .exact .inl q
  .exact .inr (pf _ _ (eP q))
 cab:=λx c h e=>by
  have k:sc.names.lookup x=some .cell:=by simpa using h
  exact kj d (Pu (zH _ _ _ (eP k) e))
 hd:=I.ok.hd
 frames:=I.ok.frames
 stk:=.inl rfl
 exf:=λb a=>⟨λe=>by have:=(hex b a).1;rw[e] at this;exact absurd (fC this d) (ky _),λx c h=>by
  rcases vd B I.ok h with q | q
  .exact(hex b a).2.2.2.1 x c q
  .exact λz=>absurd (Pv (fC (hex b a).1 d) q) (by rw[z];exact ky _)⟩
 bs:=λb o e=>I.bs b o e
 bsz:=kj I.ok.bsz I.sz
 noex:=λb o e a=>(hex b a).2.2.2.2 o e
 exfs:=λb a f=>by
  rcases cS.mp (I.vq b f) with e | e
  .exact(hex b a).2.2.1 e
  .exact(hex b a).2.1 e
 pW:=I.stack
 frf:=λb a=>I.Ac b a
 tb:=I.tb
end
noncomputable abbrev c9 (us:Lv0)(n:Nat):Obj:={ cls:=.type "list",data:=.seq us.toArray n }
theorem zf{a:Type}{fr:List a}{o:a}(d:Nc[i]?=some x)(c:fr[i]?=some o):(x,o)∈Nc.zip fr:=by
 have b:(Nc.zip fr)[i]?=some (x,o):=by
  rw[List.getElem?_zip_eq_some];exact⟨d,c⟩
 exact eW b
theorem Hi{a:Pn}(B:Blk X.N X.env.scope sc Nc fr){s₄:Shared}{D:Addr}{o:Obj}{Z:SV}(ok:(aT X sc Nc s₀ H₀ C ex (X.pn++a)).Ok)(I:Inv X a σ H₀ s₀)(V:s₀.heap.objs.size<=C)(ho:s₄.os=s₀.os)(hg:s₄.gens=s₀.gens)(n:∀ b u,s₀.heap.get? b=some u->s₄.heap.get? b=some u)(hn:s₄.heap.Ns C Z)(hw:∀ x c,(bcl X.env.cells sc C).lookup x=some c->(takes X.env.cells sc.names []).lookup x=some c\/s₄.heap.IsCell c none)(hD:s₀.heap.get? D=some o)(U:H₀ D=none)(T:D≠X.env.locals)(R:D∉X.fs)(S:∀ v,o.data≠.cell v) :
  Inv (aT X sc Nc s₀ H₀ C ex (X.pn++a)) [(D,o)] (mS fr σ) H₀ s₄:=by
 have t:∀ b,b≠X.env.locals->b∉X.fs->b∉frs X.stack:=λb H G h3=>by
  rcases cS.mp (I.vq b h3) with e | e
  .exact H e
  .exact G e
 have w:∀ {b:Addr} {u:Obj},s₀.heap.get? b=some u->b≠C:=λe z=>absurd (fC (er e) (by rw[z];exact V)) (ky _);refine⟨ok,ho,by rw[hg];exact I.bare,Un.kept n,⟨Z,hn,λi x v H G h3=>?_⟩,λx c h=>?_,I.hok.fresh V,λx c h=>?_,λp hp=>?_,I.hok.kept n,?_⟩
 .have d:(fr.map λo=>o.bind λj=>(σ[j]?).join)[i]?=some (some v):=G;rw[ba] at d;cases W:fr[i]? with
  | none=>rw[W] at d;cases d
  | some Y=>
   rw[W] at d;have h4:(Y.bind λj=>(σ[j]?).join)=some v:=hF d;cases Y with
   | none=>cases h4
   | some j=>
    have hz:=B.whence _ (zf H W);have f:(decide (X.N[j]?=some x) && decide (sc.names.lookup x=some .free))=true:=hz;rw[kn] at f;have M:X.N[j]?=some x:=of_decide_eq_true f.1;have s:sc.names.lookup x=some .free:=of_decide_eq_true f.2;have h5:σ[j]?=some (some v):=by
     have K:(σ[j]?).join=some v:=h4;cases L:σ[j]? with
     | none=>rw[L] at K;cases K
     | some y=>rw[L] at K;exact congrArg some K
    have A:=B.free _ (eP s) rfl;obtain⟨m,hm,hl⟩:=I.loc;have N:Vis X.env.scope x:=by rcases A with k | k;exact .inr (.inl k);exact .inr (.inr k)
    obtain⟨u,r,l⟩:=hl j x v M h5 N;refine⟨u,r,.inr ⟨vR s,?_⟩⟩;rcases l with ⟨k,_⟩ | ⟨_,c,hc,g⟩
    .have J:X.env.scope.names.lookup x=some .local:=k;rcases A with q | q
     .rw[q] at J;cases J
     .rw[q] at J;cases J
    .obtain⟨c',F⟩:=Os.mp (pf (cells:=X.env.cells) sc.names [] (eP s));have E:=gN B I.ok F;rw[hc] at E;cases E;obtain⟨O,Q,P⟩:=g;exact⟨c,(zG _ _ _ λz=>by have:=B.own _ z rfl;rw[s] at this;cases this).trans F,O,n _ _ Q,P⟩
 .rcases hw x c h with q | q
  .obtain⟨v,O,H,G⟩:=I.cell x c (gN B I.ok q);exact⟨v,O,n _ _ H,G⟩
  .exact⟨_,q⟩
 .rcases vd B I.ok h with q | q
  .exact I.freeC x c q
  .exact I.hok.fresh (kj V (fq q))
 .rcases eE.mp hp with hp | hp
  .obtain⟨M,s,L,e4,e5⟩:=I.pin p hp;exact⟨n _ _ M,s,w M,t _ L e4,e5⟩
  .have e:p=(D,o):=by simpa using hp
   subst e;exact⟨n _ _ hD,U,w hD,t _ T R,S⟩
 .show (fr.map _).length=Nc.length;rw[lM0,B.len]
theorem wI{a:Pn}{s:Shared}(B:Blk X.N X.env.scope sc Nc fr)(I:Inv X a σ H s):UA sc X.env=pure (takes X.env.cells sc.names []):=
 ud λy b c=>I.ok.has y.1 (B.free y b c)
structure gJ (K:Fg0):Prop where
 bb:bL K (.type "bool") (.type "bool")=some true
 bi:bL K (.type "bool") (.type "int")=some true
 bl:bL K (.type "bool") (.type "list")=some false
 bt:bL K (.type "bool") (.type "tuple")=some false
 ib:bL K (.type "int") (.type "bool")=some false
 ii:bL K (.type "int") (.type "int")=some true
 il:bL K (.type "int") (.type "list")=some false
 it:bL K (.type "int") (.type "tuple")=some false
 nb:bL K (.type "NoneType") (.type "bool")=some false
 ni:bL K (.type "NoneType") (.type "int")=some false
 nl:bL K (.type "NoneType") (.type "list")=some false
 nt:bL K (.type "NoneType") (.type "tuple")=some false
 sb:bL K (.type "str") (.type "bool")=some false
 si:bL K (.type "str") (.type "int")=some false
 sl:bL K (.type "str") (.type "list")=some false
 st:bL K (.type "str") (.type "tuple")=some false
 lb:bL K (.type "list") (.type "bool")=some false
 li:bL K (.type "list") (.type "int")=some false
 ll:bL K (.type "list") (.type "list")=some true
 lt:bL K (.type "list") (.type "tuple")=some false
 tb:bL K (.type "tuple") (.type "bool")=some false
 ti:bL K (.type "tuple") (.type "int")=some false
 tl:bL K (.type "tuple") (.type "list")=some false
 tt:bL K (.type "tuple") (.type "tuple")=some true
 db:bL K (.type "dict") (.type "bool")=some false
 di:bL K (.type "dict") (.type "int")=some false
 dl:bL K (.type "dict") (.type "list")=some false
 dt:bL K (.type "dict") (.type "tuple")=some false
inductive Kn (H:Hp):V->Prop where
 | non:Kn H .non
 | bl (b:Bool):Kn H (.bl b)
 | int (i:Int):Kn H (.int i)
 | str (x:Str):Kn H (.str x)
 | lst {a:Addr} {xs:List V} (e:H a=some (.lst xs)):Kn H (.ref a)
 | tup {a:Addr} {xs:List V} (e:H a=some (.tup xs)):Kn H (.ref a)
 | dK {a:Addr} {kvs:List (Key×V)} (e:H a=some (.dK kvs)):Kn H (.ref a)
noncomputable def isB:V->Bool
 | .bl _=>true
 | _=>false
noncomputable def isI:V->Bool
 | .bl _=>true
 | .int _=>true
 | _=>false
noncomputable def isL (H:Hp):V->Bool
 | .ref a=>match H a with
  | some (.lst _)=>true
  | _=>false
 | _=>false
noncomputable def isT (H:Hp):V->Bool
 | .ref a=>match H a with
  | some (.tup _)=>true
  | _=>false
 | _=>false
theorem AQ(h:H a=some (.lst xs)):isL H (.ref a)=true:=by simp only[isL,h]
theorem AO(h:H a=some (.tup xs)):isL H (.ref a)=false:=by simp only[isL,h]
theorem zr{xs:List (Key×V)}(h:H a=some (.dK xs)):isL H (.ref a)=false:=by simp only[isL,h]
theorem AN(h:H a=some (.lst xs)):isT H (.ref a)=false:=by simp only[isT,h]
theorem AM(h:H a=some (.tup xs)):isT H (.ref a)=true:=by simp only[isT,h]
theorem zm{xs:List (Key×V)}(h:H a=some (.dK xs)):isT H (.ref a)=false:=by simp only[isT,h]
theorem av{a:Pn}{s:Shared}{x:V}{c:String}{t:Value}{b f:Bool}{Q:VK}(I:Inv X a σ H s)(r:Vals [x,.ty c] us)(h:p8 X.K H x t)(e:bL X.K t (.type c)=some b)(j:f=b)(q:Q (.bl f) H) :
  wpAny (model X.prog X.w) X.A (call (.builtin "isinstance") us) (EP X a σ Q) X.xe s:=by
 obtain⟨u,g,rfl,i,d⟩:=vals2 r;obtain rfl:g=xt c:=d;subst j;exact B6 I i h e λk=>⟨.bl f,H,I.tok _,rfl,q⟩
theorem EU(F:gJ X.K):dG X (.builtin "isinstance") (λxs H Q=>∃ x,xs=[x,.ty "bool"]/\Kn H x/\Q (.bl (isB x)) H):=by
 intro a s c H xs d Q I r h;obtain⟨x,rfl,k,q⟩:=h;cases k with
 | non=>exact av I r .non F.nb rfl q
 | bl b=>exact av I r (.bl b) F.bb rfl q
 | int i=>exact av I r (.int i) F.ib rfl q
 | str y=>exact av I r (.str y) F.sb rfl q
 | lst e=>exact av I r (.lst e) F.lb rfl q
 | tup e=>exact av I r (.tup e) F.tb rfl q
 | dK e=>exact av I r (.dK e) F.db rfl q
theorem ET(F:gJ X.K):dG X (.builtin "isinstance") (λxs H Q=>∃ x,xs=[x,.ty "int"]/\Kn H x/\Q (.bl (isI x)) H):=by
 intro a s c H xs d Q I r h;obtain⟨x,rfl,k,q⟩:=h;cases k with
 | non=>exact av I r .non F.ni rfl q
 | bl b=>exact av I r (.bl b) F.bi rfl q
 | int i=>exact av I r (.int i) F.ii rfl q
 | str y=>exact av I r (.str y) F.si rfl q
 | lst e=>exact av I r (.lst e) F.li rfl q
 | tup e=>exact av I r (.tup e) F.ti rfl q
 | dK e=>exact av I r (.dK e) F.di rfl q
theorem ES(F:gJ X.K):dG X (.builtin "isinstance") (λxs H Q=>∃ x,xs=[x,.ty "list"]/\Kn H x/\Q (.bl (isL H x)) H):=by
 intro a s c H xs d Q I r h;obtain⟨x,rfl,k,q⟩:=h;cases k with
 | non=>exact av I r .non F.nl rfl q
 | bl b=>exact av I r (.bl b) F.bl rfl q
 | int i=>exact av I r (.int i) F.il rfl q
 | str y=>exact av I r (.str y) F.sl rfl q
 | lst e=>exact av I r (.lst e) F.ll (AQ e) q
 | tup e=>exact av I r (.tup e) F.tl (AO e) q
 | dK e=>exact av I r (.dK e) F.dl (zr e) q
theorem EO(F:gJ X.K):dG X (.builtin "isinstance") (λxs H Q=>∃ x,xs=[x,.ty "tuple"]/\Kn H x/\Q (.bl (isT H x)) H):=by
 intro a s c H xs d Q I r h;obtain⟨x,rfl,k,q⟩:=h;cases k with
 | non=>exact av I r .non F.nt rfl q
 | bl b=>exact av I r (.bl b) F.bt rfl q
 | int i=>exact av I r (.int i) F.it rfl q
 | str y=>exact av I r (.str y) F.st rfl q
 | lst e=>exact av I r (.lst e) F.lt (AN e) q
 | tup e=>exact av I r (.tup e) F.tt (AM e) q
 | dK e=>exact av I r (.dK e) F.dt (zm e) q
def Fj (X:Cx)(h:Heap)(u:Value)(d:PyData):Prop:=∃ a,ReadAtMost h d.depth a/\ReprK X.prog X.w a h d.depth u d.shown
section
variable {pins:Pn}{s:Shared}
theorem Inv.moved{ch:La0}(I:Inv X pins σ H s)(a:∀ b∈ch,iB X pins H b)(g:∀ b o,b∉ch->s.heap.get? b=some o->h'.get? b=some o):Inv X pins σ H { s with heap:=h',toks:=t' }:=by
 have h:∀ {b:Addr} {u:HO},H b=some u->b∉ch:=λe d=>by rw[(a _ d).1] at e;cases e
 refine I.step (g':=s.gens) (d':=s.drawn) (ch:=ch) (λb d=>⟨(a b d).2.2.2.1,(a b d).2.1,(a b d).2.2.2.2.1,(a b d).2.2.2.2.2⟩) (λb o _ _ f e _=>g b o f e) (λb o _ _ f e _=>⟨o.slots,g b o f e⟩) (λ_ _ _ _ n=>n)
  (λb o f e=>⟨o,g b o f e⟩) (λ_ _ e=>e) (λ_ _ _ e=>e) (λb p e=>⟨#[],by rw[e];simp⟩) (λm j=>?_) (λb u e=>?_) I.bare
 .obtain⟨o,k,l,i,r⟩:=j;exact⟨o,k,l,g _ o (λd=>(a _ d).2.1 rfl) i,r⟩
 .exact(I.hok b u e).w9 (λc v f q=>g c v (by rcases f with z | z <;> first | (rw[z];exact h e) | exact h z) q) (λ_ q=>q) λ_ _ q=>q
theorem Inv.Gr{ch:La0}{T:Addr}{x:V}(I:Inv X pins σ H s)(d:∀ b∈ch,iB X pins H b)(k:s.heap.objs.size<=T)(h:∀ b o,b∉ch->s.heap.get? b=some o->h'.get? b=some o)(w:IsTup h' T #[u,v])(t:RelV x u)(p:RelV y v):Inv X pins σ (upd H T (.tup [x,y])) { s with heap:=h',toks:=t' }:=by
 have j:∀ {b:Addr} {u:HO},H b=some u->b∉ch:=λe f=>by rw[(d _ f).1] at e;cases e
 have C:H T=none:=I.hok.fresh k;have neT:∀ {b:Addr} {o:Obj},s.heap.get? b=some o->b≠T:=λe=>hY (fC (er e) k);have a:∀ {b:Addr} {u:HO},H b=some u->b≠T:=λe z=>by rw[z,C] at e;cases e
 refine I.step (g':=s.gens) (d':=s.drawn) (ch:=ch) (λb f=>⟨(d b f).2.2.2.1,(d b f).2.1,(d b f).2.2.2.2.1,(d b f).2.2.2.2.2⟩) (λb o _ _ g e _=>h b o g e) (λb o _ _ g e _=>⟨o.slots,h b o g e⟩) (λb o _ e n=>by rw[ao (neT e)];exact n)
  (λb o g e=>⟨o,h b o g e⟩) (λb i e=>by rw[ao (a e)];exact e) (λb o i e=>by rw[ao (a e)];exact e) (λb G e=>⟨#[],by rw[ao (a e),e];simp⟩) (λm B=>?_) (λb o e=>?_) I.bare
 .obtain⟨o,D,E,A,r⟩:=B;exact⟨o,D,E,h _ o (λf=>(d _ f).2.1 rfl) A,r⟩
 .by_cases f:b=T
  .subst f;rw[aC] at e;cases e;exact⟨(by show 2<=sizeLine;decide),[u,v],.cons t (.cons p .nil),w⟩
  .rw[ao f] at e;exact(I.hok b o e).w9 (λc l g q=>h c l (by rcases g with z | z <;> first | (rw[z];exact j e) | exact j z) q) (λc q=>by rw[ao (a q)];exact q) (λc i q=>by rw[ao (a q)];exact q) λc o F q=>by rw[ao (a q)];exact q
end
noncomputable def Ite (a:Addr):It:=
 ⟨λi H=>∃ xs x,H a=some (.lst xs)/\xs[i]?=some x,
  λi H v H'=>∃ t xs x,H t=none/\H a=some (.lst xs)/\xs[i]?=some x/\v=.ref t/\H'=upd H t (.tup [.int i,x]),
  λi H=>∃ xs,H a=some (.lst xs)/\xs.length<=i⟩
def Pc (e it l:Addr)(i:Nat)(h:Heap):Prop:=(∃ a,IsEnum h e it i a)/\h.IsListIter it l i
theorem Bn{kt:Nat}{T:Pos}(e it l:Addr)(D:e≠it):Turn P w K (.Tuple es kt T) (Ite l) [e,it] e (Pc e it l) where
 mem:=by simp
 obj:=λi h st b n=>by
  obtain⟨⟨c,d⟩,⟨V,M,_,d1⟩⟩:=st;simp -iota only[cS,lz,or_false] at n;rcases n with rfl | rfl
  .exact⟨_,d,λv q=>by cases q⟩
  .exact⟨_,M,λv q=>by rw[d1] at q;cases q⟩
 keep:=λi h R st k=>by
  obtain⟨⟨c,d⟩,g⟩:=st;exact⟨⟨c,k e (by simp) _ d⟩,g.at λo e=>k it (by simp) o e⟩
 item:=by
  intro X G y J Q i j s S H E I m st C;subst G y J;obtain⟨N,x,p,O⟩:=C;obtain⟨⟨c,d⟩,g⟩:=st;obtain⟨t,na,r,L,_⟩:=I.lst p;have W:∀ b∈[e,it],H b=none:=λb n=>(m b n).1;obtain⟨u,Y,U⟩:=r.get O;refine wpAny_pyNext_enum_item d g (items:=t.toArray) ⟨_,L,rfl,_,rfl⟩ (x:=u) (by simpa using Y) D λR a1 a2 a3 a4 B=>?_;refine⟨_,rfl,wpAny_letOwnedTupleGo_enum a1 λZ F f=>?_⟩;have eT:s.heap.objs.size≠e:=U4 (er d);refine⟨.ref s.heap.objs.size,upd H s.heap.objs.size (.tup [.int i,x]),?_,rfl,⟨_,N,x,I.hok.fresh (bU _),p,O,rfl,rfl⟩,?_,λb a=>?_⟩
  .refine I.Gr (t':=s.toks + 1) (ch:=[e,it]) (u:=.int i s.toks) (v:=u) m (bU _) (λb o a q=>?_) ⟨_,f.extBut _ _ eT a3,rfl,_,rfl⟩ ⟨_,rfl⟩ U;simp -iota only[cS,lz,or_false,not_or] at a;exact f.extBut b o a.1 (B b o a.1 a.2 q)
  .exact⟨⟨_,by simpa using F⟩,a2.extBut f.extBut (lj D)⟩
  .rw[ao]
   .exact W b a
   .have A:∃ o,s.heap.get? b=some o:=by
     obtain⟨V,M,_⟩:=g;simp -iota only[cS,lz,or_false] at a;rcases a with rfl | rfl
     .exact⟨_,d⟩
     .exact⟨_,M⟩
    obtain⟨o,q⟩:=A;exact hY (er q)
 done:=by
  intro X G y J Q i j s S H E I m st C;subst G y J;obtain⟨N,p,hl⟩:=C;obtain⟨⟨c,d⟩,g⟩:=st;obtain⟨t,na,r,L,_⟩:=I.lst p;have la:=r.length;exact wpAny_pyNext_enum_end (I.ok.hd Q) d g (items:=t.toArray) ⟨_,L,rfl,_,rfl⟩ (by simp;lia) λR B=>⟨rfl,I.moved (t':=s.toks) (ch:=[it]) (λb a=>m b (by simp -iota at a ⊢;simp -iota [a])) λb o a q=>B b o (λz=>a (by simp -iota [z])) q⟩
 self:=λ_ _ _ _ _ st h=>by obtain⟨⟨c,d⟩,_⟩:=st;exact Tn d h
def Iy (ta:TA):TI:=λσ H R=>ta σ H λvs H1=>∃ (p:Addr) (xs:List V),vs=[.ref p]/\H1 p=some (.lst xs)/\R (Ite p) H1
theorem Gi{a:Expr}{ta:TA}{kt:Nat}{n p:Pos}(z:Gl X "enumerate")(w:X.mg "enumerate"=none)(A:PA X [a] ta)(hs:autoParam (ed [a] X.env=[(false,eval a X.env)]) wE) :
  PI X (.Tuple es kt n) (.Call (.Name "enumerate" p) [a] [] pos) (Iy ta):=by
 intro c s i H R I h;refine Call_ (ff I z w (by decide +kernel:mP "enumerate"=some (.type "enumerate")) (jl (thn (A pos c s i H _ I h) λJ g Z=>?_) hs rfl));obtain⟨G,m,f,r,t⟩:=Z;obtain⟨l,F,e,B,q⟩:=t;subst e;obtain⟨u,rfl,o⟩:=vals1 r;cases o;obtain⟨L,na,K,D,_⟩:=f.lst B;refine call_enumerate_1 D λC j y v x=>Tn j ?_;have E:Inv X c i m { g with heap:=C }:=f.kept (t':=g.toks) x;refine⟨_,_,_,_,m,rfl,E,Bn _ _ l (Nat.succ_ne_self _),⟨⟨_,by simpa using j⟩,y⟩,λb k=>?_,q⟩;have d:g.heap.objs.size<=b:=by
  simp -iota only[cS,lz,or_false] at k;rcases k with rfl | rfl <;> lia
 exact f.qX d (f.hok.fresh d)
noncomputable def qe (xs:List V)(lo a st:Option Int):List V:=
 (RF (lh lo a st xs.length).1 (lh lo a st xs.length).2.1 (lh lo a st xs.length).2.2).filterMap (xs[·]?)
theorem Vals.places:∀ {xs:List V} {us:Lv0},Vals xs us->∀ a:List Nat,Vals (a.filterMap (xs[·]?)) (a.filterMap (us[·]?))
 | _,_,_,[]=>.nil
 | xs,us,h,j::a=>by
  have c:=Vals.places h a;cases b:xs[j]? with
  | some x=>
   obtain⟨u,e,r⟩:=h.get b;simp only[lI,b,e];exact .cons r c
  | none=>
   have d:=h.none_of b;simp only[lI,b,d];exact c
def LB (K:Fg0)(te:TE)(tl c ts:TO):TE:=λσ H Q=>te σ H λx H1=>tl σ H1 λl H2=>c σ H2 λu d=>ts σ d λk b=>k≠some 0/\∃ a xs,x=.ref a/\SqL K b a xs/\∀ p,b p=none->Q (.ref p) (upd b p (.lst (qe xs l u k)))
theorem BH{e:Expr}{st:Expr}{tl w ts:TO}{p2:Pos}(S:PE X e te)(R:PO X lo tl)(P:PO X hi w)(hs:PO X (some st) ts):PE X (.Subscript e (.Slice lo hi (some st) p2) pos) (LB X.K te tl w ts):=by
 intro c s g H Q I h;refine SW (thn (S c s g H _ I h) λv C Z=>?_);obtain⟨x,H1,Y,D,J⟩:=Z;refine T7 (thn (R c C g H1 _ Y J) λp B ⟨l,H2,W,L,G⟩=>thn (P c B g H2 _ W G) λvu A ⟨u,H3,V,K,F⟩=>thn (hs c A g H3 _ V F) λt f Z=>?_);obtain⟨k,H4,U,pk,E⟩:=Z;obtain⟨N,a,i,rfl,O,q⟩:=E;cases D;have n:Inv X c g H4 { f with heap:=f.heap.push { cls:=.type "slice",data:=.fields #[p,vu,t] } }:=U.kept (t':=f.toks) λb M q=>bh _ q;obtain⟨d,r,z,hz⟩:=n.list O;have j:=r.length;show wpAny (model X.prog X.w) X.A (Q6 e (.Slice lo hi (some st) p2) (.ref a) (.ref f.heap.objs.size)) (EP X c g Q) X.xe { f with heap:=f.heap.push { cls:=.type "slice",data:=.fields #[p,vu,t] } };refine tail_any (ops:=[.ref a,.ref f.heap.objs.size]) z.isList.typeIs QU.lookup (Q7 z.isList (Qt ..) L K pk N ?_ (by rw[eH] <;> lia)) (by with_unfolding_all rfl);refine⟨.ref _,_,n.laid (t':=f.toks) (o:=.lst (qe i l u k)) (λb M q=>bh _ q) (bU _) ?_,rfl,q _ (n.hok.fresh (bU _))⟩;have y:Vals (qe i l u k) (Sx d.toArray l u k).toList:=by
  have e:(Sx d.toArray l u k).toList=(RF (lh l u k i.length).1 (lh l u k i.length).2.1 (lh l u k i.length).2.2).filterMap (d[·]?):=by
   simp -iota [Sx,j]
  rw[e];exact r.places _
 have m:=slicePick_size_le d.toArray l u k;have T:=y.length;simp -iota only[dy,eH] at T m;exact⟨by lia,_,0,y,ey _ rfl⟩
section
variable {s:Shared}
theorem Eu{I S:Addr}{res:Value}(J:Nat->Lv0->Shared->Prop)(j:n < sizeLine)(d:∀ i acc s,J i acc s->acc.length=i)(item:∀ i acc s E,i < n->J i acc s->wpAny (model prog w) A.in1 (pyNext (.ref I)) (λr s'=>∃ v c,r=some v/\s'.heap.get? S=some (c9 acc c)/\∀ h',ov S s'.heap h'->h'.get? S=some (c9 (acc++[v]) (c + 1))->J (i + 1) (acc++[v]) { s' with heap:=h' }) E s)(done:∀ acc s E,J n acc s->wpAny (model prog w) A.in1 (pyNext (.ref I)) (λr s'=>r=none/\R (.ok (.ret res)) s') E s) :
  ∀ (k i:Nat) (acc:Lv0) (s:Shared),n - i=k->i<=n->J i acc s->qG (model prog w) A (.builtin "list.extend.loop" ⟨[.ref S,.ref I,res],[]⟩) R s:=by
 intro k
 induction k with
 | zero=>
  intro i acc s a b hJ;obtain rfl:i=n:=by lia
  refine sH SC ?_;rw[ry NX _];show wpAny _ A.in1 (pyNext (.ref I) >>= λr=>_) _ _ s;refine aI (thn (done acc s _ hJ) λr s' Z=>?_);obtain⟨e,q⟩:=Z;subst e;exact aP q
 | succ k h=>
  intro i acc s a b hJ;refine sH SC ?_;rw[ry NX _];show wpAny _ A.in1 (pyNext (.ref I) >>= λr=>_) _ _ s;refine aI (thn (item i acc s _ (by exact WF 0x2f07a33e20e49bf8 a (V3 (WF 6550533726 b))) hJ) λr s' Z=>?_);obtain⟨v,c,e,f,q⟩:=Z;subst e;have l:=d i acc s hJ;show wpAny _ A.in1 (UY S (·.push v) >>= λr=>_) _ _ _;have g:mO (·.push v) (c9 acc c)=c9 (acc++[v]) (c + 1):=by
   show mO (·.push v) { cls:=.type "list",dict:=none,data:=.seq acc.toArray c,slots:=#[] }=_;rw[mapSeq_push,List.push_toArray]
  refine aI (Qd f rfl (aP ⟨Q8 NX _,h (i + 1) (acc++[v]) _ (by exact ly (WF 0x4f4118ae70e5d2fdbb99225 a V1 (V3 (WF 0x4c8cd80d218a49bf8 a (V3 (WF 6550533726 b))))) (WF 0x4edcf9bed901a1ff3130325 a V1 (V3 (WF 6550533726 b)))) (by exact WF 0x4c8cd80d218a49bf8 a (V3 (WF 6550533726 b))) (q _ (zl ..) ?_)⟩) (by rw[eH];lia) (by show (acc.toArray.push v).size<=sizeLine + 1;rw[Array.size_push,eH];exact WF 0x80e1efe2bc24c2f678 j b l));rw[uQ _ f (by rw[g];rfl),g]
end
section
variable {pins:Pn}{s:Shared}
theorem Inv.adopt{S:Addr}{c:Nat}(I:Inv X pins σ H s)(f:iB X pins H S)(t:s.heap.get? S=some (c9 us c))(r:Vals xs us)(hz:xs.length<=sizeLine):Inv X pins σ (upd H S (.lst xs)) s:=by
 have a:∀ {b:Addr} {u:HO},H b=some u->b≠S:=λe z=>by rw[z,f.1] at e;cases e
 refine⟨I.ok,I.os,I.bare,⟨I.base.keep,I.base.slot,λb o e n h=>?_,I.base.there,λb g e=>?_,λb o u e=>?_,λb k e=>?_⟩,I.loc,I.cell,?_,λx d e=>?_,λp i=>?_,λb u e=>?_,I.len⟩
 .have l:b≠S:=λz=>by
   rcases f.2.2.2.1 with q | q
   .exact h (by rw[z];exact q)
   .exact absurd (fC (er e) (by rw[z];exact q)) (ky _)
  rw[ao l];exact I.base.free b o e n h
 .have q:=I.base.tups b g e;rw[ao (a q)];exact q
 .have q:=I.base.frzs b o u e;rw[ao (a q)];exact q
 .obtain⟨m,q⟩:=I.base.tbls b k e;exact⟨m,by rw[ao (a q)];exact q⟩
 .rw[ao (lj f.2.1)];exact I.free
 .rw[ao (f.2.2.2.2.1 x d e)];exact I.freeC x d e
 .obtain⟨y,w,v⟩:=I.pin p i;exact⟨y,by rw[ao (f.2.2.2.2.2 p i)];exact w,v⟩
 .by_cases j:b=S
  .subst j;rw[aC] at e;cases e;exact⟨hz,us,c,r,t⟩
  .rw[ao j] at e;exact(I.hok b u e).w9 (λ_ _ _ q=>q) (λd q=>by rw[ao (a q)];exact q) (λd g q=>by rw[ao (a q)];exact q) λd o A q=>by rw[ao (a q)];exact q
theorem iB.heap{b:Addr}(f:iB X pins H b)(h:H' b=none):iB X pins H' b:=⟨h,f.2⟩
end
section
variable {p:Pos}
structure Mk0 (K:Fg0) (C:Addr):Prop where
 makes:qx K C=true
 init:hE K (.ref C) "__init__"=some (some (.builtin "object.__init__"))
 kp:lF K (.ref C)=true
def Aa (C:Addr):TE:=λ_ H Q=>∀ x dx,H x=none->H dx=none->dx≠x->Q (.ref x) (upd (upd H dx (.own x)) x (.ins C dx []))
theorem BI(M:Mk0 X.K C)(k:Gl X x)(j:X.mg x=some (.ref C))(c:autoParam ((x == ("__debug__":Str))=false) wP):PE X (.Call (.Name x p) [] [] pos) (Aa C):=by
 intro d s n H Q I h;refine oi (nZ I k j ?_ c);refine Qf I.kIn M.kp (SS ?_);have i:=h (s.heap.objs.size + 1) s.heap.objs.size (I.hok.fresh (KB _)) (I.hok.fresh (bU _)) (hY (ox _));have m:=Inv.made (C:=C) I;have Y:=Rj (M:=model X.prog X.w) I.kIn M.makes;refine BW I.kIn M.makes M.init (λa=>Ve (PySem.W.oi_bind a)) ?_;have l:((s.heap.push km).push (lx C s.heap.objs.size)).get? (s.heap.objs.size + 1)=some (lx C s.heap.objs.size):=by
  have:=ey (s.heap.push km) (o:=lx C s.heap.objs.size) rfl
  rwa [mG] at this
 have g:SG (model X.prog X.w) ((s.heap.push km).push (lx C s.heap.objs.size)) (typeOf (.ref (s.heap.objs.size + 1))) (.ref C):=(Vs l).andThen .now;have f:SG (model X.prog X.w) ((s.heap.push km).push (lx C s.heap.objs.size)) (isInstance (.ref (s.heap.objs.size + 1)) (.type "object")) true:=g.andThen (Y.top.keeps λb o e=>bh _ (bh _ e));refine Qa PySem.W.oi_plain PySem.W.entry_oi (@PySem.W.check_slot (model X.prog X.w) _ _ _ "object.__init__" "object" "__init__" (.ref (s.heap.objs.size + 1)) [] [] _ PySem.W.oi_kind PySem.W.oi_split f (PySem.W.oi_args (.ref (s.heap.objs.size + 1))) ?_);rw[PySem.W.oi_run];exact aP (And.intro rfl ⟨V.ref (s.heap.objs.size + 1),_,m,rfl,i⟩)
end
theorem AV {a b:Type}{f:a->Option b}{g:a->b}:∀ {l:List a},(∀ k∈l,f k=some (g k))->l.filterMap f=l.map g
 | [],_=>rfl
 | k::l,h=>by
  rw[lI,h k hG,fO,AV λj c=>h j (eh _ c)]
theorem OJ(ns:Li0)(h:k < ns.length):(ns.map V.int)[k]?=some (V.int (ns.getD k 0)):=by
 rw[ba,dq,gE0 h]
 rfl
theorem L9(ns:Li0):qe (ns.map V.int) (some 0) none (some 2)=(cj ((ns.length + 1) / 2)).map λk=>V.int (ns.getD (2 * k) 0):=by
 have e:lh (some 0) none (some 2) (ns.map V.int).length=(0,(ns.length:Int),2):=by
  simp [lh];rfl
 delta qe;rw[e];have c:RF 0 (ns.length:Int) 2=(cj ((ns.length + 1) / 2)).map λk=>2 * k:=by
  delta RF;have b:(if (2:Int) > 0 then (if (0:Int) < (ns.length:Int) then ((ns.length:Int) - 0 + 2 - 1) / 2 else 0) else (if (0:Int) > (ns.length:Int) then (0 - (ns.length:Int) - 2 - 1) / (-2) else 0)).toNat=(ns.length + 1) / 2:=by
   rw[if_pos (by decide)];split <;> lia
  simp -iota only[b];refine jx λk _=>?_;lia
 simp -iota only[c,SU];refine AV λk a=>?_;have:=iU.mp a;exact OJ ns (show 2 * k < ns.length by exact WF 0x1b881e9f85fd4d796110b this (ea _ _))
noncomputable def HF (lo c:Int)(n:Nat):It:=⟨λi _=>i < n,λi H x H'=>H'=H/\x=.int (lo + i * c),λi _=>n<=i⟩
theorem qa(it:Addr)(lo c:Int)(n:Nat):Turn P w K tg (HF lo c n) [it] it (λi h=>QR h it (lo + (i:Nat) * c) ((n:Int) - (i:Nat)) c) where
 mem:=by simp
 obj:=λi h st b d=>by
  obtain rfl:b=it:=by simpa using d
  exact⟨_,st,λv z=>by cases (show Vh _=Data.cell v from z)⟩
 keep:=λi h j st k=>k it (by simp) _ st
 item:=by
  intro X q l r p i a s B H E I g st m;subst q l r;obtain⟨f0,A,J,y,x,u⟩:=g it (by simp);refine(Vi (prog:=X.prog) (w:=X.w) (I.ok.hd p) it lo c n).item i s _ _ m st λv j C F f D=>?_;obtain⟨t,rfl⟩:=F;have M:Inv X a B H { s with heap:=j,toks:=C }:=I.turned (λb o d e=>D b o (by simpa using d) e) f0 A y x u;exact⟨_,rfl,AS (s:={ s with heap:=j,toks:=C }) (n:="range_iterator") f rfl rfl (by decide) ⟨.int (lo + i * c),H,M,⟨t,rfl⟩,⟨rfl,rfl⟩,f,λb d=>(g b d).1⟩⟩
 done:=by
  intro X q l r p i a s B H E I g st m;subst q l r;obtain⟨f0,A,J,y,x,u⟩:=g it (by simp);have G:n<=i:=m;exact RC (I.ok.hd p) st (by lia) λj L=>⟨rfl,I.turned (t':=s.toks) (λb o d e=>L b o d e) f0 A y x u⟩
 self:=λ_ _ _ _ _ st h=>Fn st h
noncomputable def sgn (c:Nat):Str:=⟨#[c]⟩
noncomputable def Its (x:Str):It:=⟨λi _=>i < x.cps.size,λi H v H'=>H'=H/\∃ c,x.cps[i]?=some c/\v=.str (sgn c),λi _=>x.cps.size<=i⟩
theorem CF(it:Addr)(x:Str)(t:Tok):Turn P w K tg (Its x) [it] it (λi h=>h.IsStrIter it "str_ascii_iterator" x t i) where
 mem:=by simp
 obj:=λi h st b g=>by
  obtain rfl:b=it:=by simpa using g
  obtain⟨o,e,c,d⟩:=st;exact⟨o,e,λv z=>by rw[d] at z;cases z⟩
 keep:=λi h m st k=>let ⟨o,e,r⟩:=st;⟨o,k it (by simp) o e,r⟩
 item:=by
  intro X q n u F i f s D H E I l st p;subst q n u;obtain⟨f0,C,J,B,A,y⟩:=l it (by simp);have a:i < x.cps.size:=p;refine wpAny_pyNext_ascii_item st (c:=x.cps[i]) (by simp -iota [a]) λm j G=>?_;have M:Inv X f D H { s with heap:=m,toks:=s.toks + 1 }:=I.turned (λb o g e=>(G.2 b g).trans e) f0 C B A y;obtain⟨o,e,c,d⟩:=id j;exact⟨_,rfl,AS (s:={ s with heap:=m,toks:=s.toks + 1 }) e c d (by decide) ⟨.str (sgn x.cps[i]),H,M,⟨_,rfl⟩,⟨rfl,_,by simp -iota [a],rfl⟩,j,λb g=>(l b g).1⟩⟩
 done:=by
  intro X q n u F i f s D H E I l st p;subst q n u;obtain⟨f0,C,J,B,A,y⟩:=l it (by simp);have a:x.cps.size<=i:=p;exact wpAny_pyNext_ascii_end (I.ok.hd F) st (by simpa using a) λm L=>⟨rfl,I.turned (t':=s.toks) (λb o g e=>L b o g e) f0 C B A y⟩
 self:=λ_ _ _ _ _ st h=>wpAny_pyIter_striter_ascii st h
def MW (tl:TE):TI:=λσ H R=>tl σ H λx H1=>∃ z,x=.str z/\z.cps.all (· < 128)=true/\R (Its z) H1
theorem JE{l:Expr}{tl:TE}(j:PE X l tl):PI X tg l (MW tl):=by
 intro a s f H R I h;refine thn (j a s f H _ I h) λv c Z=>?_;obtain⟨x,n,d,g,i⟩:=Z;obtain⟨z,rfl,m,q⟩:=i;obtain⟨t,rfl⟩:=g;refine wpAny_pyIter_ascii m ?_;refine⟨c.heap.objs.size,[c.heap.objs.size],_,_,n,rfl,d.kept (t':=c.toks) λb o e=>bh _ e,CF _ z t,⟨_,ey _ rfl,rfl,rfl⟩,λb k=>?_,q⟩;obtain rfl:b=c.heap.objs.size:=by simpa using k
 exact d.qX (bU _) (d.hok.fresh (bU _))
def Dl:R2:=λx y H Q=>∃ z n,x=.str z/\y=.int n/\(n=0\/n=1)/\z.length<=sizeLine/\Q (.str (if n=0 then rb else z)) H
theorem Gx:OpR X (uU .Mult) Dl:=by
 intro a s e H x y v u Q I c b h;obtain⟨z,n,rfl,rfl,d,g,q⟩:=h;obtain⟨t,rfl⟩:=c;obtain⟨f,rfl⟩:=b;rcases d with rfl | rfl
 .refine PySem.P.mul_str_none (by decide) (by decide) ⟨.str rb,H,I.tok _,⟨_,rfl⟩,by simpa using q⟩
 .refine PySem.P.mul_str (by decide) (λ_ h=>absurd h (by simp)) (λ_ h=>absurd h (by simp)) ?_;rw[if_neg (by decide),if_pos (by simp)];exact⟨.str z,H,I,⟨_,rfl⟩,by simpa using q⟩
structure TyS (K:Fg0):Prop where
 bs:bL K (.type "bool") (.type "str")=some false
 is:bL K (.type "int") (.type "str")=some false
 ns:bL K (.type "NoneType") (.type "str")=some false
 ss:bL K (.type "str") (.type "str")=some true
 ls:bL K (.type "list") (.type "str")=some false
 ts:bL K (.type "tuple") (.type "str")=some false
 ds:bL K (.type "dict") (.type "str")=some false
noncomputable def isS:V->Bool
 | .str _=>true
 | _=>false
theorem ER(F:TyS X.K):dG X (.builtin "isinstance") (λxs H Q=>∃ x,xs=[x,.ty "str"]/\Kn H x/\Q (.bl (isS x)) H):=by
 intro a s c H xs d Q I r h;obtain⟨x,rfl,k,q⟩:=h;cases k with
 | non=>exact av I r .non F.ns rfl q
 | bl b=>exact av I r (.bl b) F.bs rfl q
 | int i=>exact av I r (.int i) F.is rfl q
 | str y=>exact av I r (.str y) F.ss rfl q
 | lst e=>exact av I r (.lst e) F.ls rfl q
 | tup e=>exact av I r (.tup e) F.ts rfl q
 | dK e=>exact av I r (.dK e) F.ds rfl q
section
variable {s:Shared}
noncomputable abbrev Am (n:Int):Obj:={ cls:=.type "range_iterator",data:=.fields #[rawInt (n - 1),rawInt n,rawInt (-1)] }
theorem LO{n:Int}(h:0<=n):Ph 0 n 1=n:=by
 delta Ph;rw[if_pos (by decide),U5];split <;> lia
theorem md{r:Addr}{n:Int}{t u v:Tok}{Q:VS}(b:IsRange s.heap r 0 n 1 t u v)(d:0<=n)(g:n < 2 ^ 62)(h:Q (.ref s.heap.objs.size) { s with heap:=s.heap.push (Am n) }):wpAny (model prog w) A (call (.builtin "range.__reversed__") [.ref r]) Q E s:=by
 have c:s.TypeIs (.ref r) "range":=⟨_,b,rfl⟩;have f:(lG 0 && lG n && lG 1 && lG (-1) && lG (0 - 1) && lG n)=true:=by
  simp -iota only[lG,kn,decide_eq_true_eq];lia
 refine oy PJ c F.entry_range_reversed ?_ (F.args_range_reversed_1 _);delta zq.«range.__reversed__»;refine aI (qz (a:=ou r) rfl ?_);refine aI ?_;delta UL;refine aI (DM b rfl (x:=.int 0 t) rfl ?_);refine aI (qz (a:=some (0:Int)) rfl ?_);refine aI (DM b rfl (x:=.int n u) rfl ?_);refine aI (qz (a:=some n) rfl ?_);refine aI (DM b rfl (x:=.int 1 v) rfl ?_);refine aI (qz (a:=some (1:Int)) rfl ?_);refine aP ?_;dsimp only;rw[LO d,f];simp -iota only[oM,fi,if_false,if_true];have e:(0:Int) + (n - 1) * 1=n - 1:=by lia
 rw[e]
 first
 | exact aI (mz (aP ⟨_,rfl,h⟩))
 | exact aI (aP (aI (mz (aP ⟨_,rfl,h⟩))))
theorem qN:isSubtype (.type "range_iterator") (.type "reversed")=pure false:=by rw[isSubtype_type];kernel_rfl
theorem ma{r:Addr}{n:Int}{t u v:Tok}{Q₁:VS}(c:IsRange s.heap r 0 n 1 t u v)(f:0<=n)(e:n < 2 ^ 62)(h:Q₁ (.ref s.heap.objs.size) { s with heap:=s.heap.push (Am n) }) :
  qG (model prog w) A (.call (.builtin "reversed.__new__") ⟨[.type "reversed",.ref r],[]⟩) (wants Q₁ E) s:=by
 have d:s.TypeIs (.ref r) "range":=⟨_,c,rfl⟩;refine RU ?_;show wpAny _ A.in1 (checkBuiltinCall "reversed.__new__" ⟨[.type "reversed",.ref r],[]⟩ >>= λ_=>again (.builtin "reversed.__new__" ⟨[.type "reversed",.ref r],[]⟩)) _ _ s;refine aI (qz (F.newCall_reversed_1 _) (aP ⟨Q8 Si _,sH F.entry_reversed_new ?_⟩));rw[ry Si _];delta zq.«reversed.__new__»;refine aI (qz (newClass_reversed _) ?_)
 try dsimp only
 refine aI (qz (a:=()) (by first | rfl | kernel_rfl) ?_);refine aI (qz (a:=()) (by first | rfl | kernel_rfl) ?_)
 try dsimp only
 refine aI (OE d PJ.lookup ?_)
 try dsimp only
 refine aI (qz (PJ.bind _) ?_)
 try dsimp only
 have b:¬ ((UO "range.__reversed__" == xb)=true):=js
 first
 | rw[if_neg b]
 | (show wpAny _ _ (if (UO "range.__reversed__" == xb)=true then _ else _) _ _ _;rw[if_neg b])
 refine aI (PN ?_);refine aI (m:=runValue (.call (.builtin "range.__reversed__") ⟨[.ref r],[]⟩)) (show wpAny _ _ (call (.builtin "range.__reversed__") [.ref r]) _ _ _ from md c f e ?_)
 first
 | exact aP h
 | exact aI (aP (aP h))
theorem gx{r:Addr}{n:Int}{t u v:Tok}{Q:VS}(c:IsRange s.heap r 0 n 1 t u v)(e:0<=n)(d:n < 2 ^ 62)(h:Q (.ref s.heap.objs.size) { s with heap:=s.heap.push (Am n) }):wpAny (model prog w) A (call (.type "reversed") [.ref r]) Q E s:=by
 refine callType_other (U:="range_iterator") (Q₁:=λb a=>b=.ref s.heap.objs.size/\a={ s with heap:=s.heap.push (Am n) }) (by decide +kernel) F.create_reversed ⟨_,_,F.mro_reversed⟩ F.made_reversed qN (F.typeCall_reversed_1 _) (ma c e d ⟨rfl,rfl⟩) ?_;rintro b a ⟨rfl,rfl⟩;exact⟨⟨_,ey _ rfl,rfl⟩,h⟩
end
def MZ (ta:TA):TI:=λσ H R=>ta σ H λvs H1=>∃ j:Int,vs=[.int j]/\0<=j/\j < 2 ^ 62/\R (HF (j - 1) (-1) j.toNat) H1
theorem JF{a:Expr}{ta:TA}{p F c:Pos}(m:Gl X "reversed")(l:X.mg "reversed"=none)(K:Gl X "range")(J:X.mg "range"=none)(M:PA X [a] ta)(hs:autoParam (ed [a] X.env=[(false,eval a X.env)]) wE)(g:autoParam (ed [.Call (.Name "range" p) [a] [] pos] X.env=[(false,eval (.Call (.Name "range" p) [a] [] pos) X.env)]) wE) :
  PI X tg (.Call (.Name "reversed" F) [.Call (.Name "range" p) [a] [] pos] [] c) (MZ ta):=by
 intro f s r H R I h;refine Call_ (ff I m l (by decide +kernel:mP "reversed"=some (.type "reversed")) (jl ?_ g rfl));rw[g];have k:∀ (q:Sem Value) (Q:Lv0->Shared->Prop) (s:Shared),wpAny (model X.prog X.w) X.A q (λv w=>Q [v] w) X.xe s->wpAny (model X.prog X.w) X.A (spliced (backTo c [(false,q)])) Q X.xe s:=λq Q s G=>by
  show wpAny _ _ (spliced ((false,q)::backTo c [])) _ _ s;exact Fv (thn G λv w z=>IV z)
 refine k _ _ _ ?_;refine Call_ (ff I K J SR (jl (thn (M pos f s r H _ I h) λS d Z=>?_) hs rfl));obtain⟨P,y,O,B,D⟩:=Z;obtain⟨j,e,E,C,q⟩:=D;subst e;obtain⟨u,rfl,A⟩:=vals1 B;obtain⟨t,rfl⟩:=A;refine call_range_1 ?_;have n:Inv X f r y { d with heap:=d.heap.push { cls:=.type "range",data:=.fields #[.int 0 d.toks,.int j t,.int 1 (d.toks + 1)] },toks:=d.toks + 1 + 1 }:=O.kept λb o e=>bh _ e;refine gx (T6 ..) E C ?_;refine Fn (x:=j - 1) (left:=j) (step:=-1) (ey _ rfl) ?_;refine⟨_,_,_,_,y,rfl,n.kept (t':=d.toks + 1 + 1) λb o e=>bh _ e,qa _ (j - 1) (-1) j.toNat,?_,λb L=>?_,q⟩
 .show QR _ _ (j - 1 + ((0:Nat):Int) * (-1)) (((j.toNat:Nat):Int) - ((0:Nat):Int)) (-1);rw[show j - 1 + ((0:Nat):Int) * (-1)=j - 1 by simp,show ((j.toNat:Nat):Int) - ((0:Nat):Int)=j by simp;lia];exact ey _ rfl
 .have N:b=d.heap.objs.size + 1:=by simpa using L
  have i:(d.heap.push { cls:=.type "range",data:=.fields #[.int 0 d.toks,.int j t,.int 1 (d.toks + 1)] }).objs.size<=b:=by rw[mG,N];exact bU _
  exact n.qX i (n.hok.fresh i)
open PySem PySem.Spec PyProof.Rows PySem.W
open Builtin Builtin.ObjectAttr
open PySem PySem.Spec PyProof.Rows
noncomputable def vv:V->Value
 | .ref a=>.ref a
 | .ty n=>.type n
 | _=>.none
noncomputable abbrev cE (b:Bool)(elt:Expr)(a:List mJ)(c:Scope)(pos:Pos):Expr:=match b with
 | false=>.ListComp elt a c pos
 | true=>.SetComp elt a c pos
theorem ED{b:Bool}{a:List mJ}{d:Nat}:(model prog w).den (.compLoop (cE b elt a sc pos) d it acc env)=(Qv (cE b elt a sc pos) d it acc env).onRaise (λx=>do noteFrame x env;theTreesLotGoes x):=by cases b <;> rfl
theorem CC{b:Bool}{a:List mJ}{d:Nat}:A.under (.compLoop (cE b elt a sc pos) d it acc env)=A:=by cases b <;> rfl
structure Acc {α:Type} (RO:List α->Obj->Prop) (Y:Cx) (D:Addr) (pl:Pn) (ys:List α) (σ:St) (H:Hp) (s:Shared):Prop where
 us:∃ o,Inv Y ((D,o)::pl) σ H s/\RO ys o
 exD:D∈Y.ex
 nd:∀ p∈Y.pn++pl,p.1≠D
noncomputable abbrev TBg (a:Type):=List a->St->Hp->(List a->St->Hp->Prop)->Prop
abbrev TB:=TBg V
def RL (ys:List V)(o:Obj):Prop:=∃ us,o=c9 us us.length/\Vals ys us
def PB {b:Type}(RO:List b->Obj->Prop)(Y:Cx)(D:Addr)(m:Sem Fin->Sem Fin)(t:TBg b):Prop:=
 ∀ (k:Sem Fin) (c:Pn) (s:Shared) (ys:List b) (σ:St) (H:Hp) (Q:List b->St->Hp->Prop) (R:Fin->Shared->Prop),Acc RO Y D c ys σ H s->t ys σ H Q->
  (∀ a σ' H' s',Acc RO Y D c a σ' H' s'->Q a σ' H'->wpAny (model Y.prog Y.w) Y.A k R (λ_ _=>False) s')->wpAny (model Y.prog Y.w) Y.A (m k) R (λ_ _=>False) s
section
variable {Y:Cx}{D:Addr}{α:Type}{RO:List α->Obj->Prop}
def kv (te:TE):TB:=λys σ H Q=>ys.length < sizeLine/\te σ H λy H'=>Q (ys++[y]) σ H'
noncomputable abbrev qC (elt:Expr)(D:Addr)(a:Env)(k:Sem Fin):Sem Fin:=(eval elt a >>= λx=>call (.builtin "list.append") [.ref D,x] >>= λ_=>pure ()) >>= λ_=>k
theorem Acc.pins{pl:Pn}{ys:List α}{b:St}{s s':Shared}{o:Obj}(a:Acc RO Y D pl ys σ H s)(I:Inv Y ((D,o)::pl) b H' s')(r:RO ys o):Acc RO Y D pl ys b H' s':=⟨⟨o,I,r⟩,a.exD,a.nd⟩
theorem nK(K:Y.xe=λ_ _=>False)(M:PE Y elt te):PB RL Y D (qC elt D Y.env) (kv te):=by
 intro k u s r h H Q R a ⟨J,q⟩ L;obtain⟨_,I,d,rfl,t⟩:=a.us;have g:=M _ s h H _ I q;rw[K] at g;refine aI (aI (thn g λy s7 ⟨C,n,i,E,F⟩=>aI ?_));obtain⟨pD,w,pL,G,P⟩:=i.pin (D,c9 d d.length) (el _ hG);have f:d.length=r.length:=t.length.symm;refine append_at (hsz:=by rw[eH,f];exact fq J) pD λA j l=>aP ?_;have m:Inv Y u h n s7:=i.jV λp z=>i.pin p (el _ (eh _ z));have B:Inv Y u h n { s7 with heap:=A }:=m.turned (t':=s7.toks) (it:=D) (λb o N e=>(j.2 b N).trans e) w pL (.inl a.exD) (λx c e=>(i.ok.exf D a.exD).2 x c e) a.nd;have O:A.get? D=some (c9 (d++[y]) (d++[y]).length):=by
  rw[l];simp
 refine L (r++[C]) h n _ ⟨⟨_,B.jV λp z=>?_,d++[y],rfl,t.append (.cons E .nil)⟩,a.exD,a.nd⟩ F;rcases cS.mp z with e | z
 .subst e;exact⟨O,w,pL,G,λv z=>by cases z⟩
 .exact B.pin p (el _ z)
noncomputable def bIf (a:TT)(t:TBg α):TBg α:=λys σ H Q=>a σ H λb H'=>if b=true then t ys σ H' Q else Q ys σ H'
noncomputable abbrev ifK (c:Expr)(a:Env)(m:Sem Fin->Sem Fin)(k:Sem Fin):Sem Fin:=(forIn [c] true λc r=>if r=true then do let ok <- isTrue c a (eval c a);pure (uT ok) else pure (uT r)) >>= λok=>if ok=true then m k else k
theorem Md{c:Expr}{g:TT}{m:Sem Fin->Sem Fin}{t:TBg α}(r:Y.xe=λ_ _=>False)(v:PT Y c g)(u:PB RO Y D m t):PB RO Y D (ifK c Y.env m) (bIf g t):=by
 intro k p s f e H Q R a q l;obtain⟨w,I,i⟩:=a.us;have d:=v _ s e H _ I q;rw[r] at d;refine aI (wpAny_tests_one (thn d λb h Z=>?_));obtain⟨o,n,j⟩:=Z;cases b with
 | true=>exact u k p h f e o Q R (a.pins n i) (by simpa using j) l
 | false=>exact l f e o h (a.pins n i) (by simpa using j)
noncomputable def qJ (J:It)(g:TG)(t:TBg α):TBg α:=λys σ H Q=>∃ W:Nat->Nat->List α->St->Hp->Prop,(∃ m,W 0 m ys σ H)/\∀ i m ys σ H,W i m ys σ H->
 (J.stop i H/\Q ys σ H)\/(J.go i H/\∀ x H',J.yld i H x H'->g x σ H' λa H2=>t ys a H2 λb σ' c=>∃ d,d < m/\W (i + 1) d b σ' c)
theorem Il{b:Bool}{w:List mJ}{d:Nat}{it:Addr}{m:Sem Fin->Sem Fin}{t:TBg α}(hx:Y.xe=λ_ _=>False)(hc:Y.calm=true)(T:Turn Y.prog Y.w Y.K tg J fp it tn)(hg:PG Y tg g)(hm:PB RO Y D m t)(I:Qv (cE b elt w sc pos) d (.ref it) (.ref D) Y.env=(ru p0 >>= λ_=>pyNext (.ref it) >>= λr=>match r with
   | none=>pure (.done .next)
   | some v=>oG tg (.ref it) v >>= λ_=>assign tg Y.env v >>= λ_=>m (again (.compLoop (cE b elt w sc pos) d (.ref it) (.ref D) Y.env)))){pl:Pn}{ys:List α}{s:Shared}{Q:List α->St->Hp->Prop}(a:Acc RO Y D pl ys σ H s)(st:tn 0 s.heap)(f:∀ b∈fp,iB Y pl H b/\D≠b)(q:qJ J g t ys σ H Q)(hR:∀ j σ' H' s',Acc RO Y D pl j σ' H' s'->Q j σ' H'->R (.ok .next) s'):qG (model Y.prog Y.w) Y.A (.compLoop (cE b elt w sc pos) d (.ref it) (.ref D) Y.env) R s:=by
 obtain⟨W,⟨m0,w0⟩,N⟩:=q;have k:∀ {H':Hp} {o:Obj},(∀ b∈fp,H' b=none)->∀ b∈fp,iB Y ((D,o)::pl) H' b:=λhn b B=>by
  obtain⟨⟨_,f1,f2,f3,f4,f5⟩,f6⟩:=f b B;refine⟨hn b B,f1,f2,f3,f4,λp hp=>?_⟩;rcases eE.mp hp with hp | hp
  .exact f5 p (ji _ hp)
  .rcases cS.mp hp with e | hp
   .subst e;exact f6
   .exact f5 p (el _ hp)
 refine codeAny_loop rfl (λn s'=>∃ i j σ' H',Acc RO Y D pl j σ' H' s'/\tn i s'.heap/\(∀ b∈fp,H' b=none)/\W i n j σ' H') (λn s3 hI=>?_) m0 ⟨0,ys,σ,H,a,st,λb B=>(f b B).1.1,w0⟩;rw[ED,CC];refine wpAny_noted ?_;rw[I];obtain⟨i,y,c,V,a3,O,U,w3⟩:=hI;obtain⟨a2,I3,P⟩:=a3.us;have l:∀ {M:Model} {A:Around} {α:Type} {t:Sem α} {Q:α->Shared->Prop} {E:VS} {s:Shared},wpAny M A t Q (λ_ _=>False) s->wpAny M A t Q E s:=λh=>tG h (λ_ _ x=>x) λ_ _ x=>x.elim;refine aI (Hx (aI ?_));rcases N i n y c V w3 with ⟨stop,qn⟩ | ⟨go,step⟩
 .refine l (thn (T.done Y rfl rfl rfl hc i _ s3 c V _ I3 (k U) O stop) λr s4 Z=>?_);obtain⟨hr,I4⟩:=Z;subst hr;exact aP (hR y c V s4 (a3.pins I4 P) qn)
 .refine l (thn (T.item Y rfl rfl rfl hc i _ s3 c V _ I3 (k U) O go) λr s4 Z=>?_);obtain⟨u,hr,h4⟩:=Z;subst hr;refine aI (l (thn h4 λ_ s5 Z=>?_));obtain⟨x,H5,I5,r5,y5,F,a5⟩:=Z;have a0:=I5.pinned (k a5) (T.obj _ _ F);have S:=hg _ s5 c H5 x u _ a0 r5 (step x H5 y5);rw[hx] at S;refine aI (l (thn S λ_ s6 Z=>?_));obtain⟨L,H6,I6,q6⟩:=Z;have a6:Acc RO Y D (pl++sh fp s5.heap) y L H6 s6:=⟨⟨a2,I6,P⟩,a.exD,λp hp=>by
   rcases eE.mp hp with hp | hp
   .exact a.nd p (ji _ hp)
   .rcases eE.mp hp with hp | hp
    .exact a.nd p (el _ hp)
    .exact λz=>(f p.1 (uD hp).1).2 z.symm⟩
  refine l (hm _ _ s6 y L H6 _ _ a6 q6 λa1 X H7 s7 a7 ⟨m',a4,w7⟩=>aP ⟨rfl,m',a4,i + 1,a1,X,H7,?_,?_,?_,w7⟩)
  .obtain⟨C,K,G⟩:=a7.us;exact⟨⟨C,K.jV λp hp=>K.pin p (el _ (by
    rcases cS.mp hp with e | hp
    .subst e;exact hG
    .exact eh _ (ji _ hp))),G⟩,a.exD,a.nd⟩
  .obtain⟨C,K,G⟩:=a7.us;exact T.keep _ _ _ F λb B o e=>(K.pin (b,o) (el _ (eh _ (el _ (jZ B e))))).1
  .intro b B;obtain⟨C,K,G⟩:=a7.us;obtain⟨o,e,d⟩:=T.obj _ _ F b B;exact(K.pin (b,o) (el _ (eh _ (el _ (jZ B e))))).2.1
end
theorem Cc{b:Bool}{a:List mJ}{d:Nat}:(model prog w).den (.compStart (cE b elt a sc pos) d it acc env)=(UZ (cE b elt a sc pos) d it acc env).onRaise (λx=>do noteFrame x env;ru theWindowsPlace):=by cases b <;> rfl
theorem Bl{b:Bool}{a:List mJ}{d:Nat}:A.under (.compStart (cE b elt a sc pos) d it acc env)=A:=by cases b <;> rfl
theorem oN{s:Shared}{b:Bool}{a:List mJ}{d:Nat}(f:a[d]?=some ⟨tg,iter,ifs,0⟩)(same:qG (model prog w) A (.compLoop (cE b elt a sc pos) d it acc env) R s)(c:wpAny (model prog w) A (pyIter it) (λe s2=>qG (model prog w) A (.compLoop (cE b elt a sc pos) d e acc env) R s2) (notedBy (model prog w) A env λx s2=>R (.error x) s2) s) :
  qG (model prog w) A (.compStart (cE b elt a sc pos) d it acc env) R s:=by
 have g:(clausesOf (cE b elt a sc pos))[d]?=some ⟨tg,iter,ifs,0⟩:=by cases b <;> exact f
 apply RU;rw[Cc,Bl];apply wpAny_notedAt (pos:=theWindowsPlace) (m:=UZ (cE b elt a sc pos) d it acc env);simp only[UZ,g];apply aI;apply rd;apply wpAny_ite;split
 .exact aP ⟨rfl,same⟩
 .apply aI;apply PN;apply aI;apply Hx;exact aI (tG c (λ_ _ q=>aP ⟨rfl,q⟩) λ_ _ q=>q)
section
variable {Y:Cx}{D:Addr}{α:Type}{RO:List α->Obj->Prop}
noncomputable def yp (a:TI)(g:TG)(t:TBg α):TBg α:=λys σ H Q=>a σ H λJ H1=>qJ J g t ys σ H1 Q
noncomputable abbrev Dd (b:Bool)(elt:Expr)(c:List mJ)(f:Scope)(pos:Pos)(d:Nat)(iter:Expr)(D:Addr)(a:Env)(k:Sem Fin):Sem Fin:=
 eval iter a >>= λx=>ru iter.pos >>= λ_=>ic iter a x >>= λx=>holding [x] (pyIter x) >>= λe=>runOwn (.compStart (cE b elt c f pos) d e (.ref D) a) a >>= λ_=>k
theorem Aw{b:Bool}{c:List mJ}{d:Nat}{m:Sem Fin->Sem Fin}{t:TBg α}(A:Y.xe=λ_ _=>False)(S:Y.calm=true)(z:c[d]?=some ⟨tg,iter,ifs,0⟩)(O:PI Y tg iter wi)(P:PG Y tg g)(M:PB RO Y D m t)(o:∀ it,Qv (cE b elt c sc pos) d (.ref it) (.ref D) Y.env=(ru p0 >>= λ_=>pyNext (.ref it) >>= λr=>match r with
   | none=>pure (.done .next)
   | some v=>oG tg (.ref it) v >>= λ_=>assign tg Y.env v >>= λ_=>m (again (.compLoop (cE b elt c sc pos) d (.ref it) (.ref D) Y.env))))(hs:autoParam (∀ x,ic iter Y.env x=pure x) wT):PB RO Y D (Dd b elt c sc pos d iter D Y.env) (yp wi g t):=by
 intro k G s ys C H Q R a q N;obtain⟨us,I,E⟩:=a.us;have w:=O _ s C H _ I q;rw[A] at w;refine aI (thn w λv s1 W=>aI (Hx (aI ?_)));rw[hs];refine aP (aI (jz (thn W λL s2 V=>?_)));obtain⟨it,fp,tn,J,H2,e,I2,T,u,f2,cw⟩:=V;subst e;have a2:=a.pins I2 E;refine aI (wpAny_runOwn ?_);have K:∀ {R:Result->Shared->Prop},(∀ l j y i,Acc RO Y D G l j y i->Q l j y->R (.ok .next) i)->qG (model Y.prog Y.w) Y.A (.compLoop (cE b elt c sc pos) d (.ref it) (.ref D) Y.env) R s2:=λhR=>
  Il A S T P M (o it) a2 u (λb U=>by
   obtain⟨f0,f1,f3,Z,X,B⟩:=f2 b U;exact⟨⟨f0,f1,f3,Z,X,λp hp=>B p (by
    rcases eE.mp hp with hp | hp
    .exact ji _ hp
    .exact el _ (eh _ hp))⟩,B (D,_) (el _ hG)⟩) cw hR
 have fin:=K (R:=λr i=>match r with | .ok f=>wpAny (model Y.prog Y.w) Y.A k R (λ_ _=>False) i | .error e=>False) λl j y i a' F=>N l j y i a' F;have n:qG (model Y.prog Y.w) Y.A (.compLoop (cE b elt c sc pos) d (.ref it) (.ref D) Y.env) (λr i=>match r with | .ok f=>wpAny (model Y.prog Y.w) Y.A k R (λ_ _=>False) i | .error e=>cameBackBy (model Y.prog Y.w) Y.A Y.env (λ_ _=>False) e i) s2:=
  Mp fin λr i h=>by cases r with | ok f=>exact h | error e=>exact h.elim
 exact oN z n (tG (T.self Y.A 0 _ _ (λ_ _=>False) u n) (λ_ _ h=>h) λ_ _ h=>h.elim)
end
theorem qF{α:Type}{RO:List α->Obj->Prop}{b:Bool}{j:List mJ}{m:Addr->Env->Sem Fin->Sem Fin}{t:TBg α}{a5:Sem Value}{o0:Obj}(b6:j[0]?=some ⟨tg,iter,ifs,0⟩)(mk:∀ {P:VS} {E:VS} {s:Shared},P (.ref s.heap.objs.size) { s with heap:=s.heap.push o0 }->wpAny (model X.prog X.w) X.A a5 P E s)(b1:o0.isFreed=false)(a2:RO [] o0)(nc:∀ ys o,RO ys o->∀ v,o.data≠.cell v)(B:Blk X.N X.env.scope sc Nc fr)(hc:X.calm=true)(hg:∀ s₀ H₀ C ex pn,PG (aT X sc Nc s₀ H₀ C ex pn) tg g)(hm:∀ s₀ H₀ C ex pn D,PB RO (aT X sc Nc s₀ H₀ C ex pn) D (m D (aT X sc Nc s₀ H₀ C ex pn).env) t)(R:∀ (it D:Addr) (env:Env),Qv (cE b elt j sc pos) 0 (.ref it) (.ref D) env=(ru p0 >>= λ_=>pyNext (.ref it) >>= λr=>match r with
   | none=>pure (.done .next)
   | some v=>oG tg (.ref it) v >>= λ_=>assign tg env v >>= λ_=>m D env (again (.compLoop (cE b elt j sc pos) 0 (.ref it) (.ref D) env)))){a:Pn}{it:Addr}(K:Inv X a σ H2 s2)(T:Turn X.prog X.w X.K tg J fp it tn)(N:tn 0 s2.heap)(V:∀ b∈fp,iB X a H2 b){QF:List α->St->Hp->Prop}(cw:qJ J g t [] (mS fr σ) H2 QF){RR:Value->Addr->Result->Shared->Prop}(b7:∀ D C s' H' ys o σ',Inv X a σ H' s'->(∃ m,s'.heap.Ns C m)->C≠D->iB X a H' C->iB X a H' D->s'.heap.get? D=some o->RO ys o->QF ys σ' H'->RR (.ref D) C (.ok .next) s') :
  wpAny (model X.prog X.w) X.A a5 (λacc a1=>wpAny (model X.prog X.w) X.A (Qu sc X.env.globals (takes X.env.cells sc.names []) [] X.env.qual none .none (some X.env)) (λI Z=>
   qG (model X.prog X.w) X.A (.compStart (cE b elt j sc pos) 0 (.ref it) acc { I with scope:=relabel sc X.env }) (RR acc I.locals) Z) E a1) E s2:=by
 refine mk (BP λl d f i=>?_);dsimp only at d f i ⊢;generalize U:s2.heap.push o0=q at d f i ⊢;have w:q.objs.size=s2.heap.objs.size + 1:=by rw[<- U,mG]
 generalize F:q.objs.size=C at d i ⊢;generalize k:s2.heap.objs.size=D at w ⊢;have b0:D≠C:=by rw[<- F,w];exact hY (ox _)
 have L:∀ b o,s2.heap.get? b=some o->q.get? b=some o:=λb o e=>by rw[<- U];exact bh _ e
 have b8:q.get? D=some o0:=by rw[<- U,<- k];exact ey _ b1
 have I3:Inv X a σ H2 { s2 with heap:=q }:=K.kept (t':=s2.toks) L;have a7:H2 D=none:=K.hok.fresh (by rw[k];exact bU _);have fD:iB X a H2 D:=K.qX (by rw[k];exact bU _) a7;have b':∀ b∈fp,∃ o,s2.heap.get? b=some o/\∀ v,o.data≠.cell v:=T.obj 0 _ N;have y:∀ b∈fp,b < D:=λb hb=>by obtain⟨o,e,_⟩:=b' b hb;rw[<- k];exact er e
 have a6:D∉fp:=λhb=>ky _ (y D hb);have a':C∉fp:=λhb=>by have:=y C hb;rw[<- F,w] at this;exact absurd (Nat.lt_of_succ_lt this) (ky _)
 have A:∀ b,(b∈X.ex\/X.s₀.heap.objs.size<=b)->∀ o,X.base.get? b≠some o:=λb h o e=>by
  rcases h with h | h
  .exact K.ok.noex b o e h
  .exact absurd (fC (er e) (kj K.ok.bsz h)) (ky _)
 have hex:∀ b∈D::fp,b < q.objs.size/\b∉X.fs/\b≠X.env.locals/\(∀ x c,X.env.cells.lookup x=some c->c≠b)/\∀ o,X.base.get? b≠some o:=λb hb=>by
  have fb:iB X a H2 b:=by
   rcases cS.mp hb with e | hb
   .rw[e];exact fD
   .exact V b hb
  refine⟨?_,fb.2.2.1,fb.2.1,fb.2.2.2.2.1,A b fb.2.2.2.1⟩;rcases cS.mp hb with e | hb
  .rw[e,w];exact ox _
  .rw[w];exact sr (y b hb)
 have H:q.objs.size<=C:=by rw[F];exact bU _
 have ok:(aT X sc Nc { s2 with heap:=q } H2 C (D::fp) (X.pn++a)).Ok:=Lg B I3 H hex;have O:∀ b u,q.get? b=some u->l.get? b=some u:=f;have J0:Inv (aT X sc Nc { s2 with heap:=q } H2 C (D::fp) (X.pn++a)) [(D,o0)] (mS fr σ) H2 { s2 with heap:=l }:=
  Hi B ok I3 H rfl rfl O d i b8 a7 fD.2.1 fD.2.2.1 (nc _ _ a2)
 have a0:Acc RO (aT X sc Nc { s2 with heap:=q } H2 C (D::fp) (X.pn++a)) D [] [] (mS fr σ) H2 { s2 with heap:=l }:=
  ⟨⟨_,J0,a2⟩,hG,λp S=>fD.2.2.2.2.2 p (by simpa using S)⟩
 have c1:∀ b∈fp,iB (aT X sc Nc { s2 with heap:=q } H2 C (D::fp) (X.pn++a)) [] H2 b/\D≠b:=λb hb=>
  ⟨⟨(V b hb).1,λe=>a' (by have e':b=C:=e;rw[<- e'];exact hb),ok.exfs b (eh _ hb),.inl (eh _ hb),(ok.exf b (eh _ hb)).2,λp S=>(V b hb).2.2.2.2.2 p (by simpa using S)⟩,λz=>a6 (by rw[z];exact hb)⟩
 have G:qG (model X.prog X.w) X.A (.compLoop (cE b elt j sc pos) 0 (.ref it) (.ref D) (compEnvC sc (bcl X.env.cells sc C) C X.env)) (RR (.ref D) C) { s2 with heap:=l }:=by
  refine Il (Y:=aT X sc Nc { s2 with heap:=q } H2 C (D::fp) (X.pn++a)) (D:=D) rfl hc T (hg _ _ _ _ _) (hm _ _ _ _ _ D) (R it D _) a0 (T.keep _ _ _ N (λb _ o e=>O b o (L b o e))) c1 cw λys c2 H3 s4 a4 hq=>?_;obtain⟨o4,W,rv⟩:=a4.us;obtain⟨pD,pH,_,_,_⟩:=W.pin (D,o4) (el _ hG);obtain⟨b4,b5,_⟩:=W.loc;have un:Un (frs X.stack) fp H2 H3 s2.heap s4.heap:=by
   have M:Un (frs X.stack) (D::fp) H2 H3 q s4.heap:=W.base;have nx:∀ {b:Addr} {o:Obj},s2.heap.get? b=some o->b∉fp->b∉D::fp:=λe h1 h2=>by
    rcases cS.mp h2 with z | z
    .exact hY (er e) (by rw[k];exact z)
    .exact h1 z
   exact⟨λb o e n hb Q=>M.keep b o (L b o e) n hb (nx e Q),λb o e n hb Q=>M.slot b o (L b o e) n hb (nx e Q),λb o e n Q=>M.free b o (L b o e) n (nx e Q),
    λb o e Q=>M.there b o (L b o e) (nx e Q),M.tups,M.frzs,M.tbls⟩
  have I5:Inv X a σ H3 s4:=K.Nu W.os un W.hok W.bare λb hb=>⟨(V b hb).2.2.2.1,(V b hb).2.1,(V b hb).2.2.2.2.1,(V b hb).2.2.2.2.2⟩;exact b7 D C s4 _ ys o4 _ I5 ⟨b4,b5⟩ (lj b0) (K.qX (by rw[k,<- F,w];exact KB _) W.free) (K.qX (by rw[k];exact bU _) pH) pD rv hq
 exact oN b6 G (tG (T.self X.A 0 _ _ (λ_ _=>False) (T.keep _ _ _ N (λb _ o e=>O b o (L b o e))) G) (λ_ _ h=>h) λ_ _ h=>h.elim)
theorem qE{c:List mJ}{m:Addr->Env->Sem Fin->Sem Fin}{t:TB}(q:c[0]?=some ⟨tg,iter,ifs,0⟩)(B:Blk X.N X.env.scope sc Nc fr)(L:X.calm=true)(K:∀ s₀ H₀ C ex k,PG (aT X sc Nc s₀ H₀ C ex k) tg g)(I:∀ s₀ H₀ C ex k D,PB RL (aT X sc Nc s₀ H₀ C ex k) D (m D (aT X sc Nc s₀ H₀ C ex k).env) t)(f:∀ (it D:Addr) (env:Env),Qv (.ListComp elt c sc pos) 0 (.ref it) (.ref D) env=(ru p0 >>= λ_=>pyNext (.ref it) >>= λr=>match r with
   | none=>pure (.done .next)
   | some v=>oG tg (.ref it) v >>= λ_=>assign tg env v >>= λ_=>m D env (again (.compLoop (.ListComp elt c sc pos) 0 (.ref it) (.ref D) env)))){a:Pn}{it:Addr}(O:Inv X a σ H2 s2)(T:Turn X.prog X.w X.K tg J fp it tn)(n:tn 0 s2.heap)(M:∀ b∈fp,iB X a H2 b){Q:VK}(N:qJ J g t [] (mS fr σ) H2 λys _ H'=>ys.length < sizeLine/\∀ l,H' l=none->Q (.ref l) (upd H' l (.lst ys))){RR:Value->Addr->Result->Shared->Prop}(s:∀ D C s' H',Inv X a σ H' s'->(∃ m,s'.heap.Ns C m)->iB X a H' C->Q (.ref D) H'->RR (.ref D) C (.ok .next) s') :
  wpAny (model X.prog X.w) X.A (newList []) (λacc j=>wpAny (model X.prog X.w) X.A (Qu sc X.env.globals (takes X.env.cells sc.names []) [] X.env.qual none .none (some X.env)) (λd i=>
   qG (model X.prog X.w) X.A (.compStart (.ListComp elt c sc pos) 0 (.ref it) acc { d with scope:=relabel sc X.env }) (RR acc d.locals) i) E j) E s2:=by
 refine qF (RO:=RL) (b:=false) (elt:=elt) (pos:=pos) (o0:=c9 [] 0) q (λh=>mz h) rfl ⟨[],rfl,.nil⟩ (λys o ⟨y,e,_⟩ v z=>by subst e;cases z) B L K I f O T n M N λD C s' H' ys o x P H G w u pD ⟨y,e,A⟩ ⟨p,F⟩=>?_;subst e;exact s D C s' _ (P.adopt u pD A (fq p)) H ⟨by rw[ao G];exact w.1,w.2⟩ (F D u.1)
def fX (b:On)(a:TI)(g:TG)(t:TB):TE:=λσ H Q=>a σ H λJ H1=>qJ J g t [] (mS b σ) H1 λys _ H'=>ys.length < sizeLine/\∀ l,H' l=none->Q (.ref l) (upd H' l (.lst ys))
theorem nJ{rest:List mJ}{m:Addr->Env->Sem Fin->Sem Fin}{t:TB}(A:X.calm=true)(y:PI X tg iter wi)(B:Blk X.N X.env.scope sc Nc fr)(z:∀ s₀ H₀ C ex f,PG (aT X sc Nc s₀ H₀ C ex f) tg g)(w:∀ s₀ H₀ C ex f D,PB RL (aT X sc Nc s₀ H₀ C ex f) D (m D (aT X sc Nc s₀ H₀ C ex f).env) t)(c:∀ (it D:Addr) (env:Env),Qv (.ListComp elt (⟨tg,iter,ifs,0⟩::rest) sc pos) 0 (.ref it) (.ref D) env=(ru p0 >>= λ_=>pyNext (.ref it) >>= λr=>match r with
   | none=>pure (.done .next)
   | some v=>oG tg (.ref it) v >>= λ_=>assign tg env v >>= λ_=>m D env (again (.compLoop (.ListComp elt (⟨tg,iter,ifs,0⟩::rest) sc pos) 0 (.ref it) (.ref D) env))))(hs:autoParam (∀ x,ic iter X.env x=pure x) wT) :
  PE X (.ListComp elt (⟨tg,iter,ifs,0⟩::rest) sc pos) (fX fr wi g t):=by
 intro a s l H Q I h;rw[eval_ListComp];refine Oz (use:=none) rfl hs (wI B I) B.kind B.locs (thn (y a s l H _ I h) λv S G=>thn G λu R F=>?_);obtain⟨it,V,P,J,W,e,M,T,i,K,L⟩:=F;subst e;refine qE (RR:=λk C=>compPost (model X.prog X.w) X.A X.xe none (EP X a l Q) k C) rfl B A z w c M T i K L λD C p O N j d q=>?_;obtain⟨m,j⟩:=j;exact⟨m,j,λU n=>⟨.ref D,O,N.turned (t':=p.toks) (λb o E e=>(n.2 b E).trans e) d.1 d.2.1 d.2.2.2.1 d.2.2.2.2.1 d.2.2.2.2.2,rfl,q⟩⟩
theorem qd{k d:Pos}{rest:List mJ}{m:Addr->Env->Sem Fin->Sem Fin}{t:TB}(hN:X.N.Nodup)(E:X.N[i]?=some x)(M:X.env.scope.names.lookup x=some .local)(W:X.calm=true)(U:PI X tg iter wi)(B:Blk X.N X.env.scope sc Nc fr)(V:∀ s₀ H₀ C ex n,PG (aT X sc Nc s₀ H₀ C ex n) tg g)(S:∀ s₀ H₀ C ex n D,PB RL (aT X sc Nc s₀ H₀ C ex n) D (m D (aT X sc Nc s₀ H₀ C ex n).env) t)(f:∀ (it D:Addr) (env:Env),Qv (.ListComp elt (⟨tg,iter,ifs,0⟩::rest) sc pos) 0 (.ref it) (.ref D) env=(ru p0 >>= λ_=>pyNext (.ref it) >>= λr=>match r with
   | none=>pure (.done .next)
   | some v=>oG tg (.ref it) v >>= λ_=>assign tg env v >>= λ_=>m D env (again (.compLoop (.ListComp elt (⟨tg,iter,ifs,0⟩::rest) sc pos) 0 (.ref it) (.ref D) env))))(w:autoParam (zJ (.ListComp elt (⟨tg,iter,ifs,0⟩::rest) sc pos) (some (.Name x k)) d.line X.env=pure true) wE)(hs:autoParam (∀ x,ic iter X.env x=pure x) wT) :
  PS X (.Assign [.Name x k] (.ListComp elt (⟨tg,iter,ifs,0⟩::rest) sc pos) d) (jo (fX fr wi g t) (gr i)):=by
 intro c s K H D I h;rw[exec_Assign_Name_used _ _ _ _ w];refine aI (Hx (aI ?_));show wpAny _ X.A (do let _ <- comprehension (.ListComp elt (⟨tg,iter,ifs,0⟩::rest) sc pos) sc X.env _ (newList []) false (eval iter X.env) (some (assign (.Name x k) X.env))) _ _ s;refine aI (tG (Oz (use:=some (assign (.Name x k) X.env)) (Q:=λ_ l=>SP X c D .next l) rfl hs (wI B I) B.kind B.locs
  (thn (U c s K H _ I h) λv s1 h1=>thn h1 λP s2 h2=>?_)) (λ_ l R=>aP (aP R)) λ_ _ e=>e)
 obtain⟨it,fp,tn,J,H2,e,I2,T,p,f2,cw⟩:=h2;subst e;refine qE (Q:=λx H1=>gr i x K H1 D.nx) (RR:=λG C=>compPost (model X.prog X.w) X.A X.xe (some (assign (.Name x k) X.env)) (λ_ l=>SP X c D .next l) G C) rfl B W V S f I2 T p f2 cw λL C l H' I' A j q=>?_;obtain⟨m,A⟩:=A;show wpAny _ X.A (assign (.Name x k) X.env (.ref L)) _ _ _;refine S9 (uk I' hN E (.inl M) (v:=.ref L) rfl (λO I3 y=>?_) (.inr M));obtain⟨a,N,Z⟩:=y;have F:C≠a:=by
  rcases Z with e | e
  .rw[e];exact j.2.1
  .exact λz=>j.2.2.2.2.1 _ _ e (by rw[z])
 exact⟨m,A.sameBut N F,λh' u=>⟨_,H',I3.turned (t':=O.toks) (λb o Y e=>(u.2 b Y).trans e) j.1 j.2.1 j.2.2.2.1 j.2.2.2.2.1 j.2.2.2.2.2,q⟩⟩
end _2
namespace _3
open PySem _2
set_option genSizeOf true in
inductive D where
 | non | bl (b:Bool) | int (i:Int) | str (x:Str) | lst (xs:List D) | tup (xs:List D) | ktup (xs:List D) | ins (C:Addr) (ns:Ls0) (xs:List D) | scr (ns:Li0) | ty (n:String) | adr (a:Addr) | cel (p:Addr) (xs:List D)
mutual
noncomputable def Rep (K:Fg0)(F:Hp):D->V->Prop
 | .non,v=>v=.non
 | .bl b,v=>v=.bl b
 | .int i,v=>v=.int i
 | .str x,v=>v=.str x
 | .ty n,v=>v=.ty n
 | .adr a,v=>v=.ref a
 | .cel p xs,v=>v=.ref p/\∃ vs,F p=some (.lst vs)/\aA K F xs vs
 | .scr ns,v=>∃ p,v=.ref p/\SqL K F p (ns.map V.int)
 | .lst xs,v=>∃ p vs,v=.ref p/\F p=some (.lst vs)/\aA K F xs vs
 | .tup xs,v=>∃ p vs,v=.ref p/\F p=some (.tup vs)/\aA K F xs vs
 | .ktup xs,v=>∃ p vs,v=.ref p/\SqT K F p vs/\aA K F xs vs
 | .ins C ns xs,v=>∃ p dx c,v=.ref p/\F p=some (.ins C dx c)/\c.map (·.1)=ns/\aA K F xs (c.map (·.2))
noncomputable def aA (K:Fg0)(F:Hp):List D->List V->Prop
 | [],vs=>vs=[]
 | x::xs,vs=>∃ v ws,vs=v::ws/\Rep K F x v/\aA K F xs ws
end
theorem SqT.same(e:aB H H')(h:SqT K H a xs):SqT K H' a xs:=by
 rcases h with (h | ⟨o,h⟩) | h
 .exact .inl (.inl (e _ _ h))
 .exact .inl (.inr ⟨o,e _ _ h⟩)
 .exact .inr h
mutual
theorem Rep.mono {K:Fg0}{F F':Hp}(e:aB F F'):∀ {d:D} {v:V},Rep K F d v->Rep K F' d v
 | .non,_,h=>h
 | .bl _,_,h=>h
 | .int _,_,h=>h
 | .str _,_,h=>h
 | .ty _,_,h=>h
 | .adr _,_,h=>h
 | .cel _ _,_,⟨c,g,a,f⟩=>⟨c,g,e _ _ a,aA.mono e f⟩
 | .scr _,_,⟨p,c,a⟩=>⟨p,c,e.seq a⟩
 | .lst _,_,⟨p,g,c,a,f⟩=>⟨p,g,c,e _ _ a,aA.mono e f⟩
 | .tup _,_,⟨p,g,c,a,f⟩=>⟨p,g,c,e _ _ a,aA.mono e f⟩
 | .ktup _,_,⟨p,g,c,a,f⟩=>⟨p,g,c,SqT.same e a,aA.mono e f⟩
 | .ins _ _ _,_,⟨p,k,j,c,a,f,i⟩=>⟨p,k,j,c,e _ _ a,f,aA.mono e i⟩
theorem aA.mono {K:Fg0}{F F':Hp}(e:aB F F'):∀ {xs:List D} {vs:List V},aA K F xs vs->aA K F' xs vs
 | [],_,h=>h
 | _::_,_,⟨v,a,d,c,b⟩=>⟨v,a,d,Rep.mono e c,aA.mono e b⟩
end
inductive Sl where
 | fz (d:D) | ow (d:D) | ln (d:D)
abbrev G:=List (Option Sl)
inductive RV where
 | fz (d:D) | fr (d:D) | two (xs ys:List D) | rws (xss:List (List D))
noncomputable def RV.pl:RV->Bool
 | .fz _=>true
 | .fr _=>true
 | _=>false
noncomputable def RV.d:RV->D
 | .fz d=>d
 | .fr d=>d
 | .two xs ys=>.tup [.lst xs,.lst ys]
 | .rws xss=>.lst (xss.map .lst)
set_option backward.eqns.nonrecursive false in
noncomputable def RV.sl:RV->Sl
 | .fz d=>.fz d
 | .fr d=>.ow d
 | .two xs ys=>.fz (.tup [.lst xs,.lst ys])
 | .rws xss=>.ow (.lst (xss.map .lst))
set_option genInjectivity false in
structure Bs where
 F:Hp
 H:Hp
 own:List (Nat×Addr)
noncomputable def Own (K:Fg0)(F H:Hp)(p:Addr):D->Prop
 | .lst xs=>∃ vs,H p=some (.lst vs)/\aA K F xs vs
 | .cel q xs=>p=q/\∃ vs,H p=some (.lst vs)/\aA K F xs vs
 | .ins C ns xs=>∃ dx a,H p=some (.ins C dx a)/\a.map (·.1)=ns/\aA K F xs (a.map (·.2))
 | _=>False
theorem Own.mono(e:aB F F')(h:H' p=H p):∀ {d:D},Own K F H p d->Own K F' H' p d
 | .lst _,⟨f,a,b⟩=>⟨f,h.trans a,b.mono e⟩
 | .cel _ _,⟨z,f,a,b⟩=>⟨z,f,h.trans a,b.mono e⟩
 | .ins _ _ _,⟨i,g,a,b,c⟩=>⟨i,g,h.trans a,b,c.mono e⟩
theorem Own.some {K:Fg0}{F H:Hp}{p:Addr}:∀ {d:D},Own K F H p d->∃ o,H p=some o
 | .lst _,⟨_,a,_⟩=>⟨_,a⟩
 | .cel _ _,⟨_,_,a,_⟩=>⟨_,a⟩
 | .ins _ _ _,⟨_,_,a,_⟩=>⟨_,a⟩
theorem Own.rep{o:HO}(h:F p=none)(g:H p=Option.some o):∀ {d:D},Own K F H p d->Rep K (upd F p o) d (.ref p)
 | .lst _,Z=>by
  obtain⟨f,a,b⟩:=Z;rw[g] at a;cases a;exact⟨p,f,rfl,aC,b.mono λx u e=>by rw[ao (a_ e h)];exact e⟩
 | .cel _ _,Z=>by
  obtain⟨z,f,a,b⟩:=Z;rw[g] at a;cases a;subst z;exact⟨rfl,f,aC,b.mono λx u e=>by rw[ao (a_ e h)];exact e⟩
 | .ins _ _ _,Z=>by
  obtain⟨j,i,a,b,c⟩:=Z;rw[g] at a;cases a;exact⟨p,j,i,rfl,aC,b,c.mono λx u e=>by rw[ao (a_ e h)];exact e⟩
def Hld (Γ:G)(i:Nat)(d:D):Prop:=Γ[i]?=some (some (Sl.ow d))\/Γ[i]?=some (some (Sl.ln d))
structure En (K:Fg0) (B:Bs) (F:Hp) (σ:St) (H:Hp) (Γ:G):Prop where
 sub:aB F H
 len:σ.length=Γ.length
 fz:∀ (i:Nat) (d:D),Γ[i]?=some (some (Sl.fz d))->∃ v,σ[i]?=some (some v)/\Rep K F d v
 hl:∀ (i:Nat) (d:D),Hld Γ i d->∃ p,σ[i]?=some (some (V.ref p))/\F p=none/\Own K F H p d
 ow:∀ (i:Nat) (d:D) (p:Addr),Γ[i]?=some (some (Sl.ow d))->σ[i]?=some (some (V.ref p))->B.H p=none
 ln:∀ (i:Nat) (d:D) (p:Addr),Γ[i]?=some (some (Sl.ln d))->σ[i]?=some (some (V.ref p))->(i,p)∈B.own
 dis:∀ (i j:Nat) (d e:D) (p:Addr),Hld Γ i d->Hld Γ j e->σ[i]?=some (some (V.ref p))->σ[j]?=some (some (V.ref p))->i=j
 par:∀ (i:Nat) (p:Addr),(i,p)∈B.own->σ[i]?=some (some (V.ref p))/\∃ d,Γ[i]?=some (some (Sl.ln d))
 keep:aB B.F F
 new:∀ (b:Addr) (o:HO),F b=some o->B.F b=some o\/B.H b=none
 rest:∀ (b:Addr) (o:HO),B.H b=some o->(∀ i,(i,b)∉B.own)->H b=some o
 dom:∀ b,H b=none->B.H b=none
section
variable {B:Bs}{Γ:G}
theorem En.alloc(e:En K B F σ H Γ)(hl:H l=none)(o:HO):En K B F σ (upd H l o) Γ where
 sub:=λb u h=>by rw[ao (a_ (e.sub b u h) hl)];exact e.sub b u h
 len:=e.len
 fz:=e.fz
 hl:=λi d h=>by
  obtain⟨p,g,f,a⟩:=e.hl i d h;obtain⟨u,c⟩:=a.some;exact⟨p,g,f,a.mono (aB.refl F) (ao (a_ c hl))⟩
 ow:=e.ow
 ln:=e.ln
 dis:=e.dis
 par:=e.par
 keep:=e.keep
 new:=e.new
 rest:=λb u h n=>by rw[ao (a_ (e.rest b u h n) hl)];exact e.rest b u h n
 dom:=λb h=>by
  by_cases q:b=l
  .subst q;exact e.dom _ hl
  .rw[ao q] at h;exact e.dom b h
theorem bz{o:HO}(h:F l=none):aB F (upd F l o):=λb u e=>by rw[ao (a_ e h)];exact e
theorem En.freeze(e:En K B F σ H Γ){o:HO}(c:F l=none)(j:H l=some o)(k:B.H l=none)(g:∀ (i:Nat) (d:D),Hld Γ i d->σ[i]?≠some (some (V.ref l))):En K B (upd F l o) σ H Γ where
 sub:=λb u h=>by
  by_cases q:b=l
  .subst q;rw[aC] at h;cases h;exact j
  .rw[ao q] at h;exact e.sub b u h
 len:=e.len
 fz:=λi d h=>by
  obtain⟨v,a,f⟩:=e.fz i d h;exact⟨v,a,f.mono (bz c)⟩
 hl:=λi d h=>by
  obtain⟨p,a,f,m⟩:=e.hl i d h;have q:p≠l:=λz=>g i d h (z ▸ a);exact⟨p,a,by rw[ao q];exact f,m.mono (bz c) rfl⟩
 ow:=e.ow
 ln:=e.ln
 dis:=e.dis
 par:=e.par
 keep:=e.keep.trans (bz c)
 new:=λb u h=>by
  by_cases q:b=l
  .subst q;exact .inr k
  .rw[ao q] at h;exact e.new b u h
 rest:=e.rest
 dom:=e.dom
noncomputable def dP (K:Fg0)(F H:Hp):La0->List (List D)->Prop
 | [],xss=>xss=[]
 | q::qs,xss=>∃ xs a vs,xss=xs::a/\H q=some (.lst vs)/\aA K F xs vs/\dP K F H qs a
theorem dP.mono(s:aB F F'):∀ {qs:La0} {xss:List (List D)},(∀ q∈qs,H' q=H q)->dP K F H qs xss->dP K F' H' qs xss
 | [],_,_,h=>h
 | q::qs,_,e,⟨b,a,c,j,i,g,f⟩=>⟨b,a,c,j,(e q (.head _)).trans i,g.mono s,dP.mono s (λz d=>e z (.tail _ d)) f⟩
noncomputable def oY (K:Fg0)(B:Bs)(F:Hp)(σ:St)(H:Hp)(Γ:G)(v:V):RV->Prop
 | .fz d=>Rep K F d v
 | .fr d=>∃ p,v=.ref p/\F p=none/\Own K F H p d/\B.H p=none/\∀ (i:Nat) (e:D),Hld Γ i e->σ[i]?≠some (some (V.ref p))
 | .rws xss=>∃ p qs,v=.ref p/\H p=some (.lst (qs.map V.ref))/\(p::qs).Nodup/\dP K F H qs xss/\∀ z,z∈p::qs->F z=none/\B.H z=none/\∀ (i:Nat) (e:D),Hld Γ i e->σ[i]?≠some (some (V.ref z))
 | .two xs ys=>∃ t p q vs ws,v=.ref t/\H t=some (.tup [.ref p,.ref q])/\H p=some (.lst vs)/\H q=some (.lst ws)/\aA K F xs vs/\aA K F ys ws/\p≠q/\∀ z,z=t\/z=p\/z=q->F z=none/\B.H z=none/\∀ (i:Nat) (e:D),Hld Γ i e->σ[i]?≠some (some (V.ref z))
theorem En.AU:∀ {qs:La0} {xss:List (List D)} {F:Hp},En K B F σ H Γ->dP K F H qs xss->qs.Nodup->(∀ z∈qs,F z=none/\B.H z=none/\∀ (i:Nat) (e:D),Hld Γ i e->σ[i]?≠some (some (V.ref z)))->
  ∃ F',aB F F'/\En K B F' σ H Γ/\aA K F' (xss.map .lst) (qs.map V.ref)/\∀ z,z∉qs->F' z=F z
 | [],_,F,e,h,_,_=>by cases h;exact⟨F,aB.refl F,e,rfl,λ_ _=>rfl⟩
 | q::qs,_,F,e,⟨J,I,g,v,u,t,s⟩,m,j=>by
  subst v;obtain⟨p,n⟩:=hX.mp m;obtain⟨k,G,E⟩:=j q (.head _);have x:=e.freeze k u G E;have d:=bz (o:=.lst g) k;obtain⟨F',f,y,l,r⟩:=En.AU (qs:=qs) x (s.mono d λ_ _=>rfl) n λz c=>by
   obtain⟨C,b2,A⟩:=j z (.tail _ c);exact⟨by rw[ao (a:=q) (b:=z) (λw=>p (by rw[<- w];exact c))];exact C,b2,A⟩
  refine⟨F',d.trans f,y,⟨_,_,rfl,⟨q,g,rfl,f _ _ aC,t.mono (d.trans f)⟩,l⟩,λz c=>?_⟩;rw[cS,not_or] at c;rw[r z c.2,ao c.1]
theorem En.An(e:En K B F σ H Γ){qs:La0}{a:List (List D)}(l:H p=some (.lst (qs.map V.ref)))(f:(p::qs).Nodup)(r:dP K F H qs a)(b:∀ z,z∈p::qs->F z=none/\B.H z=none/\∀ (i:Nat) (e:D),Hld Γ i e->σ[i]?≠some (some (V.ref z))) :
  ∃ F',aB F F'/\En K B F' σ H Γ/\F' p=none/\Own K F' H p (.lst (a.map .lst)):=by
 obtain⟨h,g⟩:=hX.mp f;obtain⟨F',c,m,d,j⟩:=e.AU r g λz k=>b z (.tail _ k);exact⟨F',c,m,(j p h).trans (b p (.head _)).1,_,l,d⟩
theorem En.frozen(e:En K B F σ H Γ){v:V}:∀ {r:RV},oY K B F σ H Γ v r->∃ F',aB F F'/\En K B F' σ H Γ/\Rep K F' r.d v
 | .fz d,h=>⟨F,aB.refl F,e,h⟩
 | .fr d,Z=>by
  obtain⟨p,g,a,b,f,c⟩:=Z;subst g;obtain⟨o,y⟩:=b.some;exact⟨upd F p o,bz a,e.freeze a y f c,b.rep a y⟩
 | .rws G,Z=>by
  obtain⟨p,qs,g,a,b,f,c⟩:=Z;subst g;obtain⟨F',I,P,s,J⟩:=e.An a b f c;obtain⟨_,b2,u⟩:=c p (.head _);exact⟨_,I.trans (bz s),P.freeze s a b2 u,J.rep s a⟩
 | .two Y X,Z=>by
  obtain⟨t,p,q,i,j,g,a,b,f,c,L,A,n⟩:=Z;subst g;obtain⟨W,U,T⟩:=n t (.inl rfl);obtain⟨E,b2,u⟩:=n p (.inr (.inl rfl));obtain⟨S,R,Q⟩:=n q (.inr (.inr rfl));have x:t≠p:=λz=>by rw[z,b] at a;cases a
  have w:t≠q:=λz=>by rw[z,f] at a;cases a
  have O:=e.freeze E b b2 u;have D:upd F p (.lst i) q=none:=by rw[ao (lj A)];exact S
  have N:=O.freeze D f R Q;have C:upd (upd F p (.lst i)) q (.lst j) t=none:=by rw[ao w,ao x];exact W
  have M:=N.freeze C a U T;have m:=bz (o:=.lst i) E;have l:=bz (o:=.lst j) D;have k:=bz (o:=.tup [.ref p,.ref q]) C;exact⟨_,(m.trans l).trans k,M,t,_,rfl,aC,⟨_,_,rfl,⟨p,i,rfl,by rw[ao (lj x),ao A];exact aC,(c.mono ((m.trans l).trans k))⟩,_,_,rfl,⟨q,j,rfl,by rw[ao (lj w)];exact aC,L.mono ((m.trans l).trans k)⟩,rfl⟩⟩
theorem En.norm(e:En K B F σ H Γ){v:V}:∀ {r:RV},oY K B F σ H Γ v r->∃ F' r',aB F F'/\En K B F' σ H Γ/\oY K B F' σ H Γ v r'/\r'.sl=r.sl/\r'.pl=true
 | .fz d,h=>⟨F,.fz d,aB.refl F,e,h,rfl,rfl⟩
 | .fr d,h=>⟨F,.fr d,aB.refl F,e,h,rfl,rfl⟩
 | .rws a,Z=>by
  obtain⟨p,t,k,n,m,l,c⟩:=Z;subst k;obtain⟨F',i,b,o,j⟩:=e.An n m l c;obtain⟨_,b2,q⟩:=c p (.head _);exact⟨F',.fr (.lst (a.map .lst)),i,b,⟨p,rfl,o,j,b2,q⟩,rfl,rfl⟩
 | .two g f,h=>by
  obtain⟨F',s,b,r⟩:=e.frozen h;exact⟨F',.fz (.tup [.lst g,.lst f]),s,b,r,rfl,rfl⟩
def Po (K:Fg0)(B:Bs)(F:Hp)(σ:St)(Q:RV->G->Prop):VK:=λv H'=>∃ F' Γ' r,aB F F'/\En K B F' σ H' Γ'/\oY K B F' σ H' Γ' v r/\Q r Γ'
abbrev TE3:=G->(RV->G->Prop)->Prop
def Ref (K:Fg0)(t:TE)(a:TE3):Prop:=∀ (B:Bs) (F:Hp) (σ:St) (H:Hp) (Γ:G) (Q:RV->G->Prop) (QQ:VK),En K B F σ H Γ->a Γ Q->(∀ v H',Po K B F σ Q v H'->QQ v H')->t σ H QQ
theorem Po.mono{Q:RV->G->Prop}{v:V}(s:aB F F')(h:Po K B F' σ Q v H):Po K B F σ Q v H:=by
 obtain⟨d,c,r,a,b⟩:=h;exact⟨d,c,r,s.trans a,b⟩
theorem iM(e:En K B F σ H Γ){Q:RV->G->Prop}{v:V}{d:D}(r:Rep K F d v)(q:Q (.fz d) Γ):Po K B F σ Q v H:=⟨F,Γ,.fz d,aB.refl F,e,r,q⟩
theorem En.wt(e:En K B F σ H Γ)(b:H l=none):∀ (i:Nat) (d:D),Hld Γ i d->σ[i]?≠some (some (V.ref l)):=λi d h z=>by
 obtain⟨p,f,g,c⟩:=e.hl i d h;rw[f] at z;cases z;obtain⟨o,a⟩:=c.some;rw[b] at a;cases a
theorem En.nof(e:En K B F σ H Γ)(a:H l=none):F l=none:=by
 cases q:F l with
 | none=>rfl
 | some o=>have:=e.sub _ _ q;rw[a] at this;cases this
theorem iK(e:En K B F σ H Γ){Q:RV->G->Prop}{xs:List D}(a:H l=none)(r:aA K F xs vs)(q:Q (.fr (.lst xs)) Γ):Po K B F σ Q (.ref l) (upd H l (.lst vs)):=
 ⟨F,Γ,.fr (.lst xs),aB.refl F,e.alloc a _,⟨l,rfl,e.nof a,⟨vs,aC,r⟩,e.dom _ a,e.wt a⟩,q⟩
theorem vY(e:En K B F σ H Γ){Q:RV->G->Prop}{xs:List D}(a:H l=none)(r:aA K F xs vs)(q:Q (.fz (.tup xs)) Γ):Po K B F σ Q (.ref l) (upd H l (.tup vs)):=
 ⟨upd F l (.tup vs),Γ,.fz (.tup xs),bz (e.nof a),(e.alloc a _).freeze (e.nof a) aC (e.dom _ a) (e.wt a),⟨l,vs,rfl,aC,r.mono (bz (e.nof a))⟩,q⟩
set_option backward.eqns.nonrecursive false in
def dQ (i:Nat)(Γ:G)(Q:RV->G->Prop):Prop:=match Γ[i]? with
 | some (some (.fz d))=>Q (.fz d) Γ
 | some (some (.ow d))=>Q (.fz d) (Γ.set i (some (Sl.fz d)))
 | _=>False
theorem bP{b:Type}{l:List b}{a:b}(h:i≠j):(l.set i a)[j]?=l[j]?:=by rw[Pw,if_neg h]
theorem sU{c:Type}{l:List c}{a b:c}(h:l[i]?=some b):(l.set i a)[i]?=some a:=by
 rw[Pw,if_pos rfl,if_pos (gS0 h).1]
theorem En.give(e:En K B F σ H Γ){d:D}(h:Γ[i]?=some (some (Sl.ow d))):∃ F' p,aB F F'/\σ[i]?=some (some (V.ref p))/\Rep K F' d (.ref p)/\En K B F' σ H (Γ.set i (some (Sl.fz d))):=by
 obtain⟨p,m,l,s⟩:=e.hl i d (.inl h);obtain⟨o,r⟩:=s.some;have n:=s.rep l r;have back:∀ {j u},j≠i->(Γ.set i (some (Sl.fz d)))[j]?=u->Γ[j]?=u:=λC q=>by rw[bP (lj C)] at q;exact q
 have f:∀ {j x},Hld (Γ.set i (some (Sl.fz d))) j x->j≠i/\Hld Γ j x:=λ{j x} q=>by
  by_cases z:j=i
  .subst z;rcases q with q | q <;> rw[sU h] at q <;> cases q
  .exact⟨z,q.imp (back z) (back z)⟩
 refine⟨upd F p o,p,bz l,m,n,?_,?_,?_,?_,?_,?_,?_,?_,?_,?_,e.rest,e.dom⟩
 .intro b u q;by_cases z:b=p
  .subst z;rw[aC] at q;cases q;exact r
  .rw[ao z] at q;exact e.sub b u q
 .rw[oJ];exact e.len
 .intro j x q;by_cases z:j=i
  .subst z;rw[sU h] at q;cases q;exact⟨_,m,n⟩
  .obtain⟨v,a,b⟩:=e.fz j x (back z q);exact⟨v,a,b.mono (bz l)⟩
 .intro j x q;obtain⟨z,q⟩:=f q;obtain⟨g,a,b,c⟩:=e.hl j x q;have A:g≠p:=λy=>z (e.dis j i x d p q (.inl h) (y ▸ a) m);exact⟨g,a,by rw[ao A];exact b,c.mono (bz l) rfl⟩
 .intro j x g q a;obtain⟨z,_⟩:=f (.inl q);exact e.ow j x g (back z q) a
 .intro j x g q a;obtain⟨z,_⟩:=f (.inr q);exact e.ln j x g (back z q) a
 .intro j k x y g w t;exact e.dis j k x y g (f w).2 (f t).2
 .intro j g q;obtain⟨a,y,b⟩:=e.par j g q;have z:j≠i:=λz=>by subst z;rw[h] at b;cases b
  exact⟨a,y,by rw[bP (lj z)];exact b⟩
 .exact e.keep.trans (bz l)
 .intro b u q;by_cases z:b=p
  .subst z;exact .inr (e.ow i d _ h m)
  .rw[ao z] at q;exact e.new b u q
theorem FP(i:Nat):Ref K (e9 i) (dQ i):=by
 intro B F g H j Q l e h k;delta dQ at h;split at h
 .rename_i d q;obtain⟨v,b,a⟩:=e.fz i d q;exact⟨v,b,k _ _ (iM e a h)⟩
 .rename_i d q;obtain⟨f,p,s,b,a,c⟩:=e.give q;exact⟨_,b,k _ _ ⟨f,_,.fz d,s,c,a,h⟩⟩
 .exact h.elim
def t3C (d:D)(Γ:G)(Q:RV->G->Prop):Prop:=Q (.fz d) Γ
theorem uw{v:V}{d:D}(h:∀ F,Rep K F d v):Ref K (tC v) (t3C d):=λB F a H b Q c e q k=>k _ _ (iM e (h F) q)
inductive Bo where
 | d (x:D) | v (i:Nat)
noncomputable def bare:D->D
 | .cel _ xs=>.lst xs
 | .non=>.non
 | .bl b=>.bl b
 | .int i=>.int i
 | .str x=>.str x
 | .lst xs=>.lst xs
 | .tup xs=>.tup xs
 | .ktup xs=>.ktup xs
 | .ins C ns xs=>.ins C ns xs
 | .scr ns=>.scr ns
 | .ty n=>.ty n
 | .adr a=>.adr a
set_option backward.eqns.nonrecursive false in
noncomputable def Gat (Γ:G)(i:Nat):Option D:=match Γ[i]? with
 | some (some (.fz d))=>some d
 | some (some (.ow d))=>some (bare d)
 | some (some (.ln d))=>some (bare d)
 | _=>none
set_option backward.eqns.nonrecursive false in
noncomputable def Bo.at (Γ:G):Bo->Option D
 | .d x=>some x
 | .v i=>Gat Γ i
noncomputable def qK (K:Fg0)(F:Hp)(σ:St):Bo->V->Prop
 | .d x,v=>Rep K F x v
 | .v i,v=>σ[i]?=some (some v)
noncomputable def jI (K:Fg0)(F H:Hp):D->V->Prop
 | .lst xs,v=>∃ p vs,v=.ref p/\H p=some (.lst vs)/\aA K F xs vs
 | .cel q xs,v=>v=.ref q/\∃ vs,H q=some (.lst vs)/\aA K F xs vs
 | .ins C ns xs,v=>∃ p dx a,v=.ref p/\H p=some (.ins C dx a)/\a.map (·.1)=ns/\aA K F xs (a.map (·.2))
 | d,v=>Rep K F d v
theorem Rep.b(s:aB F H):∀ {d:D} {v:V},Rep K F d v->jI K F H d v
 | .non,_,h=>h
 | .bl _,_,h=>h
 | .int _,_,h=>h
 | .str _,_,h=>h
 | .ty _,_,h=>h
 | .adr _,_,h=>h
 | .cel _ _,_,⟨e,f,c,a⟩=>⟨e,f,s _ _ c,a⟩
 | .scr _,_,h=>h
 | .tup _,_,h=>h
 | .ktup _,_,h=>h
 | .lst _,_,⟨p,f,e,c,a⟩=>⟨p,f,e,s _ _ c,a⟩
 | .ins _ _ _,_,⟨p,j,i,e,c,a,g⟩=>⟨p,j,i,e,s _ _ c,a,g⟩
theorem Own.b:∀ {d:D},Own K F H p d->jI K F H (bare d) (.ref p)
 | .lst _,⟨e,c,a⟩=>⟨p,e,rfl,c,a⟩
 | .cel _ _,Z=>by obtain⟨z,e,c,a⟩:=Z;subst z;exact⟨_,e,rfl,c,a⟩
 | .ins _ _ _,⟨h,g,c,a,f⟩=>⟨p,h,g,rfl,c,a,f⟩
theorem qK.mono(s:aB F F'):∀ {bo:Bo} {v:V},qK K F σ bo v->qK K F' σ bo v
 | .d _,_,h=>Rep.mono s h
 | .v _,_,h=>h
theorem En.get(e:En K B F σ H Γ){d:D}(h:Gat Γ i=some d):∃ v,σ[i]?=some (some v)/\jI K F H d v:=by
 delta Gat at h;split at h
 .cases h;rename_i q;obtain⟨v,a,c⟩:=e.fz i _ q;exact⟨v,a,c.b e.sub⟩
 .cases h;rename_i q;obtain⟨p,a,c,b⟩:=e.hl i _ (.inl q);exact⟨_,a,b.b⟩
 .cases h;rename_i q;obtain⟨p,a,c,b⟩:=e.hl i _ (.inr q);exact⟨_,a,b.b⟩
 .cases h
theorem En.bo (e:En K B F σ H Γ):∀ {bo:Bo} {v:V} {d:D},qK K F σ bo v->bo.at Γ=some d->jI K F H d v
 | .d x,v,d,h,q=>by cases q;exact Rep.b e.sub h
 | .v i,v,d,h,q=>by
  obtain⟨u,a,b⟩:=e.get q;rw[show σ[i]?=some (some v) from h] at a;cases a;exact b
abbrev TB3:=G->(Bo->G->Prop)->Prop
def PoB (K:Fg0)(B:Bs)(F:Hp)(σ:St)(Q:Bo->G->Prop):VK:=λv H'=>∃ F' Γ' bo,aB F F'/\En K B F' σ H' Γ'/\qK K F' σ bo v/\Q bo Γ'
def tU (K:Fg0)(t:TE)(a:TB3):Prop:=∀ (B:Bs) (F:Hp) (σ:St) (H:Hp) (Γ:G) (Q:Bo->G->Prop) (QQ:VK),En K B F σ H Γ->a Γ Q->(∀ v H',PoB K B F σ Q v H'->QQ v H')->t σ H QQ
def bor (i:Nat)(Γ:G)(Q:Bo->G->Prop):Prop:=(∃ d,Gat Γ i=some d)/\Q (.v i) Γ
def bof (a:TE3)(Γ:G)(Q:Bo->G->Prop):Prop:=a Γ λx Γ1=>Q (.d x.d) Γ1
theorem Df(i:Nat):tU K (e9 i) (bor i):=by
 intro B F f H b Q g e ⟨⟨d,c⟩,q⟩ k;obtain⟨v,a,_⟩:=e.get c;exact⟨v,a,k _ _ ⟨F,b,.v i,aB.refl F,e,a,q⟩⟩
theorem FO{t:TE}{g:TE3}(h:Ref K t g):tU K t (bof g):=by
 intro B F i H j Q p e q k;refine h B F i H j _ _ e q (λv r Z=>?_);obtain⟨s,a,x,l,o,m,n⟩:=Z;obtain⟨f,b,d,c⟩:=o.frozen m;exact k _ _ ⟨f,a,.d x.d,l.trans b,d,c,n⟩
def lK (K:Fg0)(r:R2)(b:D->D->TE3):Prop:=∀ (B:Bs) (F:Hp) (σ:St) (H:Hp) (Γ:G) (x y:V) (dx a:D) (Q:RV->G->Prop) (QQ:VK),En K B F σ H Γ->jI K F H dx x->jI K F H a y->b dx a Γ Q->(∀ v H',Po K B F σ Q v H'->QQ v H')->r x y H QQ
def cn (c:D->D->TE3)(e d:TB3)(Γ:G)(Q:RV->G->Prop):Prop:=e Γ λx Γ1=>d Γ1 λy a=>∃ dx b,x.at a=some dx/\y.at a=some b/\c dx b a Q
theorem fc{r:R2}{f:TE}{l j:TB3}{i:D->D->TE3}(h:lK K r i)(C:tU K ta l)(A:tU K f j):Ref K (tOp r ta f) (cn i l j):=by
 intro B F a H m Q M e q k;refine C B F a H m _ _ e q (λv P Z=>?_);obtain⟨S,c,x,n,I,s,w⟩:=Z;refine A B S a P c _ _ I w (λu O Z=>?_);obtain⟨R,b,y,g,d,o,L,J,G,E,t⟩:=Z;exact h B R a O b v u L J Q M d (d.bo (s.mono g) G) (d.bo o E) t λz N p=>k z N (p.mono (n.trans g))
def Bp (a:D->TE3)(b:TB3)(Γ:G)(Q:RV->G->Prop):Prop:=b Γ λx Γ1=>∃ dx,x.at Γ1=some dx/\a dx Γ1 Q
def NM (K:Fg0)(r:V->Hp->VK->Prop)(a:D->TE3):Prop:=∀ (B:Bs) (F:Hp) (σ:St) (H:Hp) (Γ:G) (x:V) (dx:D) (Q:RV->G->Prop) (QQ:VK),En K B F σ H Γ->jI K F H dx x->a dx Γ Q->(∀ v H',Po K B F σ Q v H'->QQ v H')->r x H QQ
theorem yU{r:V->Hp->VK->Prop}{d:TB3}{b:D->TE3}(h:NM K r b)(l:tU K ta d):Ref K (λσ H Q=>ta σ H λx H1=>r x H1 Q) (Bp b d):=by
 intro B F σ H f Q o e q k;refine l B F σ H f _ _ e q (λv H1 Z=>?_);obtain⟨t,a,x,g,c,i,n,m,j⟩:=Z;exact h B t σ H1 a v n Q o c (c.bo i m) j λz s p=>k z s (p.mono g)
end
variable {a e:PM}{tc:_2.TT}{c3:List _3.D->_3.TE3}{e3:_3.TE3}{B:_3.Bs}{Γ Γa Γ':_3.G}{Q:_3.RV->_3.G->Prop}{v:_2.V}{pos' px:TM}{C:Int->Int->Prop}{op:Vf}{r:List _2.V->_2.Hp->_2.VK->Prop}{o3 o3':_3.D->_3.D->_3.TE3}{r':_2.R2}{xs ys:List _3.D}{th:_2.TO}{is:List Nat}{ls:On}{σc:_2.St}{k3:_3.TB3}{ws:List _2.V}{QQ:List _2.V->_2.St->_2.Hp->Prop}
open PySem _2 PySem.Spec PyProof.Rows
structure P3 (K:Fg0) (X:Cx) (e:Expr) (t:TE) (t3:TE3):Prop where
 pe:PE X e t
 rf:Ref K t t3
structure P3B (K:Fg0) (X:Cx) (e:Expr) (t:TE) (t3:TB3):Prop where
 pe:PE X e t
 rf:tU K t t3
section
variable {b c:Expr}{tb tc:TE}{a3 b3 c3:TB3}
theorem P3.opd(h:P3 K X a ta e3):P3B K X a ta (bof e3):=⟨h.pe,FO h.rf⟩
theorem bv(i:Nat)(hN:autoParam (X.N[i]?=some x) wE)(b:autoParam (Vis X.env.scope x) wq2)(c:autoParam ((x == ("__debug__":Str))=false) wP)(a:autoParam ((x == ("__classdict__":Str))=false) wP):P3B K X (.Name x pos) (e9 i) (bor i):=⟨v_ hN b c a,Df i⟩
theorem ja{i:Int}(e:En K B F σ H Γ)(q:Q (.fz (.int i)) Γ):Po K B F σ Q (.int i) H:=iM (d:=.int i) e rfl q
theorem yW{i:Str}(e:En K B F σ H Γ)(q:Q (.fz (.str i)) Γ):Po K B F σ Q (.str i) H:=iM (d:=.str i) e rfl q
theorem uB{i:Bool}(e:En K B F σ H Γ)(q:Q (.fz (.bl i)) Γ):Po K B F σ Q (.bl i) H:=iM (d:=.bl i) e rfl q
theorem p3v(i:Nat)(hN:autoParam (X.N[i]?=some x) wE)(b:autoParam (Vis X.env.scope x) wq2)(c:autoParam ((x == ("__debug__":Str))=false) wP)(a:autoParam ((x == ("__classdict__":Str))=false) wP):P3 K X (.Name x pos) (e9 i) (dQ i):=⟨v_ hN b c a,FP i⟩
theorem ae{i j pos}:P3 K X (.Constant (.int i) j pos) (tC (.int i)) (t3C (.int i)):=⟨yZ,uw λ_=>rfl⟩
theorem kg{i j pos}:P3 K X (.Constant (.bool i) j pos) (tC (.bl i)) (t3C (.bl i)):=⟨Mc,uw λ_=>rfl⟩
theorem cf{x j pos}:P3 K X (.Constant (.str x) j pos) (tC (.str x)) (t3C (.str x)):=⟨JI,uw λ_=>rfl⟩
theorem we{i:Int}(b:Gl X x)(a:∃ t,X.mg x=some (.int i t))(c:autoParam ((x == ("__debug__":Str))=false) wP):P3 K X (.Name x pos) (tC (.int i)) (t3C (.int i)):=
 ⟨let ⟨t,a⟩:=a;rm (v:=.int i) b a ⟨t,rfl⟩ c,uw λ_=>rfl⟩
theorem JR{x y v:Int}{a:Pos}(h:x ^ y.toNat=v)(b:Cu x y):P3 K X (.BinOp (.Constant (.int x) j pos') .Pow (.Constant (.int y) k a) pos) (tOp (rI Cu λi j=>.int (i ^ j.toNat)) (tC (.int x)) (tC (.int y))) (t3C (.int v)):=
 ⟨kR JV yZ yZ,λB F d H f Q c e q k=>⟨x,y,rfl,rfl,b,by show c (.int (x ^ y.toNat)) H;rw[h];exact k _ _ (ja e q)⟩⟩
set_option backward.eqns.nonrecursive false in
def i2 (C:Int->Int->Prop)(f:Int->Int->D)(x y:D)(Γ:G)(Q:RV->G->Prop):Prop:=match x,y with
 | .int i,.int j=>C i j/\Q (.fz (f i j)) Γ
 | _,_=>False
set_option backward.eqns.nonrecursive false in
def i2' (f:Int->Int->D)(x y:D)(Γ:G)(Q:RV->G->Prop):Prop:=match x,y with
 | .int i,.int j=>Q (.fz (f i j)) Γ
 | _,_=>False
theorem opI{f:Int->Int->D}{g:Int->Int->V}(h:∀ F i j,Rep K F (f i j) (g i j)):lK K (rI C g) (i2 C f):=by
 intro B F c H d x y m l Q n e b a q k;delta i2 at q;split at q
 .cases b;cases a;exact⟨_,_,rfl,rfl,q.1,k _ _ (iM e (h F _ _) q.2)⟩
 .exact q.elim
theorem qR{f:Int->Int->D}{g:Int->Int->V}(h:∀ F i j,Rep K F (f i j) (g i j)):lK K (rI0 g) (i2' f):=by
 intro B F c H d x y m l Q n e b a q k;delta i2' at q;split at q
 .cases b;cases a;exact⟨_,_,rfl,rfl,k _ _ (iM e (h F _ _) q)⟩
 .exact q.elim
set_option backward.eqns.nonrecursive false in
def yx (x y:D)(Γ:G)(Q:RV->G->Prop):Prop:=match x,y with
 | .int i,.int j=>Q (.fz (.int (i + j))) Γ
 | .lst xs,.lst ys=>xs.length + ys.length<=sizeLine/\Q (.fr (.lst (xs++ys))) Γ
 | .str i,.str j=>i.length + j.length<=sizeLine/\Q (.fz (.str (i++j))) Γ
 | _,_=>False
theorem aA.length:∀ {xs:List D} {vs:List V},aA K F xs vs->vs.length=xs.length
 | [],_,h=>by cases h;rfl
 | _::_,_,Z=>by obtain⟨v,c,b,d,a⟩:=Z;subst b;simp -iota [a.length]
theorem aA.append:∀ {xs ys:List D} {vs ws:List V},aA K F xs vs->aA K F ys ws->aA K F (xs++ys) (vs++ws)
 | [],_,_,_,h,a=>by cases h;exact a
 | _::_,_,_,_,⟨v,ws,d,c,b⟩,a=>by subst d;exact⟨v,_,rfl,c,b.append a⟩
theorem aA.get:∀ {xs:List D} {vs:List V},aA K F xs vs->∀ {i:Nat} {d:D},xs[i]?=some d->∃ v,vs[i]?=some v/\Rep K F d v
 | [],_,_,i,d,e=>by simp -iota at e
 | x::xs,_,⟨v,h,c,g,f⟩,0,d,e=>by subst c;simp -iota at e;subst e;exact⟨v,rfl,g⟩
 | x::xs,_,⟨v,h,c,g,f⟩,i + 1,d,e=>by
  subst c;obtain⟨u,a,b⟩:=f.get (i:=i) (d:=d) (by simpa using e);exact⟨u,by simpa using a,b⟩
theorem aA.G5:∀ {xs:List D} {vs:List V},aA K F xs vs->∀ {i:Nat} {v:V},vs[i]?=some v->∃ d,xs[i]?=some d/\Rep K F d v:=λ{xs vs} h {i v} e=>by
 have c:i < vs.length:=(gS0 e).1;rw[h.length] at c;obtain⟨u,a,b⟩:=h.get (gE0 c);rw[e] at a;cases a;exact⟨_,gE0 c,b⟩
theorem aA.take:∀ {xs:List D} {vs:List V} (n:Nat),aA K F xs vs->aA K F (xs.take n) (vs.take n)
 | _,_,0,_=>by simp -iota [aA]
 | [],_,n + 1,h=>by cases h;simp -iota [aA]
 | x::xs,_,n + 1,Z=>by obtain⟨v,d,c,b,a⟩:=Z;subst c;exact⟨v,_,rfl,b,aA.take n a⟩
theorem aA.drop:∀ {xs:List D} {vs:List V} (n:Nat),aA K F xs vs->aA K F (xs.drop n) (vs.drop n)
 | _,_,0,h=>h
 | [],_,n + 1,h=>by cases h;simp -iota [aA]
 | x::xs,_,n + 1,Z=>by obtain⟨v,c,b,d,a⟩:=Z;subst b;exact aA.drop n a
theorem aA.set{d:D}(r:Rep K F d v):∀ {xs:List D} {vs:List V} (n:Nat),aA K F xs vs->aA K F (xs.set n d) (vs.set n v)
 | [],_,_,h=>by cases h;simp -iota [aA]
 | x::xs,_,0,Z=>by obtain⟨u,c,b,e,a⟩:=Z;subst b;exact⟨v,c,rfl,r,a⟩
 | x::xs,_,n + 1,Z=>by obtain⟨u,c,b,e,a⟩:=Z;subst b;exact⟨u,_,rfl,e,aA.set r n a⟩
theorem aA.ints:∀ (ns:Li0),aA K F (ns.map D.int) (ns.map V.int)
 | []=>rfl
 | n::ns=>⟨_,_,rfl,rfl,aA.ints ns⟩
theorem aA.n9:∀ {ns:Li0} {vs:List V},aA K F (ns.map D.int) vs->vs=ns.map V.int
 | [],_,h=>h
 | n::ns,_,Z=>by
  obtain⟨v,d,c,b,a⟩:=Z;rw[c,aA.n9 a];have:v=.int n:=b;rw[this];rfl
abbrev Jt:R2:=λx y H Q=>rI0 (λi j=>.int (i + j)) x y H Q\/L6 x y H Q\/(∃ i j,x=.str i/\y=.str j/\i.length + j.length<=sizeLine/\Q (.str (i++j)) H)
theorem Gz:OpR X (uU .Add) Jt:=J3.or (J1.or y4)
theorem addRef:lK K Jt yx:=by
 intro B F n H o x y s r Q t e b a q k;delta yx at q;split at q
 .cases b;cases a;exact .inl ⟨_,_,rfl,rfl,k _ _ (ja e q)⟩
 .obtain⟨p,g,rfl,m,d⟩:=b;obtain⟨h,f,rfl,j,c⟩:=a;refine .inr (.inl ⟨p,h,g,f,rfl,rfl,m,j,by rw[d.length,c.length];exact q.1,λl i=>k _ _ (iK e i (d.append c) q.2)⟩)
 .cases b;cases a;exact .inr (.inr ⟨_,_,rfl,rfl,q.1,k _ _ (yW e q.2)⟩)
 .exact q.elim
theorem aF(d:P3B K X a ta a3)(c:P3B K X b tb b3):P3 K X (.BinOp a .Add b pos) (tOp Jt ta tb) (cn yx a3 b3):=⟨kR Gz d.pe c.pe,fc addRef d.rf c.rf⟩
theorem gc(d:P3B K X a ta a3)(c:P3B K X b tb b3):P3 K X (.BinOp a .Sub b pos) (tOp (rI0 λi j=>.int (i - j)) ta tb) (cn (i2' λi j=>.int (i - j)) a3 b3):=⟨kR JS d.pe c.pe,fc (qR λ_ _ _=>rfl) d.rf c.rf⟩
theorem cK(d:P3B K X a ta a3)(c:P3B K X b tb b3):P3 K X (.BinOp a .Mult b pos) (tOp (rI ug λi j=>.int (i * j)) ta tb) (cn (i2 ug λi j=>.int (i * j)) a3 b3):=⟨kR JX d.pe c.pe,fc (opI λ_ _ _=>rfl) d.rf c.rf⟩
theorem b9(d:P3B K X a ta a3)(c:P3B K X b tb b3):P3 K X (.BinOp a .FloorDiv b pos) (tOp (rI p_ λi j=>.int (i / j)) ta tb) (cn (i2 p_ λi j=>.int (i / j)) a3 b3):=⟨kR Gy d.pe c.pe,fc (opI λ_ _ _=>rfl) d.rf c.rf⟩
theorem mZ(d:P3B K X a ta a3)(c:P3B K X b tb b3):P3 K X (.BinOp a .Mod b pos) (tOp (rI (λ_ j=>0 < j) λi j=>.int (i % j)) ta tb) (cn (i2 (λ_ j=>0 < j) λi j=>.int (i % j)) a3 b3):=⟨kR JY d.pe c.pe,fc (opI λ_ _ _=>rfl) d.rf c.rf⟩
def wH (f:Int->Int->Bool)(x y:D)(Γ:G)(Q:RV->G->Prop):Prop:=i2' (λi j=>.bl (f i j)) x y Γ Q
noncomputable abbrev lA (i j:Int):Bool:=decide (i < j)
noncomputable abbrev zD (i j:Int):Bool:=decide (i<=j)
noncomputable abbrev G_ (i j:Int):Bool:=decide (j < i)
noncomputable abbrev zE (i j:Int):Bool:=decide (j<=i)
structure C3 (K:Fg0) (X:Cx) (op:CmpOp) (r:R2) (o3:D->D->TE3):Prop where
 op:OpR X (tu op) r
 rf:lK K r o3
theorem oR:C3 K X .Lt (rI0 λi j=>.bl (decide (i < j))) (wH lA):=⟨Mi,qR λ_ _ _=>rfl⟩
theorem A_:C3 K X .LtE (rI0 λi j=>.bl (decide (i<=j))) (wH zD):=⟨Mj,qR λ_ _ _=>rfl⟩
theorem yo:C3 K X .Gt (rI0 λi j=>.bl (decide (j < i))) (wH G_):=⟨Ml,qR λ_ _ _=>rfl⟩
theorem EX:C3 K X .GtE (rI0 λi j=>.bl (decide (j<=i))) (wH zE):=⟨Mm,qR λ_ _ _=>rfl⟩
theorem gf{r:R2}(h:C3 K X op r o3)(d:P3B K X a ta a3)(c:P3B K X b tb b3)(e:Ol op b=false):P3 K X (.Compare a [op] [b] pos) (tOp r ta tb) (cn o3 a3 b3):=⟨Gp h.op d.pe c.pe e,fc h.rf d.rf c.rf⟩
set_option backward.eqns.nonrecursive false in
def q9 (g e:D->D->TE3)(j i h:TB3)(Γ:G)(Q:RV->G->Prop):Prop:=j Γ λx Γ1=>i Γ1 λy b=>∃ dx d,x.at b=some dx/\y.at b=some d/\g dx d b λz c=>match z with
 | .fz (.bl true)=>h c λw a=>∃ d f,y.at a=some d/\w.at a=some f/\e d f a Q
 | .fz (.bl false)=>Q (.fz (.bl false)) c
 | _=>False
theorem uv{r:R2}(h:lK K r o3)(h':lK K r' o3')(P:tU K ta a3)(O:tU K tb b3)(N:tU K tc c3):Ref K (rM r r' ta tb tc) (q9 o3 o3' a3 b3 c3):=by
 intro B F c H D Q Y e q k;refine P B F c H D _ _ e q (λv H1 Z=>?_);obtain⟨F1,j,x,E,V,I,M⟩:=Z;refine O B F1 c H1 j _ _ V M (λu H2 Z=>?_);obtain⟨F2,i,y,t,m,A,W,n,U,T,L⟩:=Z;refine h B F2 c H2 i v u W n _ _ m (m.bo (I.mono t) U) (m.bo A T) L λz H3 Z=>?_;obtain⟨F3,g,z3,s,C,d,b⟩:=Z;have a:=(E.trans t).trans s
 revert d b
 split
 .intro d b;refine⟨true,d,?_⟩;rw[if_pos rfl];refine N B F3 c H3 g _ _ C b (λw H4 Z=>?_);obtain⟨F4,f,w3,o,l,G,n,X,S,R,J⟩:=Z;exact h' B F4 c H4 f u w n X Q Y l (l.bo (A.mono (s.trans o)) S) (l.bo G R) J λz H5 p=>k z H5 (p.mono (a.trans o))
 .intro d b;refine⟨false,d,?_⟩;rw[if_neg (by simp)];exact k _ _ (Po.mono a (uB C b))
 .intro _ b;exact b.elim
theorem DP{d:CmpOp}{r:R2}(h:C3 K X op r o3)(h':C3 K X d r' o3')(g:P3B K X a ta a3)(f:P3B K X b tb b3)(e:P3B K X c tc c3)(i:autoParam (TU [op,d] [b,c]=false) wq1) :
  P3 K X (.Compare a [op,d] [b,c] pos) (rM r r' ta tb tc) (q9 o3 o3' a3 b3 c3):=⟨DF h.op h'.op g.pe f.pe e.pe i,uv h.rf h'.rf g.rf f.rf e.rf⟩
set_option backward.eqns.nonrecursive false in
def J8 (x:D)(Γ:G)(Q:RV->G->Prop):Prop:=match x with
 | .int i=>Q (.fz (.int (-i))) Γ
 | _=>False
theorem pJ(b:P3B K X a ta a3):P3 K X (.UnaryOp .USub a pos) (tUn (rU λi=>.int (-i)) ta) (Bp J8 a3):=⟨L_ IT b.pe,yU (r:=rU λi=>.int (-i)) (ta:=ta) (by
 intro B F d H f x g Q h e c q k;delta J8 at q;split at q
 .cases c;exact⟨_,rfl,k _ _ (ja e q)⟩
 .exact q.elim) b.rf⟩
end
abbrev TT3:=G->(Bool->G->Prop)->Prop
noncomputable def PoT (K:Fg0)(B:Bs)(F:Hp)(σ:_2.St)(Q:Bool->G->Prop):Bool->Hp->Prop:=λb H'=>∃ F' Γ',aB F F'/\En K B F' σ H' Γ'/\Q b Γ'
def q8 (K:Fg0)(t:TT)(a:TT3):Prop:=∀ (B:Bs) (F:Hp) (σ:_2.St) (H:Hp) (Γ:G) (Q:Bool->G->Prop) (QQ:Bool->Hp->Prop),En K B F σ H Γ->a Γ Q->(∀ b H',PoT K B F σ Q b H'->QQ b H')->t σ H QQ
structure P3T (K:Fg0) (X:Cx) (e:Expr) (t:TT) (t3:TT3):Prop where
 pe:PT X e t
 rf:q8 K t t3
structure P3W (K:Fg0) (X:Cx) (e:Expr) (t:TT) (t3:TT3):Prop where
 pe:PW X e t
 rf:q8 K t t3
section
variable {b c:Expr}{tb tc:TE}{a3 b3 c3:TE3}{a3' b3' c3':TB3}{tA tB':TT}{A3 B3:TT3}{rest:List Expr}
def tst (a:TE3)(Γ:G)(Q:Bool->G->Prop):Prop:=a Γ λx Γ1=>match x.d with
 | .bl k=>Q k Γ1
 | _=>False
theorem PoT.mono{Q:Bool->G->Prop}{k:Bool}(s:aB F F')(h:PoT K B F' σ Q k H):PoT K B F σ Q k H:=by
 obtain⟨d,c,a,b⟩:=h;exact⟨d,c,s.trans a,b⟩
theorem Dk(h:Ref K ta a3):q8 K (λσ H Q=>ta σ H λx H1=>∃ c,x=.bl c/\Q c H1) (tst a3):=by
 intro B F σ H j Q p e q k;refine h B F σ H j _ _ e q (λv H1 Z=>?_);obtain⟨r,d,x,l,o,m,b⟩:=Z;obtain⟨i,f,g,a⟩:=o.frozen m
 revert a b
 split
 .rename_i n;intro b a;rw[n] at a;exact⟨_,a,k _ _ ⟨i,d,l.trans f,g,b⟩⟩
 .intro b;exact b.elim
theorem cV{t:TE}(h:P3 K X e t e3)(b:autoParam (∀ a,isTrue e X.env a=(do let v <- a;ru e.pos;holding [v] (truthy v))) wT):P3T K X e (tB t) (tst e3):=⟨Jx h.pe b,Dk h.rf⟩
theorem aK{r:R2}(h:C3 K X op r o3)(d:P3B K X a ta a3')(c:P3B K X b tb b3')(e:Ol op b=false):P3T K X (.Compare a [op] [b] pos) (z9 (tOp r ta tb)) (tst (cn o3 a3' b3')):=
 ⟨Ga h.op d.pe c.pe e,Dk (fc h.rf d.rf c.rf)⟩
theorem BK{d:CmpOp}{r:R2}(h:C3 K X op r o3)(h':C3 K X d r' o3')(g:P3B K X a ta a3')(f:P3B K X b tb b3')(e:P3B K X c tc c3')(i:autoParam (TU [op,d] [b,c]=false) wq1) :
  P3T K X (.Compare a [op,d] [b,c] pos) (z9 (rM r r' ta tb tc)) (tst (q9 o3 o3' a3' b3' c3')):=⟨Dr h.op h'.op g.pe f.pe e.pe i,Dk (uv h.rf h'.rf g.rf f.rf e.rf)⟩
def Fi (a B3:TT3)(Γ:G)(Q:Bool->G->Prop):Prop:=a Γ λc Γ1=>match c with
 | true=>B3 Γ1 Q
 | false=>Q false Γ1
def or3 (a B3:TT3)(Γ:G)(Q:Bool->G->Prop):Prop:=a Γ λc Γ1=>match c with
 | true=>Q true Γ1
 | false=>B3 Γ1 Q
def J5 (a:TT3)(Γ:G)(Q:Bool->G->Prop):Prop:=a Γ λc Γ1=>Q (!c) Γ1
theorem FW(l:q8 K tA A3)(j:q8 K tB' B3):q8 K (I_ tA tB') (Fi A3 B3):=by
 intro B F b H i Q n e q k;refine l B F b H i _ _ e q (λc m Z=>?_);obtain⟨h,a,d,g,f⟩:=Z;cases c with
 | true=>exact zi (j B h b m a _ _ g f λc o p=>k _ _ (p.mono d))
 | false=>exact zj (k _ _ ⟨h,a,d,g,f⟩)
theorem Jp(l:q8 K tA A3)(j:q8 K tB' B3):q8 K (tOr tA tB') (or3 A3 B3):=by
 intro B F b H i Q n e q k;refine l B F b H i _ _ e q (λc m Z=>?_);obtain⟨h,a,d,g,f⟩:=Z;cases c with
 | true=>exact zi (k _ _ ⟨h,a,d,g,f⟩)
 | false=>exact zj (j B h b m a _ _ g f λc o p=>k _ _ (p.mono d))
theorem FR(h:q8 K tA A3):q8 K (IZ tA) (J5 A3):=by
 intro B F b H d Q l e q k;exact h B F b H d _ _ e q (λc m ⟨j,a,f,i,g⟩=>k _ _ ⟨j,a,f,i,g⟩)
theorem jr(b:P3T K X a tA A3):P3W K X (.BoolOp .And [a] pos) tA A3:=⟨FZ b.pe,b.rf⟩
theorem nL(b:P3T K X a tA A3):P3W K X (.BoolOp .Or [a] pos) tA A3:=⟨Ju b.pe,b.rf⟩
theorem lU(d:P3T K X a tA A3)(c:P3W K X (.BoolOp .And (b::rest) pos) tB' B3):P3W K X (.BoolOp .And (a::b::rest) pos) (I_ tA tB') (Fi A3 B3):=⟨Jv d.pe c.pe,FW d.rf c.rf⟩
theorem sk(d:P3T K X a tA A3)(c:P3W K X (.BoolOp .Or (b::rest) pos) tB' B3):P3W K X (.BoolOp .Or (a::b::rest) pos) (tOr tA tB') (or3 A3 B3):=⟨L7 d.pe c.pe,Jp d.rf c.rf⟩
theorem P3W.pt(h:P3W K X e tA A3):P3T K X e tA A3:=⟨h.pe.pt,h.rf⟩
theorem dJ(b:P3T K X a tA A3):P3T K X (.UnaryOp .Not a pos) (IZ tA) (J5 A3):=⟨Jy b.pe,FR b.rf⟩
set_option backward.eqns.nonrecursive false in
def vj (b a:TE3)(Γ:G)(Q:RV->G->Prop):Prop:=b Γ λx Γ1=>match x.d with
 | .bl true=>a Γ1 Q
 | .bl false=>Q (.fz (.bl false)) Γ1
 | _=>False
set_option backward.eqns.nonrecursive false in
def Mg (b a:TE3)(Γ:G)(Q:RV->G->Prop):Prop:=b Γ λx Γ1=>match x.d with
 | .bl true=>Q (.fz (.bl true)) Γ1
 | .bl false=>a Γ1 Q
 | _=>False
theorem y3{op}(h:P3 K X a ta a3):P3 K X (.BoolOp op [a] pos) ta a3:=⟨JK h.pe,h.rf⟩
theorem DR(o:P3 K X a ta a3)(n:P3 K X (.BoolOp .And (b::rest) pos) tb b3):P3 K X (.BoolOp .And (a::b::rest) pos) (HP ta tb) (vj a3 b3):=⟨JN o.pe n.pe,by
 intro B F l H r Q w e q k;refine o.rf B F l H r _ _ e q (λv u Z=>?_);obtain⟨z,h,x,m,t,s,d⟩:=Z;obtain⟨j,f,g,c⟩:=t.frozen s
 revert c d
 split
 .rename_i i;intro d c;rw[i] at c;exact⟨true,c,zi (n.rf B j l u h _ _ g d λv y p=>k _ _ (p.mono (m.trans f)))⟩
 .rename_i i;intro d c;rw[i] at c;exact⟨false,c,zj (k _ _ (Po.mono (m.trans f) (uB g d)))⟩
 .intro d;exact d.elim⟩
theorem Mf(o:P3 K X a ta a3)(n:P3 K X (.BoolOp .Or (b::rest) pos) tb b3):P3 K X (.BoolOp .Or (a::b::rest) pos) (LD ta tb) (Mg a3 b3):=⟨Ma o.pe n.pe,by
 intro B F l H r Q w e q k;refine o.rf B F l H r _ _ e q (λv u Z=>?_);obtain⟨z,h,x,m,t,s,d⟩:=Z;obtain⟨j,f,g,c⟩:=t.frozen s
 revert c d
 split
 .rename_i i;intro d c;rw[i] at c;exact⟨true,c,zi (k _ _ (Po.mono (m.trans f) (uB g d)))⟩
 .rename_i i;intro d c;rw[i] at c;exact⟨false,c,zj (n.rf B j l u h _ _ g d λv y p=>k _ _ (p.mono (m.trans f)))⟩
 .intro d;exact d.elim⟩
def if3 (d:TT3)(b a:TE3)(Γ:G)(Q:RV->G->Prop):Prop:=d Γ λc Γ1=>match c with
 | true=>b Γ1 Q
 | false=>a Γ1 Q
theorem DN{c:Expr}(i:P3T K X c tA A3)(l:P3 K X a ta a3)(j:P3 K X b tb b3):P3 K X (.IfExp c a b pos) (tIf tA ta tb) (if3 A3 a3 b3):=⟨DE i.pe l.pe j.pe,by
 intro B F f H r Q t e q k;refine i.rf B F f H r _ _ e q (λc n Z=>?_);obtain⟨o,d,g,m,h⟩:=Z;cases c with
 | true=>exact zi (l.rf B o f n d _ _ m h λv s p=>k _ _ (p.mono g))
 | false=>exact zj (j.rf B o f n d _ _ m h λv s p=>k _ _ (p.mono g))⟩
end
abbrev TA3:=G->(List D->G->Prop)->Prop
noncomputable def PoA (K:Fg0)(B:Bs)(F:Hp)(σ:_2.St)(Q:List D->G->Prop):List V->Hp->Prop:=λvs H'=>∃ F' Γ' ds,aB F F'/\En K B F' σ H' Γ'/\aA K F' ds vs/\Q ds Γ'
def NT (K:Fg0)(t:TA)(a:TA3):Prop:=∀ (B:Bs) (F:Hp) (σ:_2.St) (H:Hp) (Γ:G) (Q:List D->G->Prop) (QQ:List V->Hp->Prop),En K B F σ H Γ->a Γ Q->(∀ vs H',PoA K B F σ Q vs H'->QQ vs H')->t σ H QQ
structure P3A (K:Fg0) (X:Cx) (es:List Expr) (t:TA) (t3:TA3):Prop where
 pe:PA X es t
 rf:NT K t t3
section
variable {t3:TA3}
def wx (Γ:G)(Q:List D->G->Prop):Prop:=Q [] Γ
def iV (c:TE3)(b:TA3)(Γ:G)(Q:List D->G->Prop):Prop:=c Γ λx Γ1=>b Γ1 λxs a=>Q (x.d::xs) a
theorem ai:P3A K X [] rK wx:=⟨wa,λB F b H a Q c e q k=>k _ _ ⟨F,a,[],aB.refl F,e,rfl,q⟩⟩
theorem ab(l:P3 K X e te e3)(j:P3A K X es t t3)(hs:autoParam (ed (e::es) X.env=(false,eval e X.env)::ed es X.env) wE):P3A K X (e::es) (rL te t) (iV e3 t3):=⟨rq l.pe j.pe hs,by
 intro B F h H m Q D e q k;refine l.rf B F h H m _ _ e q (λv A Z=>?_);obtain⟨G,b,x,o,y,r,u⟩:=Z;obtain⟨g,c,f,d⟩:=y.frozen r;refine j.rf B g h A b _ _ f u (λn E Z=>?_);obtain⟨C,a,z,i,w,p,s⟩:=Z;exact k _ _ ⟨C,a,x.d::z,(o.trans c).trans i,w,⟨v,n,rfl,d.mono i,p⟩,s⟩⟩
def ME (a:TA3)(Γ:G)(Q:RV->G->Prop):Prop:=a Γ λxs Γ1=>xs.length<=sizeLine/\Q (.fr (.lst xs)) Γ1
def CG (a:TA3)(Γ:G)(Q:RV->G->Prop):Prop:=a Γ λxs Γ1=>xs.length<=sizeLine/\Q (.fz (.tup xs)) Γ1
theorem br(h:P3A K X es t t3):P3 K X (.List es pos) (LF t) (ME t3):=⟨JL h.pe,by
 intro B F c H f Q n e q k;refine h.rf B F c H f _ _ e q (λl o Z=>?_);obtain⟨r,d,m,g,j,a,b⟩:=Z;exact⟨by rw[a.length];exact b.1,λp i=>k _ _ (Po.mono g (iK j i a b.2))⟩⟩
theorem bO{O}(h:P3A K X es t t3):P3 K X (.Tuple es O pos) (Lz t) (CG t3):=⟨JH h.pe,by
 intro B F c H f Q n e q k;refine h.rf B F c H f _ _ e q (λl o Z=>?_);obtain⟨r,d,m,g,j,a,b⟩:=Z;exact⟨by rw[a.length];exact b.1,λp i=>k _ _ (Po.mono g (vY j i a b.2))⟩⟩
end
noncomputable abbrev dO:=G->(List Bo->G->Prop)->Prop
noncomputable def cg (K:Fg0)(F:Hp)(σ:_2.St):List Bo->List V->Prop
 | [],vs=>vs=[]
 | b::a,vs=>∃ v ws,vs=v::ws/\qK K F σ b v/\cg K F σ a ws
noncomputable def qL (K:Fg0)(F H:Hp):List D->List V->Prop
 | [],vs=>vs=[]
 | d::ds,vs=>∃ v ws,vs=v::ws/\jI K F H d v/\qL K F H ds ws
noncomputable def ats (Γ:G):List Bo->Option (List D)
 | []=>some []
 | b::a=>match b.at Γ,ats Γ a with
  | some d,some ds=>some (d::ds)
  | _,_=>none
noncomputable def O9 (K:Fg0)(B:Bs)(F:Hp)(σ:_2.St)(Q:List Bo->G->Prop):List V->Hp->Prop:=λvs H'=>∃ F' Γ' a,aB F F'/\En K B F' σ H' Γ'/\cg K F' σ a vs/\Q a Γ'
def tV (K:Fg0)(t:TA)(a:dO):Prop:=∀ (B:Bs) (F:Hp) (σ:_2.St) (H:Hp) (Γ:G) (Q:List Bo->G->Prop) (QQ:List V->Hp->Prop),En K B F σ H Γ->a Γ Q->(∀ vs H',O9 K B F σ Q vs H'->QQ vs H')->t σ H QQ
structure tW (K:Fg0) (X:Cx) (es:List Expr) (t:TA) (t3:dO):Prop where
 pe:PA X es t
 rf:tV K t t3
section
variable {e3:TB3}{t3:dO}
theorem En.bos(e:En K B F σ H Γ):∀ {c:List Bo} {vs:List V} {ds:List D},cg K F σ c vs->ats Γ c=some ds->qL K F H ds vs
 | [],_,_,h,q=>by cases q;exact h
 | b::c,_,_,⟨v,f,k,j,i⟩,q=>by
  unfold ats at q;split at q
  .rename_i d ds g a;cases q;exact⟨v,f,k,e.bo j g,e.bos i a⟩
  .cases q
def nR (Γ:G)(Q:List Bo->G->Prop):Prop:=Q [] Γ
def dW (c:TB3)(b:dO)(Γ:G)(Q:List Bo->G->Prop):Prop:=c Γ λx Γ1=>b Γ1 λxs a=>Q (x::xs) a
theorem af:tW K X [] rK nR:=⟨wa,λB F b H a Q c e q k=>k _ _ ⟨F,a,[],aB.refl F,e,rfl,q⟩⟩
theorem aa(g:P3B K X e te e3)(f:tW K X es t t3)(hs:autoParam (ed (e::es) X.env=(false,eval e X.env)::ed es X.env) wE):tW K X (e::es) (rL te t) (dW e3 t3):=⟨rq g.pe f.pe hs,by
 intro B F c H h Q z e q k;refine g.rf B F c H h _ _ e q (λv u Z=>?_);obtain⟨y,b,x,j,r,m,o⟩:=Z;refine f.rf B y c u b _ _ r o (λi A Z=>?_);obtain⟨w,a,s,d,p,l,n⟩:=Z;exact k _ _ ⟨w,a,x::s,j.trans d,p,⟨v,i,rfl,m.mono d,l⟩,n⟩⟩
def Bj (K:Fg0)(r:List V->Hp->VK->Prop)(a:List D->TE3):Prop:=∀ (B:Bs) (F:Hp) (σ:_2.St) (H:Hp) (Γ:G) (vs:List V) (ds:List D) (Q:RV->G->Prop) (QQ:VK),En K B F σ H Γ->qL K F H ds vs->a ds Γ Q->(∀ v H',Po K B F σ Q v H'->QQ v H')->r vs H QQ
def yn (b:List D->TE3)(a:dO)(Γ:G)(Q:RV->G->Prop):Prop:=a Γ λc Γ1=>∃ ds,ats Γ1 c=some ds/\b ds Γ1 Q
theorem Dj(h:Bj K r c3)(m:tV K t t3):Ref K (tCB r t) (yn c3 t3):=by
 intro B F b H d Q o e q k;refine m B F b H d _ _ e q (λf s Z=>?_);obtain⟨u,a,w,g,c,i,n,l,j⟩:=Z;exact h B u b s a f n Q o c (c.bos i l) j λv x p=>k _ _ (p.mono g)
structure B3 (K:Fg0) (X:Cx) (f:Value) (r:List V->Hp->VK->Prop) (c3:List D->TE3):Prop where
 op:dG X f r
 rf:Bj K r c3
variable {p:Pos}{id T:String}
theorem aS(c:B3 K X (.builtin id) r c3)(i:Gl X x)(h:X.mg x=none)(f:mP x=some (.builtin id))(d:tW K X (e::es) t t3)(g:autoParam (x≠"__name__") wP)(b:autoParam ((x == ("__debug__":Str))=false) wP)(j:autoParam (ed (e::es) X.env=(false,eval e X.env)::ed es X.env) wE)(a:autoParam ((backTo pos (ed es X.env)).any (·.1)=false) wE):P3 K X (.Call (.Name x p) (e::es) [] pos) (tCB r t) (yn c3 t3):=
 ⟨DH c.op i h f d.pe g b j a,Dj c.rf d.rf⟩
theorem cR(c:B3 K X (.type T) r c3)(i:Gl X x)(h:X.mg x=none)(f:mP x=some (.type T))(d:tW K X (e::es) t t3)(g:autoParam (x≠"__name__") wP)(b:autoParam ((x == ("__debug__":Str))=false) wP)(j:autoParam (ed (e::es) X.env=(false,eval e X.env)::ed es X.env) wE)(a:autoParam ((backTo pos (ed es X.env)).any (·.1)=false) wE):P3 K X (.Call (.Name x p) (e::es) [] pos) (tCB r t) (yn c3 t3):=
 ⟨BJ c.op i h f d.pe g b j a,Dj c.rf d.rf⟩
set_option backward.eqns.nonrecursive false in
def mx3 (f:Int->Int->Int)(ds:List D)(Γ:G)(Q:RV->G->Prop):Prop:=match ds with
 | [.int i,.int j]=>Q (.fz (.int (f i j))) Γ
 | _=>False
theorem qL.one{d:D}(h:qL K F H [d] vs):∃ v,vs=[v]/\jI K F H d v:=by
 obtain⟨v,c,rfl,b,a⟩:=h;cases a;exact⟨v,rfl,b⟩
theorem qL.two{d e:D}(h:qL K F H [d,e] vs):∃ v w,vs=[v,w]/\jI K F H d v/\jI K F H e w:=by
 obtain⟨v,f,rfl,c,b⟩:=h;obtain⟨w,rfl,a⟩:=qL.one b;exact⟨v,w,rfl,c,a⟩
noncomputable abbrev fmax (i j:Int):Int:=if j > i then j else i
noncomputable abbrev fmin (i j:Int):Int:=if j < i then j else i
theorem IK(a:X.calm=true):B3 K X (.builtin "max") (λxs H Q=>∃ i j,xs=[.int i,.int j]/\Q (.int (if j > i then j else i)) H) (mx3 fmax):=⟨Cj a,by
 intro B F c H d f g Q l e r q k;delta mx3 at q;split at q
 .obtain⟨v,w,rfl,h,b⟩:=r.two;cases h;cases b;exact⟨_,_,rfl,k _ _ (ja e q)⟩
 .exact q.elim⟩
theorem IJ(a:X.calm=true):B3 K X (.builtin "min") (λxs H Q=>∃ i j,xs=[.int i,.int j]/\Q (.int (if j < i then j else i)) H) (mx3 fmin):=⟨Ci a,by
 intro B F c H d f g Q l e r q k;delta mx3 at q;split at q
 .obtain⟨v,w,rfl,h,b⟩:=r.two;cases h;cases b;exact⟨_,_,rfl,k _ _ (ja e q)⟩
 .exact q.elim⟩
set_option backward.eqns.nonrecursive false in
def zt (ds:List D)(Γ:G)(Q:RV->G->Prop):Prop:=match ds with
 | [.int i]=>Q (.fz (.int i)) Γ
 | [.bl k]=>Q (.fz (.int (if k then 1 else 0))) Γ
 | _=>False
theorem oQ:B3 K X (.type "int") (λxs H Q=>(∃ i,xs=[.int i]/\Q (.int i) H)\/∃ k,xs=[.bl k]/\Q (.int (if k then 1 else 0)) H) zt:=⟨Ck,by
 intro B F a H b c d Q f e r q k;delta zt at q;split at q
 .obtain⟨v,rfl,h⟩:=r.one;cases h;exact .inl ⟨_,rfl,k _ _ (ja e q)⟩
 .obtain⟨v,rfl,h⟩:=r.one;cases h;exact .inr ⟨_,rfl,k _ _ (ja e q)⟩
 .exact q.elim⟩
set_option backward.eqns.nonrecursive false in
noncomputable def GU:D->Option Nat
 | .lst xs=>some xs.length
 | .tup xs=>some xs.length
 | .ktup xs=>some xs.length
 | .scr ns=>some ns.length
 | _=>none
set_option backward.eqns.nonrecursive false in
def zh (ds:List D)(Γ:G)(Q:RV->G->Prop):Prop:=match ds with
 | [.str z]=>z.length<=sizeLine/\Q (.fz (.int z.length)) Γ
 | [d]=>∃ n,GU d=some n/\Q (.fz (.int n)) Γ
 | _=>False
noncomputable abbrev N5 (K:Fg0):List V->Hp->VK->Prop:=λxs H Q=>(∃ p ys,xs=[.ref p]/\(SqL K H p ys\/SqT K H p ys)/\Q (.int ys.length) H)\/(∃ z,xs=[.str z]/\z.length<=sizeLine/\Q (.int z.length) H)
theorem dG.or'{f:Value}{e:List V->Hp->VK->Prop}(h:dG X f r)(h':dG X f e):dG X f (λxs H Q=>r xs H Q\/e xs H Q):=by
 intro a s b H xs c Q I d q;rcases q with q | q
 .exact h a s b H xs c Q I d q
 .exact h' a s b H xs c Q I d q
theorem GS{d:D}(s:aB F H)(h:jI K F H d v)(a:GU d=some n):∃ p ys,v=.ref p/\(SqL K H p ys\/SqT K H p ys)/\ys.length=n:=by
 delta GU at a;split at a
 .cases a;obtain⟨p,c,rfl,b,e⟩:=h;exact⟨p,c,rfl,.inl (SqL.of b),e.length⟩
 .cases a;obtain⟨p,c,rfl,b,e⟩:=h;exact⟨p,c,rfl,.inr (.inl (.inl (s _ _ b))),e.length⟩
 .cases a;obtain⟨p,c,rfl,b,e⟩:=h;exact⟨p,c,rfl,.inr (SqT.same s b),e.length⟩
 .cases a;obtain⟨p,rfl,b⟩:=h;exact⟨p,_,rfl,.inl (s.seq b),by simp⟩
 .cases a
theorem jB(f:X.K=K):B3 K X (.builtin "len") (N5 K) zh:=⟨by subst f;exact dG.or' wO wM,by
 intro B F g H i j l Q m e r q k;delta zh at q;split at q
 .obtain⟨v,rfl,h⟩:=r.one;cases h;exact .inr ⟨_,rfl,q.1,k _ _ (ja e q.2)⟩
 .obtain⟨v,rfl,h⟩:=r.one;obtain⟨n,c,q⟩:=q;obtain⟨p,a,rfl,b,d⟩:=GS e.sub h c;subst d;exact .inl ⟨p,a,rfl,b,k _ _ (ja e q)⟩
 .exact q.elim⟩
end
section
variable {b c:Expr}{tb tc:TE}{a3 b3 c3:TB3}
theorem aA.atI(h:aA K F xs vs){i:Int}{d:D}(e:atI xs i=some d):∃ v,_2.atI vs i=some v/\Rep K F d v:=by
 delta _2.atI at e ⊢;rw[h.length];cases q:ixN xs.length i with
 | none=>rw[q] at e;cases e
 | some j=>
  rw[q] at e;exact h.get e
def ix3 (x y:D)(Γ:G)(Q:RV->G->Prop):Prop:=match x,y with
 | .lst xs,.int i=>∃ d,atI xs i=some d/\Q (.fz d) Γ
 | .tup xs,.int i=>∃ d,atI xs i=some d/\Q (.fz d) Γ
 | .ktup xs,.int i=>∃ d,atI xs i=some d/\Q (.fz d) Γ
 | .scr ns,.int i=>∃ n,atI ns i=some n/\Q (.fz (.int n)) Γ
 | .str z,.int i=>z.length<=sizeLine/\∃ c,atI z.cps.toList i=some c/\Q (.fz (.str ⟨#[c]⟩)) Γ
 | _,_=>False
theorem Bb{a b:Type}{f:a->b}{xs:List a}{i:Int}{d:a}(e:atI xs i=some d):atI (xs.map f) i=some (f d):=by
 delta _2.atI at e ⊢;rw[lM0];cases q:ixN xs.length i with
 | none=>rw[q] at e;cases e
 | some j=>
  rw[q] at e;show (xs.map f)[j]?=_;rw[ba,show xs[j]?=some d from e]
  rfl
theorem MN:lK K (rIx K) ix3:=by
 intro B F n H o x y t s Q u e h g q k;delta ix3 at q;split at q
 .obtain⟨d,a,q⟩:=q;obtain⟨p,f,rfl,b,j⟩:=h;cases g;obtain⟨v,i,r⟩:=j.atI a;exact .inl ⟨p,f,_,v,rfl,rfl,SqL.of b,i,k _ _ (iM e r q)⟩
 .obtain⟨d,a,q⟩:=q;obtain⟨p,f,rfl,b,j⟩:=h;cases g;obtain⟨v,i,r⟩:=j.atI a;exact .inr (.inl ⟨p,f,_,v,rfl,rfl,.inl (.inl (e.sub _ _ b)),i,k _ _ (iM e r q)⟩)
 .obtain⟨d,a,q⟩:=q;obtain⟨p,f,rfl,b,j⟩:=h;cases g;obtain⟨v,i,r⟩:=j.atI a;exact .inr (.inl ⟨p,f,_,v,rfl,rfl,SqT.same e.sub b,i,k _ _ (iM e r q)⟩)
 .obtain⟨d,a,q⟩:=q;obtain⟨p,rfl,b⟩:=h;cases g;exact .inl ⟨p,_,_,.int d,rfl,rfl,e.sub.seq b,Bb a,k _ _ (ja e q)⟩
 .cases h;cases g;obtain⟨l,c,m,q⟩:=q;exact .inr (.inr ⟨_,_,c,rfl,rfl,l,m,k _ _ (yW e q)⟩)
 .exact q.elim
theorem az(e:X.K=K)(d:P3B K X a ta a3)(c:P3B K X b tb b3)(hs:Bh b):P3 K X (.Subscript a b pos) (tOp (rIx K) ta tb) (cn ix3 a3 b3):=⟨Mb (by subst e;exact Kw) d.pe c.pe hs,fc MN d.rf c.rf⟩
noncomputable def cut {α:Type}(xs:List α)(lo a:Option Int):List α:=(xs.drop (_h.sIx xs.length 0 lo)).take (_h.sIx xs.length xs.length a - _h.sIx xs.length 0 lo)
noncomputable def pk {α:Type}(xs:List α)(lo a st:Option Int):List α:=(RF (lh lo a st xs.length).1 (lh lo a st xs.length).2.1 (lh lo a st xs.length).2.2).filterMap (xs[·]?)
theorem aA.cut {xs:List D}{vs:List V}(h:aA K F xs vs)(lo a:Option Int):aA K F (cut xs lo a) (yk vs lo a):=by
 delta _3.cut yk;rw[h.length];exact(h.drop _).take _
theorem aA.places(h:aA K F xs vs):∀ b:List Nat,aA K F (b.filterMap (xs[·]?)) (b.filterMap (vs[·]?))
 | []=>rfl
 | j::b=>by
  have c:=h.places b;cases a:xs[j]? with
  | some x=>
   obtain⟨u,e,r⟩:=h.get a;simp only[lI,a,e];exact⟨u,_,rfl,r,c⟩
  | none=>
   have d:vs[j]?=none:=by
    rw[qB] at a ⊢;rw[h.length];exact a
   simp only[lI,a,d];exact c
theorem aA.pk {xs:List D}{vs:List V}(h:aA K F xs vs)(lo a st:Option Int):aA K F (pk xs lo a st) (qe vs lo a st):=by
 delta _3.pk qe;rw[h.length];exact h.places _
abbrev TO3:=G->(Option Int->G->Prop)->Prop
def O8 (K:Fg0)(t:TO)(a:TO3):Prop:=∀ (B:Bs) (F:Hp) (σ:_2.St) (H:Hp) (Γ:G) (Q:Option Int->G->Prop) (QQ:Option Int->Hp->Prop),En K B F σ H Γ->a Γ Q->(∀ o H',(∃ F' Γ',aB F F'/\En K B F' σ H' Γ'/\Q o Γ')->QQ o H')->t σ H QQ
structure P3O (K:Fg0) (X:Cx) (e:Option Expr) (t:TO) (t3:TO3):Prop where
 pe:PO X e t
 rf:O8 K t t3
def AB (Γ:G)(Q:Option Int->G->Prop):Prop:=Q none Γ
def Af (a:TB3)(Γ:G)(Q:Option Int->G->Prop):Prop:=a Γ λx Γ1=>∃ i,x.at Γ1=some (.int i)/\Q (some i) Γ1
theorem aW:P3O K X none z_ AB:=⟨Gd,λB F b H a Q c e q k=>k _ _ ⟨F,a,aB.refl F,e,q⟩⟩
theorem aR(h:P3B K X a ta a3):P3O K X (some a) (HN ta) (Af a3):=⟨Gb h.pe,by
 intro B F d H f Q o e q k;refine h.rf B F d H f _ _ e q (λv p Z=>?_);obtain⟨n,b,x,g,c,j,i,m,l⟩:=Z;have:v=.int i:=c.bo j m;exact⟨i,this,k _ _ ⟨n,b,g,c,l⟩⟩⟩
def sl3 (e:TB3)(c d:TO3)(Γ:G)(Q:RV->G->Prop):Prop:=e Γ λx Γ1=>c Γ1 λlo b=>d b λhi a=>∃ xs,x.at a=some (.lst xs)/\Q (.fr (.lst (cut xs lo hi))) a
theorem bj{tl:TO}{j c:TO3}{p2:Pos}(C:X.K=K)(n:P3B K X a ta a3)(b:P3O K X lo tl j)(m:P3O K X hi th c):P3 K X (.Subscript a (.Slice lo hi none p2) pos) (tSl (LZ K) ta tl th) (sl3 a3 j c):=
 ⟨xB (by subst C;exact Fx) n.pe b.pe m.pe,by
 intro B F d H s Q P e q k;refine n.rf B F d H s _ _ e q (λv L Z=>?_);obtain⟨N,g,x,u,I,w,A⟩:=Z;refine b.rf B N d L g _ _ I A (λlo J Z=>?_);obtain⟨M,f,i,G,z⟩:=Z;refine m.rf B M d J f _ _ G z (λhi R Z=>?_);obtain⟨S,r,h,o,O,c,y⟩:=Z;obtain⟨p,t,rfl,E,D⟩:=o.bo (w.mono (i.trans h)) c;exact⟨p,t,rfl,SqL.of E,λl b=>k _ _ (Po.mono ((u.trans i).trans h) (iK o b (D.cut lo hi) y))⟩⟩
def LL (e:TB3)(c d:TO3)(Γ:G)(Q:RV->G->Prop):Prop:=e Γ λx Γ1=>c Γ1 λlo b=>d b λhi a=>∃ xs,x.at a=some (.tup xs)/\¬ (_h.sIx xs.length 0 lo=0/\_h.sIx xs.length xs.length hi=xs.length)/\Q (.fz (.tup (cut xs lo hi))) a
theorem BL{tl:TO}{m c:TO3}{p2:Pos}(E:X.K=K)(o:P3B K X a ta a3)(b:P3O K X lo tl m)(n:P3O K X hi th c):P3 K X (.Subscript a (.Slice lo hi none p2) pos) (tSl (LY K) ta tl th) (LL a3 m c):=
 ⟨xB (by subst E;exact Je) o.pe b.pe n.pe,by
 intro B F d H t Q R e q k;refine o.rf B F d H t _ _ e q (λv M Z=>?_);obtain⟨O,g,x,w,J,y,C⟩:=Z;refine b.rf B O d M g _ _ J C (λlo L Z=>?_);obtain⟨N,f,j,I,A⟩:=Z;refine n.rf B N d L f _ _ I A (λhi S Z=>?_);obtain⟨T,s,i,h,P,c,D,z⟩:=Z;obtain⟨p,u,rfl,G,r⟩:=h.bo (y.mono (j.trans i)) c;exact⟨p,u,rfl,.inl (.inl (h.sub _ _ G)),by rw[r.length];exact D,λl b=>k _ _ (Po.mono ((w.trans j).trans i) (vY h b (r.cut lo hi) z))⟩⟩
def LM (g:TB3)(e f d:TO3)(Γ:G)(Q:RV->G->Prop):Prop:=g Γ λx Γ1=>e Γ1 λlo c=>f c λhi b=>d b λst a=>st≠some 0/\∃ xs,x.at a=some (.lst xs)/\Q (.fr (.lst (pk xs lo hi st))) a
theorem BM{st:Expr}{tl ts:TO}{n s b:TO3}{p2:Pos}(I:X.K=K)(r:P3B K X a ta a3)(d:P3O K X lo tl n)(o:P3O K X hi th s)(hs:P3O K X (some st) ts b):P3 K X (.Subscript a (.Slice lo hi (some st) p2) pos) (LB K ta tl th ts) (LM a3 n s b):=
 ⟨by subst I;exact BH r.pe d.pe o.pe hs.pe,by
 intro B F c H w Q QQ e q k;refine r.rf B F c H w _ _ e q (λv T Z=>?_);obtain⟨W,h,x,z,P,A,G⟩:=Z;refine d.rf B W c T h _ _ P G (λlo S Z=>?_);obtain⟨V,g,m,O,E⟩:=Z;refine o.rf B V c S g _ _ O E (λhi R Z=>?_);obtain⟨U,f,b,N,D⟩:=Z;refine hs.rf B U c R f _ _ N D (λst H4 Z=>?_);obtain⟨F4,u,j,t,i,Y,M,C⟩:=Z;obtain⟨p,y,rfl,L,J⟩:=t.bo (A.mono ((m.trans b).trans j)) M;exact⟨i,p,y,rfl,SqL.of L,λl d=>k _ _ (Po.mono (((z.trans m).trans b).trans j) (iK t d (J.pk lo hi st) C))⟩⟩
set_option backward.eqns.nonrecursive false in
noncomputable def sN:D->Option (List D)
 | .lst xs=>some xs
 | .tup xs=>some xs
 | .ktup xs=>some xs
 | .scr ns=>some (ns.map .int)
 | _=>none
theorem B5{d:D}(s:aB F H)(h:jI K F H d v)(a:sN d=some xs):∃ p ys,v=.ref p/\(SqL K H p ys\/SqT K H p ys)/\aA K F xs ys:=by
 delta sN at a;split at a
 .cases a;obtain⟨p,c,rfl,b,e⟩:=h;exact⟨p,c,rfl,.inl (SqL.of b),e⟩
 .cases a;obtain⟨p,c,rfl,b,e⟩:=h;exact⟨p,c,rfl,.inr (.inl (.inl (s _ _ b))),e⟩
 .cases a;obtain⟨p,c,rfl,b,e⟩:=h;exact⟨p,c,rfl,.inr (SqT.same s b),e⟩
 .cases a;obtain⟨p,rfl,b⟩:=h;exact⟨p,_,rfl,.inl (s.seq b),aA.ints _⟩
 .cases a
set_option backward.eqns.nonrecursive false in
def yH (ds:List D)(Γ:G)(Q:RV->G->Prop):Prop:=match ds with
 | [.lst xs]=>Q (.fz (.tup xs)) Γ
 | _=>False
theorem Hh(b:X.K=K):B3 K X (.type "tuple") (λxs H Q=>∃ p ys,xs=[.ref p]/\((SqL K H p ys/\∀ l,H l=none->Q (.ref l) (upd H l (.tup ys)))\/(SqT K H p ys/\Q (.ref p) H))) yH:=⟨by subst b;exact ue,by
 intro B F f H g h i Q j e r q k;delta yH at q;split at q
 .obtain⟨v,rfl,p,ys,rfl,d,c⟩:=r.one;exact⟨p,ys,rfl,.inl ⟨SqL.of d,λl a=>k _ _ (vY e a c q)⟩⟩
 .exact q.elim⟩
set_option backward.eqns.nonrecursive false in
noncomputable def knD:D->Bool
 | .non=>true | .bl _=>true | .int _=>true | .str _=>true | .lst _=>true | .tup _=>true | _=>false
theorem Ko{d:D}(s:aB F H)(h:jI K F H d v)(a:knD d=true):Kn H v:=by
 delta knD at a;split at a
 .cases h;exact .non
 .cases h;exact .bl _
 .cases h;exact .int _
 .cases h;exact .str _
 .obtain⟨p,c,rfl,b,_⟩:=h;exact .lst b
 .obtain⟨p,c,rfl,b,_⟩:=h;exact .tup (s _ _ b)
 .cases a
set_option backward.eqns.nonrecursive false in
noncomputable def dB:D->Bool
 | .bl _=>true | _=>false
set_option backward.eqns.nonrecursive false in
noncomputable def dI:D->Bool
 | .bl _=>true | .int _=>true | _=>false
set_option backward.eqns.nonrecursive false in
noncomputable def dL:D->Bool
 | .lst _=>true | _=>false
set_option backward.eqns.nonrecursive false in
noncomputable def dT:D->Bool
 | .tup _=>true | _=>false
set_option backward.eqns.nonrecursive false in
def is3 (t:String)(f:D->Bool)(ds:List D)(Γ:G)(Q:RV->G->Prop):Prop:=match ds with
 | [d,.ty t']=>t'=t/\knD d=true/\Q (.fz (.bl (f d))) Γ
 | _=>False
theorem EW{t:String}{f:D->Bool}{g:Hp->V->Bool}(h:dG X (.builtin "isinstance") (λxs H Q=>∃ x,xs=[x,.ty t]/\Kn H x/\Q (.bl (g H x)) H))(c:∀ {F H:Hp} {d:D} {v:V},aB F H->jI K F H d v->knD d=true->g H v=f d):B3 K X (.builtin "isinstance") (λxs H Q=>∃ x,xs=[x,.ty t]/\Kn H x/\Q (.bl (g H x)) H) (is3 t f):=⟨h,by
 intro B F j H l m n Q o e r q k;delta is3 at q;split at q
 .obtain⟨v,w,rfl,b,i⟩:=r.two;obtain⟨rfl,a,q⟩:=q;cases i;exact⟨v,rfl,Ko e.sub b a,by rw[c e.sub b a];exact k _ _ (uB e q)⟩
 .exact q.elim⟩
theorem Nz(T:gJ X.K):B3 K X (.builtin "isinstance") (λxs H Q=>∃ x,xs=[x,.ty "bool"]/\Kn H x/\Q (.bl (isB x)) H) (is3 "bool" dB):=EW (g:=λ_ v=>isB v) (EU T) λs h a=>by
 delta knD at a;split at a
 .cases h;rfl
 .cases h;rfl
 .cases h;rfl
 .cases h;rfl
 .obtain⟨p,b,rfl,c,_⟩:=h;rfl
 .obtain⟨p,b,rfl,c,_⟩:=h;rfl
 .cases a
theorem Ny(T:gJ X.K):B3 K X (.builtin "isinstance") (λxs H Q=>∃ x,xs=[x,.ty "int"]/\Kn H x/\Q (.bl (isI x)) H) (is3 "int" dI):=EW (g:=λ_ v=>isI v) (ET T) λs h a=>by
 delta knD at a;split at a
 .cases h;rfl
 .cases h;rfl
 .cases h;rfl
 .cases h;rfl
 .obtain⟨p,b,rfl,c,_⟩:=h;rfl
 .obtain⟨p,b,rfl,c,_⟩:=h;rfl
 .cases a
theorem Nx(T:gJ X.K):B3 K X (.builtin "isinstance") (λxs H Q=>∃ x,xs=[x,.ty "list"]/\Kn H x/\Q (.bl (isL H x)) H) (is3 "list" dL):=EW (ES T) λs h a=>by
 delta knD at a;split at a
 .cases h;rfl
 .cases h;rfl
 .cases h;rfl
 .cases h;rfl
 .obtain⟨p,c,rfl,b,_⟩:=h;exact AQ b
 .obtain⟨p,c,rfl,b,_⟩:=h;exact AO (s _ _ b)
 .cases a
theorem Nv(T:gJ X.K):B3 K X (.builtin "isinstance") (λxs H Q=>∃ x,xs=[x,.ty "tuple"]/\Kn H x/\Q (.bl (isT H x)) H) (is3 "tuple" dT):=EW (EO T) λs h a=>by
 delta knD at a;split at a
 .cases h;rfl
 .cases h;rfl
 .cases h;rfl
 .cases h;rfl
 .obtain⟨p,c,rfl,b,_⟩:=h;exact AN b
 .obtain⟨p,c,rfl,b,_⟩:=h;exact AM (s _ _ b)
 .cases a
noncomputable def flD:D->Bool
 | .non=>true | .bl _=>true | .int _=>true | .str _=>true | _=>false
noncomputable def toV:D->V
 | .bl b=>.bl b | .int i=>.int i | .str x=>.str x | _=>.non
theorem ID{d:D}(h:jI K F H d v)(a:flD d=true):v=toV d/\my v=true:=by
 delta flD at a;split at a
 .cases h;exact⟨rfl,rfl⟩
 .cases h;exact⟨rfl,rfl⟩
 .cases h;exact⟨rfl,rfl⟩
 .cases h;exact⟨rfl,rfl⟩
 .cases a
theorem IC (s:aB F H):∀ {xs:List D} {vs:List V},aA K F xs vs->xs.all flD=true->vs=xs.map toV/\vs.all my=true
 | [],_,h,_=>by cases h;exact⟨rfl,rfl⟩
 | x::xs,_,⟨v,j,i,g,f⟩,e=>by
  rw[PV,kn] at e;obtain⟨a,b⟩:=IC s f e.2;obtain⟨c,d⟩:=ID (Rep.b s g) e.1;subst i a c;refine⟨rfl,?_⟩;rw[PV,d,b];rfl
def in3 (a:Bool)(x y:D)(Γ:G)(Q:RV->G->Prop):Prop:=∃ xs,sN y=some xs/\flD x=true/\xs.all flD=true/\Q (.fz (.bl (if a then !inV (toV x) (xs.map toV) else inV (toV x) (xs.map toV)))) Γ
theorem MS(f:Bool):lK K (rIn K f) (in3 f):=by
 intro B F o H r x y v u Q w e h g q k;obtain⟨t,j,n,m,q⟩:=q;obtain⟨p,s,rfl,i,l⟩:=B5 e.sub g j;obtain⟨a,b⟩:=IC e.sub l m;obtain⟨c,d⟩:=ID h n;subst a c;exact⟨p,_,rfl,i,d,b,k _ _ (uB e q)⟩
theorem mR(a:X.K=K):C3 K X .In (rIn K false) (in3 false):=⟨by subst a;exact BN,MS false⟩
theorem aA.lookup:∀ {ns:Ls0} {xs:List D} {c:List (Str×V)} {f:Str} {d:D},c.map (·.1)=ns->aA K F xs (c.map (·.2))->(ns.zip xs).lookup f=some d->∃ v,c.lookup f=some v/\Rep K F d v
 | [],_,[],f,d,_,_,h=>by simp -iota at h
 | n::ns,xs,(m,u)::c,f,d,b,g,a=>by
  simp -iota only[fO,RW] at b;obtain⟨rfl,b⟩:=b;cases xs with
  | nil=>simp -iota at a
  | cons x xs=>
   obtain⟨v,i,e,r,g⟩:=g;simp -iota only[fO,RW] at e;obtain⟨rfl,rfl⟩:=e;rw[Qw,fg] at a;rw[fg];cases q:f == m with
   | true=>rw[q] at a;cases a;exact⟨_,rfl,r⟩
   | false=>rw[q] at a;exact aA.lookup b g a
end
set_option genInjectivity false in
structure E3 where
 nx:G->Prop
 rt:RV->G->Prop
 bk:G->Prop:=λ_=>False
 ct:G->Prop:=λ_=>False
abbrev TS3:=E3->G->Prop
structure Bi (K:Fg0) (B:Bs) (F:Hp) (D:Ends) (D3:E3):Prop where
 nx:∀ F' σ' H' Γ',aB F F'->En K B F' σ' H' Γ'->D3.nx Γ'->D.nx σ' H'
 rt:∀ F' σ' H' Γ' v r,aB F F'->En K B F' σ' H' Γ'->oY K B F' σ' H' Γ' v r->D3.rt r Γ'->D.rt v H'
 bk:∀ F' σ' H' Γ',aB F F'->En K B F' σ' H' Γ'->D3.bk Γ'->D.bk σ' H'
 ct:∀ F' σ' H' Γ',aB F F'->En K B F' σ' H' Γ'->D3.ct Γ'->D.ct σ' H'
theorem Bi.mono{f:Hp}{D:Ends}{D3:E3}(h:Bi K B F D D3)(s:aB F f):Bi K B f D D3:=
 ⟨λe a d b c=>h.nx e a d b (s.trans c),λe a d b v r c=>h.rt e a d b v r (s.trans c),λe a d b c=>h.bk e a d b (s.trans c),λe a d b c=>h.ct e a d b (s.trans c)⟩
def HC (K:Fg0)(t:TS)(b:TS3):Prop:=∀ (B:Bs) (F:Hp) (σ:_2.St) (H:Hp) (Γ:G) (D:Ends) (a:E3),En K B F σ H Γ->Bi K B F D a->b a Γ->t D σ H
structure P3S (K:Fg0) (X:Cx) (st:Stmt) (t:TS) (t3:TS3):Prop where
 pe:PS X st t
 rf:HC K t t3
structure wZ (K:Fg0) (X:Cx) (st:List Stmt) (t:TS) (t3:TS3):Prop where
 pe:PSs X st t
 rf:HC K t t3
section
def cF (Γ:G)(i:Nat):Prop:=match Γ[i]? with
 | some (some (.ln _))=>False
 | some _=>True
 | none=>False
theorem oh(h:cF Γ i):i < Γ.length:=by
 delta cF at h;split at h
 .exact h.elim
 .rename_i q;exact(gS0 q).1
 .exact h.elim
theorem aH{b:Type}{l:List b}{a:b}(h:i < l.length):(l.set i a)[i]?=some a:=by
 rw[Pw,if_pos rfl,if_pos h]
theorem En.set(e:En K B F σ H Γ)(s:cF Γ i){r:RV}(n:oY K B F σ H Γ v r)(A:autoParam (r.pl=true) wE):En K B F (σ.set i (some v)) H (Γ.set i (some r.sl)):=by
 have il:=oh s;have m:i < σ.length:=by rw[e.len];exact il
 have nl:∀ d,Γ[i]?≠some (some (Sl.ln d)):=λd q=>by delta cF at s;rw[q] at s;exact s
 have c:∀ {j:Nat},j≠i->(Γ.set i (some r.sl))[j]?=Γ[j]?/\(σ.set i (some v))[j]?=σ[j]?:=λh=>⟨bP (lj h),bP (lj h)⟩;have f:∀ {j x},Hld (Γ.set i (some r.sl)) j x->(j=i/\r=.fr x)\/(j≠i/\Hld Γ j x):=λ{j x} q=>by
  by_cases z:j=i
  .subst z
   left
   refine⟨rfl,?_⟩;rcases q with q | q <;> rw[aH il] at q <;> cases r <;> first | (cases A;done) | (cases q;done) | (cases q;rfl)
  .right
   exact⟨z,by delta Hld at q ⊢;rw[(c z).1] at q;exact q⟩
 refine⟨e.sub,by rw[oJ,oJ];exact e.len,?_,?_,?_,?_,?_,?_,e.keep,e.new,e.rest,e.dom⟩
 .intro j d q;by_cases z:j=i
  .subst z;rw[aH il] at q;cases r with
   | fz x=>cases q;exact⟨v,aH m,n⟩
   | fr x=>cases q
   | two M L=>cases A
   | rws G=>cases A
  .rw[(c z).1] at q;rw[(c z).2];exact e.fz j d q
 .intro j d q;rcases f q with ⟨rfl,rfl⟩ | ⟨z,q⟩
  .obtain⟨p,rfl,w,u,t,o⟩:=n;exact⟨p,aH m,w,u⟩
  .rw[(c z).2];exact e.hl j d q
 .intro j d p q a;rcases f (.inl q) with ⟨rfl,rfl⟩ | ⟨z,_⟩
  .obtain⟨E,rfl,w,u,t,o⟩:=n;rw[aH m] at a;cases a;exact t
  .rw[(c z).1] at q;rw[(c z).2] at a;exact e.ow j d p q a
 .intro j d p q a;rcases f (.inr q) with ⟨rfl,rfl⟩ | ⟨z,_⟩
  .rw[aH il] at q;cases q
  .rw[(c z).1] at q;rw[(c z).2] at a;exact e.ln j d p q a
 .intro j k d J p I D l g;rcases f I with ⟨rfl,rfl⟩ | ⟨z1,C⟩
  .rcases f D with ⟨rfl,h⟩ | ⟨z2,y⟩
   .rfl
   .obtain⟨E,rfl,w,u,t,o⟩:=n;rw[aH m] at l;cases l;rw[(c z2).2] at g;exact absurd g (o k _ y)
  .rcases f D with ⟨rfl,h⟩ | ⟨z2,y⟩
   .subst h;obtain⟨E,rfl,w,u,t,o⟩:=n;rw[aH m] at g;cases g;rw[(c z1).2] at l;exact absurd l (o j _ C)
   .rw[(c z1).2] at l;rw[(c z2).2] at g;exact e.dis j k d J p C y l g
 .intro j p q;obtain⟨a,d,b⟩:=e.par j p q;have z:j≠i:=λz=>by subst z;exact nl d b
  rw[(c z).1,(c z).2];exact⟨a,d,b⟩
theorem En.forget(e:En K B F σ H Γ)(g:cF Γ i):En K B F σ H (Γ.set i none):=by
 have nl:∀ d,Γ[i]?≠some (some (Sl.ln d)):=λd q=>by delta cF at g;rw[q] at g;exact g
 have il:=oh g;have f:∀ {j:Nat} {s:Sl},(Γ.set i none)[j]?=some (some s)->j≠i/\Γ[j]?=some (some s):=λ{j s} q=>by
  by_cases z:j=i
  .subst z;rw[aH il] at q;cases q
  .exact⟨z,by rw[bP (lj z)] at q;exact q⟩
 have c:∀ {j x},Hld (Γ.set i none) j x->Hld Γ j x:=λq=>q.imp (λq=>(f q).2) (λq=>(f q).2);exact⟨e.sub,by rw[oJ];exact e.len,λj d q=>e.fz j d (f q).2,λj d q=>e.hl j d (c q),λj d p q=>e.ow j d p (f q).2,λj d p q=>e.ln j d p (f q).2,λj k d m p l h=>e.dis j k d m p (c l) (c h),
  λj p q=>by
   obtain⟨a,d,b⟩:=e.par j p q;have z:i≠j:=λz=>by subst z;exact nl d b
   exact⟨a,d,by rw[bP z];exact b⟩,e.keep,e.new,e.rest,e.dom⟩
set_option backward.eqns.nonrecursive false in
def Fp (i:Nat)(Γ:G)(Q:RV->G->Prop):Prop:=match Γ[i]? with
 | some (some (.fz d))=>Q (.fz d) Γ
 | some (some (.ow d))=>Q (.fr d) (Γ.set i none)
 | _=>False
theorem Jq(i:Nat):Ref K (e9 i) (Fp i):=by
 intro B F o H g Q r e h k;delta Fp at h;split at h
 .rename_i d q;obtain⟨v,c,f⟩:=e.fz i d q;exact⟨v,c,k _ _ (iM e f h)⟩
 .rename_i d q;obtain⟨p,c,f,m⟩:=e.hl i d (.inl q);have l:cF g i:=by delta cF;rw[q];trivial
  have n:=e.forget l;refine⟨_,c,k _ _ ⟨F,_,.fr d,aB.refl F,n,⟨p,rfl,f,m,e.ow i d p q c,λj x hj=>?_⟩,h⟩⟩;intro a;have b:j≠i/\Hld g j x:=by
   by_cases z:j=i
   .subst z;rcases hj with hj | hj <;> rw[aH (oh l)] at hj <;> cases hj
   .exact⟨z,by delta Hld at hj ⊢;rw[bP (lj z)] at hj;exact hj⟩
  exact b.1 (e.dis j i x d p b.2 (.inl q) a c)
 .exact h.elim
theorem DL(i:Nat)(hN:autoParam (X.N[i]?=some x) wE)(b:autoParam (Vis X.env.scope x) wq2)(c:autoParam ((x == ("__debug__":Str))=false) wP)(a:autoParam ((x == ("__classdict__":Str))=false) wP):P3 K X (.Name x pos) (e9 i) (Fp i):=⟨v_ hN b c a,Jq i⟩
variable {rest:List Stmt}{t u:TS}{t3 u3:TS3}
def Ib (D:E3)(Γ:G):Prop:=D.nx Γ
def LR (t u:TS3)(D:E3)(Γ:G):Prop:=t { D with nx:=u D } Γ
def LW (a:TE3)(D:E3)(Γ:G):Prop:=a Γ D.rt
def IF (a:TE3)(D:E3)(Γ:G):Prop:=a Γ λ_ Γ1=>D.nx Γ1
theorem aY:wZ K X [] CK Ib:=⟨Ar,λB F a H b D c e k q=>k.nx F a H b (aB.refl F) e q⟩
theorem ag(f:P3S K X st t t3)(d:wZ K X rest u u3):wZ K X (st::rest) (CJ t u) (LR t3 u3):=⟨nH f.pe d.pe,λB F g H h D c e k q=>
 f.rf B F g H h _ { c with nx:=u3 c } e ⟨λm a l b s j i=>d.rf B m a l b _ c j (k.mono s) i,k.rt,k.bk,k.ct⟩ q⟩
theorem ak(a:P3S K X st t t3):wZ K X [st] t t3:=⟨vV a.pe,a.rf⟩
theorem ay(h:P3 K X e te e3):P3S K X (.Return (some e) pos) (IY te) (LW e3):=⟨Ds h.pe,λB F b H c D l e k q=>
 h.rf B F b H c _ _ e q λv i ⟨j,a,r,s,g,d,f⟩=>k.rt j b i a v r s g d f⟩
theorem iJ(h:P3 K X e te e3)(hs:autoParam (zJ e none pos.line X.env=pure false) wE):P3S K X (.Expr e pos) (w6 te) (IF e3):=⟨As h.pe hs,λB F b H c D l e k q=>
 h.rf B F b H c _ _ e q λv g ⟨i,a,r,s,f,j,d⟩=>k.nx i b g a s f d⟩
def MV (a:TT3)(t u:TS3)(D:E3)(Γ:G):Prop:=a Γ λc Γ1=>match c with
 | true=>t D Γ1
 | false=>u D Γ1
theorem bX{c:Expr}{a b:List Stmt}{p:TT3}(h:P3T K X c tc p)(j:wZ K X a t t3)(i:wZ K X b u u3):P3S K X (.If c a b pos) (I0 tc t u) (MV p t3 u3):=⟨H8 h.pe j.pe i.pe,λB F f H r D o e k q=>
 h.rf B F f H r _ _ e q λc m Z=>by
  obtain⟨n,d,s,l,g⟩:=Z;cases c with
  | true=>exact zi (j.rf B n f m d D o l (k.mono s) g)
  | false=>exact zj (i.rf B n f m d D o l (k.mono s) g)⟩
theorem jq:P3S K X st CL (λ_ _=>False):=⟨Dt,λB F a H b D c e k q=>q⟩
def Bv (i:Nat)(a:TE3)(D:E3)(Γ:G):Prop:=a Γ λr Γ1=>cF Γ1 i/\D.nx (Γ1.set i (some r.sl))
theorem rh(h:Ref K te e3):HC K (jo te (gr i)) (Bv i e3):=λB F b H d D y e k q=>
 h B F b H d _ _ e q λv t Z=>by
  obtain⟨x,c,r,s,p,g,m,j⟩:=Z;obtain⟨u,w,f,o,a,n,l⟩:=p.norm g;exact k.nx u _ t _ (s.trans f) (by have:=o.set m a l;rw[n] at this;exact this) j
theorem aw(hN:X.N.Nodup)(c:X.N[i]?=some x)(b:Loc X.env.scope x)(a:P3 K X e te e3)(hs:autoParam (zJ e (some (.Name x pos')) pos.line X.env=pure false) wE)(d:autoParam (X.fn x=true\/X.env.scope.names.lookup x=some .local) wq0) :
  P3S K X (.Assign [.Name x pos'] e pos) (jo te (gr i)) (Bv i e3):=⟨Jz hN c b a.pe hs d,rh a.rf⟩
noncomputable def gives (Γ:G):List Nat->List D->Option G
 | [],[]=>some Γ
 | i::is,d::ds=>gives (Γ.set i (some (.fz d))) is ds
 | _,_=>none
noncomputable def frees (Γ:G):List Nat->List D->Prop
 | [],_=>True
 | i::is,d::ds=>cF Γ i/\frees (Γ.set i (some (.fz d))) is ds
 | _,_=>True
noncomputable def pV:List Nat->TGs
 | []=>Nb
 | i::is=>IA (gr i) (pV is)
theorem sW:∀ {Γ:G} {σ:_2.St} {vs:List V} {ds:List D} {Γ':G} {QQ:_2.St->Hp->Prop},En K B F σ H Γ->aA K F ds vs->gives Γ is ds=some Γ'->frees Γ is ds->(∀ σ',En K B F σ' H Γ'->QQ σ' H)->pV is vs σ H QQ:=by
 induction is with
 | nil=>
  intro Γ σ vs ds Γ' QQ e r g f k;cases ds with
  | nil=>cases g;cases r;exact⟨rfl,k σ e⟩
  | cons d ds=>cases g
 | cons i is h=>
  intro Γ σ vs ds Γ' QQ e r g f k;cases ds with
  | nil=>cases g
  | cons d ds=>
   obtain⟨v,a,rfl,c,b⟩:=r;exact⟨v,a,rfl,h (e.set (r:=.fz d) f.1 c) b g f.2 k⟩
def HQ (is:List Nat)(a:TE3)(D:E3)(Γ:G):Prop:=a Γ λr Γ1=>∃ ds Γ',r.d=.tup ds/\gives Γ1 is ds=some Γ'/\frees Γ1 is ds/\D.nx Γ'
theorem uN:∀ {Γ Γ':G} {ds:List D},gives Γ is ds=some Γ'->ds.length=is.length:=by
 induction is with
 | nil=>intro Γ Γ' ds h;cases ds with | nil=>rfl | cons=>cases h
 | cons i is a=>intro Γ Γ' ds h;cases ds with | nil=>cases h | cons d ds=>simp -iota [a h]
theorem jU{kt:Nat}{a:Pos}(E:X.K=K)(h:P3 K X e te e3)(A:PGs X es (pV is))(C:X.calm=true)(z:autoParam ((pv es X.env).length=is.length) wE)(d:autoParam ((pv es X.env).findIdx? (·.1)=none) wE)(hs:autoParam (NZ [.Tuple es kt a] e pos.line X.env=pure false) wE)(y:autoParam (Oi [.Tuple es kt a] e X.env=pure none) wE)(f:autoParam ((pv [.Tuple es kt a] X.env).map (·.2)=[assign (.Tuple es kt a) X.env]) wE) :
  P3S K X (.Assign [.Tuple es kt a] e pos) (jo te (KS K is.length (pV is))) (HQ is e3):=⟨by subst E;exact vW h.pe (DA C A z d) hs y f,λB F m H o D P e k q=>
 h.rf B F m H o _ _ e q λv N Z=>by
  obtain⟨O,n,r,s,J,w,M,c,f,j,I,x⟩:=Z;obtain⟨L,u,l,g⟩:=J.frozen w;rw[f] at g;obtain⟨p,t,rfl,G,i⟩:=g;refine⟨p,t,rfl,.inl (.inl (l.sub _ _ G)),by rw[i.length,uN j],sW l i j I λb e3=>k.nx L b _ c (s.trans u) e3 x⟩⟩
set_option backward.eqns.nonrecursive false in
noncomputable def putD (Γ:G)(i:Nat)(d:D):G:=match Γ[i]? with
 | some (some (.ow _))=>Γ.set i (some (.ow d))
 | some (some (.ln _))=>Γ.set i (some (.ln d))
 | _=>Γ
set_option backward.eqns.nonrecursive false in
noncomputable def cY (Γ:G)(i:Nat):Option (List D):=match Γ[i]? with
 | some (some (.ow (.lst xs)))=>some xs
 | some (some (.ln (.lst xs)))=>some xs
 | _=>none
theorem uK(h:cY Γ i=some xs):Hld Γ i (.lst xs):=by
 delta cY at h;split at h
 .cases h;rename_i q;exact .inl q
 .cases h;rename_i q;exact .inr q
 .cases h
theorem En.J9(e:En K B F σ H Γ){E m:D}(C:Hld Γ i E)(w:σ[i]?=some (some (V.ref p))){G:HO}(r:Own K F (upd H p G) p m):En K B F σ (upd H p G) (putD Γ i m):=by
 obtain⟨T,J,I,S⟩:=e.hl i _ C;rw[w] at J;cases J;obtain⟨o,U⟩:=S.some;have l:(Γ[i]?=some (some (Sl.ow E))/\putD Γ i m=Γ.set i (some (.ow m)))\/(Γ[i]?=some (some (Sl.ln E))/\putD Γ i m=Γ.set i (some (.ln m))):=by
  rcases C with q | q
  .exact .inl ⟨q,by delta putD;rw[q]⟩
  .exact .inr ⟨q,by delta putD;rw[q]⟩
 have il:i < Γ.length:=by rcases l with ⟨q,_⟩ | ⟨q,_⟩ <;> exact(gS0 q).1
 have f:∀ {j:Nat},j≠i->(putD Γ i m)[j]?=Γ[j]?:=λz=>by
  rcases l with ⟨_,q⟩ | ⟨_,q⟩ <;> rw[q,bP (lj z)]
 have same:∀ {s:Sl},(putD Γ i m)[i]?=some (some s)->(s=.ow m/\Γ[i]?=some (some (Sl.ow E)))\/(s=.ln m/\Γ[i]?=some (some (Sl.ln E))):=λ{s} q=>by
  rcases l with ⟨a,b⟩ | ⟨a,b⟩
  .rw[b,aH il] at q;cases q;exact .inl ⟨rfl,a⟩
  .rw[b,aH il] at q;cases q;exact .inr ⟨rfl,a⟩
 have A:∀ {j x},Hld (putD Γ i m) j x->(j=i/\x=m)\/(j≠i/\Hld Γ j x):=λ{j x} q=>by
  by_cases z:j=i
  .subst z
   left
   rcases q with q | q <;> rcases same q with ⟨h,_⟩ | ⟨h,_⟩ <;> cases h <;> exact⟨rfl,rfl⟩
  .right;exact⟨z,by delta Hld at q ⊢;rw[f z] at q;exact q⟩
 have v:∀ {j x},Hld (putD Γ i m) j x->∃ y,Hld Γ j y:=λq=>by
  rcases A q with ⟨rfl,_⟩ | ⟨_,q⟩
  .exact⟨_,C⟩
  .exact⟨_,q⟩
 refine⟨?_,?_,?_,?_,?_,?_,?_,?_,e.keep,e.new,?_,?_⟩
 .intro b u q;have z:b≠p:=λz=>by subst z;rw[I] at q;cases q
  rw[ao z];exact e.sub b u q
 .rcases l with ⟨_,q⟩ | ⟨_,q⟩ <;> rw[q,oJ] <;> exact e.len
 .intro j d q;by_cases z:j=i
  .subst z;rcases same q with ⟨h,_⟩ | ⟨h,_⟩ <;> cases h
  .rw[f z] at q;exact e.fz j d q
 .intro j d q;rcases A q with ⟨rfl,rfl⟩ | ⟨z,q⟩
  .exact⟨p,w,I,r⟩
  .obtain⟨t,a,b,c⟩:=e.hl j d q;have P:t≠p:=λy=>z (e.dis j i _ _ p q C (y ▸ a) w);exact⟨t,a,b,c.mono (aB.refl F) (ao P)⟩
 .intro j d t q a;by_cases z:j=i
  .subst z;rcases same q with ⟨h,g⟩ | ⟨h,g⟩
   .exact e.ow j _ t g a
   .cases h
  .rw[f z] at q;exact e.ow j d t q a
 .intro j d t q a;by_cases z:j=i
  .subst z;rcases same q with ⟨h,g⟩ | ⟨h,g⟩
   .cases h
   .exact e.ln j _ t g a
  .rw[f z] at q;exact e.ln j d t q a
 .intro j k d W t O N;obtain⟨M,R⟩:=v O;obtain⟨L,Q⟩:=v N;exact e.dis j k M L t R Q
 .intro j t q;obtain⟨a,d,b⟩:=e.par j t q;refine⟨a,?_⟩;by_cases z:j=i
  .subst z;rcases l with ⟨c,_⟩ | ⟨_,c⟩
   .rw[b] at c;cases c
   .exact⟨_,by rw[c,aH il]⟩
  .exact⟨d,by rw[f z];exact b⟩
 .intro b u q n;have z:b≠p:=λz=>by
   subst z;rcases C with g | g
   .rw[e.ow i _ _ g w] at q;cases q
   .exact n i (e.ln i _ _ g w)
  rw[ao z];exact e.rest b u q n
 .intro b q;by_cases z:b=p
  .subst z;rw[aC] at q;cases q
  .rw[ao z] at q;exact e.dom b q
theorem En.mut(e:En K B F σ H Γ){b:List D}(h:cY Γ i=some xs)(c:σ[i]?=some (some (V.ref p))){a:List V}(r:aA K F b a):En K B F σ (upd H p (.lst a)) (putD Γ i (.lst b)):=
 e.J9 (uK h) c ⟨a,aC,r⟩
end
section
noncomputable def newD:On->G->Nat->Option D
 | some a::ls,s::cs,j=>if a=j then (match s with
   | some (.ln d)=>some d
   | _=>newD ls cs j) else newD ls cs j
 | none::ls,_::cs,j=>newD ls cs j
 | _,_,_=>none
theorem dR:∀ {ls:On} {cs:G} {j:Nat} {d:D},newD ls cs j=some d->∃ k:Nat,ls[k]?=some (some j)/\cs[k]?=some (some (Sl.ln d))
 | some c::ls,s::cs,j,d,h=>by
  unfold newD at h;split at h
  .rename_i e;subst e;split at h
   .cases h;exact⟨0,rfl,rfl⟩
   .obtain⟨k,a,b⟩:=dR h;exact⟨k + 1,by simpa using a,by simpa using b⟩
  .obtain⟨k,a,b⟩:=dR h;exact⟨k + 1,by simpa using a,by simpa using b⟩
 | none::ls,_::cs,j,d,h=>by
  unfold newD at h;obtain⟨k,a,b⟩:=dR h;exact⟨k + 1,by simpa using a,by simpa using b⟩
 | [],_,_,_,h=>by unfold newD at h;cases h
 | some _::_,[],_,_,h=>by unfold newD at h;cases h
 | none::_,[],_,_,h=>by unfold newD at h;cases h
theorem rA:∀ {ls:On} {cs:G} {j k:Nat} {d:D},ls[k]?=some (some j)->cs[k]?=some (some (Sl.ln d))->∃ d',newD ls cs j=some d'
 | [],_,_,_,_,h,_=>by simp -iota at h
 | _::_,[],_,_,_,_,h=>by simp -iota at h
 | some b::ls,s::cs,j,0,d,h,a=>by
  simp -iota at h a;subst h a;exact⟨d,by unfold newD;rw[if_pos rfl]⟩
 | none::ls,s::cs,j,0,d,h,a=>by simp -iota at h
 | some b::ls,s::cs,j,k + 1,d,h,a=>by
  unfold newD;split
  .split
   .exact⟨_,rfl⟩
   .exact rA (k:=k) (by simpa using h) (by simpa using a)
  .exact rA (k:=k) (by simpa using h) (by simpa using a)
 | none::ls,s::cs,j,k + 1,d,h,a=>by
  unfold newD;exact rA (k:=k) (by simpa using h) (by simpa using a)
noncomputable def fV (n:Option D):Option Sl->Option Sl
 | some (.ow d)=>some (.ow (n.getD d))
 | some (.ln d)=>some (.ln (n.getD d))
 | s=>s
noncomputable def bE (ls:On)(Γ cs:G):G:=Γ.mapIdx λj s=>fV (newD ls cs j) s
theorem cT{cs:G}:(bE ls Γ cs)[j]?=(Γ[j]?).map (fV (newD ls cs j)):=by
 delta bE;rw[KI]
theorem En.back{N E:Hp}{own':List (Nat×Addr)}{f:G}(e:En K B N σ E Γ)(g:En K ⟨N,E,own'⟩ F σc H f)(J:∀ k p,(k,p)∈own'->∃ j d,ls[k]?=some (some j)/\Hld Γ j d/\σ[j]?=some (some (V.ref p))):En K B F σ H (bE ls Γ f):=by
 have L:∀ {j d},(bE ls Γ f)[j]?=some (some (Sl.fz d))->Γ[j]?=some (some (Sl.fz d)):=λ{j d} q=>by
  rw[cT] at q;cases w:Γ[j]? with
  | none=>rw[w] at q;cases q
  | some s=>
   rw[w] at q;cases s with
   | none=>cases q
   | some s=>cases s <;> cases q;rfl
 have r:∀ {j d},(bE ls Γ f)[j]?=some (some (Sl.ow d))->∃ d0,Γ[j]?=some (some (Sl.ow d0))/\d=(newD ls f j).getD d0:=λ{j d} q=>by
  rw[cT] at q;cases w:Γ[j]? with
  | none=>rw[w] at q;cases q
  | some s=>
   rw[w] at q;cases s with
   | none=>cases q
   | some s=>cases s <;> cases q;exact⟨_,rfl,rfl⟩
 have t:∀ {j d},(bE ls Γ f)[j]?=some (some (Sl.ln d))->∃ d0,Γ[j]?=some (some (Sl.ln d0))/\d=(newD ls f j).getD d0:=λ{j d} q=>by
  rw[cT] at q;cases w:Γ[j]? with
  | none=>rw[w] at q;cases q
  | some s=>
   rw[w] at q;cases s with
   | none=>cases q
   | some s=>cases s <;> cases q;exact⟨_,rfl,rfl⟩
 have gh:∀ {j d},Hld (bE ls Γ f) j d->∃ d0,Hld Γ j d0/\d=(newD ls f j).getD d0:=λ{j d} q=>by
  rcases q with q | q
  .obtain⟨d0,a,b⟩:=r q;exact⟨d0,.inl a,b⟩
  .obtain⟨d0,a,b⟩:=t q;exact⟨d0,.inr a,b⟩
 refine⟨g.sub,by delta bE;rw[Qx];exact e.len,?_,?_,?_,?_,?_,?_,e.keep.trans g.keep,?_,?_,?_⟩
 .intro j d q;obtain⟨v,a,b⟩:=e.fz j d (L q);exact⟨v,a,b.mono g.keep⟩
 .intro j d q;obtain⟨d0,O,rfl⟩:=gh q;obtain⟨p,a,b,c⟩:=e.hl j d0 O;obtain⟨o,C⟩:=c.some;have S:F p=none:=by
   cases w:F p with
   | none=>rfl
   | some u=>
    rcases g.new p u w with z | z
    .rw[show N p=some u from z] at b;cases b
    .rw[show E p=none from z] at C;cases C
  refine⟨p,a,S,?_⟩;cases w:newD ls f j with
  | some M=>
   obtain⟨k,x,y⟩:=dR w;obtain⟨P,W,Z,U⟩:=g.hl k M (.inr y);obtain⟨I,Q,A,_,D⟩:=J k P (g.ln k M P y W);rw[x] at A;cases A;rw[a] at D;cases D;exact U
  | none=>
   have h:∀ k,(k,p)∉own':=λk h=>by
    obtain⟨I,Q,A,l,D⟩:=J k p h;obtain⟨_,Y,y⟩:=g.par k p h;have:I=j:=e.dis I j Q d0 p l O D a;subst this;obtain⟨X,z⟩:=rA A y;rw[w] at z;cases z
   have R:H p=E p:=by rw[C];exact g.rest p o C h
   exact c.mono g.keep R
 .intro j d p q a;obtain⟨d0,q,_⟩:=r q;exact e.ow j d0 p q a
 .intro j d p q a;obtain⟨d0,q,_⟩:=t q;exact e.ln j d0 p q a
 .intro i j d M p m l;obtain⟨d0,m,_⟩:=gh m;obtain⟨T,l,_⟩:=gh l;exact e.dis i j d0 T p m l
 .intro j p q;obtain⟨a,d,b⟩:=e.par j p q;exact⟨a,_,by rw[cT,b];rfl⟩
 .intro b o q;rcases g.new b o q with z | z
  .exact e.new b o z
  .exact .inr (e.dom b z)
 .intro b o q n;have m:=e.rest b o q n;refine g.rest b o m λk h=>?_;obtain⟨j,d,x,y,a⟩:=J k b h;rcases y with y | y
  .rw[e.ow j d b y a] at q;cases q
  .exact n j (e.ln j d b y a)
 .intro b q;exact e.dom b (g.dom b q)
structure ItR (K:Fg0) (F:Hp) (J:It) (xs:List D):Prop where
 go:∀ i H',aB F H'->i < xs.length->J.go i H'
 stop:∀ i H',aB F H'->i=xs.length->J.stop i H'
 yld:∀ i H' x H'' d,aB F H'->xs[i]?=some d->J.yld i H' x H''->(H''=H'/\Rep K F d x)\/∃ t vs ds,H' t=none/\H''=upd H' t (.tup vs)/\x=.ref t/\aA K F ds vs/\d=.tup ds
abbrev TI3:=G->(List D->G->Prop)->Prop
def zR (K:Fg0)(t:TI)(b:TI3):Prop:=∀ (B:Bs) (F:Hp) (σ:_2.St) (H:Hp) (Γ:G) (Q:List D->G->Prop) (R:It->Hp->Prop),En K B F σ H Γ->b Γ Q->(∀ J H1 a Γ1 xs,aB F a->En K B a σ H1 Γ1->ItR K a J xs->Q xs Γ1->R J H1)->t σ H R
structure P3I (K:Fg0) (X:Cx) (tg iter:Expr) (t:TI) (i3:TI3):Prop where
 pe:PI X tg iter t
 rf:zR K t i3
abbrev TG3:=D->G->(G->Prop)->Prop
def wY (K:Fg0)(g:TG)(a:TG3):Prop:=∀ (B:Bs) (F:Hp) (σ:_2.St) (H:Hp) (Γ:G) (v:V) (d:D) (Q:G->Prop) (QQ:_2.St->Hp->Prop),En K B F σ H Γ->Rep K F d v->a d Γ Q->(∀ σ' Γ',En K B F σ' H Γ'->Q Γ'->QQ σ' H)->g v σ H QQ
structure P3G (K:Fg0) (X:Cx) (tg:Expr) (g:TG) (g3:TG3):Prop where
 pe:PG X tg g
 rf:wY K g g3
def tgN (i:Nat)(d:D)(Γ:G)(Q:G->Prop):Prop:=cF Γ i/\Q (Γ.set i (some (.fz d)))
def tgT (is:List Nat)(d:D)(Γ:G)(Q:G->Prop):Prop:=∃ ds Γ',d=.tup ds/\gives Γ is ds=some Γ'/\frees Γ is ds/\Q Γ'
theorem aL(hN:X.N.Nodup)(b:X.N[i]?=some x)(a:Loc X.env.scope x)(c:autoParam (X.fn x=true\/X.env.scope.names.lookup x=some .local) wq0):P3G K X (.Name x pos) (gr i) (tgN i):=
 ⟨bu hN b a c,λB F f H g v d Q h e r q k=>k _ _ (e.set (r:=.fz d) q.1 r) q.2⟩
theorem sX{kt:Nat}(m:X.K=K)(j:PGs X es (pV is))(l:X.calm=true)(i:autoParam ((pv es X.env).length=is.length) wE)(c:autoParam ((pv es X.env).findIdx? (·.1)=none) wE) :
  P3G K X (.Tuple es kt pos) (KS K is.length (pV is)) (tgT is):=⟨by subst m;exact DA l j i c,λB F t H u v d Q x e r q k=>by
 obtain⟨w,b,rfl,g,o,q⟩:=q;obtain⟨p,h,rfl,n,f⟩:=r;exact⟨p,h,rfl,.inl (.inl (e.sub _ _ n)),by rw[f.length,uN g],sW e f g o λa s=>k a b s q⟩⟩
theorem ItR.turn(R:ItR K F J xs){a:Hp}(s:aB F F')(e:En K B F' σ H' Γ){d:D}{x:V}(g:xs[i]?=some d)(y:J.yld i H' x a):∃ c,aB F' c/\En K B c σ a Γ/\Rep K c d x:=by
 rcases R.yld i H' x a d (s.trans e.sub) g y with ⟨rfl,r⟩ | ⟨t,f,h,b,rfl,rfl,r,rfl⟩
 .exact⟨F',aB.refl F',e,r.mono s⟩
 .exact⟨upd F' t (.tup f),bz (e.nof b),(e.alloc b _).freeze (e.nof b) aC (e.dom _ b) (e.wt b),t,f,rfl,aC,r.mono (s.trans (bz (e.nof b)))⟩
def K4 (b:TI3)(c:TG3)(e:TS3)(D:E3)(Γ:G):Prop:=b Γ λxs Γ1=>∃ a:Nat->G->Prop,a 0 Γ1/\(∀ k d Γ,xs[k]?=some d->a k Γ->c d Γ λΓ'=>e { D with nx:=a (k + 1),ct:=a (k + 1),bk:=D.nx } Γ')/\∀ Γ,a xs.length Γ->D.nx Γ
theorem i_{l:List Stmt}{O:TI3}{U:TG3}{M:TS}{V:TS3}(hp:UX (model X.prog X.w) X.A X.env X.xe)(hc:X.calm=true)(P:P3I K X tg iter wi O)(Q:P3G K X tg g U)(T:wZ K X l M V)(hs:autoParam (∀ x,ic iter X.env x=pure x) wT) :
  P3S K X (.For tg iter l [] pos) (I9 wi g M) (K4 O U V):=⟨Du hp hc P.pe Q.pe T.pe hs,λB F C H Γ D D3 e k q=>by
 refine P.rf B F C H Γ _ _ e q λJ H1 L E o G e1 R Z=>?_;obtain⟨A,i0,it,ie⟩:=Z;refine⟨λi m C H=>m=o.length - i/\i<=o.length/\∃ h d,aB L h/\En K B h C H d/\A i d,⟨_,rfl,eg _,L,E,aB.refl _,e1,i0⟩,?_⟩;rintro i m p I ⟨rfl,a1,F2,j,t,w,N⟩;by_cases lt:i < o.length
 .refine .inr ⟨R.go i I (t.trans w.sub) lt,λf n=>∃ h d,aB L h/\En K B h f n d/\A (i + 1) d,λf n ⟨h,d,a,b,c⟩=>⟨o.length - (i + 1),by exact WF 0x90b8a65769f94952f8 V1 (V3 (WF 183146141726 lt)),rfl,lt,h,d,a,b,c⟩,λx W y=>?_⟩;have S:o[i]?=some o[i]:=gE0 lt;obtain⟨Y,s3,e3,r3⟩:=R.turn t w S y;refine Q.rf B Y p W j x _ _ _ e3 r3 (it i _ j S N) λf d e4 q4=>?_;have u:=t.trans s3;refine T.rf B Y f W d _ { D3 with nx:=A (i + 1),ct:=A (i + 1),bk:=D3.nx } e4 ⟨λh f n d s e q=>⟨h,d,u.trans s,e,q⟩,λh f n d v r s e rv q=>k.rt h f n d v r ((G.trans u).trans s) e rv q,λh f n d s e q=>k.nx h f n d ((G.trans u).trans s) e q,λh f n d s e q=>⟨h,d,u.trans s,e,q⟩⟩ q4
 .have z:i=o.length:=by lia
  subst z;exact .inl ⟨R.stop _ I (t.trans w.sub) rfl,k.nx F2 p I j (G.trans t) w (ie j N)⟩⟩
def iL3 (a:TE3)(Γ:G)(Q:List D->G->Prop):Prop:=a Γ λr Γ1=>∃ xs,r.d=.lst xs/\Q xs Γ1
theorem cX{l:Expr}{tl:TE}{o:TE3}(I:X.K=K)(h:P3 K X l tl o):P3I K X tg l (Iw K tl) (iL3 o):=⟨by subst I;exact Gh h.pe,λB F u H w Q R e q k=>
 h.rf B F u H w _ _ e q λv M Z=>by
  obtain⟨T,j,r,s,L,C,z,E,D⟩:=Z;obtain⟨N,A,t,n⟩:=L.frozen C;rw[E] at n;obtain⟨p,a,rfl,g,m⟩:=n;refine⟨p,rfl,⟨a,SqL.of (t.sub _ _ g)⟩,k _ M N j z (s.trans A) t ⟨λi f b lt=>?_,λi f b O=>?_,λi f x S d b G y=>?_⟩ D⟩
  .rw[<- m.length] at lt;exact⟨a,a[i],SqL.of (b _ _ g),by simp -iota [lt]⟩
  .exact⟨a,SqL.of (b _ _ g),by rw[m.length];lia⟩
  .obtain⟨J,y⟩:=y;obtain⟨P,c,r⟩:=m.G5 (y a (SqL.of (b _ _ g)));rw[G] at c;cases c;exact .inl ⟨J,r⟩⟩
noncomputable def rng (lo:Int)(n:Nat):List D:=(cj n).map λ(k:Nat)=>D.int (lo + (k:Int))
theorem HV{lo:Int}:ItR K F (Itr lo n) (rng lo n):=by
 have a:(rng lo n).length=n:=by simp -iota [rng]
 refine⟨λi c _ lt=>by rw[a] at lt;exact lt,λi c _ e=>by rw[a] at e;exact Pp e.symm,λi c x j d _ b y=>?_⟩;obtain⟨h,g⟩:=y;subst h g;refine .inl ⟨rfl,?_⟩;have f:i < n:=by have:=(gS0 b).1;rw[a] at this;exact this
 have:(rng lo n)[i]?=some (.int (lo + i)):=by delta rng;rw[ba,mK f];rfl
 rw[this] at b;cases b
 rfl
def iR1 (a:TA3)(Γ:G)(Q:List D->G->Prop):Prop:=a Γ λds Γ1=>∃ j:Int,ds=[.int j]/\-(2 ^ 62)<=j/\j < 2 ^ 62/\Q (rng 0 j.toNat) Γ1
def iR2 (a:TA3)(Γ:G)(Q:List D->G->Prop):Prop:=a Γ λds Γ1=>∃ i j:Int,ds=[.int i,.int j]/\(-(2 ^ 62)<=i/\i < 2 ^ 62/\-(2 ^ 62)<=j/\j < 2 ^ 62)/\Q (rng i (j - i).toNat) Γ1
theorem aU{ta:TA}{d:TA3}{p:Pos}(o:Gl X "range")(n:X.mg "range"=none)(c:P3A K X [a] ta d)(hs:autoParam (ed [a] X.env=[(false,eval a X.env)]) wE):P3I K X tg (.Call (.Name "range" p) [a] [] pos) (Ir ta) (iR1 d):=⟨BG o n c.pe hs,λB F f H g Q R e q k=>
 c.rf B F f H g _ _ e q λA x Z=>by
  obtain⟨y,b,C,s,w,h,j,u,t,r,m⟩:=Z;subst u;obtain⟨v,z,rfl,l,i⟩:=h;cases l;cases i;exact⟨j,rfl,t,r,k _ x y b _ s w HV m⟩⟩
theorem B_{b:Expr}{ta:TA}{g:TA3}{p:Pos}(y:Gl X "range")(x:X.mg "range"=none)(f:P3A K X [a,b] ta g)(hs:autoParam (ed [a,b] X.env=[(false,eval a X.env),(false,eval b X.env)]) wE)(d:autoParam (ed [b] X.env=[(false,eval b X.env)]) wE) :
  P3I K X tg (.Call (.Name "range" p) [a,b] [] pos) (Iq ta) (iR2 g):=⟨BF y x f.pe hs d,λB F h H l Q R e q k=>
 f.rf B F h H l _ _ e q λI D Z=>by
  obtain⟨E,c,J,s,C,n,i,j,A,z,u⟩:=Z;subst A;obtain⟨v,G,rfl,t,w,m,rfl,r,o⟩:=n;cases t;cases r;cases o;exact⟨i,j,rfl,z,k _ D E c _ s C HV u⟩⟩
noncomputable def uX (xs:List D):List D:=xs.mapIdx λi x=>.tup [.int i,x]
def iE3 (a:TA3)(Γ:G)(Q:List D->G->Prop):Prop:=a Γ λds Γ1=>∃ xs,ds=[.lst xs]/\Q (uX xs) Γ1
theorem pX{d:D}(h:(uX xs)[i]?=some d):∃ x,xs[i]?=some x/\d=.tup [.int i,x]:=by
 delta uX at h;rw[KI] at h;cases q:xs[i]? with
 | none=>rw[q] at h;cases h
 | some p=>rw[q] at h;cases h;exact⟨_,rfl,rfl⟩
theorem GZ{ta:TA}{u:TA3}{kt:Nat}{D p:Pos}(M:Gl X "enumerate")(L:X.mg "enumerate"=none)(o:P3A K X [a] ta u)(hs:autoParam (ed [a] X.env=[(false,eval a X.env)]) wE) :
  P3I K X (.Tuple es kt D) (.Call (.Name "enumerate" p) [a] [] pos) (Iy ta) (iE3 u):=⟨Gi M L o.pe hs,λB F z H A Q R e q k=>
 o.rf B F z H A _ _ e q λvs U Z=>by
  obtain⟨V,j,ds,s,r,l,W,O,G⟩:=Z;subst O;obtain⟨v,ws,rfl,⟨I,b,rfl,h,m⟩,E⟩:=l;cases E;refine⟨I,b,rfl,r.sub _ _ h,k _ U V j _ s r ⟨λi f c lt=>?_,λi f c P=>?_,λi f x H3 d c N y=>?_⟩ G⟩
  .obtain⟨x,n,_⟩:=pX (gE0 lt);obtain⟨v,g,_⟩:=m.get n;exact⟨b,v,c _ _ h,g⟩
  .refine⟨b,c _ _ h,?_⟩;subst P;delta uX;rw[Qx,m.length];exact bU _
  .obtain⟨t,C,Y,J,w,T,rfl,rfl⟩:=y;rw[c _ _ h] at w;cases w;obtain⟨S,n,rfl⟩:=pX N;obtain⟨v,g,l⟩:=m.get n;rw[T] at g;cases g;exact .inr ⟨t,_,[.int i,S],J,rfl,rfl,⟨_,_,rfl,rfl,_,_,rfl,l,rfl⟩,rfl⟩⟩
theorem zY(h:H p=some (.lst vs)):tyV K "list" (.ref p) H:=.inl ⟨rfl,_,SqL.of h⟩
theorem En.cY(e:En K B F σ H Γ)(h:cY Γ i=some xs):∃ p vs,σ[i]?=some (some (V.ref p))/\H p=some (.lst vs)/\aA K F xs vs:=by
 obtain⟨p,a,b,vs,c,d⟩:=e.hl i _ (uK h);exact⟨p,vs,a,c,d⟩
def Lj (i:Nat)(a:TE3)(Γ:G)(Q:RV->G->Prop):Prop:=(∃ xs,cY Γ i=some xs)/\a Γ λr Γ1=>∃ xs,cY Γ1 i=some xs/\xs.length < sizeLine/\Q (.fz .non) (putD Γ1 i (.lst (xs++[r.d])))
theorem FV(i:Nat)(h:Ref K te e3):Ref K (tBM K "list" vT (e9 i) (rL te rK)) (Lj i e3):=by
 intro B F j H m Q J e ⟨⟨n,A⟩,q⟩ k;obtain⟨p,o,d,D,_⟩:=e.cY A;refine⟨_,d,zY D,h B F j H m _ _ e q λv L Z=>?_⟩;obtain⟨M,l,r,s,C,w,G,f,z,y⟩:=Z;obtain⟨E,u,g,x⟩:=C.frozen w;obtain⟨I,t,a,b,c⟩:=g.cY f;rw[d] at a;cases a;exact⟨p,t,v,rfl,rfl,b,by rw[c.length];exact z,k _ _ ⟨E,_,.fz .non,s.trans u,g.mut f d (aA.append (ys:=[r.d]) c ⟨v,[],rfl,x,rfl⟩),rfl,y⟩⟩
def ext3 (i:Nat)(a:TB3)(Γ:G)(Q:RV->G->Prop):Prop:=(∃ xs,cY Γ i=some xs)/\a Γ λr Γ1=>∃ xs ys,cY Γ1 i=some xs/\r.at Γ1=some (.lst ys)/\xs.length + ys.length<=sizeLine/\Q (.fz .non) (putD Γ1 i (.lst (xs++ys)))
theorem FU{j:TB3}(i:Nat)(h:tU K te j):Ref K (tBM K "list" vS (e9 i) (rL te rK)) (ext3 i j):=by
 intro B F m H o Q M e ⟨⟨t,D⟩,q⟩ k;obtain⟨p,w,f,E,_⟩:=e.cY D;refine⟨_,f,zY E,h B F m H o _ _ e q λv N Z=>?_⟩;obtain⟨G,n,r,s,d,y,J,I,g,C,A,z⟩:=Z;obtain⟨p2,u,rfl,b2,l⟩:=d.bo y C;obtain⟨L,x,a,b,c⟩:=d.cY g;rw[f] at a;cases a;exact⟨p,p2,x,u,rfl,rfl,b,b2,by rw[c.length,l.length];exact A,k _ _ ⟨G,_,.fz .non,s,d.mut g f (c.append l),rfl,z⟩⟩
variable {eb:TB3}
theorem lW(i:Nat)(h:X.K=K)(g:P3B K X (.Name x px) (e9 i) (bor i))(f:P3 K X e te e3)(c:autoParam (Oo (.Name x px) "append" X.env (eval (.Name x px) X.env)=eval (.Name x px) X.env) wE)(d:autoParam (((backTo cpos (ed [e] X.env)).all (λx=>!x.1) && (Qq cpos (KF [] X.env)).all (λx=>x.1.isSome)
   && decide ([e].length + ([]:List Sy).length + (if ([]:List Sy).isEmpty then 0 else 1) < 30))=true) wE)(b:autoParam ((apos.endLine == cpos.line)=true) wE)(hs:autoParam (ed [e] X.env=(false,eval e X.env)::ed [] X.env) wE)(a:autoParam ((backTo cpos (ed [] X.env)).any (·.1)=false) wE) :
  P3 K X (.Call (.Attribute (.Name x px) "append" apos) [e] [] cpos) (tBM K "list" vT (e9 i) (rL te rK)) (Lj i e3):=
 ⟨by subst h;exact H_ Rk R5 PySem.F.type_list_append BV g.pe (rq f.pe wa hs) c d b hs a,FV i f.rf⟩
theorem uC(i:Nat)(h:X.K=K)(g:P3B K X (.Name x px) (e9 i) (bor i))(f:P3B K X e te eb)(c:autoParam (Oo (.Name x px) "extend" X.env (eval (.Name x px) X.env)=eval (.Name x px) X.env) wE)(d:autoParam (((backTo cpos (ed [e] X.env)).all (λx=>!x.1) && (Qq cpos (KF [] X.env)).all (λx=>x.1.isSome)
   && decide ([e].length + ([]:List Sy).length + (if ([]:List Sy).isEmpty then 0 else 1) < 30))=true) wE)(b:autoParam ((apos.endLine == cpos.line)=true) wE)(hs:autoParam (ed [e] X.env=(false,eval e X.env)::ed [] X.env) wE)(a:autoParam ((backTo cpos (ed [] X.env)).any (·.1)=false) wE) :
  P3 K X (.Call (.Attribute (.Name x px) "extend" apos) [e] [] cpos) (tBM K "list" vS (e9 i) (rL te rK)) (ext3 i eb):=
 ⟨by subst h;exact H_ Rk R7 PySem.F.type_list_extend BU g.pe (rq f.pe wa hs) c d b hs a,FU i f.rf⟩
def Ai (i:Nat)(c:TB3)(d:TE3)(D:E3)(Γ:G):Prop:=d Γ λr Γ1=>(∃ xs,cY Γ1 i=some xs)/\c Γ1 λb a=>∃ xs k j,cY a i=some xs/\b.at a=some (.int k)/\ixN xs.length k=some j/\D.nx (putD a i (.lst (xs.set j r.d)))
theorem FE(i:Nat){p2:Pos}{k:Expr}{g:TE}(h:P3B K X (.Name x px) (e9 i) (bor i))(N:P3B K X k g k3)(P:P3 K X e te e3)(L:PS X (.Assign [.Subscript (.Name x px) k p2] e pos) (jo te (Cb (e9 i) g uy))) :
  P3S K X (.Assign [.Subscript (.Name x px) k p2] e pos) (jo te (Cb (e9 i) g uy)) (Ai i k3 e3):=⟨L,λB F d H t D D3 e k q=>
 P.rf B F d H t _ _ e q λv T Z=>by
  obtain⟨F',f,r,s,S,C,⟨w,R⟩,J⟩:=Z;obtain⟨V,A,n,G⟩:=S.frozen C;obtain⟨p,y,l,b0,_⟩:=n.cY R;refine⟨_,l,N.rf B V d T f _ _ n J λu H2 Z=>?_⟩;obtain⟨U,o,bo,m,e3,E,W,kk,j,h,Q,O,I⟩:=Z;obtain⟨Y,z,a,b,c⟩:=e3.cY h;rw[l] at a;cases a;have M:u=.int kk:=e3.bo E Q;exact⟨p,z,kk,j,rfl,M,b,by rw[c.length];exact O,k.nx U d _ _ ((s.trans A).trans m) (e3.mut h l (aA.set (G.mono m) j c)) I⟩⟩
end
set_option backward.eqns.nonrecursive false in
noncomputable def gz:Option (Option Sl)->Option Sl
 | some (some (.fz d))=>some (.fz d)
 | some (some (.ow d))=>some (.ln d)
 | some (some (.ln d))=>some (.ln d)
 | _=>none
set_option backward.eqns.nonrecursive false in
noncomputable def p7 (Γ:G):Bo->Option Sl
 | .d x=>some (.fz x)
 | .v i=>gz Γ[i]?
set_option backward.eqns.nonrecursive false in
noncomputable def cM:Option Bo->Option Nat
 | some (.v i)=>some i
 | _=>none
noncomputable def DS (Γ:G)(σ:_2.St)(k:Nat):Option Bo->Option (Nat×Addr)
 | some (.v i)=>match Γ[i]?,σ[i]? with
  | some (some (.ow _)),some (some (.ref p))=>some (k,p)
  | some (some (.ln _)),some (some (.ref p))=>some (k,p)
  | _,_=>none
 | _=>none
noncomputable def ownOf (Γ:G)(σ:_2.St)(bs:List (Option Bo)):List (Nat×Addr):=(cj bs.length).filterMap λk=>(bs[k]?).bind (DS Γ σ k)
theorem lX{bs:List (Option Bo)}:(k,p)∈ownOf Γ σ bs↔∃ i d,bs[k]?=some (some (Bo.v i))/\Hld Γ i d/\σ[i]?=some (some (V.ref p)):=by
 delta ownOf;rw[tR];constructor
 .rintro⟨b,_,h⟩;cases q:bs[b]? with
  | none=>rw[q] at h;cases h
  | some o=>
   rw[q] at h;change DS Γ σ b o=some (k,p) at h;delta DS at h;split at h
   .rename_i i;split at h
    .rename_i d e a h2;cases h;exact⟨i,d,q,.inl a,h2⟩
    .rename_i d e a h2;cases h;exact⟨i,d,q,.inr a,h2⟩
    .cases h
   .cases h
 .rintro⟨i,d,a,h2,c⟩;refine⟨k,iU.mpr (gS0 a).1,?_⟩;rw[a];show DS Γ σ k (some (Bo.v i))=_;delta DS;rcases h2 with h2 | h2
  .simp only[h2,c]
  .simp only[h2,c]
noncomputable def c6 (Γ:G)(bs:List (Option Bo)):G:=bs.map λo=>o.bind (p7 Γ)
theorem jH{bs:List (Option Bo)}{s:Sl}:(c6 Γ bs)[k]?=some (some s)↔∃ bo,bs[k]?=some (some bo)/\p7 Γ bo=some s:=by
 delta c6;rw[ba];constructor
 .intro h;cases q:bs[k]? with
  | none=>rw[q] at h;cases h
  | some o=>
   rw[q] at h;cases o with
   | none=>cases h
   | some bo=>exact⟨bo,rfl,by simpa using h⟩
 .rintro⟨bo,b,a⟩;rw[b];simp -iota [a]
theorem Hr{bo:Bo}{d:D}(h:p7 Γ bo=some (.ln d)):∃ i,bo=.v i/\Hld Γ i d:=by
 cases bo with
 | d x=>cases h
 | v i=>
  change gz Γ[i]?=_ at h;delta gz at h;split at h
  .cases h
  .cases h;rename_i q;exact⟨i,rfl,.inl q⟩
  .cases h;rename_i q;exact⟨i,rfl,.inr q⟩
  .cases h
theorem Hs{bo:Bo}{d:D}(h:p7 Γ bo=some (.fz d)):bo=.d d\/∃ i,bo=.v i/\Γ[i]?=some (some (Sl.fz d)):=by
 cases bo with
 | d x=>cases h;exact .inl rfl
 | v i=>
  change gz Γ[i]?=_ at h;delta gz at h;split at h
  .cases h;rename_i q;exact .inr ⟨i,rfl,q⟩
  .cases h
  .cases h
  .cases h
theorem wU{bo:Bo}{d:D}:p7 Γ bo≠some (.ow d):=by
 intro h;cases bo with
 | d x=>cases h
 | v i=>change gz Γ[i]?=_ at h;delta gz at h;split at h <;> cases h
theorem oV{bs:List (Option Bo)}:∀ (k:Nat) (d:D),(c6 Γ bs)[k]?≠some (some (Sl.ow d)):=λk d h=>by
 obtain⟨bo,_,h⟩:=jH.mp h;exact wU h
theorem En.inner(e:En K B F σ H Γ){bs:List (Option Bo)}(J:σc.length=bs.length)(m:∀ (k:Nat) (bo:Bo) (s:Sl),bs[k]?=some (some bo)->p7 Γ bo=some s->∃ v,σc[k]?=some (some v)/\qK K F σ bo v)(G:∀ (k t i:Nat),bs[k]?=some (some (Bo.v i))->bs[t]?=some (some (Bo.v i))->k=t):En K ⟨F,H,ownOf Γ σ bs⟩ F σc H (c6 Γ bs):=by
 have f:∀ {k d},Hld (c6 Γ bs) k d->∃ i p,bs[k]?=some (some (Bo.v i))/\Hld Γ i d/\σ[i]?=some (some (V.ref p))/\σc[k]?=some (some (V.ref p)):=λ{k d} q=>by
  rcases q with q | q
  .obtain⟨bo,g,h2⟩:=jH.mp q;exact absurd h2 wU
  .obtain⟨bo,g,h2⟩:=jH.mp q;obtain⟨v,j,c⟩:=m k bo _ g h2;obtain⟨i,rfl,l⟩:=Hr h2;obtain⟨p,n,_⟩:=e.hl i d l;rw[show σ[i]?=some (some v) from c] at n;cases n;exact⟨i,p,g,l,c,j⟩
 refine⟨e.sub,by delta c6;rw[lM0];exact J,?_,?_,?_,?_,?_,?_,aB.refl F,λb o h=>.inl h,λb o h _=>h,λb h=>h⟩
 .intro k d q;obtain⟨bo,g,h2⟩:=jH.mp q;obtain⟨v,j,c⟩:=m k bo _ g h2;refine⟨v,j,?_⟩;rcases Hs h2 with rfl | ⟨i,rfl,l⟩
  .exact c
  .obtain⟨u,n,w⟩:=e.fz i d l;rw[show σ[i]?=some (some v) from c] at n;cases n;exact w
 .intro k d q;obtain⟨i,p,g,h2,j,c⟩:=f q;obtain⟨E,l,n,w⟩:=e.hl i d h2;rw[j] at l;cases l;exact⟨p,c,n,w⟩
 .intro k d p q;obtain⟨bo,g,h2⟩:=jH.mp q;exact absurd h2 wU
 .intro k d p q a;obtain⟨i,E,g,h2,j,c⟩:=f (.inr q);rw[a] at c;cases c;exact lX.mpr ⟨i,d,g,h2,j⟩
 .intro k t d L p D C N M;obtain⟨i,O,g,h2,j,c⟩:=f D;obtain⟨I,p2,z,y,x,r⟩:=f C;rw[N] at c;cases c;rw[M] at r;cases r;have:=e.dis i I d L p h2 y j x;subst this;exact G k t i g z
 .intro k p q;obtain⟨i,d,g,h2,j⟩:=lX.mp q;have A:p7 Γ (.v i)=some (.ln d):=by
   show gz Γ[i]?=_;rcases h2 with h2 | h2 <;> rw[h2] <;> rfl
  obtain⟨v,c,l⟩:=m k _ _ g A;rw[show σ[i]?=some (some v) from l] at j;cases j;exact⟨c,d,jH.mpr ⟨_,g,A⟩⟩
theorem kS{bs:List (Option Bo)}:∀ k p,(k,p)∈ownOf Γ σ bs->∃ j d,(bs.map cM)[k]?=some (some j)/\Hld Γ j d/\σ[j]?=some (some (V.ref p)):=λk p h=>by
 obtain⟨i,d,c,b,a⟩:=lX.mp h;exact⟨i,d,by rw[ba,c];rfl,b,a⟩
noncomputable def dA (a:On):List (Option Bo):=a.map λo=>o.map Bo.v
def va (f:On)(g:TI3)(h:TG3)(i:TE3)(Γ:G)(Q:RV->G->Prop):Prop:=g Γ λxs Γ1=>xs.length < sizeLine/\∃ b:Nat->List D->G->Prop,b 0 [] (c6 Γ1 (dA f))/\
 (∀ k d ys a,xs[k]?=some d->ys.length=k->b k ys a->h d a λe=>i e λr c=>b (k + 1) (ys++[r.d]) c)/\∀ ys a,ys.length=xs.length->b xs.length ys a->Q (.fr (.lst ys)) (bE f Γ1 a)
theorem E2(h:(fr.filterMap id).Nodup):∀ (k k' i:Nat),(dA fr)[k]?=some (some (Bo.v i))->(dA fr)[k']?=some (some (Bo.v i))->k=k':=by
 delta dA;have g:∀ (l:On),(l.filterMap id).Nodup->∀ (k k' i:Nat),l[k]?=some (some i)->l[k']?=some (some i)->k=k':=by
  intro l
  induction l with
  | nil=>intro _ k k' i h;simp -iota at h
  | cons o l f=>
   intro a k k' i h d;cases o with
   | none=>
    rw[List.filterMap_cons_none rfl] at a;cases k with
    | zero=>simp -iota at h
    | succ k=>
     cases k' with
     | zero=>simp -iota at d
     | succ k'=>rw[f a k k' i (by simpa using h) (by simpa using d)]
   | some j=>
    rw[show UB id (some j::l)=j::UB id l from rfl,hX] at a;have e:∀ {k:Nat},l[k]?=some (some i)->i∈l.filterMap id:=λq=>tR.mpr ⟨some i,eW q,rfl⟩;cases k with
    | zero=>
     simp -iota at h;subst h;cases k' with
     | zero=>rfl
     | succ k'=>exact absurd (e (by simpa using d)) a.1
    | succ k=>
     cases k' with
     | zero=>
      simp -iota at d;subst d;exact absurd (e (by simpa using h)) a.1
     | succ k'=>rw[f a.2 k k' i (by simpa using h) (by simpa using d)]
 intro k k' i c b;refine g fr h k k' i ?_ ?_
 .rw[ba] at c;cases q:fr[k]? with
  | none=>rw[q] at c;cases c
  | some o=>rw[q] at c;cases o with | none=>cases c | some j=>cases c;rfl
 .rw[ba] at b;cases q:fr[k']? with
  | none=>rw[q] at b;cases b
  | some o=>rw[q] at b;cases o with | none=>cases b | some j=>cases b;rfl
theorem nY:(dA fr).map cM=fr:=by
 delta dA;rw[iS]
 conv=>rhs;rw[<- Ua fr]
 refine jx λo _=>?_;cases o <;> rfl
theorem En.blk(e:En K B F σ H Γ)(f:(fr.filterMap id).Nodup):En K ⟨F,H,ownOf Γ σ (dA fr)⟩ F (mS fr σ) H (c6 Γ (dA fr)):=by
 refine e.inner (by delta mS dA;simp) (λk bo s a b=>?_) (E2 f);unfold dA at a;rw[ba] at a;cases q:fr[k]? with
 | none=>rw[q] at a;cases a
 | some o=>
  rw[q] at a;cases o with
  | none=>cases a
  | some j=>
   cases a;have:∃ d,Gat Γ j=some d:=by
    change gz Γ[j]?=_ at b;delta gz at b;delta Gat
    split at b <;> first | (cases b;done) | (rename_i w;rw[w];exact⟨_,rfl⟩) | exact⟨_,rfl⟩
   obtain⟨d,g⟩:=this;obtain⟨v,c,_⟩:=e.get g;refine⟨v,?_,c⟩;delta mS;rw[ba,q];simp -iota [c]
theorem xq{P:TI3}{T:TG3}(nd:(fr.filterMap id).Nodup)(hi:zR K wi P)(hg:wY K g T)(he:Ref K te e3):Ref K (fX fr wi g (kv te)) (va fr P T e3):=by
 intro B F σ H Γ Q QQ e q k;refine hi B F σ H Γ _ _ e q λJ H1 E c d X U R Z=>?_;obtain⟨hz,Iv,i0,it,ie⟩:=Z;have eb:=U.blk nd;refine⟨λi m ys b H=>m=d.length - i/\i<=d.length/\∃ G h f,aB E G/\En K ⟨E,H1,ownOf c σ (dA fr)⟩ G b H h/\aA K G f ys/\f.length=i/\Iv i f h,⟨_,rfl,eg _,E,_,[],aB.refl _,eb,rfl,rfl,i0⟩,?_⟩;rintro i m ys b D ⟨rfl,A,F2,a,f,j,o,u,n,O⟩;have I:ys.length < sizeLine:=by rw[u.length,n];exact WF 0x8cbc3d9af64b hz A
 by_cases lt:i < d.length
 .refine .inr ⟨R.go i D (j.trans o.sub) lt,λx V y=>?_⟩;have S:d[i]?=some d[i]:=gE0 lt;obtain⟨W,N,C,r3⟩:=R.turn j o S y;refine hg _ W b V a x _ _ _ C r3 (it i _ f a S n O) λp t e4 q4=>?_;refine⟨I,he _ W p V t _ _ e4 q4 λy H5 Z=>?_⟩;obtain⟨F5,s,r,M,e5,Y,v⟩:=Z;obtain⟨F6,L,e6,r6⟩:=e5.frozen Y;refine⟨d.length - (i + 1),by exact WF 0x90b8a65769f94952f8 V1 (V3 (WF 183146141726 lt)),rfl,lt,F6,s,f++[r.d],((j.trans N).trans M).trans L,e6,?_,by simp -iota [n],v⟩;exact aA.append (ys:=[r.d]) (u.mono ((N.trans M).trans L)) ⟨y,[],rfl,r6,rfl⟩
 .have z:i=d.length:=by lia
  subst z;refine .inl ⟨R.stop _ D (j.trans o.sub) rfl,I,λl w=>k _ _ ?_⟩;have eo:En K B F2 σ D (bE fr c a):=U.back (ls:=fr) o (by have:=kS (Γ:=c) (σ:=σ) (bs:=dA fr);rw[nY] at this;exact this);exact Po.mono (X.trans j) (iK eo w u (ie f a n O))
theorem dM{i:TI3}{n:TG3}(p:X.calm=true)(j:P3I K X tg iter wi i)(q:Blk X.N X.env.scope sc Nc fr)(k:∀ s₀ H₀ C ex f,P3G K (aT X sc Nc s₀ H₀ C ex f) tg g n)(l:∀ s₀ H₀ C ex f,P3 K (aT X sc Nc s₀ H₀ C ex f) elt te e3)(o:autoParam ((fr.filterMap id).Nodup) wP)(hs:autoParam (∀ x,ic iter X.env x=pure x) wT) :
  P3 K X (.ListComp elt [⟨tg,iter,[],0⟩] sc pos) (fX fr wi g (kv te)) (va fr i n e3):=
 ⟨nJ (m:=λD h=>qC elt D h) p j.pe q (λa b c d e=>(k a b c d e).pe) (λa b c d e D=>nK rfl (l a b c d e).pe) (λ_ _ _=>rfl) hs,xq o j.rf (k X.s₀ X.H₀ 0 [] []).rf (l X.s₀ X.H₀ 0 [] []).rf⟩
theorem yS{f:Pos}{n:TI3}{r:TG3}(hN:X.N.Nodup)(k:X.N[i]?=some x)(t:X.env.scope.names.lookup x=some .local)(u:X.calm=true)(o:P3I K X tg iter wi n)(v:Blk X.N X.env.scope sc Nc fr)(p:∀ s₀ H₀ C ex h,P3G K (aT X sc Nc s₀ H₀ C ex h) tg g r)(q:∀ s₀ H₀ C ex h,P3 K (aT X sc Nc s₀ H₀ C ex h) elt te e3)(s:autoParam ((fr.filterMap id).Nodup) wP)(j:autoParam (zJ (.ListComp elt [⟨tg,iter,[],0⟩] sc pos) (some (.Name x px)) f.line X.env=pure true) wE)(hs:autoParam (∀ x,ic iter X.env x=pure x) wT) :
  P3S K X (.Assign [.Name x px] (.ListComp elt [⟨tg,iter,[],0⟩] sc pos) f) (jo (fX fr wi g (kv te)) (gr i)) (Bv i (va fr n r e3)):=
 ⟨qd (m:=λD l=>qC elt D l) hN k t u o.pe v (λa b c d e=>(p a b c d e).pe) (λa b c d e D=>nK rfl (q a b c d e).pe) (λ_ _ _=>rfl) j hs,rh (xq s o.rf (p X.s₀ X.H₀ 0 [] []).rf (q X.s₀ X.H₀ 0 [] []).rf)⟩
abbrev S3:=G->(RV->G->Prop)->Prop
def sp3 (K:Fg0)(n:Nat)(S:S3):Sp:=λvs H Q _=>vs.length=n/\∃ F own Γa a,En K ⟨F,H,own⟩ F (vs.map some) H Γa/\(∀ (k:Nat) (d:D),Γa[k]?≠some (some (Sl.ow d)))/\S Γa a/\∀ r Γ',a r Γ'->∀ v H' F',En K ⟨F,H,own⟩ F' (vs.map some) H' Γ'->oY K ⟨F,H,own⟩ F' (vs.map some) H' Γ' v r->Q v H'
noncomputable def du:List Bo->List Nat
 | []=>[]
 | .d _::a=>du a
 | .v i::a=>i::du a
def wQ (n:Nat)(S:S3)(b:dO)(Γ:G)(Q:RV->G->Prop):Prop:=b Γ λa Γ1=>a.length=n/\(du a).Nodup/\S (c6 Γ1 (a.map some)) λr Γa=>Q r (bE ((a.map some).map cM) Γ1 Γa)
theorem Ec:∀ {bs:List Bo},(du bs).Nodup->∀ (k k' i:Nat),(bs.map some)[k]?=some (some (Bo.v i))->(bs.map some)[k']?=some (some (Bo.v i))->k=k':=by
 intro bs h k k' i f e;have a:((((bs.map some).map cM)).filterMap id)=du bs:=by
  clear h f e
  induction bs with
  | nil=>rfl
  | cons b bs c=>cases b with
   | d x=>simpa [cM,du] using c
   | v j=>simpa [cM,du] using c
 rw[<- a] at h;refine E2 h k k' i ?_ ?_
 .delta dA;rw[ba,ba,f];rfl
 .delta dA;rw[ba,ba,e];rfl
theorem cg.get:∀ {h:List Bo} {vs:List V},cg K F σ h vs->∀ {k:Nat} {bo:Bo},h[k]?=some bo->∃ v,vs[k]?=some v/\qK K F σ bo v
 | [],_,_,k,bo,e=>by simp -iota at e
 | x::j,_,⟨v,l,c,g,f⟩,0,d,e=>by subst c;simp -iota at e;subst e;exact⟨v,rfl,g⟩
 | x::j,_,⟨v,l,c,g,f⟩,i + 1,d,e=>by
  subst c;obtain⟨u,a,b⟩:=cg.get f (k:=i) (bo:=d) (by simpa using e);exact⟨u,by simpa using a,b⟩
theorem cg.length:∀ {a:List Bo} {vs:List V},cg K F σ a vs->vs.length=a.length
 | [],_,h=>by cases h;rfl
 | _::_,_,Z=>by obtain⟨v,d,c,e,b⟩:=Z;subst c;simp -iota [cg.length b]
theorem En.args(e:En K B F σ H Γ){bs:List Bo}(r:cg K F σ bs vs)(d:(du bs).Nodup):En K ⟨F,H,ownOf Γ σ (bs.map some)⟩ F (vs.map some) H (c6 Γ (bs.map some)):=by
 refine e.inner (by simp -iota [r.length]) (λk bo s c f=>?_) (Ec d);rw[ba] at c;cases q:bs[k]? with
 | none=>rw[q] at c;cases c
 | some b=>
  rw[q] at c;cases c;obtain⟨v,a,b⟩:=r.get q;exact⟨v,by rw[ba,a];rfl,b⟩
theorem En.called(e:En K B F σ H Γ){bs:List (Option Bo)}{r:RV}(A:En K ⟨F,H,ownOf Γ σ bs⟩ F' σc H' Γa)(m:oY K ⟨F,H,ownOf Γ σ bs⟩ F' σc H' Γa v r) :
  aB F F'/\En K B F' σ H' (bE (bs.map cM) Γ Γa)/\oY K B F' σ H' (bE (bs.map cM) Γ Γa) v r:=by
 have N:=e.back A kS;refine⟨A.keep,N,?_⟩;have nw:∀ {p:Addr},H p=none->∀ (i:Nat) (x:D),Hld (bE (bs.map cM) Γ Γa) i x->σ[i]?≠some (some (V.ref p)):=λ{p} n i x hx J=>by
  obtain⟨d0,w⟩:∃ d0,Hld Γ i d0:=by
   rcases hx with hx | hx <;> rw[cT] at hx
   .cases w:Γ[i]? with
    | none=>rw[w] at hx;cases hx
    | some s=>rw[w] at hx;cases s with
     | none=>cases hx
     | some s=>cases s with
      | fz d=>cases hx
      | ow d=>exact⟨d,.inl w⟩
      | ln d=>cases hx
   .cases w:Γ[i]? with
    | none=>rw[w] at hx;cases hx
    | some s=>rw[w] at hx;cases s with
     | none=>cases hx
     | some s=>cases s with
      | fz d=>cases hx
      | ow d=>cases hx
      | ln d=>exact⟨d,.inr w⟩
  obtain⟨Q,a,b,c⟩:=e.hl i d0 w;rw[J] at a;cases a;obtain⟨o,u⟩:=c.some;rw[n] at u;cases u
 cases r with
 | fz d=>exact m
 | fr d=>
  obtain⟨p,l,k,j,h,y⟩:=m;exact⟨p,l,k,j,e.dom p h,nw h⟩
 | two P O=>
  obtain⟨t,p,q,G,E,l,k,j,h,y,M,L,g⟩:=m;exact⟨t,p,q,G,E,l,k,j,h,y,M,L,λz f=>⟨(g z f).1,e.dom z (g z f).2.1,nw (g z f).2.1⟩⟩
 | rws C=>
  obtain⟨p,I,l,k,j,h,g⟩:=m;exact⟨p,I,l,k,j,h,λz f=>⟨(g z f).1,e.dom z (g z f).2.1,nw (g z f).2.1⟩⟩
theorem xr{d:dO}{S:S3}{E:XK}(h:tV K t d):Ref K (qb (sp3 K n S) [] E t) (wQ n S d):=by
 intro B F i H m Q z e q k;refine h B F i H m _ _ e q λo A Z=>?_;obtain⟨D,l,I,p,g,f,x,w,u⟩:=Z;show sp3 K n S (o++[]) A z E;rw[jw];refine⟨by rw[f.length];exact x,D,_,_,_,g.args f w,oV,u,λr j q v C G y s=>?_⟩;obtain⟨a,b,c⟩:=g.called y s;exact k v C ⟨G,_,r,p.trans a,b,c,q⟩
set_option backward.eqns.nonrecursive false in
noncomputable def nO (a b:G):G:=a.mapIdx λk s=>match s with
 | some (.ln d)=>(match b[k]? with
  | some (some (.ln d'))=>some (.ln d')
  | _=>some (.ln d))
 | s=>s
theorem Gw{d:D}(h:Γa[k]?=some (some (Sl.ln d))){d':D}(h':Γ'[k]?=some (some (Sl.ln d'))):(nO Γa Γ')[k]?=some (some (Sl.ln d')):=by
 delta nO;rw[KI,h];simp [h']
theorem nN{s:Sl}(h:(nO Γa Γ')[k]?=some (some s)):(∃ d d',Γa[k]?=some (some (Sl.ln d))/\s=.ln d')\/(Γa[k]?=some (some s)/\∀ d,s≠.ln d):=by
 delta nO at h;rw[KI] at h;cases w:Γa[k]? with
 | none=>rw[w] at h;cases h
 | some o=>
  rw[w] at h;cases o with
  | none=>cases h
  | some a=>
   cases a with
   | fz d=>cases h;exact .inr ⟨rfl,λd z=>by cases z⟩
   | ow d=>cases h;exact .inr ⟨rfl,λd z=>by cases z⟩
   | ln d=>
    left
    simp only[OY,mC] at h;split at h
    .cases h;exact⟨d,_,rfl,rfl⟩
    .cases h;exact⟨d,_,rfl,rfl⟩
theorem En.out{G F:Hp}{f:List (Nat×Addr)}{i l:_2.St}(B:En K ⟨G,F,f⟩ G i F Γa)(L:∀ (k:Nat) (d:D),Γa[k]?≠some (some (Sl.ow d)))(n:En K ⟨G,F,f⟩ F' l H' Γ'){r:RV}(R:oY K ⟨G,F,f⟩ F' l H' Γ' v r) :
  En K ⟨G,F,f⟩ F' i H' (nO Γa Γ')/\oY K ⟨G,F,f⟩ F' i H' (nO Γa Γ') v r:=by
 have I:∀ {k:Nat} {d:D},Γa[k]?=some (some (Sl.ln d))->∃ p o,(k,p)∈f/\i[k]?=some (some (V.ref p))/\l[k]?=some (some (V.ref p))/\Γ'[k]?=some (some (Sl.ln o))/\(nO Γa Γ')[k]?=some (some (Sl.ln o)):=λ{k d} h=>by
  obtain⟨p,a,b,c⟩:=B.hl k d (.inr h);have m:=B.ln k d p h a;obtain⟨e,o,j⟩:=n.par k p m;exact⟨p,o,m,a,e,j,Gw h j⟩
 have g:∀ {k:Nat} {d:D},Hld (nO Γa Γ') k d->∃ p E,Γa[k]?=some (some (Sl.ln E))/\(k,p)∈f/\i[k]?=some (some (V.ref p))/\l[k]?=some (some (V.ref p))/\Γ'[k]?=some (some (Sl.ln d)):=λ{k d} h=>by
  rcases h with h | h
  .rcases nN h with ⟨C,Q,_,z⟩ | ⟨z,_⟩
   .cases z
   .exact absurd z (L k d)
  .rcases nN h with ⟨C,Q,z,_⟩ | ⟨_,z⟩
   .obtain⟨p,o,m,a,e,j,s⟩:=I z;rw[h] at s;cases s;exact⟨p,C,z,m,a,e,j⟩
   .exact absurd rfl (z d)
 refine⟨⟨n.sub,?_,?_,?_,?_,?_,?_,?_,n.keep,n.new,n.rest,n.dom⟩,?_⟩
 .delta nO;rw[Qx];exact B.len
 .intro k d q;rcases nN q with ⟨C,Q,_,z⟩ | ⟨z,_⟩
  .cases z
  .obtain⟨u,a,b⟩:=B.fz k d z;exact⟨u,a,b.mono n.keep⟩
 .intro k d q;obtain⟨p,E,_,m,a,e,b⟩:=g q;obtain⟨H,x,y,z⟩:=n.hl k d (.inr b);rw[e] at x;cases x;exact⟨p,a,y,z⟩
 .intro k d p q;rcases nN q with ⟨C,Q,_,z⟩ | ⟨z,_⟩
  .cases z
  .exact absurd z (L k d)
 .intro k d p q a;obtain⟨H,E,_,m,e,_⟩:=g (.inr q);rw[a] at e;cases e;exact m
 .intro k k' d o p Z Y a1 a2;obtain⟨p1,C,z1,_⟩:=g Z;obtain⟨p2,Q,z2,_⟩:=g Y;exact B.dis k k' C Q p (.inr z1) (.inr z2) a1 a2
 .intro k p q;obtain⟨a,d,b⟩:=B.par k p q;obtain⟨H,o,m,e,_,_,c⟩:=I b;exact⟨a,o,c⟩
 .cases r with
  | fz d=>exact R
  | fr d=>
   obtain⟨p,P,O,N,M,S⟩:=R;refine⟨p,P,O,N,M,λk x J a=>?_⟩;obtain⟨H,E,_,m,e,j,s⟩:=g J;rw[a] at e;cases e;exact S k x (.inr s) j
  | two xs ys=>
   obtain⟨t,p,q,W,U,P,O,N,M,S,h6,h7,A⟩:=R;refine⟨t,p,q,W,U,P,O,N,M,S,h6,h7,λz w=>⟨(A z w).1,(A z w).2.1,λk x J a=>?_⟩⟩;obtain⟨H,E,_,m,e,j,s⟩:=g J;rw[a] at e;cases e;exact(A z w).2.2 k x (.inr s) j
  | rws T=>
   obtain⟨p,X,P,O,N,M,A⟩:=R;refine⟨p,X,P,O,N,M,λz w=>⟨(A z w).1,(A z w).2.1,λk x J a=>?_⟩⟩;obtain⟨H,E,_,m,e,j,s⟩:=g J;rw[a] at e;cases e;exact(A z w).2.2 k x (.inr s) j
noncomputable def kC (N:Ls0)(a:G):G:=a++Qr (N.length - a.length) none
theorem En.start(e:En K B F (vs.map some) H Γa)(u:Γa.length<=N.length):En K B F (_2.start N vs) H (kC N Γa):=by
 have len:=e.len;rw[lM0] at len;have c:∀ {i:Nat},i < Γa.length->(_2.start N vs)[i]?=(vs.map some)[i]?:=λ{i} h=>by
  delta _2.start;rw[eQ (by rw[lM0];exact WF 0x8d14500f15cb len h)]
 have f:∀ {i:Nat} {s:Sl},(kC N Γa)[i]?=some (some s)->i < Γa.length/\Γa[i]?=some (some s):=λ{i s} h=>by
  delta kC at h;by_cases lt:i < Γa.length
  .rw[eQ lt] at h;exact⟨lt,h⟩
  .rw[hC (by exact WF 6567239198 lt)] at h;have:=eW h;rw[SX] at this;cases this.2
 have l:∀ {i:Nat} {d:D},Hld (kC N Γa) i d->i < Γa.length/\Hld Γa i d:=λh=>by
  rcases h with h | h
  .exact⟨(f h).1,.inl (f h).2⟩
  .exact⟨(f h).1,.inr (f h).2⟩
 refine⟨e.sub,?_,?_,?_,?_,?_,?_,?_,e.keep,e.new,e.rest,e.dom⟩
 .delta _2.start kC;simp -iota only[bM,lM0,HT];lia
 .intro i d q;obtain⟨lt,q⟩:=f q;rw[c lt];exact e.fz i d q
 .intro i d q;obtain⟨lt,q⟩:=l q;rw[c lt];exact e.hl i d q
 .intro i d p q a;obtain⟨lt,q⟩:=f q;rw[c lt] at a;exact e.ow i d p q a
 .intro i d p q a;obtain⟨lt,q⟩:=f q;rw[c lt] at a;exact e.ln i d p q a
 .intro i j d t p k g n m;obtain⟨r,k⟩:=l k;obtain⟨o,g⟩:=l g;rw[c r] at n;rw[c o] at m;exact e.dis i j d t p k g n m
 .intro i p q;obtain⟨a,d,b⟩:=e.par i p q;have lt:i < Γa.length:=(gS0 b).1;refine⟨by rw[c lt];exact a,d,?_⟩;delta kC;rw[eQ lt];exact b
theorem ok3{S:S3}(F:Fun K x qual st f fd)(J:ar N ps (ah st))(hN:autoParam (ps.length<=N.length) wP)(hbody:∀ (c:Value) (A:Around) (outer:List Env) (s:Shared) (H:Hp) (E:XK),cz k (A.deeper (envOfC qual (ah st) s.heap.objs.size f c))->
   ∃ t t3,wZ K (yj CX0 P w K mg base N qual (ah st) f c A outer s H E).nox (gI st) t t3/\∀ Γa Q,S Γa Q->Γa.length=ps.length->t3 { nx:=λΓ'=>Q (.fz .non) (nO Γa Γ'),rt:=λr Γ'=>Q r (nO Γa Γ') } (kC N Γa)) :
  aM P w K mg base CX0 (k + 1) f fd ps (sp3 K ps.length S):=by
 refine F.ok J (λu H Q E h=>h.1) λc A outer s H u Q E D h=>?_;obtain⟨G,p,j,Γa,m,e,d,I,o⟩:=h;obtain⟨t,t3,n,C⟩:=hbody c A outer s H E D;have g:Γa.length=ps.length:=by rw[<- e.len,lM0];exact G
 refine⟨t,n.pe,n.rf ⟨p,H,j⟩ p _ H _ _ { nx:=λΓ'=>m (.fz .non) (nO Γa Γ'),rt:=λr Γ'=>m r (nO Γa Γ') } (e.start (N:=N) (by rw[g];exact hN)) ⟨?_,?_,λ_ _ _ _ _ _ z=>mM z,λ_ _ _ _ _ _ z=>mM z⟩ (C Γa m I g)⟩
 .intro M i L Γ' y l q;obtain⟨a,b⟩:=e.out d l (v:=.non) (r:=.fz .non) rfl;exact o _ _ q _ _ _ a b
 .intro M i L Γ' v r y l B q;obtain⟨a,b⟩:=e.out d l B;exact o _ _ q _ _ _ a b
section
variable {C:Addr}{m:Str}{p:Pos}{t3:dO}{o3:TB3}{S:S3}
theorem aj(m:X.K=K)(F:aM X.prog X.w X.K X.mg X.base CX0 k f fd ps (sp3 K n S))(d:cz k X.A)(i:Gl X x)(g:X.mg x=some (.ref f))(h:lF X.K (.ref f)=true)(l:Binds X.K fd ps [])(c:tW K X (e::es) t t3)(b:autoParam ((x == ("__debug__":Str))=false) wP)(j:autoParam (ed (e::es) X.env=(false,eval e X.env)::ed es X.env) wE)(a:autoParam ((backTo pos (ed es X.env)).any (·.1)=false) wE) :
  P3 K X (.Call (.Name x p) (e::es) [] pos) (qb (sp3 K n S) [] E0 t) (wQ n S t3):=⟨Av F d i g h l .nil qg c.pe b j a,xr c.rf⟩
theorem DQ(h:X.K=K)(F:aM X.prog X.w X.K X.mg X.base CX0 k f fd ps (sp3 K n S))(b:cz k X.A)(e:Gl X x)(c:X.mg x=some (.ref f))(d:lF X.K (.ref f)=true)(g:Binds X.K fd ps [])(a:autoParam ((x == ("__debug__":Str))=false) wP) :
  P3 K X (.Call (.Name x p) [] [] pos) (qb (sp3 K n S) [] E0 rK) (wQ n S nR):=⟨DJ F b e c d g .nil qg a,xr (af (X:=X)).rf⟩
def uG (C:Addr)(m:Str)(n:Nat)(S:S3)(d:TB3)(c:dO)(Γ:G)(Q:RV->G->Prop):Prop:=d Γ λx Γ1=>(∃ ns xs,x.at Γ1=some (.ins C ns xs)/\m∉ns)/\c Γ1 λb a=>b.length + 1=n/\(du (x::b)).Nodup/\S (c6 a ((x::b).map some)) λr Γa=>Q r (bE (((x::b).map some).map cM) a Γa)
theorem BY{ns:Ls0}:∀ {b:List (Str×V)} {m:Str},b.map (·.1)=ns->m∉ns->b.lookup m=none:=by
 induction ns with
 | nil=>intro b m h _;cases b with | nil=>rfl | cons=>cases h
 | cons a ns d=>
  intro b m h c;cases b with
  | nil=>cases h
  | cons g b=>
   simp -iota only[fO,RW] at h;obtain⟨rfl,h⟩:=h;rw[cS,not_or] at c;obtain⟨e,f⟩:=g;rw[fg,show (m == e)=false from beq_eq_false_iff_ne.mpr c.1];exact d h c.2
theorem xo(J:tU K ta o3)(N:tV K t t3):Ref K (w5 C m (sp3 K n S) [] E0 ta t) (uG C m n S o3 t3):=by
 intro B F d H w Q X e q G;refine J B F d H w _ _ e q λv H0 Z=>?_;obtain⟨F0,f,bo,x,l,j,⟨ns,xs,I,M⟩,D⟩:=Z;obtain⟨p,U,R,rfl,P,O,h3⟩:=l.bo j I;refine⟨p,U,R,rfl,P,BY O M,N B F0 d H0 f _ _ l D λg Y Z=>?_⟩;obtain⟨o,u,W,h,k,z,L,E,A⟩:=Z;show sp3 K n S (V.ref p::(g++[])) Y X E0;rw[jw];have i:cg K o d (bo::W) (V.ref p::g):=⟨_,_,rfl,j.mono h,z⟩;refine⟨by rw[i.length];exact L,o,_,_,_,k.args i E,oV,A,λr s q v H' F' T y=>?_⟩;obtain⟨a,b,c⟩:=k.called T y;exact G v H' ⟨F',_,r,(x.trans h).trans a,b,c,q⟩
theorem wc{pl:Sem Bool}(p:X.K=K)(d:P3B K X o ta o3)(c:Cls X.K C)(j:Meth X.K C m f)(F:aM X.prog X.w X.K X.mg X.base CX0 k f fd ps (sp3 K n S))(i:cz k X.A)(l:Binds X.K fd ps [])(g:tW K X (e::es) t t3)(a:autoParam (ed (e::es) X.env=(false,eval e X.env)::ed es X.env) wE)(b:autoParam ((backTo pos (ed es X.env)).any (·.1)=false) wE)(h:autoParam (eval (.Call (.Attribute o m apos) (e::es) [] pos) X.env=(do
   let O <- eval o X.env
   ru apos.atName
   let (f,first) <- holding [O] (Ri O m pl)
   Th pos f first (backTo pos (ed (e::es) X.env)) (Qq pos (KF [] X.env)))) wE) :
  P3 K X (.Call (.Attribute o m apos) (e::es) [] pos) (w5 C m (sp3 K n S) [] E0 ta t) (uG C m n S o3 t3):=⟨Gk d.pe c j F i l .nil qg g.pe a b h,xo d.rf g.rf⟩
theorem aN{pl:Sem Bool}(h:X.K=K)(a:P3B K X o ta o3)(c:Cls X.K C)(e:Meth X.K C m f)(F:aM X.prog X.w X.K X.mg X.base CX0 k f fd ps (sp3 K n S))(d:cz k X.A)(g:Binds X.K fd ps [])(b:autoParam (eval (.Call (.Attribute o m apos) [] [] pos) X.env=(do
   let O <- eval o X.env
   ru apos.atName
   let (f,first) <- holding [O] (Ri O m pl)
   Th pos f first (backTo pos (ed [] X.env)) (Qq pos (KF [] X.env)))) wE) :
  P3 K X (.Call (.Attribute o m apos) [] [] pos) (w5 C m (sp3 K n S) [] E0 ta rK) (uG C m n S o3 nR):=⟨DC a.pe c e F d g .nil qg b,xo a.rf (af (X:=X)).rf⟩
theorem P3.or{t t':TE}{c b:TE3}(h:P3 K X e t c)(h':P3 K X e t' b):P3 K X e (λσ H Q=>t σ H Q\/t' σ H Q) (λΓ Q=>c Γ Q\/b Γ Q):=
 ⟨λa s σ H Q I q=>q.elim (h.pe a s σ H Q I) (h'.pe a s σ H Q I),λB F σ H Γ Q d e q k=>q.imp (λq=>h.rf B F σ H Γ Q d e q k) (λq=>h'.rf B F σ H Γ Q d e q k)⟩
theorem lV(M:Mk0 X.K C)(j:Gl X x)(i:X.mg x=some (.ref C))(c:autoParam ((x == ("__debug__":Str))=false) wP):P3 K X (.Call (.Name x p) [] [] pos) (Aa C) (λΓ Q=>Q (.fr (.ins C [] [])) Γ):=
 ⟨BI M j i c,λB F l H Γ Q m e q k=>λy g f b h=>k _ _ (by
  have d:=e.alloc b (.own y);have a:(upd H g (.own y)) y=none:=by rw[ao (lj h)];exact f
  exact⟨F,Γ,.fr (.ins C [] []),aB.refl F,d.alloc a _,⟨y,rfl,d.nof a,⟨g,[],aC,rfl,rfl⟩,e.dom _ f,d.wt a⟩,q⟩)⟩
end
section
variable {p:Pos}
theorem xC{n:String}(d:Gl X x)(c:X.mg x=none)(a:mP x=some (.type n))(b:autoParam (x≠"__name__") wP)(e:autoParam ((x == ("__debug__":Str))=false) wP):P3 K X (.Name x pos) (tC (.ty n)) (t3C (.ty n)):=
 ⟨Gq (v:=.ty n) d c a rfl b e,uw λ_=>rfl⟩
theorem xh(i:Nat){y:Str}{p2:Pos}{k:Expr}{a:TE}(b:P3B K X (.Name y px) (e9 i) (bor i))(c:P3B K X k a k3)(d:P3 K X e te e3)(g:autoParam (∀ v,assign (.Subscript (.Name y px) k p2) X.env v=(do
   let O <- holding [v] (eval (.Name y px) X.env)
   let U <- holding [v,O] (eval k X.env)
   ru p2
   holding [v,O,U] (Qh O U v)
   release [v,O,U] [])) wT)(hs:autoParam (NZ [.Subscript (.Name y px) k p2] e pos.line X.env=pure false) wE)(f:autoParam (Oi [.Subscript (.Name y px) k p2] e X.env=pure none) wE)(h:autoParam ((pv [.Subscript (.Name y px) k p2] X.env).map (·.2)=[assign (.Subscript (.Name y px) k p2) X.env]) wE) :
  P3S K X (.Assign [.Subscript (.Name y px) k p2] e pos) (jo te (Cb (e9 i) a uy)) (Ai i k3 e3):=FE i b c d (vW d.pe (DB b.pe c.pe set_list g) hs f h)
theorem En.grow(e:En K B F σ H Γ)(s:aB H H')(S:Addr)(j:H S=none):∃ F',aB F F'/\En K B F' σ H' Γ/\F' S=none/\∀ b o,b≠S->H b=none->H' b=some o->F' b=some o:=by
 refine⟨λb=>if H b=none/\b≠S then H' b else F b,?_,?_,?_,?_⟩
 .intro b o h;show (if _ then _ else _)=_;have:=e.sub b o h;rw[if_neg (by rw[this];simp)];exact h
 .refine⟨?_,e.len,?_,?_,e.ow,e.ln,e.dis,e.par,?_,?_,λb o h n=>s b o (e.rest b o h n),λb h=>e.dom b (s.free h)⟩
  .intro b o h;change (if _ then _ else _)=_ at h;split at h
   .exact h
   .exact s b o (e.sub b o h)
  .intro i d h;obtain⟨v,a,b⟩:=e.fz i d h;refine⟨v,a,b.mono λb o h=>?_⟩;show (if _ then _ else _)=_;have:=e.sub b o h;rw[if_neg (by rw[this];simp)];exact h
  .intro i d h;obtain⟨q,a,b,c⟩:=e.hl i d h;obtain⟨o,g⟩:=c.some;refine⟨q,a,?_,c.mono (λb o h=>?_) (by rw[g];exact s _ _ g)⟩
   .show (if _ then _ else _)=_;rw[if_neg (by rw[g];simp)];exact b
   .show (if _ then _ else _)=_;have:=e.sub b o h;rw[if_neg (by rw[this];simp)];exact h
  .intro b o h;have f:=e.keep b o h;show (if _ then _ else _)=_;have:=e.sub b o f;rw[if_neg (by rw[this];simp)];exact f
  .intro b o h;change (if _ then _ else _)=_ at h;split at h
   .rename_i q;exact .inr (e.dom b q.1)
   .exact e.new b o h
 .show (if _ then _ else _)=_;rw[if_neg (by simp)];exact e.nof j
 .intro b o n h f;show (if _ then _ else _)=_;rw[if_pos ⟨h,n⟩];exact f
theorem zL{cs:G}(h:ls.all (·.isNone)=true):bE ls Γ cs=Γ:=by
 have b:∀ j,newD ls cs j=none:=by
  intro j;cases q:newD ls cs j with
  | none=>rfl
  | some d=>
   obtain⟨k,a,_⟩:=dR q;have:=tx.mp h _ (eW a);cases this
 refine ng λi=>?_;rw[cT,b];cases q:Γ[i]? with
 | none=>rfl
 | some s=>cases s with
  | none=>rfl
  | some s=>cases s <;> rfl
end
theorem NJ{b:Type}{a:b}{l:List b}:atI (a::l) 0=some a:=by
 delta _2.atI ixN;simp
theorem NI{c:Type}{a b:c}{l:List c}:atI (a::b::l) 1=some b:=by
 have:ixN (a::b::l).length 1=some 1:=by
  delta ixN;rw[if_pos (by decide),if_pos (by simp;lia)];rfl
 delta _2.atI;rw[this];rfl
theorem NH{d:Type}{a b c:d}{l:List d}:atI (a::b::c::l) 2=some c:=by
 have:ixN (a::b::c::l).length 2=some 2:=by
  delta ixN;rw[if_pos (by decide),if_pos (by simp;lia)];rfl
 delta _2.atI;rw[this];rfl
theorem NG{e:Type}{a b c d:e}{l:List e}:atI (a::b::c::d::l) 3=some d:=by
 have:ixN (a::b::c::d::l).length 3=some 3:=by
  delta ixN;rw[if_pos (by decide),if_pos (by simp;lia)];rfl
 delta _2.atI;rw[this];rfl
theorem Kz:ixN 3 0=some 0:=rfl
theorem Ky:ixN 3 1=some 1:=rfl
theorem Kx:ixN 3 2=some 2:=rfl
theorem dF{a:Type}{xs:List a}{k:Int}{d:a}(h:0<=k)(e:xs[k.toNat]?=some d):atI xs k=some d:=by
 obtain⟨j,rfl⟩:∃ j:Nat,k=(j:Int):=⟨k.toNat,by lia⟩;exact Ho (by simpa using e)
theorem Hn{ns:Li0}{k:Int}(a:0<=k)(b:k < (ns.length:Int)):atI ns k=some (ns.getD k.toNat 0):=by
 refine dF a ?_;have:k.toNat < ns.length:=by lia
 rw[gE0 this];simp -iota [Rm,this]
theorem Hq{a:Type}{xs:List a}{k:Int}(b:0<=k)(c:k < (xs.length:Int)):∃ d,atI xs k=some d/\d∈xs:=by
 have:k.toNat < xs.length:=by lia
 exact⟨xs[k.toNat],dF b (gE0 this),Rn this⟩
def Im (n:Nat):S3:=λΓ Q=>∃ ns:Li0,Γ=[some (.fz (.scr ns))]/\ns.length<=n/\∀ Γ',Q (.fz (.bl true)) Γ'
theorem Km(F:aM P w K mg base CX0 k f fd ps (sp3 K 1 (Im n))) :
  aM P w K mg base CX0 k f fd ps (λvs H Q _=>∃ (p:Addr) (ns:Li0),vs=[.ref p]/\SqL K H p (ns.map V.int)/\ns.length<=n/\∀ H',Q (.bl true) H'):=by
 refine F.imp λvs H Q E h=>?_;obtain⟨p,ns,rfl,l,m,q⟩:=h;have a:∀ {i:Nat} {s:Sl},([some (Sl.fz (.scr ns))]:G)[i]?=some (some s)->i=0/\s=.fz (.scr ns):=λ{i s} h=>by
  cases i with
  | zero=>cases h;exact⟨rfl,rfl⟩
  | succ i=>cases h
 refine⟨rfl,H,[],[some (.fz (.scr ns))],λr _=>r=.fz (.bl true),⟨aB.refl H,rfl,?_,?_,?_,?_,?_,?_,aB.refl H,λb o h=>.inl h,λb o h _=>h,λb h=>h⟩,?_,⟨ns,rfl,m,λ_=>rfl⟩,?_⟩
 .intro i d h;obtain⟨rfl,e⟩:=a h;cases e;exact⟨_,rfl,p,rfl,l⟩
 .intro i d h;rcases h with h | h <;> cases (a h).2
 .intro i d p h;cases (a h).2
 .intro i d p h;cases (a h).2
 .intro i j d e p h;rcases h with h | h <;> cases (a h).2
 .intro i p h;cases h
 .intro k d h;cases (a h).2
 .intro r c e v H' t _ g;subst e;have:v=.bl true:=g;subst this;exact q H'
open PySem _2 PySem.Spec PySem.SeqAt
noncomputable def b2 (b:Bool):Int:=if b then 1 else 0
mutual
noncomputable def eqN:Nat->D->D->Option Bool
 | _,.non,.non=>some true
 | _,.bl a,.bl b=>some (a == b)
 | _,.int a,.int b=>some (a == b)
 | _,.str a,.str b=>some (a == b)
 | n + 1,.lst xs,.lst ys=>gq n xs ys
 | n + 1,.tup xs,.tup ys=>gq n xs ys
 | _,_,_=>none
noncomputable def gq:Nat->List D->List D->Option Bool
 | _,[],[]=>some true
 | n,x::xs,y::ys=>match eqN n x y,gq n xs ys with
  | some a,some b=>some (a && b)
  | _,_=>none
 | _,_,_=>some false
end
theorem yh {n:Nat}:∀ {xs ys:List D} {k:Bool},gq n xs ys=some k->xs.length≠ys.length->k=false
 | [],[],_,_,h=>absurd rfl h
 | x::xs,[],_,e,_=>by unfold gq at e;cases e;rfl
 | [],y::ys,_,e,_=>by unfold gq at e;cases e;rfl
 | x::xs,y::ys,k,e,h=>by
  unfold gq at e;split at e
  .rename_i a b d c;cases e;rw[yh c (by simpa using h),Sh]
  .cases e
theorem tH {n:Nat}:∀ {xs ys:List D} {k:Bool},gq n xs ys=some k->∃ e:Nat->Bool,(∀ (j:Nat) x y,xs[j]?=some x->ys[j]?=some y->eqN n x y=some (e j))/\k=((cj (min xs.length ys.length)).all e && xs.length == ys.length)
 | [],[],k,h=>by unfold gq at h;cases h;exact⟨λ_=>true,λj x y h=>by simp -iota at h,by simp⟩
 | x::xs,[],k,h=>by unfold gq at h;cases h;exact⟨λ_=>true,λj x y _ h=>by simp -iota at h,by simp⟩
 | [],y::ys,k,h=>by unfold gq at h;cases h;exact⟨λ_=>true,λj x y h=>by simp -iota at h,by simp⟩
 | x::xs,y::ys,k,h=>by
  unfold gq at h;split at h
  .rename_i a b m l;cases h;obtain⟨e,p,o⟩:=tH l;refine⟨λj=>match j with | 0=>a | j + 1=>e j,λj g f d c=>?_,?_⟩
   .cases j with
    | zero=>simp -iota at d c;subst d c;exact m
    | succ j=>exact p j g f (by simpa using d) (by simpa using c)
   .subst o;have i:min (x::xs).length (y::ys).length=min xs.length ys.length + 1:=by simp -iota [Nat.succ_min_succ]
    rw[i,List.range_succ_eq_map,PV,List.all_map];simp only[eK,Function.comp_def,Bool.and_assoc]
    congr 1
    congr 1
    simp
  .cases h
theorem uV {n:Nat}(l:∀ {d d':D} {v:V} {k:Bool},Rep K F d v->Rep K F d' v->eqN n d d'=some k->k=true):∀ {xs ys:List D} {vs:List V} {k:Bool},aA K F xs vs->aA K F ys vs->gq n xs ys=some k->k=true
 | [],[],_,k,_,_,e=>by unfold gq at e;cases e;rfl
 | x::xs,[],_,k,⟨v,j,c,_⟩,s,e=>by cases s;cases c
 | [],y::ys,_,k,h,⟨v,j,c,_⟩,e=>by cases h;cases c
 | x::xs,y::ys,_,k,⟨v,j,c,r,q⟩,⟨t,m,i,g,f⟩,e=>by
  subst c;cases i;unfold gq at e;split at e
  .rename_i a b p o;cases e;rw[l r g p,uV l q f o];rfl
  .cases e
theorem A0:∀ {d d':D} {v:V} {k:Bool},Rep K F d v->Rep K F d' v->eqN n d d'=some k->k=true:=by
 induction n using Ug with
 | ind n m=>
  intro d d' v k h c e;unfold eqN at e;split at e <;> first
   | (cases e;rfl)
   | (cases e;cases h;cases c;simp;done)
   | (cases e;cases h;cases c;done)
   | (cases e;cases h;obtain⟨_,_,z,_⟩:=c;cases z;done)
   | (cases e;cases c;obtain⟨_,_,z,_⟩:=h;cases z;done)
   | (obtain⟨p,j,rfl,a,b⟩:=h;obtain⟨l,g,q,f,i⟩:=c;cases q;rw[a] at f;cases f;exact uV (m _ (ox _)) b i e)
   | (obtain⟨p,j,rfl,a,b⟩:=h;obtain⟨l,g,q,f,i⟩:=c;cases q;rw[a] at f;cases f;done)
   | (cases e;done)
section
variable {pins:Pn}{s:Shared}
theorem Vals.at'{xs:List V}(r:Vals xs us)(h:j < us.toArray.size):∃ v,xs[j]?=some v/\RelV v (us.toArray[j]):=by
 have b:j < xs.length:=by rw[r.length];simpa using h
 obtain⟨u,d,c⟩:=r.get (gE0 b);refine⟨_,gE0 b,?_⟩;have:us.toArray[j]=u:=by
  have e:j < us.length:=by simpa using h
  have a:us[j]?=some us[j]:=gE0 e;rw[d] at a;cases a;simp
 rw[this];exact c
theorem zp(I:Inv X pins σ H s)(h:H p=some (.lst vs)):∃ its:Lv0,Vals vs its/\s.heap.IsList p its.toArray:=by
 obtain⟨its,n,r,e,_⟩:=I.lst h;exact⟨its,r,_,e,rfl,n,rfl⟩
theorem wC(I:Inv X pins σ H s)(h:H p=some (.tup vs)):∃ its:Lv0,Vals vs its/\s.heap.IsTuple p its.toArray:=by
 obtain⟨its,r,⟨o,e,b,n,d⟩,_⟩:=I.tuple (a:=p) (xs:=vs) (.inl (.inl h));exact⟨its,r,o,e,b,n,d⟩
theorem EB{zs:Lv0}{e:Nat->Bool}(q:∀ {d d':D} {v f:V} {u g:Value} {k:Bool},Rep K F d v->Rep K F d' f->RelV v u->RelV f g->eqN n d d'=some k->EqAt A s u g k)(m:aA K F xs vs)(l:aA K F ys ws)(p:Vals vs us)(o:Vals ws zs)(z:∀ (j:Nat) x y,xs[j]?=some x->ys[j]?=some y->eqN n x y=some (e j)) :
  ∀ j (h1:j < us.toArray.size) (h2:j < zs.toArray.size),EqAt A s us.toArray[j] zs.toArray[j] (e j):=λj h1 h2=>by
 obtain⟨v,t,h⟩:=Vals.at' p h1;obtain⟨w,r,a⟩:=Vals.at' o h2;obtain⟨d,B,i⟩:=m.G5 t;obtain⟨d',c,b⟩:=l.G5 r;exact q i b h a (z j d d' B c)
theorem xu{q:Addr}{k:Bool}(I:Inv X pins σ H s)(G:∀ {d d':D} {v l:V} {u o:Value} {k:Bool},Rep K F d v->Rep K F d' l->RelV v u->RelV l o->eqN n d d'=some k->EqAt A.in1 s u o k)(L:H p=some (.lst vs))(J:H q=some (.lst ws))(x:aA K F xs vs)(w:aA K F ys ws)(C:gq n xs ys=some k)(h:A.units < cLine):RcAt A s (.ref p) (.ref q) k/\RcNeAt A s (.ref p) (.ref q) (!k):=by
 obtain⟨m,B,f⟩:=zp I L;obtain⟨j,y,c⟩:=zp I J;have b:m.toArray.size=xs.length:=by rw[<- x.length,B.length];simp
 have i:j.toArray.size=ys.length:=by rw[<- w.length,y.length];simp
 by_cases a:xs.length=ys.length
 .obtain⟨e,g,rfl⟩:=tH C;have E:=EB G x w B y g;have t:=RcAt.lists f c (by rw[b,i,a]) h E;have r:=RcNeAt.lists f c (by rw[b,i,a]) h E;rw[b,a] at t r;rw[a,Nat.min_self,beq_self_eq_true,Bool.and_true];exact⟨t,r⟩
 .rw[yh C a];have z:(m.toArray.size != j.toArray.size)=true:=by rw[b,i,bne_iff_ne];exact a
  exact⟨RcAt.lists_lengths f c z h,RcNeAt.lists_lengths f c z h⟩
theorem ux{q:Addr}{k:Bool}(I:Inv X pins σ H s)(B:∀ {d d':D} {v a:V} {u b:Value} {k:Bool},Rep K F d v->Rep K F d' a->RelV v u->RelV a b->eqN n d d'=some k->EqAt A.in1 s u b k)(G:H p=some (.tup vs))(E:H q=some (.tup ws))(i:aA K F xs vs)(h:aA K F ys ws)(C:gq n xs ys=some k)(r:A.units < cLine):RcAt A s (.ref p) (.ref q) k/\RcNeAt A s (.ref p) (.ref q) (!k):=by
 obtain⟨x,l,o⟩:=wC I G;obtain⟨w,j,m⟩:=wC I E;have z:x.toArray.size=xs.length:=by rw[<- i.length,l.length];simp
 have y:w.toArray.size=ys.length:=by rw[<- h.length,j.length];simp
 obtain⟨e,g,rfl⟩:=tH C;have t:=EB B i h l j g;have f:=RcAt.tuples o m r t;have c:=RcNeAt.tuples o m r t;rw[z,y] at f c;exact⟨f,c⟩
theorem Ey(I:Inv X pins σ H s)(l:aB F H):∀ (n:Nat) {A:Around} {d d':D} {v i:V} {u j:Value} {k:Bool},A.units + n < cLine->Rep K F d v->Rep K F d' i->RelV v u->RelV i j->eqN n d d'=some k->EqAt A s u j k:=by
 intro n
 induction n with
 | zero=>
  intro A d d' v i u j k y r b q a e;unfold eqN at e;split at e <;> (try (cases e;done)) <;> (try (rename_i h;cases h;done)) <;> cases r <;> cases b
  .cases e;cases q;cases a;exact RA _
  .cases e;cases q;cases a;exact .bool_bool _ _
  .cases e;obtain⟨t,rfl⟩:=q;obtain⟨o,rfl⟩:=a;exact .int_int _ _ _ _
  .cases e;obtain⟨t,rfl⟩:=q;obtain⟨o,rfl⟩:=a;exact .str_str _ _ _ _
 | succ n G=>
  intro A d d' v i u j k y r b q a e;have g:A.units < cLine:=by exact WF 0x8c6aa9693bcb y
  have f:A.in1.units + n < cLine:=by show A.units + 1 + n < cLine;exact WF 0x2ef62484556e3bcb y
  have J:=e;unfold eqN at e;split at e
  .cases r;cases b;cases e;cases q;cases a;exact RA _
  .cases r;cases b;cases e;cases q;cases a;exact .bool_bool _ _
  .cases r;cases b;cases e;obtain⟨t,rfl⟩:=q;obtain⟨o,rfl⟩:=a;exact .int_int _ _ _ _
  .cases r;cases b;cases e;obtain⟨t,rfl⟩:=q;obtain⟨o,rfl⟩:=a;exact .str_str _ _ _ _
  ·
   rename_i O M L h;cases h;have w:=r;have c:=b;obtain⟨p,N,rfl,E,B⟩:=r;obtain⟨x,m,rfl,C,b2⟩:=b;cases q;cases a;by_cases z:p=x
   .subst z;rw[A0 w c J];exact RA _
   .exact .of_refs z (xu I (λr b q a e=>G f r b q a e) (l _ _ E) (l _ _ C) B b2 e g).1
  ·
   rename_i O M L h;cases h;have w:=r;have c:=b;obtain⟨p,N,rfl,E,B⟩:=r;obtain⟨x,m,rfl,C,b2⟩:=b;cases q;cases a;by_cases z:p=x
   .subst z;rw[A0 w c J];exact RA _
   .exact .of_refs z (ux I (λr b q a e=>G f r b q a e) (l _ _ E) (l _ _ C) B b2 e g).1
  .cases e
def Dm (K:Fg0)(n:Nat)(a:Bool):R2:=λx y H Q=>∃ F d d' k,aB F H/\jI K F H d x/\jI K F H d' y/\eqN (n + 1) d d'=some k/\Q (.bl (a ^^ k)) H
theorem HY(I:Inv X pins σ H s)(g:aB F H)(n:Nat){d d':D}{w:V}{i:Value}{k:Bool}(x:A.units + n + 1 < cLine)(r:jI K F H d v)(a:jI K F H d' w)(q:RelV v u)(b:RelV w i)(e:eqN (n + 1) d d'=some k):RcAt A s u i k/\RcNeAt A s u i (!k):=by
 have f:A.units < cLine:=by exact WF 0x8c6aa972470b x
 have c:A.in1.units + n < cLine:=by show A.units + 1 + n < cLine;exact WF 0x2ef624845577470b x
 unfold eqN at e;split at e
 .cases r;cases a;cases e;cases q;cases b;exact⟨.none_none,.none_none⟩
 .cases r;cases a;cases e;cases q;cases b;exact⟨.bool_bool _ _,.bool_bool _ _⟩
 .cases r;cases a;cases e;obtain⟨t,rfl⟩:=q;obtain⟨C,rfl⟩:=b;exact⟨.int_int _ _ _ _,.int_int _ _ _ _⟩
 .cases r;cases a;cases e;obtain⟨t,rfl⟩:=q;obtain⟨C,rfl⟩:=b;exact⟨.str_str _ _ _ _,.str_str _ _ _ _⟩
 .rename_i G z y j;cases j;obtain⟨p,B,rfl,o,l⟩:=r;obtain⟨E,h,rfl,m,b2⟩:=a;cases q;cases b;exact xu I (λr a q b e=>Ey I g _ c r a q b e) o m l b2 e f
 .rename_i G z y j;cases j;obtain⟨p,B,rfl,o,l⟩:=r;obtain⟨E,h,rfl,m,b2⟩:=a;cases q;cases b;exact ux I (λr a q b e=>Ey I g _ c r a q b e) (g _ _ o) (g _ _ m) l b2 e f
 .cases e
theorem JZ(l:X.K=K)(i:X.A.units + n + 1 < cLine):OpR X (tu .Eq) (Dm K n false):=by
 intro a s j H x y v u Q I f c h;obtain⟨F,d,m,k,b,r,g,e,q⟩:=h;refine(HY I b n i r g f c e).1 _ _ _ _ (Er I q (by simp))
def qY (n:Nat)(a:Bool)(x y:D)(Γ:G)(Q:RV->G->Prop):Prop:=∃ k,eqN (n + 1) x y=some k/\Q (.fz (.bl (a ^^ k))) Γ
theorem EA{a:Bool}:lK K (Dm K n a) (qY n a):=by
 intro B F i H j x y h g Q l e d c q k;obtain⟨b,f,q⟩:=q;exact⟨F,h,g,b,e.sub,d,c,f,k _ _ (uB e q)⟩
theorem fh(b:X.K=K)(a:cz k X.A):C3 K X .Eq (Dm K 20 false) (qY 20 false):=⟨JZ b (by have:=a.un;exact WF 0x1b876a8819c1abdbe700cd0b this),EA⟩
theorem JW(l:X.K=K)(i:X.A.units + n + 1 < cLine):OpR X (tu .NotEq) (Dm K n true):=by
 intro a s j H x y v u Q I f c h;obtain⟨F,d,m,k,b,r,g,e,q⟩:=h;refine(HY I b n i r g f c e).2 _ _ _ _ (Er I q (by simp))
theorem j8(b:X.K=K)(a:cz k X.A):C3 K X .NotEq (Dm K 20 true) (qY 20 true):=⟨JW b (by have:=a.un;lia),EA⟩
theorem uW {n:Nat}:∀ (xs ys:Li0),gq n (xs.map .int) (ys.map .int)=some (decide (xs=ys))
 | [],[]=>by simp -iota [gq]
 | x::xs,[]=>by simp -iota [gq]
 | [],y::ys=>by simp -iota [gq]
 | x::xs,y::ys=>by
  simp only[fO,gq,uW xs ys,eqN]
  congr 1
  rw[Bool.eq_iff_iff];simp
theorem yg(xs ys:Li0):eqN (n + 1) (.lst (xs.map .int)) (.lst (ys.map .int))=some (decide (xs=ys)):=by
 unfold eqN;exact uW xs ys
end
noncomputable abbrev mf:=List D->G->(List D->G->Prop)->Prop
noncomputable def PoL (K:Fg0)(B:Bs)(F:Hp)(Q:List D->G->Prop):List V->_2.St->Hp->Prop:=λb σ' H'=>∃ F' Γ' a,aB F F'/\En K B F' σ' H' Γ'/\aA K F' a b/\Q a Γ'
def qM (K:Fg0)(t:TB)(b:mf):Prop:=∀ (B:Bs) (F:Hp) (σ:_2.St) (H:Hp) (Γ:G) (ys:List V) (ds:List D) (Q:List D->G->Prop) (QQ:List V->_2.St->Hp->Prop),En K B F σ H Γ->aA K F ds ys->b ds Γ Q->(∀ a σ' H',PoL K B F Q a σ' H'->QQ a σ' H')->t ys σ H QQ
structure Lm (K:Fg0) (Y:Cx) (D:Addr) (m:Sem Fin->Sem Fin) (t:TB) (b3:mf):Prop where
 pe:PB RL Y D m t
 rf:qM K t b3
def tI (a:TE3)(ys:List D)(Γ:G)(Q:List D->G->Prop):Prop:=ys.length < sizeLine/\a Γ λr Γ1=>Q (ys++[r.d]) Γ1
set_option backward.eqns.nonrecursive false in
def Co (a:TT3)(c:mf)(ys:List D)(Γ:G)(Q:List D->G->Prop):Prop:=a Γ λb Γ1=>match b with
 | true=>c ys Γ1 Q
 | false=>Q ys Γ1
def AI (xs:List D)(b:TG3)(c:mf)(ys:List D)(Γ:G)(Q:List D->G->Prop):Prop:=∃ a:Nat->List D->G->Prop,a 0 ys Γ/\(∀ k d ys Γ,xs[k]?=some d->a k ys Γ->b d Γ λΓ'=>c ys Γ' (a (k + 1)))/\∀ ys Γ,a xs.length ys Γ->Q ys Γ
def kf (a:TI3)(b:TG3)(c:mf)(ys:List D)(Γ:G)(Q:List D->G->Prop):Prop:=a Γ λxs Γ1=>AI xs b c ys Γ1 Q
def nk (b:On)(c:TI3)(d:TG3)(e:mf)(Γ:G)(Q:RV->G->Prop):Prop:=c Γ λxs Γ1=>AI xs d e [] (c6 Γ1 (dA b)) λys a=>ys.length < sizeLine/\Q (.fr (.lst ys)) (bE b Γ1 a)
section
variable {Y:Cx}{Da:Addr}
theorem kP(h:Ref K te e3):qM K (kv te) (tI e3):=by
 intro B F d H f ys o Q t e r ⟨l,q⟩ k;refine⟨by rw[r.length];exact l,h B F d H f _ _ e q λv u ⟨w,a,c,s,n,g,j⟩=>k _ _ _ ?_⟩;obtain⟨p,b,m,i⟩:=n.frozen g;exact⟨p,a,o++[c.d],s.trans b,m,aA.append (ys:=[c.d]) (r.mono (s.trans b)) ⟨v,[],rfl,i,rfl⟩,j⟩
theorem rj{j:TT3}{t:TB}{l:mf}(w:q8 K tc j)(h:qM K t l):qM K (bIf tc t) (Co j l):=by
 intro B F d H o u i Q y e r q k;refine w B F d H o _ _ e q λb z Z=>?_;obtain⟨m,a,s,g,f⟩:=Z;cases b with
 | true=>exact zi (h B m d z a u i Q y g (r.mono s) f λp n C ⟨A,c,x,v,rest⟩=>k _ _ _ ⟨A,c,x,s.trans v,rest⟩)
 | false=>exact zj (k _ _ _ ⟨m,a,i,s,g,r.mono s,f⟩)
theorem xp{E:TG3}{t:TB}{I:mf}(Y:wY K g E)(h:qM K t I){ys:List V}{ds:List D}{Q:List D->G->Prop}(R:ItR K F J xs)(e:En K B F σ H Γ)(r:aA K F ds ys)(q:AI xs E I ds Γ Q)(k:∀ d σ' H',PoL K B F Q d σ' H'->QQ d σ' H'):qJ J g t ys σ H QQ:=by
 obtain⟨Iv,X,U,W⟩:=q;refine⟨λi m ys σ H=>m=xs.length - i/\i<=xs.length/\∃ s b ds,aB F s/\En K B s σ H b/\aA K s ds ys/\Iv i ds b,⟨_,rfl,eg _,F,Γ,ds,aB.refl F,e,r,X⟩,?_⟩;rintro i m o l M ⟨rfl,hi,F2,a,c,f,j,w,A⟩;by_cases lt:i < xs.length
 .refine .inr ⟨R.go i M (f.trans j.sub) lt,λx L y=>?_⟩;have C:xs[i]?=some xs[i]:=gE0 lt;obtain⟨N,v,e3,S⟩:=R.turn f j C y;refine Y B N l L a x _ _ _ e3 S (U i _ c a C A) λσ' b e4 T=>?_;exact h B N σ' L b o c _ _ e4 (w.mono v) T λd u H4 ⟨F4,n,d4,O,Z,P,p⟩=>⟨xs.length - (i + 1),by lia,rfl,lt,F4,n,d4,(f.trans v).trans O,Z,P,p⟩
 .have z:i=xs.length:=by lia
  subst z;exact .inl ⟨R.stop _ M (f.trans j.sub) rfl,k _ _ _ ⟨F2,a,c,f,j,w,W c a A⟩⟩
theorem Dh{c:TI3}{d:TG3}{t:TB}{f:mf}(s:zR K wi c)(u:wY K g d)(h:qM K t f):qM K (yp wi g t) (kf c d f):=by
 intro B F j H m y A Q C e r q k;refine s B F j H m _ _ e q λJ E G l z b v R p=>?_;exact xp u h R v (r.mono b) p λn i D ⟨x,a,w,o,rest⟩=>k _ _ _ ⟨x,a,w,b.trans o,rest⟩
theorem lT{f:TI3}{i:TG3}{t:TB}{m:mf}(u:(fr.filterMap id).Nodup)(w:zR K wi f)(x:wY K g i)(h:qM K t m):Ref K (fX fr wi g t) (nk fr f i m):=by
 intro B F σ H Γ Q I e q k;refine w B F σ H Γ _ _ e q λJ L M a E p j R s=>?_;refine xp x h R (j.blk u) (ds:=[]) rfl s λD n A ⟨C,b,G,o,z,d,v,r⟩=>⟨by rw[d.length];exact v,λl c=>k _ _ ?_⟩;have y:En K B C σ A (bE fr a b):=j.back (ls:=fr) z (by have:=kS (Γ:=a) (σ:=σ) (bs:=dA fr);rw[nY] at this;exact this);exact Po.mono (p.trans o) (iK y c d r)
theorem Ba(b:Y.xe=λ_ _=>False)(a:P3 K Y elt te e3):Lm K Y Da (qC elt Da Y.env) (kv te) (tI e3):=⟨nK b a.pe,kP a.rf⟩
theorem IM{c:Expr}{d:TT3}{m:Sem Fin->Sem Fin}{t:TB}{e:mf}(f:Y.xe=λ_ _=>False)(b:P3T K Y c tc d)(a:Lm K Y Da m t e):Lm K Y Da (ifK c Y.env m) (bIf tc t) (Co d e):=⟨Md f b.pe a.pe,rj b.rf a.rf⟩
theorem xD{c:Expr}{i:TI3}{o:TG3}{p:TT3}(r:X.calm=true)(k:P3I K X tg iter wi i)(s:Blk X.N X.env.scope sc Nc fr)(l:∀ s₀ H₀ C ex f,P3G K (aT X sc Nc s₀ H₀ C ex f) tg g o)(j:∀ s₀ H₀ C ex f,P3T K (aT X sc Nc s₀ H₀ C ex f) c tc p)(n:∀ s₀ H₀ C ex f,P3 K (aT X sc Nc s₀ H₀ C ex f) elt te e3)(q:autoParam ((fr.filterMap id).Nodup) wP)(hs:autoParam (∀ x,ic iter X.env x=pure x) wT) :
  P3 K X (.ListComp elt [⟨tg,iter,[c],0⟩] sc pos) (fX fr wi g (bIf tc (kv te))) (nk fr i o (Co p (tI e3))):=
 ⟨nJ (m:=λD h=>ifK c h (qC elt D h)) r k.pe s (λa b c d e=>(l a b c d e).pe) (λa b c d e D=>(IM rfl (j a b c d e) (Ba rfl (n a b c d e))).pe) (λ_ _ _=>rfl) hs,lT q k.rf (l X.s₀ X.H₀ 0 [] []).rf (rj (j X.s₀ X.H₀ 0 [] []).rf (kP (n X.s₀ X.H₀ 0 [] []).rf))⟩
theorem xi{f:Pos}{c:Expr}{n:TI3}{s:TG3}{t:TT3}(hN:X.N.Nodup)(l:X.N[i]?=some x)(v:X.env.scope.names.lookup x=some .local)(w:X.calm=true)(p:P3I K X tg iter wi n)(y:Blk X.N X.env.scope sc Nc fr)(q:∀ s₀ H₀ C ex h,P3G K (aT X sc Nc s₀ H₀ C ex h) tg g s)(o:∀ s₀ H₀ C ex h,P3T K (aT X sc Nc s₀ H₀ C ex h) c tc t)(r:∀ s₀ H₀ C ex h,P3 K (aT X sc Nc s₀ H₀ C ex h) elt te e3)(u:autoParam ((fr.filterMap id).Nodup) wP)(k:autoParam (zJ (.ListComp elt [⟨tg,iter,[c],0⟩] sc pos) (some (.Name x px)) f.line X.env=pure true) wE)(hs:autoParam (∀ x,ic iter X.env x=pure x) wT) :
  P3S K X (.Assign [.Name x px] (.ListComp elt [⟨tg,iter,[c],0⟩] sc pos) f) (jo (fX fr wi g (bIf tc (kv te))) (gr i)) (Bv i (nk fr n s (Co t (tI e3)))):=
 ⟨qd (m:=λD j=>ifK c j (qC elt D j)) hN l v w p.pe y (λa b c d e=>(q a b c d e).pe) (λa b c d e D=>(IM rfl (o a b c d e) (Ba rfl (r a b c d e))).pe) (λ_ _ _=>rfl) k hs,rh (lT u p.rf (q X.s₀ X.H₀ 0 [] []).rf (rj (o X.s₀ X.H₀ 0 [] []).rf (kP (r X.s₀ X.H₀ 0 [] []).rf)))⟩
theorem xE{l k i j:Expr}{q:TI3}{z:TG3}{h:TI}{p:TI3}{A:TG}{y:TG3}(w:X.calm=true)(s:P3I K X k l wi q)(E:Blk X.N X.env.scope sc Nc fr)(u:∀ s₀ H₀ C ex f,P3G K (aT X sc Nc s₀ H₀ C ex f) k g z)(r:∀ s₀ H₀ C ex f,P3I K (aT X sc Nc s₀ H₀ C ex f) j i h p)(t:∀ s₀ H₀ C ex f,P3G K (aT X sc Nc s₀ H₀ C ex f) j A y)(v:∀ s₀ H₀ C ex f,P3 K (aT X sc Nc s₀ H₀ C ex f) elt te e3)(n:autoParam (∀ s₀ H₀ C ex f x,ic i (aT X sc Nc s₀ H₀ C ex f).env x=pure x) wq3)(B:autoParam ((fr.filterMap id).Nodup) wP)(hs:autoParam (∀ x,ic l X.env x=pure x) wT) :
  P3 K X (.ListComp elt [⟨k,l,[],0⟩,⟨j,i,[],0⟩] sc pos) (fX fr wi g (yp h A (kv te))) (nk fr q z (kf p y (tI e3))):=
 ⟨nJ (m:=λD o=>Dd false elt [⟨k,l,[],0⟩,⟨j,i,[],0⟩] sc pos 1 i D o) w s.pe E (λa b c d e=>(u a b c d e).pe)
  (λa b c d e D=>Aw (b:=false) (m:=qC elt D _) rfl w (by rfl) (r a b c d e).pe (t a b c d e).pe (nK rfl (v a b c d e).pe) (λ_=>rfl) (n a b c d e)) (λ_ _ _=>rfl) hs,
  lT B s.rf (u X.s₀ X.H₀ 0 [] []).rf (Dh (r X.s₀ X.H₀ 0 [] []).rf (t X.s₀ X.H₀ 0 [] []).rf (kP (v X.s₀ X.H₀ 0 [] []).rf))⟩
end
theorem Ni{a b:Int}:eqN n (.int a) (.int b)=some (a == b):=by cases n <;> rfl
theorem yf{a b:Str}:eqN n (.str a) (.str b)=some (a == b):=by cases n <;> rfl
theorem Nj{a b:Bool}:eqN n (.bl a) (.bl b)=some (a == b):=by cases n <;> rfl
noncomputable def fo (s:Option D):Option Sl:=s.map Sl.fz
theorem sY{s:Option Sl}:cF (s::Γ) (i + 1)=cF Γ i:=rfl
theorem KZ:cF (none::Γ) 0=True:=rfl
theorem KU{d:D}:cF (some (.fz d)::Γ) 0=True:=rfl
theorem KW{d:D}:cF (some (.ow d)::Γ) 0=True:=rfl
theorem sZ{s:Option D}:cF (fo s::Γ) 0=True:=by cases s <;> rfl
end _3
variable {i3:_3.TI3}{g3:_3.TG3}{b3 a3 k3 o3:_3.TB3}{Γ Γ1 Γ':_3.G}{Q:_3.RV->_3.G->Prop}{e3 f3:_3.TE3}{xs ys:List _3.D}{t3:_3.dO}{B:_3.Bs}{ns ks hs:Li0}{vs:Lv0}{v:_2.V}{e a:PM}{C0 q C₀ I:PK}{px p pos' pos2:TM}{S:_3.S3}{m L ep ep0 nrem jy:Nat}{z nm y:Qj}{D1:_3.E3}{QB:_3.Bo->_3.G->Prop}{QO:Option Int->_3.G->Prop}{u:_2.TS}{A3:_3.TT3}{s3 u3:_3.TS3}{r:_3.RV}{F0 H0:_2.Hp}{body ss:List Ut}{tc:_2.TT}{σ':_2.St}{tk:PySem.Tok}{xss:List (List _3.D)}{qs own Cs:La0}{QQ:_2.VK}{led:Bool}{x0 vu:qw}{es0:Array (Int×qw)}{s0:Es}{new:Array qw}{kss:LL0}
universe u
namespace _3
open PySem _2 PySem.Spec
structure Tag {α:Sort u} (q:α):Type where
def m1 (o:Option D)(k:D->Prop)(_:Tag k):Prop:=match o with
 | some d=>k d
 | none=>False
theorem nU{d:D}{k:D->Prop}{t:Tag k}:m1 (some d) k t=k d:=rfl
theorem cu{o:Option D}{k:D->Prop}{t:Tag k}:m1 o k t↔∃ d,o=some d/\k d:=by
 cases o with
 | none=>exact⟨λh=>h.elim,λZ=>by obtain⟨_,h,_⟩:=Z;cases h⟩
 | some d=>exact⟨λh=>⟨d,rfl,h⟩,λZ=>by obtain⟨_,h,q⟩:=Z;cases h;exact q⟩
def IG (c:On)(a:TI3)(b:TG3)(d:TE3)(Γ:G)(Q:RV->G->Prop)(_:Tag (c,a,b,d))(_:Tag Q):Prop:=va c a b d Γ Q
def K2 (a:TI3)(b:TG3)(c:TS3)(D:E3)(Γ:G)(_:Tag (a,b,c))(_:Tag D):Prop:=K4 a b c D Γ
def EK (c:On)(a:TI3)(b:TG3)(d:mf)(Γ:G)(Q:RV->G->Prop)(_:Tag (c,a,b,d))(_:Tag Q):Prop:=nk c a b d Γ Q
theorem EL{a:mf}:nk fr i3 g3 a Γ Q=EK fr i3 g3 a Γ Q ⟨⟩ ⟨⟩:=rfl
theorem Hf:va fr i3 g3 e3 Γ Q=IG fr i3 g3 e3 Γ Q ⟨⟩ ⟨⟩:=rfl
theorem K3{a:TS3}{D:E3}:K4 i3 g3 a D Γ=K2 i3 g3 a D Γ ⟨⟩ ⟨⟩:=rfl
section
variable {op:D->D->TE3}
theorem rN:cn op a3 b3 Γ Q=(a3 Γ λx Γ1=>b3 Γ1 λy a=>m1 (x.at a) (λdx=>m1 (y.at a) (λb=>op dx b a Q) ⟨⟩) ⟨⟩):=by
 delta cn
 congr;funext x Γ1;congr;funext y a
 refine propext ⟨λZ=>by obtain⟨dx,b,d,c,e⟩:=Z;rw[d,c];exact e,λh=>?_⟩;obtain⟨dx,d,h⟩:=cu.mp h;obtain⟨b,c,h⟩:=cu.mp h;exact⟨dx,b,d,c,h⟩
theorem Ja{a:D->TE3}:Bp a a3 Γ Q=(a3 Γ λx Γ1=>m1 (x.at Γ1) (λdx=>a dx Γ1 Q) ⟨⟩):=by
 delta Bp
 congr;funext x Γ1
 exact propext cu.symm
theorem MO{i:Int}:ix3 (.lst xs) (.int i) Γ Q=m1 (atI xs i) (λd=>Q (.fz d) Γ) ⟨⟩:=propext cu.symm
theorem MM{i:Int}:ix3 (.tup xs) (.int i) Γ Q=m1 (atI xs i) (λd=>Q (.fz d) Γ) ⟨⟩:=propext cu.symm
def mL (o:Option (List D))(k:List D->Prop)(_:Tag k):Prop:=match o with
 | some d=>k d
 | none=>False
theorem nS{d:List D}{k:List D->Prop}{t:Tag k}:mL (some d) k t=k d:=rfl
theorem oP{b:List D->TE3}:yn b t3 Γ Q=(t3 Γ λa Γ1=>mL (ats Γ1 a) (λds=>b ds Γ1 Q) ⟨⟩):=by
 delta yn
 congr;funext a Γ1
 refine propext ⟨λZ=>by obtain⟨ds,h,q⟩:=Z;rw[h];exact q,λh=>?_⟩;cases e:ats Γ1 a with
 | none=>rw[e] at h;exact h.elim
 | some ds=>rw[e] at h;exact⟨ds,rfl,h⟩
def mN (o:Option Nat)(k:Nat->Prop)(_:Tag k):Prop:=match o with
 | some d=>k d
 | none=>False
theorem GN{d:Nat}{k:Nat->Prop}{t:Tag k}:mN (some d) k t=k d:=rfl
def mI (o:Option D)(k:Int->Prop)(_:Tag k):Prop:=match o with
 | some (.int d)=>k d
 | _=>False
theorem GO{d:Int}{k:Int->Prop}{t:Tag k}:mI (some (.int d)) k t=k d:=rfl
theorem FA{D:E3}:Ai i k3 e3 D Γ=(e3 Γ λr Γ1=>(∃ xs,cY Γ1 i=some xs)/\k3 Γ1 λb a=>mL (cY a i) (λxs=>mI (b.at a) (λk=>mN (ixN xs.length k) (λj=>D.nx (putD a i (.lst (xs.set j r.d)))) ⟨⟩) ⟨⟩) ⟨⟩):=by
 delta Ai
 congr;funext r Γ1;congr;funext b a
 refine propext ⟨λ⟨xs,k,j,l,g,f,q⟩=>?_,λh=>?_⟩
 .rw[l,g];show mN (ixN xs.length k) _ ⟨⟩;rw[f];exact q
 .cases e:cY a i with
  | none=>rw[e] at h;exact h.elim
  | some xs=>
   rw[e] at h;replace h:mI (b.at a) (λk=>mN (ixN xs.length k) (λj=>D.nx (putD a i (.lst (xs.set j r.d)))) ⟨⟩) ⟨⟩:=h;cases c:b.at a with
   | none=>rw[c] at h;exact h.elim
   | some d=>
    rw[c] at h;cases d with
    | int k=>
     replace h:mN (ixN xs.length k) (λj=>D.nx (putD a i (.lst (xs.set j r.d)))) ⟨⟩:=h;cases e3:ixN xs.length k with
     | none=>rw[e3] at h;exact h.elim
     | some j=>rw[e3] at h;exact⟨xs,k,j,rfl,rfl,e3,h⟩
    | _=>exact h.elim
end
theorem x9{c:Type}{l:List c}{a b:c}(h:(l++[a])[i]?=some b):l[i]?=some b\/(i=l.length/\b=a):=by
 rcases U6 i l.length with q | q
 .rw[eQ q] at h;exact .inl h
 .have d:i=l.length:=by
   have:=(gS0 h).1;rw[bM,R6] at this;lia
  subst d;rw[hC (bU _),vk] at h;exact .inr ⟨rfl,(hF h).symm⟩
theorem hV{c:Type}{l:List c}{a b:c}(h:l[i]?=some b):(l++[a])[i]?=some b:=by
 rw[eQ (gS0 h).1];exact h
theorem kZ{b:Type}{l:List b}{a:b}:(l++[a])[l.length]?=some a:=by
 rw[hC (bU _),vk];rfl
theorem En.push(e:En K B F σ H Γ){x:Addr}{d:D}(y:oY K B F σ H Γ (.ref x) (.fr d)):En K B F (σ++[some (V.ref x)]) H (Γ++[some (Sl.ow d)]):=by
 obtain⟨p,G,C,A,E,u⟩:=y;cases G;have t:=e.len;have o:∀ {i:Nat} {s:Sl},(Γ++[some (Sl.ow d)])[i]?=some (some s)->Γ[i]?=some (some s)\/(i=Γ.length/\s=.ow d):=λh=>by
  rcases x9 h with q | ⟨q,m⟩
  .exact .inl q
  .cases m;exact .inr ⟨q,rfl⟩
 have n:∀ {i:Nat} {s:Option Sl},Γ[i]?=some s->(σ++[some (V.ref x)])[i]?=σ[i]?:=λh=>by
  have lt:=(gS0 h).1;rw[eQ (by exact WF 0x8d14500f15cb t lt)]
 have f:(σ++[some (V.ref x)])[Γ.length]?=some (some (V.ref x)):=by rw[<- t];exact kZ
 have r:∀ {i:Nat} {c:D},Hld (Γ++[some (Sl.ow d)]) i c->Hld Γ i c\/(i=Γ.length/\c=d):=λh=>by
  rcases h with h | h
  .rcases o h with q | ⟨q,m⟩
   .exact .inl (.inl q)
   .cases m;exact .inr ⟨q,rfl⟩
  .rcases o h with q | ⟨q,m⟩
   .exact .inl (.inr q)
   .cases m
 have g:∀ {i:Nat} {c:D},Hld Γ i c->(σ++[some (V.ref x)])[i]?=σ[i]?:=λh=>by
  rcases h with h | h <;> exact n h
 refine⟨e.sub,by simp -iota [t],?_,?_,?_,?_,?_,?_,e.keep,e.new,e.rest,e.dom⟩
 .intro i c h;rcases o h with q | ⟨_,q⟩
  .rw[n q];exact e.fz i c q
  .cases q
 .intro i c h;rcases r h with q | ⟨rfl,rfl⟩
  .rw[g q];exact e.hl i c q
  .exact⟨x,f,C,A⟩
 .intro i c q h a;rcases o h with z | ⟨rfl,z⟩
  .rw[n z] at a;exact e.ow i c q z a
  .rw[f] at a;cases a;exact E
 .intro i c q h a;rcases o h with z | ⟨_,z⟩
  .rw[n z] at a;exact e.ln i c q z a
  .cases z
 .intro i j c w q h v a k;rcases r h with z | ⟨rfl,rfl⟩
  .rw[g z] at a;rcases r v with l | ⟨rfl,rfl⟩
   .rw[g l] at k;exact e.dis i j c w q z l a k
   .rw[f] at k;cases k;exact absurd a (u i c z)
  .rw[f] at a;cases a;rcases r v with l | ⟨rfl,rfl⟩
   .rw[g l] at k;exact absurd k (u j w l)
   .rfl
 .intro i q h;obtain⟨a,c,b⟩:=e.par i q h;exact⟨by rw[n b];exact a,c,hV b⟩
theorem En.pop{x:Addr}{d:D}(e:En K B F (σ++[some (V.ref x)]) H (Γ++[some (Sl.ow d)])):En K B F σ H Γ/\oY K B F σ H Γ (.ref x) (.fr d):=by
 have m:σ.length=Γ.length:=by have:=e.len;simpa using this
 have g:(σ++[some (V.ref x)])[Γ.length]?=some (some (V.ref x)):=by rw[<- m];exact kZ
 have k:∀ {i:Nat} {s:Option Sl},Γ[i]?=some s->(σ++[some (V.ref x)])[i]?=σ[i]?:=λh=>by
  have lt:=(gS0 h).1;rw[eQ (by lia)]
 have n:Hld (Γ++[some (Sl.ow d)]) Γ.length d:=.inl kZ;have l:∀ {i:Nat} {c:D},Hld Γ i c->Hld (Γ++[some (Sl.ow d)]) i c:=λh=>h.imp hV hV;have f:∀ {i:Nat} {c:D},Hld Γ i c->(σ++[some (V.ref x)])[i]?=σ[i]?:=λh=>by
  rcases h with h | h <;> exact k h
 obtain⟨p,a,b,c⟩:=e.hl _ _ n;rw[g] at a;cases a;refine⟨⟨e.sub,m,?_,?_,?_,?_,?_,?_,e.keep,e.new,e.rest,e.dom⟩,x,rfl,b,c,e.ow _ _ _ kZ g,?_⟩
 .intro i c h;have:=e.fz i c (hV h)
  rwa [k h] at this
 .intro i c h;have:=e.hl i c (l h)
  rwa [f h] at this
 .intro i c q h a;exact e.ow i c q (hV h) (by rw[k h];exact a)
 .intro i c q h a;exact e.ln i c q (hV h) (by rw[k h];exact a)
 .intro i j c r q h o a u;exact e.dis i j c r q (l h) (l o) (by rw[f h];exact a) (by rw[f o];exact u)
 .intro i q h;obtain⟨a,c,t⟩:=e.par i q h;rcases x9 t with z | ⟨_,z⟩
  .exact⟨by rw[<- k z];exact a,c,z⟩
  .cases z
 .intro i c h q;have lt:i < Γ.length:=by rcases h with h | h <;> exact(gS0 h).1
  have:=e.dis i _ c d x (l h) n (by rw[f h];exact q) g
  lia
set_option backward.eqns.nonrecursive false in
noncomputable def sO (Γ:G)(i:Nat):Option (Addr×Ls0×List D):=match Γ[i]? with
 | some (some (.ow (.ins C ns xs)))=>some (C,ns,xs)
 | some (some (.ln (.ins C ns xs)))=>some (C,ns,xs)
 | _=>none
theorem uL{ns:Ls0}(h:sO Γ i=some (C,ns,xs)):Hld Γ i (.ins C ns xs):=by
 delta sO at h;split at h
 .cases h;rename_i q;exact .inl q
 .cases h;rename_i q;exact .inr q
 .cases h
theorem xx {f:Str}{v:V}:∀ {fs:List (Str×V)},f∉fs.map (·.1)->kQ f v fs=fs++[(f,v)]
 | [],_=>rfl
 | (g,x)::r,h=>by
  simp -iota only[fO,cS,not_or] at h;show (if g=f then _ else _)=_;rw[if_neg (lj h.1),xx h.2];rfl
theorem aA.snoc{vs:List V}(r:aA K F xs vs){d:D}(q:Rep K F d v):aA K F (xs++[d]) (vs++[v]):=r.append ⟨v,[],rfl,q,rfl⟩
def oI (o:Option (Addr×Ls0×List D))(k:Addr->Ls0->List D->Prop):Prop:=match o with
 | some (C,ns,xs)=>k C ns xs
 | none=>False
def CT (C0:Addr)(i:Nat)(f:Str)(a:TE3)(D:E3)(Γ:G):Prop:=a Γ λr Γ1=>oI (sO Γ1 i) λC ns xs=>C=C0/\(f∉ns/\ns.length < 1000)/\D.nx (putD Γ1 i (.ins C (ns++[f]) (xs++[r.d])))
theorem Dg{f:Str}(M:Cls K C0)(J:ft K C0 f)(h:Ref K te e3):HC K (Jh K (e9 i) te f) (CT C0 i f e3):=by
 intro B F o H x D R en k q;refine h B F o H x _ _ en q λv Q Z=>?_;obtain⟨T,c,r,z,N,A,G⟩:=Z;obtain⟨u,y,s,E⟩:=N.frozen A;have d:oI (sO c i) λC e j=>C=C0/\(f∉e/\e.length < 1000)/\R.nx (putD c i (.ins C (e++[f]) (j++[r.d]))):=G;cases w:sO c i with
 | none=>rw[w] at d;exact d.elim
 | some t=>
  obtain⟨C,e,j⟩:=t;rw[w] at d;obtain⟨rfl,⟨L,S⟩,d⟩:=d;obtain⟨p,a,b,m,g,P,n,O⟩:=s.hl i _ (uL w);refine⟨_,a,p,C,m,g,rfl,P,M,J,?_,?_⟩
  .have:=congrArg QS n;rw[lM0] at this;lia
  .have l:f∉g.map (·.1):=by rw[n];exact L
   rw[xx l];have I:Own K u (upd Q p (.ins C m (g++[(f,v)]))) p (.ins C (e++[f]) (j++[r.d])):=⟨m,g++[(f,v)],aC,by rw[dE,n];rfl,by rw[dE];exact O.snoc E⟩;exact k.nx u o _ _ (z.trans y) (s.J9 (uL w) a I) d
theorem vN(i:Nat){f:Str}{p2:Pos}(d:X.K=K)(g:Cls K C0)(c:ft K C0 f)(b:P3B K X (.Name x px) (e9 i) (bor i))(a:P3 K X e te e3)(hs:autoParam (zJ e (some (.Attribute (.Name x px) f p2)) pos.line X.env=pure false) wE) :
  P3S K X (.Assign [.Attribute (.Name x px) f p2] e pos) (Jh K (e9 i) te f) (CT C0 i f e3):=⟨by subst d;exact JA b.pe a.pe hs,Dg g c a.rf⟩
theorem cg.push{x:V}:∀ {a:List Bo} {vs:List V},cg K F σ a vs->cg K F (σ++[some x]) a vs
 | [],_,h=>h
 | .d d::a,_,⟨v,b,f,e,c⟩=>⟨v,b,f,e,cg.push c⟩
 | .v i::a,_,⟨v,b,f,e,c⟩=>⟨v,b,f,hV e,cg.push c⟩
theorem cg.ds:∀ {ds:List D} {vs:List V},aA K F ds vs->cg K F σ (ds.map Bo.d) vs
 | [],_,h=>h
 | _::_,_,⟨v,a,d,c,b⟩=>⟨v,a,d,c,cg.ds b⟩
theorem xU:∀ ds:List D,du (ds.map Bo.d)=[]
 | []=>rfl
 | _::ds=>xU ds
theorem Hu(ds:List D)(Γ:G):c6 Γ ((ds.map Bo.d).map some)=ds.map λd=>some (Sl.fz d):=by
 delta c6;rw[iS,iS];rfl
theorem AD {cs:G}{j:Nat}:∀ ds:List D,newD (((ds.map Bo.d).map some).map cM) cs j=none
 | []=>by cases cs <;> rfl
 | _::ds=>by
  cases cs with
  | nil=>rfl
  | cons c cs=>exact AD (cs:=cs) ds
def Nf (a:G)(k:D->Prop):Prop:=match a with
 | some (.ln d)::_=>k d
 | _=>False
def D6 (C:Addr)(n:Nat)(S:S3)(a:TA3)(Γ:G)(Q:RV->G->Prop):Prop:=a Γ λds Γ1=>ds.length + 1=n/\
 S (some (.ln (.ins C [] []))::ds.map λd=>some (.fz d)) λr Γa=>r=.fz .non/\Nf Γa λd=>Q (.fr d) Γ1
theorem Di{E:XK}{G:TA3}(h:NT K t G):Ref K (CM C (sp3 K n S) [] E t) (D6 C n S G):=by
 intro B F g H O Q QQ e q k;refine h B F g H O _ _ e q λD A Z=>?_;obtain⟨m,Γ1,b,R,w,I,hn,W⟩:=Z;intro y f J u X;rw[jw];have x:=w.alloc u (.own y);have c:(upd A f (.own y)) y=none:=by rw[ao (lj X)];exact J
 have e2:En K B m g (upd (upd A f (.own y)) y (.ins C f [])) Γ1:=x.alloc c _;have T:oY K B m g (upd (upd A f (.own y)) y (.ins C f [])) Γ1 (.ref y) (.fr (.ins C [] [])):=⟨y,rfl,x.nof c,⟨f,[],aC,rfl,rfl⟩,w.dom _ J,x.wt c⟩;have M:=e2.push T;have hl:g.length=Γ1.length:=w.len;have U:cg K m (g++[some (V.ref y)]) (Bo.v Γ1.length::b.map Bo.d) (.ref y::D):=⟨_,_,rfl,by rw[<- hl];exact kZ,(cg.ds I).push⟩;have Y:(du (Bo.v Γ1.length::b.map Bo.d)).Nodup:=by
  show (Γ1.length::du (b.map Bo.d)).Nodup;rw[xU];simp
 have eG:c6 (Γ1++[some (Sl.ow (.ins C [] []))]) ((Bo.v Γ1.length::b.map Bo.d).map some)=some (.ln (.ins C [] []))::b.map λd=>some (.fz d):=by
  rw[fO,<- Hu b (Γ1++[some (Sl.ow (.ins C [] []))])];show (some (Bo.v Γ1.length)).bind (p7 _)::_=_
  congr 1
  show gz (Γ1++[some (Sl.ow (.ins C [] []))])[Γ1.length]?=_;rw[kZ];rfl
 have len:(V.ref y::D).length=n:=by rw[<- hn,eK,I.length]
 refine⟨len,m,_,_,_,M.args U Y,oV,by rw[eG];exact W,λr o a v H' F' e3 l=>?_⟩;obtain⟨rfl,a⟩:=a;obtain⟨P,N,_⟩:=M.called e3 l;have ev:v=.non:=l;cases o with
 | nil=>exact a.elim
 | cons s i=>
  cases s with
  | none=>exact a.elim
  | some s=>
   cases s with
   | fz d=>exact a.elim
   | ow d=>exact a.elim
   | ln d=>
    have a:Q (.fr d) Γ1:=a;have eq:bE (((Bo.v Γ1.length::b.map Bo.d).map some).map cM) (Γ1++[some (Sl.ow (.ins C [] []))]) (some (.ln d)::i)=Γ1++[some (Sl.ow d)]:=by
     refine ng λj=>?_;rw[cT];show SY (fV (if Γ1.length=j then some d else newD (((b.map Bo.d).map some).map cM) i j)) _=_;by_cases L:Γ1.length=j
     .subst L;rw[if_pos rfl,kZ,kZ];rfl
     .rw[if_neg L,AD];have:(Γ1++[some (Sl.ow d)])[j]?=(Γ1++[some (Sl.ow (.ins C [] []))])[j]?:=by
       rcases U6 j Γ1.length with z | z
       .rw[eQ z,eQ z]
       .rw[iT (by simp;lia),iT (by simp;lia)]
      rw[this];cases (Γ1++[some (Sl.ow (.ins C [] []))])[j]? with
      | none=>rfl
      | some s=>cases s with
       | none=>rfl
       | some s=>cases s <;> rfl
    rw[eq] at N;obtain⟨e5,p⟩:=N.pop;exact⟨ev,k _ _ ⟨F',Γ1,.fr d,R.trans P,e5,p,a⟩⟩
section
variable {m:Str}{t3:TA3}
theorem Gu(M:Mk X.K C f)(F:aM X.prog X.w X.K X.mg X.base CX0 k f fd ps (sp3 K n S))(d:cz (k + 1) X.A)(h:Gl X x)(g:X.mg x=some (.ref C))(j:Binds X.K fd ps [])(c:P3A K X (e::es) t t3)(b:autoParam ((x == ("__debug__":Str))=false) wP)(i:autoParam (ed (e::es) X.env=(false,eval e X.env)::ed es X.env) wE)(a:autoParam ((backTo pos (ed es X.env)).any (·.1)=false) wE) :
  P3 K X (.Call (.Name x p) (e::es) [] pos) (CM C (sp3 K n S) [] E0 t) (D6 C n S t3):=⟨Gm M F d h g j .nil qg c.pe b i a,Di c.rf⟩
end
noncomputable def signs (z:Str):List D:=z.cps.toList.map λc=>D.str (sgn c)
def oS (d:D)(k:Str->Prop):Prop:=match d with
 | .str z=>k z
 | _=>False
theorem Mn{d:D}{k:Str->Prop}(h:oS d k):∃ z,d=.str z/\k z:=by
 cases d <;> first | exact h.elim | exact⟨_,rfl,h⟩
noncomputable def asc (z:Str):Bool:=z.cps.all (· < 128)
def iS3 (a:TE3)(Γ:G)(Q:List D->G->Prop):Prop:=a Γ λr Γ1=>oS r.d λz=>asc z=true/\Q (signs z) Γ1
theorem uq(z:Str):(signs z).length=z.cps.size:=by simp -iota [signs]
theorem LI:ItR K F (Its z) (signs z):=by
 refine⟨λi b _ lt=>by rw[uq] at lt;exact lt,λi b _ e=>by rw[uq] at e;exact Pp e.symm,λi b x h d _ a y=>?_⟩;obtain⟨g,c,f,rfl⟩:=y;refine .inl ⟨g,?_⟩;unfold signs at a;rw[ba,dm,f] at a;cases a;rfl
theorem Ef{l:Expr}{tl:TE}{d:TE3}(h:P3 K X l tl d):P3I K X tg l (MW tl) (iS3 d):=⟨JE h.pe,λB F f H g Q R e q k=>
 h.rf B F f H g _ _ e q λv t Z=>by
  obtain⟨w,a,r,s,p,j,b⟩:=Z;obtain⟨z,m,n,b⟩:=Mn b;obtain⟨u,i,o,c⟩:=p.frozen j;rw[m] at c;exact⟨z,c,n,k _ t u a _ (s.trans i) o LI b⟩⟩
noncomputable def pI (lo c:Int)(n:Nat):List D:=(cj n).map λ(k:Nat)=>D.int (lo + (k:Int) * c)
theorem C9{lo c:Int}:ItR K F (HF lo c n) (pI lo c n):=by
 have a:(pI lo c n).length=n:=by simp -iota [pI]
 refine⟨λi f _ lt=>by rw[a] at lt;exact lt,λi f _ e=>by rw[a] at e;exact Pp e.symm,λi f x k d _ b y=>?_⟩;obtain⟨j,h⟩:=y;subst j h;refine .inl ⟨rfl,?_⟩;have g:i < n:=by have:=(gS0 b).1;rw[a] at this;exact this
 have:(pI lo c n)[i]?=some (.int (lo + i * c)):=by delta pI;rw[ba,mK g];rfl
 rw[this] at b;cases b
 rfl
def MY (a:TA3)(Γ:G)(Q:List D->G->Prop):Prop:=a Γ λds Γ1=>∃ j:Int,ds=[.int j]/\(0<=j/\j < 2 ^ 62)/\Q (pI (j - 1) (-1) j.toNat) Γ1
theorem KC{ta:TA}{h:TA3}{t:Pos}(f:Gl X "reversed")(d:X.mg "reversed"=none)(w:Gl X "range")(u:X.mg "range"=none)(g:P3A K X [a] ta h)(hs:autoParam (ed [a] X.env=[(false,eval a X.env)]) wE)(c:autoParam (ed [.Call (.Name "range" p) [a] [] pos] X.env=[(false,eval (.Call (.Name "range" p) [a] [] pos) X.env)]) wE) :
  P3I K X tg (.Call (.Name "reversed" t) [.Call (.Name "range" p) [a] [] pos] [] pos') (MZ ta) (MY h):=⟨JF f d w u g.pe hs c,λB F i H l Q R e q k=>
 g.rf B F i H l _ _ e q λG C Z=>by
  obtain⟨D,b,I,s,A,m,j,z,⟨y,x⟩,r⟩:=Z;subst z;obtain⟨v,E,rfl,o,n⟩:=m;cases o;cases n;exact⟨j,rfl,y,x,k _ C D b _ s A C9 r⟩⟩
section
variable {b f:Expr}{tb tf to:TE}
set_option backward.eqns.nonrecursive false in
def qi (x y:D)(Γ:G)(Q:RV->G->Prop):Prop:=match x,y with
 | .str z,.int n=>(n=0\/n=1)/\z.length<=sizeLine/\Q (.fz (.str (if n=0 then rb else z))) Γ
 | _,_=>False
theorem GJ:lK K Dl qi:=by
 intro B F f H g x y i h Q j e b a q k;delta qi at q;split at q
 .obtain⟨d,c,q⟩:=q;cases b;cases a;exact⟨_,_,rfl,rfl,d,c,k _ _ (yW e q)⟩
 .exact q.elim
theorem wb(d:P3B K X a ta a3)(c:P3B K X b tb b3):P3 K X (.BinOp a .Mult b pos) (tOp Dl ta tb) (cn qi a3 b3):=⟨kR Gx d.pe c.pe,fc GJ d.rf c.rf⟩
set_option backward.eqns.nonrecursive false in
noncomputable def dS:D->Bool
 | .str _=>true
 | _=>false
theorem Nw(T:TyS X.K):B3 K X (.builtin "isinstance") (λxs H Q=>∃ x,xs=[x,.ty "str"]/\Kn H x/\Q (.bl (isS x)) H) (is3 "str" dS):=EW (g:=λ_ v=>isS v) (ER T) λs h a=>by
 rename_i F H d v;cases d <;> first
  | (cases h;rfl)
  | (cases a;done)
  | (obtain⟨p,b,rfl,_⟩:=h;rfl)
  | (obtain⟨p,rfl,_⟩:=h;rfl)
  | (obtain⟨p,e,c,rfl,_⟩:=h;rfl)
end
section
variable {f:Expr}{tf:TE}
set_option backward.eqns.nonrecursive false in
def Ep (C0:Addr)(f:Str)(x:D)(Γ:G)(Q:RV->G->Prop):Prop:=match x with
 | .ins C ns xs=>C=C0/\m1 ((ns.zip xs).lookup f) (λd=>Q (.fz d) Γ) ⟨⟩
 | _=>False
theorem rz{f:Str}(o:X.K=K)(c:P3B K X a ta a3)(s:Cls K C0)(l:ft K C0 f)(n:autoParam (Oo a f X.env (eval a X.env)=eval a X.env) wE) :
  P3 K X (.Attribute a f pos) (LG K ta f) (Bp (Ep C0 f) a3):=⟨by subst o;exact JM c.pe n,yU (r:=λx h Q=>∃ a C b g v,x=.ref a/\h a=some (.ins C b g)/\Cls K C/\ft K C f/\g.lookup f=some v/\Q v h) (ta:=ta) (by
 intro B F z H A x b Q D e i q k;delta Ep at q;split at q
 .obtain⟨rfl,q⟩:=q;obtain⟨d,m,q⟩:=cu.mp q;obtain⟨p,b,y,rfl,w,u,t⟩:=i;obtain⟨v,j,r⟩:=aA.lookup u t m;exact⟨p,_,b,y,v,rfl,w,s,l,j,k _ _ (iM e r q)⟩
 .exact q.elim) c.rf⟩
noncomputable def kt (zs:Ls0):D:=.ktup (zs.map .str)
structure Lq (K:Fg0) (mg:SV) (x:Str) (p:Addr) (zs:Ls0):Prop where
 mg:mg x=some (.ref p)
 sq:∀ F:Hp,SqT K F p (zs.map V.str)
theorem aA.strs:∀ (zs:Ls0),aA K F (zs.map D.str) (zs.map V.str)
 | []=>rfl
 | z::zs=>⟨_,_,rfl,rfl,aA.strs zs⟩
theorem fG{zs:Ls0}{p:Addr}(b:Gl X x)(a:Lq K X.mg x p zs)(c:autoParam ((x == ("__debug__":Str))=false) wP):P3 K X (.Name x pos) (tC (.ref p)) (t3C (kt zs)):=
 ⟨rm b a.mg rfl c,uw λF=>⟨p,_,rfl,a.sq F,aA.strs zs⟩⟩
end
def oIt (o:Option (Addr×Ls0×List D))(k:Addr->Ls0->List D->Prop)(_:Tag k):Prop:=oI o k
theorem DU{ns:Ls0}{k:Addr->Ls0->List D->Prop}{t:Tag k}:oIt (some (C,ns,xs)) k t=k C ns xs:=rfl
def oSt (o:D)(k:Str->Prop)(_:Tag k):Prop:=oS o k
theorem GC{k:Str->Prop}{t:Tag k}:oSt (.str z) k t=k z:=rfl
def IB (o:G)(k:D->Prop)(_:Tag k):Prop:=Nf o k
theorem G7{d:D}{k:D->Prop}{t:Tag k}:IB (some (.ln d)::Γ) k t=k d:=rfl
section
variable {QI:List D->G->Prop}{f:Str}{t3:TA3}{k1 k2:Str}{d1 d2 d0:D}{l3 h3:TO3}
theorem FC:CT C0 i f e3 D1 Γ=(e3 Γ λr Γ1=>oIt (sO Γ1 i) (λC ns xs=>C=C0/\(f∉ns/\ns.length < 1000)/\D1.nx (putD Γ1 i (.ins C (ns++[f]) (xs++[r.d])))) ⟨⟩):=rfl
theorem MX:iS3 e3 Γ QI=(e3 Γ λr Γ1=>oSt r.d (λz=>asc z=true/\QI (signs z) Γ1) ⟨⟩):=rfl
end
def bT (c:Bool)(p q:Prop)(_:Tag p)(_:Tag q):Prop:=match c with
 | true=>p
 | false=>q
theorem Fb{p q:Prop}{s:Tag p}{t:Tag q}:bT true p q s t=p:=rfl
theorem Fd{p q:Prop}{s:Tag p}{t:Tag q}:bT false p q s t=q:=rfl
theorem Fc{c:Bool}{p q:Prop}{s:Tag p}{t:Tag q}(b:c=true->p)(a:c=false->q):bT c p q s t:=by
 cases c with
 | true=>exact b rfl
 | false=>exact a rfl
section
variable {QT:Bool->G->Prop}{QA:List D->G->Prop}{QL:List Bo->G->Prop}{QG:G->Prop}{is:List Nat}{t u:TS3}{c3:TB3}{B3:TT3}{t3:TA3}{tb:dO}{d:D}{l3 h3 s3:TO3}{bb:mf}
theorem sQ:LR t u D1 Γ=t { D1 with nx:=u D1 } Γ:=rfl
theorem sS:Ib D1 Γ=D1.nx Γ:=rfl
theorem sP:Bv i e3 D1 Γ=(e3 Γ λr Γ1=>cF Γ1 i/\D1.nx (Γ1.set i (some r.sl))):=rfl
theorem M5:LW e3 D1 Γ=e3 Γ D1.rt:=rfl
theorem KO:IF e3 D1 Γ=(e3 Γ λ_ Γ1=>D1.nx Γ1):=rfl
theorem xY:tst e3 Γ QT=(e3 Γ λx Γ1=>match x.d with | .bl k=>QT k Γ1 | _=>False):=rfl
theorem x6:bor i Γ QB=((∃ d,Gat Γ i=some d)/\QB (.v i) Γ):=rfl
theorem x8:bof e3 Γ QB=(e3 Γ λx Γ1=>QB (.d x.d) Γ1):=rfl
theorem n_:dW a3 tb Γ QL=(a3 Γ λx Γ1=>tb Γ1 λxs a=>QL (x::xs) a):=rfl
theorem sR:nR Γ QL=QL [] Γ:=rfl
theorem KP:iV e3 t3 Γ QA=(e3 Γ λx Γ1=>t3 Γ1 λxs a=>QA (x.d::xs) a):=rfl
theorem M7:wx Γ QA=QA [] Γ:=rfl
theorem h_c:t3C d Γ Q=Q (.fz d) Γ:=rfl
theorem Na:Fi A3 B3 Γ QT=(A3 Γ λc Γ1=>bT c (B3 Γ1 QT) (QT false Γ1) ⟨⟩ ⟨⟩):=by
 show (A3 Γ λc Γ1=>match c with | true=>B3 Γ1 QT | false=>QT false Γ1)=_
 congr 1
theorem OF:or3 A3 B3 Γ QT=(A3 Γ λc Γ1=>bT c (QT true Γ1) (B3 Γ1 QT) ⟨⟩ ⟨⟩):=by
 show (A3 Γ λc Γ1=>match c with | true=>QT true Γ1 | false=>B3 Γ1 QT)=_
 congr 1
theorem M6:J5 A3 Γ QT=(A3 Γ λc Γ1=>QT (!c) Γ1):=rfl
theorem OG:if3 A3 e3 f3 Γ Q=(A3 Γ λc Γ1=>bT c (e3 Γ1 Q) (f3 Γ1 Q) ⟨⟩ ⟨⟩):=by
 show (A3 Γ λc Γ1=>match c with | true=>e3 Γ1 Q | false=>f3 Γ1 Q)=_
 congr 1
theorem M8:ME t3 Γ Q=(t3 Γ λxs Γ1=>xs.length<=sizeLine/\Q (.fr (.lst xs)) Γ1):=rfl
theorem M1:CG t3 Γ Q=(t3 Γ λxs Γ1=>xs.length<=sizeLine/\Q (.fz (.tup xs)) Γ1):=rfl
theorem M_:Lj i e3 Γ Q=((∃ xs,cY Γ i=some xs)/\e3 Γ λr Γ1=>∃ xs,cY Γ1 i=some xs/\xs.length < sizeLine/\Q (.fz .non) (putD Γ1 i (.lst (xs++[r.d])))):=rfl
theorem KH:HQ is e3 D1 Γ=(e3 Γ λr Γ1=>∃ ds Γ',r.d=.tup ds/\gives Γ1 is ds=some Γ'/\frees Γ1 is ds/\D1.nx Γ'):=rfl
theorem KG:Af a3 Γ QO=(a3 Γ λx Γ1=>∃ i,x.at Γ1=some (.int i)/\QO (some i) Γ1):=rfl
theorem KL:AB Γ QO=QO none Γ:=rfl
abbrev hI (a:Nat->G->Prop)(k:Nat)(Γ:G)(_:Tag a):Prop:=a k Γ
def Ik (xs:List D)(c:G)(e:TG3)(f:TS3)(b:E3)(_:Tag (e,f,b)):Prop:=∃ a:Nat->G->Prop,a 0 c/\(∀ k d Γ,xs[k]?=some d->a k Γ->e d Γ λΓ'=>f { b with nx:=a (k + 1),ct:=a (k + 1),bk:=b.nx } Γ')/\∀ Γ,a xs.length Γ->b.nx Γ
theorem M9{a:TS3}{c:Tag (i3,g3,a)}{b:Tag D1}:K2 i3 g3 a D1 Γ c b=(i3 Γ λxs Γ1=>Ik xs Γ1 g3 a D1 ⟨⟩):=rfl
theorem dD{b3:TS3}{b:E3}{t:Tag (g3,b3,b)}(a:Nat->G->Prop)(e:a 0 Γ1)(hs:∀ k d Γ,xs[k]?=some d->a k Γ->g3 d Γ λΓ'=>b3 { b with nx:=λΓ=>hI a (k + 1) Γ ⟨⟩,ct:=λΓ=>hI a (k + 1) Γ ⟨⟩,bk:=b.nx } Γ')(c:∀ Γ,a xs.length Γ->b.nx Γ):Ik xs Γ1 g3 b3 b t:=⟨a,e,hs,c⟩
abbrev hJ (a:Nat->List D->G->Prop)(k:Nat)(ys:List D)(Γ:G)(_:Tag a):Prop:=a k ys Γ
def EI (xs:List D)(b:G)(g:On)(h:TG3)(i:TE3)(Q:RV->G->Prop)(_:Tag (g,h,i,Q)):Prop:=∃ c:Nat->List D->G->Prop,c 0 [] (c6 b (dA g))/\
 (∀ k d ys a,xs[k]?=some d->ys.length=k->c k ys a->h d a λf=>i f λr e=>c (k + 1) (ys++[r.d]) e)/\∀ ys a,ys.length=xs.length->c xs.length ys a->Q (.fr (.lst ys)) (bE g b a)
theorem KQ{b:Tag (fr,i3,g3,e3)}{a:Tag Q}:IG fr i3 g3 e3 Γ Q b a=(i3 Γ λxs Γ1=>xs.length < sizeLine/\EI xs Γ1 fr g3 e3 Q ⟨⟩):=rfl
theorem eS{t:Tag (fr,g3,e3,Q)}(b:Nat->List D->G->Prop)(g:b 0 [] (c6 Γ1 (dA fr)))(hs:∀ k d ys a,xs[k]?=some d->ys.length=k->b k ys a->g3 d a λe=>e3 e λr c=>hJ b (k + 1) (ys++[r.d]) c ⟨⟩)(f:∀ ys a,ys.length=xs.length->b xs.length ys a->Q (.fr (.lst ys)) (bE fr Γ1 a)):EI xs Γ1 fr g3 e3 Q t:=⟨b,g,hs,f⟩
def EJ (xs:List D)(a:G)(c:On)(d:TG3)(e:mf)(Q:RV->G->Prop)(_:Tag (c,d,e,Q)):Prop:=AI xs d e [] (c6 a (dA c)) λys b=>ys.length < sizeLine/\Q (.fr (.lst ys)) (bE c a b)
theorem G3{b:Tag (fr,i3,g3,bb)}{a:Tag Q}:EK fr i3 g3 bb Γ Q b a=(i3 Γ λxs Γ1=>EJ xs Γ1 fr g3 bb Q ⟨⟩):=rfl
theorem gM{b3:mf}{t:Tag (fr,g3,b3,Q)}(b:Nat->List D->G->Prop)(e:b 0 [] (c6 Γ1 (dA fr)))(hs:∀ k d ys Γ,xs[k]?=some d->b k ys Γ->g3 d Γ λΓ'=>b3 ys Γ' λys Γ=>hJ b (k + 1) ys Γ ⟨⟩)(c:∀ ys a,b xs.length ys a->ys.length < sizeLine/\Q (.fr (.lst ys)) (bE fr Γ1 a)):EJ xs Γ1 fr g3 b3 Q t:=⟨b,e,hs,c⟩
theorem K5:eqN (n + 1) (.lst xs) (.lst [])=some xs.isEmpty:=by cases n <;> cases xs <;> rfl
theorem K6{a b c:Int}:eqN (n + 1) (.lst [.int a,.int b,.int c]) (.lst [.int a,.int b,.int c])=some true:=by
 have:=yg (n:=n) [a,b,c] [a,b,c];rw[decide_eq_true rfl] at this;exact this
def Eg (S:S3)(A:G)(L:On)(a:G)(Q:RV->G->Prop)(_:Tag Q):Prop:=S A (λr Γa=>Q r (bE L a Γa))
def M0 (S:S3)(A:G)(a:G)(Q:RV->G->Prop)(_:Tag Q):Prop:=S A (λr Γa=>r=.fz .non/\IB Γa (λd=>Q (.fr d) a) ⟨⟩)
theorem oO{b:dO}:wQ n S b Γ Q=(b Γ λa Γ1=>a.length=n/\(du a).Nodup/\Eg S (c6 Γ1 (a.map some)) ((a.map some).map cM) Γ1 Q ⟨⟩):=rfl
theorem Kd{m:Str}{c:dO}:uG C m n S o3 c Γ Q=(o3 Γ λx Γ1=>(∃ ns xs,x.at Γ1=some (.ins C ns xs)/\m∉ns)/\c Γ1 λb a=>b.length + 1=n/\(du (x::b)).Nodup/\Eg S (c6 a ((x::b).map some)) (((x::b).map some).map cM) a Q ⟨⟩):=rfl
theorem Ke{a:TA3}:D6 C n S a Γ Q=(a Γ λds Γ1=>ds.length + 1=n/\M0 S (some (.ln (.ins C [] []))::ds.map λd=>some (.fz d)) Γ1 Q ⟨⟩):=rfl
def bG (c:Bool)(t u:TS3)(a:E3)(Γ:G)(_:Tag (t,u,a)):Prop:=match c with
 | true=>t a Γ
 | false=>u a Γ
theorem Fe{s:Tag (t,u,D1)}:bG true t u D1 Γ s=t D1 Γ:=rfl
theorem Ff{s:Tag (t,u,D1)}:bG false t u D1 Γ s=u D1 Γ:=rfl
theorem gy{c:Bool}{s:Tag (t,u,D1)}(b:c=true->t D1 Γ)(a:c=false->u D1 Γ):bG c t u D1 Γ s:=by
 cases c with
 | true=>exact b rfl
 | false=>exact a rfl
theorem xZ:MV A3 t u D1 Γ=(A3 Γ λc Γ1=>bG c t u D1 Γ1 ⟨⟩):=by
 show (A3 Γ λc Γ1=>match c with | true=>t D1 Γ1 | false=>u D1 Γ1)=_
 congr 1
theorem OH{e:D}:iV (t3C e) t3 Γ QA=(t3 Γ λxs a=>QA (e::xs) a):=rfl
theorem Iz{d e:D}:CG (iV (t3C d) (iV (t3C e) wx)) Γ Q=Q (.fz (.tup [d,e])) Γ:=by
 show (2<=sizeLine/\Q (.fz (.tup [d,e])) Γ)=_;exact propext ⟨λh=>h.2,λh=>⟨by rw[ew];decide,h⟩⟩
theorem OI{d e:D}:iV (CG (iV (t3C d) (iV (t3C e) wx))) t3 Γ QA=(t3 Γ λxs a=>QA (.tup [d,e]::xs) a):=by
 show CG (iV (t3C d) (iV (t3C e) wx)) Γ (λx b=>t3 b λxs a=>QA (x.d::xs) a)=_;rw[Iz];rfl
end
theorem ln0{a:Type}{us:List a}(h:us.length=0):us=[]:=Ea h
theorem ln1{b:Type}{us:List b}(h:us.length=1):∃ a,us=[a]:=by
 match us,h with
 | [a],_=>exact⟨a,rfl⟩
theorem ln2{c:Type}{us:List c}(h:us.length=2):∃ a b,us=[a,b]:=by
 match us,h with
 | [a,b],_=>exact⟨a,b,rfl⟩
theorem ln3{d:Type}{us:List d}(h:us.length=3):∃ a b c,us=[a,b,c]:=by
 match us,h with
 | [a,b,c],_=>exact⟨a,b,c,rfl⟩
theorem ln4{e:Type}{us:List e}(h:us.length=4):∃ a b c d,us=[a,b,c,d]:=by
 match us,h with
 | [a,b,c,d],_=>exact⟨a,b,c,d,rfl⟩
theorem ln5{f:Type}{us:List f}(h:us.length=5):∃ a b c d e,us=[a,b,c,d,e]:=by
 match us,h with
 | [a,b,c,d,e],_=>exact⟨a,b,c,d,e,rfl⟩
section
noncomputable def Bs.hid (B:Bs)(p:Addr)(o:HO):Bs:=⟨B.F,upd B.H p o,B.own⟩
theorem En.hide(e:En K B F σ H Γ){p:Addr}{o:HO}(j:F p=none)(f:H p=some o)(g:∀ (i:Nat) (d:D),Hld Γ i d->σ[i]?≠some (some (V.ref p))):En K (B.hid p o) F σ H Γ where
 sub:=e.sub
 len:=e.len
 fz:=e.fz
 hl:=e.hl
 ow:=λi d c h a=>by
  have z:c≠p:=λz=>g i d (.inl h) (z ▸ a);show upd B.H p o c=none;rw[ao z];exact e.ow i d c h a
 ln:=e.ln
 dis:=e.dis
 par:=e.par
 keep:=e.keep
 new:=λb u h=>by
  rcases e.new b u h with q | q
  .exact .inl q
  .have z:b≠p:=λz=>by subst z;rw[j] at h;cases h
   exact .inr (by show upd B.H p o b=none;rw[ao z];exact q)
 rest:=λb u h n=>by
  by_cases z:b=p
  .subst z;have h:upd B.H b o b=some u:=h;rw[aC] at h;cases h;exact f
  .have h:upd B.H p o b=some u:=h;rw[ao z] at h;exact e.rest b u h n
 dom:=λb h=>by
  have z:b≠p:=λz=>by subst z;rw[f] at h;cases h
  show upd B.H p o b=none;rw[ao z];exact e.dom b h
theorem En.IS{p:Addr}{o:HO}(e:En K (B.hid p o) F σ H Γ)(l:B.H p=none)(k:B.F p=none)(j:∀ i,(i,p)∉B.own) :
  En K B F σ H Γ/\H p=some o/\F p=none/\∀ (i:Nat) (d:D),Hld Γ i d->σ[i]?≠some (some (V.ref p)):=by
 have c:(B.hid p o).H p=some o:=aC;have g:∀ {b:Addr},b≠p->(B.hid p o).H b=B.H b:=λz=>ao z;have f:∀ {b:Addr},(B.hid p o).H b=none->B.H b=none:=λ{b} h=>by
  have z:b≠p:=λz=>by subst z;rw[c] at h;cases h
  rw[<- g z];exact h
 refine⟨⟨e.sub,e.len,e.fz,e.hl,λi d q h a=>f (e.ow i d q h a),e.ln,e.dis,e.par,e.keep,λb u h=>(e.new b u h).imp id f,λb u h n=>e.rest b u ?_ n,λb h=>f (e.dom b h)⟩,e.rest p o c j,?_,λi d h a=>?_⟩
 .have z:b≠p:=λz=>by subst z;rw[l] at h;cases h
  rw[g z];exact h
 .cases q:F p with
  | none=>rfl
  | some u=>
   rcases e.new p u q with z | z
   .rw[show (B.hid p o).F p=B.F p from rfl,k] at z;cases z
   .rw[c] at z;cases z
 .rcases h with h | h
  .have z:=e.ow i d p h a;rw[c] at z;cases z
  .exact j i (e.ln i d p h a)
set_option backward.eqns.nonrecursive false in
def frL (r:RV)(k:List D->Prop):Prop:=match r with
 | .fr (.lst xs)=>k xs
 | _=>False
theorem K0{k:List D->Prop}(h:frL r k):∃ xs,r=.fr (.lst xs)/\k xs:=by
 cases r with
 | fz d=>exact h.elim
 | two _ _=>exact h.elim
 | rws _=>exact h.elim
 | fr d=>cases d <;> first | exact h.elim | exact⟨_,rfl,h⟩
variable {b:Expr}{tb:TE}{a3 b3:TE3}
end
open PySem _2 PySem.Spec PyProof.Rows
def OM (a:TE3)(Γ:G)(Q:RV->G->Prop):Prop:=a Γ λr Γ1=>Q (.fz r.d) Γ1
theorem FT{b:TE3}(h:Ref K ta b):Ref K ta (OM b):=λB F c H d Q p e q k=>
 h B F c H d _ _ e q λv n Z=>by
  obtain⟨t,a,r,s,m,g,j⟩:=Z;obtain⟨o,f,l,i⟩:=m.frozen g;exact k v n ⟨o,a,.fz r.d,s.trans f,l,i,j⟩
noncomputable def wd (i:Int):List Nat:=(toString i).toList.map Char.toNat
noncomputable def tl:Li0->List Nat
 | []=>[93]
 | i::is=>44::32::(wd i++tl is)
noncomputable def lt:Li0->List Nat
 | []=>[91,93]
 | i::is=>91::(wd i++tl is)
open PySem _2
section
variable {b:Expr}{to:TE}{o3 a3:TE3}
theorem iN(b:Gl X x)(a:X.mg x=some (.ref C))(c:autoParam ((x == ("__debug__":Str))=false) wP):P3 K X (.Name x pos) (tC (.ref C)) (t3C (.adr C)):=
 ⟨rm b a rfl c,λB F f H g Q h e q k=>k _ _ (iM (d:=.adr C) e rfl q)⟩
end
def fz3 (a:TE3)(Γ:G)(Q:RV->G->Prop):Prop:=a Γ λr Γ1=>Q (.fz r.d) Γ1
theorem qh(h:P3 K X e te e3):P3 K X e te (fz3 e3):=⟨h.pe,λB F b H c Q o en q k=>h.rf B F b H c _ _ en q λv m Z=>by
 obtain⟨p,a,r,s,l,f,i⟩:=Z;obtain⟨n,d,j,g⟩:=l.frozen f;exact k v m ⟨n,a,.fz r.d,s.trans d,j,g,i⟩⟩
open PySem _2 PySem.Spec PyProof.Rows
section
theorem En.adr(e:En K B F σ H Γ)(h:Hld Γ i (.cel q xs)):σ[i]?=some (some (V.ref q))/\F q=none/\∃ vs,H q=some (.lst vs)/\aA K F xs vs:=by
 obtain⟨p,a,b,rfl,vs,c,d⟩:=e.hl i _ h;exact⟨a,b,vs,c,d⟩
def Hz (r:RV)(k:Addr->Prop):Prop:=match r with
 | .fz (.adr q)=>k q
 | _=>False
theorem Hy{k:Addr->Prop}(h:Hz r k):∃ q,r=.fz (.adr q)/\k q:=by
 cases r with
 | fz d=>cases d <;> first | exact h.elim | exact⟨_,rfl,h⟩
 | fr _=>exact h.elim
 | two _ _=>exact h.elim
 | rws _=>exact h.elim
def C2 (r:RV)(k:List (List D)->Prop):Prop:=match r with
 | .rws xss=>k xss
 | _=>False
theorem FG{k:List (List D)->Prop}(h:C2 r k):∃ xss,r=.rws xss/\k xss:=by
 cases r with
 | rws xss=>exact⟨_,rfl,h⟩
 | fz _=>exact h.elim
 | fr _=>exact h.elim
 | two _ _=>exact h.elim
def vB (b:Bo)(k:Nat->Prop):Prop:=match b with
 | .v j=>k j
 | .d _=>False
def NC (a:TE3)(Γ:G)(Q:Bo->G->Prop):Prop:=a Γ λr Γ1=>Hz r λq=>∃ j xs,Hld Γ1 j (.cel q xs)/\Q (.v j) Γ1
theorem bA(h:P3 K X e te e3):P3B K X e te (NC e3):=⟨h.pe,by
 intro B F d H f Q p en q k;refine h.rf B F d H f _ _ en q λv s Z=>?_;obtain⟨n,a,r,g,c,i,b⟩:=Z;obtain⟨q',rfl,j,o,m,b⟩:=Hy b;have l:v=.ref q':=i;subst l;exact k _ _ ⟨n,a,.v j,g,c,(c.adr m).1,b⟩⟩
noncomputable def Dp (Γ:G)(j:Nat)(xs:List D):G:=match Γ[j]? with
 | some (some (.ow (.cel q _)))=>Γ.set j (some (.ow (.cel q xs)))
 | some (some (.ln (.cel q _)))=>Γ.set j (some (.ln (.cel q xs)))
 | _=>Γ
theorem F_(h:Hld Γ j (.cel q xs)):Dp Γ j ys=putD Γ j (.cel q ys):=by
 rcases h with h | h <;> delta Dp putD <;> rw[h]
theorem En.Ot(e:En K B F σ H Γ){a:List V}(h:Hld Γ j (.cel q xs))(r:aA K F ys a):En K B F σ (upd H q (.lst a)) (Dp Γ j ys):=by
 rw[F_ h];exact e.J9 h (e.adr h).1 ⟨rfl,a,aC,r⟩
variable {k:Expr}{to tk:TE}{p2:Pos}
def HR (d e:TB3)(f:TE3)(D:E3)(Γ:G):Prop:=f Γ λr Γ1=>d Γ1 λbo c=>vB bo λj=>e c λb a=>∃ q xs k n,Hld a j (.cel q xs)/\b.at a=some (.int k)/\ixN xs.length k=some n/\D.nx (Dp a j (xs.set n r.d))
theorem FF(p:P3B K X o to o3)(t:P3B K X k tk k3)(y:P3 K X e te e3)(V:autoParam (∀ v,assign (.Subscript o k p2) X.env v=(do
   let O <- holding [v] (eval o X.env)
   let U <- holding [v,O] (eval k X.env)
   ru p2
   holding [v,O,U] (Qh O U v)
   release [v,O,U] [])) wT)(hs:autoParam (NZ [.Subscript o k p2] e pos.line X.env=pure false) wE)(b:autoParam (Oi [.Subscript o k p2] e X.env=pure none) wE)(W:autoParam ((pv [.Subscript o k p2] X.env).map (·.2)=[assign (.Subscript o k p2) X.env]) wE) :
  P3S K X (.Assign [.Subscript o k p2] e pos) (jo te (Cb to tk uy)) (HR o3 k3 e3):=⟨vW y.pe (DB p.pe t.pe set_list V) hs b W,λB F a H C D D3 en Q q=>
 y.rf B F a H C _ _ en q λv H' Z=>by
  obtain⟨F',f,r,s,e',I,P⟩:=Z;obtain⟨F2,G,Y,L⟩:=e'.frozen I;refine p.rf B F2 a H' f _ _ Y P λw H2 Z=>?_;obtain⟨F3,c,bo,l,e3,J,m⟩:=Z;cases bo with
  | d _=>exact m.elim
  | v j=>
   refine t.rf B F3 a H2 c _ _ e3 m λu H3 Z=>?_;obtain⟨F4,A,b4,i,h,g,N,xs,kk',n,x,T,S,M⟩:=Z;obtain⟨a1,a2,E,a3,z⟩:=h.adr x;have b:a[j]?=some (some w):=J;rw[a1] at b;cases b;have R:u=.int kk':=h.bo g T;exact⟨N,E,kk',n,rfl,R,a3,by rw[z.length];exact S,Q.nx F4 a _ _ (((s.trans G).trans l).trans i) (h.Ot x (aA.set (L.mono (l.trans i)) n z)) M⟩⟩
theorem xn:∀ {qs:La0},aA K F (qs.map D.adr) (qs.map V.ref)
 | []=>rfl
 | _::_=>⟨_,_,rfl,rfl,xn⟩
end
noncomputable def Bs.uc (B:Bs):List (Addr×HO)->Bs
 | []=>B
 | (q,o)::l=>(Bs.uc B l).hid q o
theorem Eh:∀ {l:List (Addr×HO)},(B.uc l).F=B.F
 | []=>rfl
 | _::l=>Eh (l:=l)
theorem xW:∀ {l:List (Addr×HO)},(B.uc l).own=B.own
 | []=>rfl
 | _::l=>xW (l:=l)
theorem AR:∀ {l:List (Addr×HO)} {q:Addr},(B.uc l).H q=none->B.H q=none/\q∉l.map (·.1)
 | [],q,h=>⟨h,by simp⟩
 | (z,o)::l,q,h=>by
  have h:upd (B.uc l).H z o q=none:=h;have c:q≠z:=λw=>by rw[w,aC] at h;cases h
  rw[ao c] at h;obtain⟨a,b⟩:=AR h;exact⟨a,by rw[fO,cS,not_or];exact⟨c,b⟩⟩
theorem uJ:∀ {l:List (Addr×HO)} {q:Addr},B.H q=none->q∉l.map (·.1)->(B.uc l).H q=none
 | [],q,h,_=>h
 | (z,o)::l,q,h,n=>by
  rw[fO,cS,not_or] at n;show upd (B.uc l).H z o q=none;rw[ao n.1];exact uJ h n.2
theorem En.zX:∀ {l:List (Addr×HO)},En K (B.uc l) F σ H Γ->(l.map (·.1)).Nodup->(∀ z,z∈l->B.H z.1=none/\B.F z.1=none/\∀ i,(i,z.1)∉B.own)->
  En K B F σ H Γ/\∀ z,z∈l->H z.1=some z.2/\F z.1=none/\∀ (i:Nat) (d:D),Hld Γ i d->σ[i]?≠some (some (V.ref z.1))
 | [],e,_,_=>⟨e,λ_ h=>nomatch h⟩
 | (q,o)::l,e,a,b=>by
  rw[fO,hX] at a;obtain⟨p,b2,n⟩:=b (q,o) (.head _);obtain⟨m,g,j,c⟩:=En.IS (B:=B.uc l) e (uJ p a.1) (by rw[Eh];exact b2) (by rw[xW];exact n);obtain⟨k,f⟩:=En.zX m a.2 λz hz=>b z (.tail _ hz);refine⟨k,λz hz=>?_⟩;rcases cS.mp hz with rfl | hz
  .exact⟨g,j,c⟩
  .exact f z hz
def wG (f:On)(g:TI3)(h:TG3)(i:TE3)(Γ:G)(Q:RV->G->Prop):Prop:=g Γ λxs Γ1=>xs.length < sizeLine/\∃ b:Nat->List (List D)->G->Prop,b 0 [] (c6 Γ1 (dA f))/\
 (∀ k d ys a,xs[k]?=some d->ys.length=k->b k ys a->h d a λe=>i e λr c=>frL r λzs=>b (k + 1) (ys++[zs]) c)/\∀ ys a,ys.length=xs.length->b xs.length ys a->Q (.rws ys) (bE f Γ1 a)
theorem dP.snoc:∀ {qs:La0} {xss:List (List D)} {q:Addr} {xs:List D} {vs:List V},dP K F H qs xss->H q=some (.lst vs)->aA K F xs vs->dP K F H (qs++[q]) (xss++[xs])
 | [],_,q,xs,vs,h,b,a=>by cases h;exact⟨xs,[],vs,rfl,b,a,rfl⟩
 | _::_,_,q,xs,vs,⟨c,j,d,i,g,f,e⟩,b,a=>by subst i;exact⟨c,_,d,rfl,g,f,dP.snoc e b a⟩
noncomputable def oX (K:Fg0)(F:Hp):List (Addr×HO)->List (List D)->Prop
 | [],xss=>xss=[]
 | z::l,xss=>∃ xs a vs,xss=a++[xs]/\z.2=.lst vs/\aA K F xs vs/\oX K F l a
theorem oX.mono(s:aB F F'):∀ {l:List (Addr×HO)} {xss:List (List D)},oX K F l xss->oX K F' l xss
 | [],_,h=>h
 | _::_,_,⟨b,a,c,g,f,e,d⟩=>⟨b,a,c,g,f,e.mono s,oX.mono s d⟩
theorem oX.at:∀ {l:List (Addr×HO)} {xss:List (List D)},oX K F l xss->(∀ z,z∈l->H z.1=some z.2)->dP K F H (l.map (·.1)).reverse xss
 | [],_,h,_=>h
 | z::l,_,⟨i,g,j,f,e,d,c⟩,a=>by
  subst f;rw[fO,To];exact(oX.at c λy b=>a y (.tail _ b)).snoc (by rw[a z (.head _),e]) d
theorem BA(nd:(fr.filterMap id).Nodup)(hi:zR K wi i3)(hg:wY K g g3)(he:Ref K te e3):Ref K (fX fr wi g (kv te)) (wG fr i3 g3 e3):=by
 intro B F σ H Γ Q QQ e q k;refine hi B F σ H Γ _ _ e q λJ L M a u s1 I R Z=>?_;obtain⟨hz,Iv,i0,it,ie⟩:=Z;have eb:=I.blk nd;refine⟨λi m ys t H=>m=u.length - i/\i<=u.length/\∃ F' N n l,aB M F'/\En K ((Bs.mk M L (ownOf a σ (dA fr))).uc l) F' t H N/\ys=((l.map (·.1)).reverse).map V.ref/\(l.map (·.1)).Nodup/\(∀ z,z∈l->L z.1=none)/\oX K F' l n/\l.length=i/\n.length=i/\Iv i n N,
  ⟨_,rfl,eg _,M,_,[],[],aB.refl _,eb,rfl,by simp,(λ_ h=>nomatch h),rfl,rfl,rfl,i0⟩,?_⟩
 rintro i m ys t H2 ⟨rfl,a4,F2,c,n,l,O,U,rfl,v,f,r2,P,hl,iv⟩;have zz:(((l.map (·.1)).reverse).map V.ref).length < sizeLine:=by simp -iota [P];lia
 have cond:∀ z,z∈l->(Bs.mk M L (ownOf a σ (dA fr))).H z.1=none/\(Bs.mk M L (ownOf a σ (dA fr))).F z.1=none/\∀ j,(j,z.1)∉(Bs.mk M L (ownOf a σ (dA fr))).own:=λz hz=>by
  have G:=f z hz;refine⟨G,I.nof G,λj hj=>?_⟩;obtain⟨i',d,_,h5,h6⟩:=lX.mp hj;exact I.wt G i' d h5 h6
 by_cases lt:i < u.length
 .refine .inr ⟨R.go i H2 (O.trans U.sub) lt,λx H3 y=>?_⟩;have hd:u[i]?=some u[i]:=gE0 lt;obtain⟨F3,s3,a2,r3⟩:=R.turn O U hd y;refine hg _ F3 t H3 c x _ _ _ a2 r3 (it i _ n c hd hl iv) λW Y e4 q4=>?_;refine⟨zz,he _ F3 W H3 Y _ _ e4 q4 λy H5 Z=>?_⟩;obtain⟨F5,X,r,s5,e5,rv,C⟩:=Z;obtain⟨zs,rfl,C⟩:=K0 C;obtain⟨p,rfl,f5,⟨vs,h5,r5⟩,b5,n5⟩:=rv;obtain⟨b6,b7⟩:=AR b5;refine⟨u.length - (i + 1),by lia,rfl,lt,F5,X,n++[zs],(p,.lst vs)::l,((O.trans s3).trans s5),e5.hide f5 h5 n5,by simp,?_,?_,⟨zs,n,vs,rfl,rfl,r5,r2.mono (s3.trans s5)⟩,by simp -iota [P],by simp -iota [hl],C⟩
  .rw[fO,hX];exact⟨b7,v⟩
  .intro z hz;rcases cS.mp hz with rfl | hz
   .exact b6
   .exact f z hz
 .have z:i=u.length:=by lia
  subst z;refine .inl ⟨R.stop _ H2 (O.trans U.sub) rfl,zz,λl' b=>k _ _ ?_⟩;obtain⟨e3,S⟩:=U.zX v cond;have T:En K B F2 σ H2 (bE fr a c):=I.back (ls:=fr) e3 (by have:=kS (Γ:=a) (σ:=σ) (bs:=dA fr);rw[nY] at this;exact this);have nh:∀ {p:Addr},L p=none->∀ (i:Nat) (x:D),Hld (bE fr a c) i x->σ[i]?≠some (some (V.ref p)):=λ{p} a1 i x hx hp=>by
   obtain⟨d0,w⟩:∃ d0,Hld a i d0:=by
    rcases hx with hx | hx <;> rw[cT] at hx
    .cases w:a[i]? with
     | none=>rw[w] at hx;cases hx
     | some s=>rw[w] at hx;cases s with
      | none=>cases hx
      | some s=>cases s with
       | fz d=>cases hx
       | ow d=>exact⟨d,.inl w⟩
       | ln d=>cases hx
    .cases w:a[i]? with
     | none=>rw[w] at hx;cases hx
     | some s=>rw[w] at hx;cases s with
      | none=>cases hx
      | some s=>cases s with
       | fz d=>cases hx
       | ow d=>cases hx
       | ln d=>exact⟨d,.inr w⟩
   exact I.wt a1 i d0 w hp
  have A:∀ {z:Addr},z∈(l.map (·.1)).reverse->∃ o,(z,o)∈l:=λ{z} hz=>by
   rw[tD,jc] at hz;obtain⟨⟨y,o⟩,hy,rfl⟩:=hz;exact⟨o,hy⟩
  refine⟨F2,_,.rws n,s1.trans O,T.alloc b _,⟨l',(l.map (·.1)).reverse,rfl,aC,?_,?_,λz hz=>?_⟩,ie n c hl iv⟩
  .rw[hX];refine⟨λhz=>?_,List.pairwise_reverse.mpr (v.imp λh=>lj h)⟩;obtain⟨o,E⟩:=A hz;rw[(S _ E).1] at b;cases b
  .refine(r2.at λz hz=>(S z hz).1).mono (aB.refl F2) λz hz=>?_;obtain⟨o,E⟩:=A hz;exact ao (a_ (S _ E).1 b)
  .rcases cS.mp hz with rfl | hz
   .exact⟨T.nof b,T.dom _ b,T.wt b⟩
   .obtain⟨o,E⟩:=A hz;have G:=f _ E;exact⟨(S _ E).2.1,I.dom _ G,nh G⟩
theorem DO(n:X.calm=true)(i:P3I K X tg iter wi i3)(o:Blk X.N X.env.scope sc Nc fr)(j:∀ s₀ H₀ C ex f,P3G K (aT X sc Nc s₀ H₀ C ex f) tg g g3)(k:∀ s₀ H₀ C ex f,P3 K (aT X sc Nc s₀ H₀ C ex f) elt te e3)(l:autoParam ((fr.filterMap id).Nodup) wP)(hs:autoParam (∀ x,ic iter X.env x=pure x) wT) :
  P3 K X (.ListComp elt [⟨tg,iter,[],0⟩] sc pos) (fX fr wi g (kv te)) (wG fr i3 g3 e3):=
 ⟨nJ (m:=λD h=>qC elt D h) n i.pe o (λa b c d e=>(j a b c d e).pe) (λa b c d e D=>nK rfl (k a b c d e).pe) (λ_ _ _=>rfl) hs,BA l i.rf (j X.s₀ X.H₀ 0 [] []).rf (k X.s₀ X.H₀ 0 [] []).rf⟩
open PySem _2 PySem.Spec PyProof.Rows
theorem E4:bare (.lst xs)=.lst xs:=rfl
theorem E5{ns:Ls0}:bare (.ins C ns xs)=.ins C ns xs:=rfl
theorem E6:bare (.cel q xs)=.lst xs:=rfl
noncomputable def nn (m:Nat):G:=Qr m none
noncomputable def tQ (k:Nat)(ls:On)(Γ cs:G):G:=Γ.mapIdx λi s=>fV (newD ls cs (i + k)) s
section
variable {cs T:G}{ls:On}{s:Option Sl}
theorem Hl:bE ls Γ cs=tQ 0 ls Γ cs:=rfl
theorem zK:tQ k ls (s::Γ) cs=fV (newD ls cs k) s::tQ (k + 1) ls Γ cs:=by
 delta tQ;rw[List.mapIdx_cons,rx]
 congr 2
 funext i s
 rw[Nat.add_right_comm,SI]
end
section
variable {b3 t3:TS3}
def EH (c:On)(a:TI3)(b:TG3)(d:TE3)(Γ:G)(Q:RV->G->Prop)(_:Tag (c,a,b,d))(_:Tag Q):Prop:=wG c a b d Γ Q
theorem He:wG fr i3 g3 e3 Γ Q=EH fr i3 g3 e3 Γ Q ⟨⟩ ⟨⟩:=rfl
abbrev hR (a:Nat->List (List D)->G->Prop)(k:Nat)(ys:List (List D))(Γ:G)(_:Tag a):Prop:=a k ys Γ
def EG (xs:List D)(b:G)(g:On)(h:TG3)(i:TE3)(Q:RV->G->Prop)(_:Tag (g,h,i,Q)):Prop:=∃ c:Nat->List (List D)->G->Prop,c 0 [] (c6 b (dA g))/\
 (∀ k d ys a,xs[k]?=some d->ys.length=k->c k ys a->h d a λf=>i f λr e=>frL r λzs=>c (k + 1) (ys++[zs]) e)/\∀ ys a,ys.length=xs.length->c xs.length ys a->Q (.rws ys) (bE g b a)
theorem G2{b:Tag (fr,i3,g3,e3)}{a:Tag Q}:EH fr i3 g3 e3 Γ Q b a=(i3 Γ λxs Γ1=>xs.length < sizeLine/\EG xs Γ1 fr g3 e3 Q ⟨⟩):=rfl
theorem Ce{t:Tag (fr,g3,e3,Q)}(b:Nat->List (List D)->G->Prop)(g:b 0 [] (c6 Γ1 (dA fr)))(hs:∀ k d ys a,xs[k]?=some d->ys.length=k->b k ys a->g3 d a λe=>e3 e λr c=>frL r λzs=>hR b (k + 1) (ys++[zs]) c ⟨⟩)(f:∀ ys a,ys.length=xs.length->b xs.length ys a->Q (.rws ys) (bE fr Γ1 a)):EG xs Γ1 fr g3 e3 Q t:=⟨b,g,hs,f⟩
def O0 (j:Nat)(a:Option D)(d:D)(Γ:G)(N:G->Prop)(_:Tag N):Prop:=∃ q xs k n,Hld Γ j (.cel q xs)/\a=some (.int k)/\ixN xs.length k=some n/\N (Dp Γ j (xs.set n d))
theorem KJ:HR o3 k3 e3 D1 Γ=(e3 Γ λr Γ1=>o3 Γ1 λbo c=>vB bo λj=>k3 c λb a=>O0 j (b.at a) r.d a D1.nx ⟨⟩):=rfl
theorem Lk{k:Addr->Prop}:Hz (.fz (.adr q)) k=k q:=rfl
theorem Ji{k:List (List D)->Prop}:C2 (.rws xss) k=k xss:=rfl
theorem N0{k:Nat->Prop}:vB (.v j) k=k j:=rfl
def O1 (q:Addr)(Γ:G)(Q:Bo->G->Prop)(_:Tag Q):Prop:=∃ j xs,Hld Γ j (.cel q xs)/\Q (.v j) Γ
theorem KR:NC e3 Γ QB=(e3 Γ λr Γ1=>Hz r λq=>O1 q Γ1 QB ⟨⟩):=rfl
end
noncomputable def gh (c:D->Sl)(p:Addr)(ds:List D)(qs:La0)(a:List (List D)):G:=some (c (.cel p ds))::List.zipWith (λq xs=>some (c (.cel q xs))) qs a
section
variable {c:D->Sl}{p:Addr}{ds:List D}{T T' pre:G}{g y:Nat}
theorem Jl{R:LL0}:uP D.lst (uP (λr=>uP D.int r) R)=uP (λns=>D.lst (ns.map D.int)) R:=by rw[iS];rfl
end
end _3
namespace _2
open PySem PySem.Spec PyProof.Rows
noncomputable def eO (n:Nat)(g:Addr->Option Obj)(m:Addr->Option Str):Heap:={ objs:=Array.ofFn (n:=n) λi=>(g i.1).getD { cls:=(m i.1).elim .none λq=>.str q 0,data:=.freed } }
section
variable {g:Addr->Option Obj}{m:Addr->Option Str}{b:Addr}{o:Obj}
theorem zA(e:h.get? b=some o):o.data≠.freed:=by
 delta U0 at e;cases q:h.objs[b]? with
 | none=>rw[q] at e;cases e
 | some x=>
  rw[q] at e;obtain⟨c,d,a,f⟩:=x;cases a with
  | freed=>cases e
  | _=>cases e;intro y;cases y
theorem kY:(eO n g m).objs.size=n:=by delta eO;exact Uh
theorem lY(a:b < n):(eO n g m).objs[b]?=some ((g b).getD { cls:=(m b).elim .none λq=>.str q 0,data:=.freed }):=by
 delta eO;rw[eR (by rw[Uh];exact a),Array.getElem_ofFn]
theorem y9(h:b < n)(f:g b=some o)(e:o.data≠.freed):(eO n g m).get? b=some o:=by
 delta U0;rw[lY h,f];obtain⟨c,d,i,a⟩:=o;show (match some (Obj.mk c d i a) with | some ⟨_,_,.freed,_⟩=>none | o=>o)=_;split
 .rename_i z;cases z;exact absurd rfl e
 .rfl
theorem uE(e:(eO n g m).get? b=some o):b < n/\g b=some o:=by
 have a:b < n:=by have:=er e;rw[kY] at this;exact this
 refine⟨a,?_⟩;have d:=zA e;delta U0 at e;rw[lY a] at e;cases q:g b with
 | none=>rw[q] at e;cases e
 | some c=>
  rw[q] at e;split at e
  .cases e
  .cases e;rfl
theorem y8{q:Str}(d:b < n)(c:g b=none)(a:m b=some q):wX (eO n g m) b q:=by
 delta wX;rw[lY d,c,a]
 rfl
theorem DT{q:Str}(h:∀ o,g b=some o->o.data≠.freed)(e:wX (eO n g m) b q):g b=none/\m b=some q:=by
 delta wX at e;have i:b < n:=by
  obtain⟨z,_⟩:=ml.mp e;rw[kY] at z;exact z
 rw[lY i] at e;cases c:g b with
 | some o=>
  rw[c] at e;have a:o={ cls:=.str q 0,data:=.freed }:=hF e;exact absurd (by rw[a]) (h o c)
 | none=>
  refine⟨rfl,?_⟩;rw[c] at e;have a:=hF e;cases d:m b with
  | none=>rw[d] at a;have:=congrArg Obj.cls a;cases this
  | some f=>
   rw[d] at a;have:=congrArg Obj.cls a;have y:Qk f 0=Qk q 0:=this;cases y
   rfl
end
noncomputable def pick (h:Heap)(p:Addr->Bool):Heap:=eO h.objs.size (λb=>if p b=true then h.get? b else none) λ_=>none
section
variable {g:Addr}{q:Str}{params:Arguments}{body:Expr}
def yJ (i:Nat)(f:Addr)(sp:Sp)(t:TA):TE:=λσ H Q=>σ[i]?=some (some (.ref f))/\t σ H λvs H1=>sp vs H1 Q E0
end
theorem nW {c:Type}{a:Addr}{v:c}:∀ {l:List (Addr×c)},l.lookup a=some v->(a,v)∈l
 | [],h=>by cases h
 | (b,u)::l,h=>by
  rw[fg] at h;cases q:a == b with
  | true=>
   rw[q] at h;cases h;have e:a=b:=by simpa using q
   rw[e];exact hG
  | false=>rw[q] at h;exact eh _ (nW h)
def NN (K:Fg0)(h:Heap)(P:Addr):Prop:=h.get? P=some { cls:=.none,data:=.fields #[] }/\K.lookup P=none/\∃ c a vs,h.get? c=some a/\a.cls=.type "code"/\a.data=.fields vs/\vs[11]?=some (.ref P)
theorem B1{mb:SV}{CX:CXT}{fa a:Addr}{sp:Sp}{s₁:Shared}{f:List (Addr×Str)}(KX:K.In s₁.heap)(S:s₁.heap.Ns fT mg)(l:s₁.heap.Ns PL mb)(a7:∀ x:Str,x≠"__name__"->mb x=mP x)(T:s₁.heap.NoLimit)(a6:∃ X C,mg "__builtins__"=some (.ref X)/\X≠PL/\s₁.heap.get? X=some C/\C.cls=.type "module"/\C.dict=some PL/\C.data=.plain)(hg:s₁.gens=#[])(Q:s₁.heap.get? a=some { cls:=.type "list",data:=.seq vs.toArray })(hi:PU vs ns)(hl:ns.length<=sizeLine)(hr:cz k Sz)(hT:∀ p∈f,NN K s₁.heap p.1)(F:∀ base:Heap,K.In base->base.Ns fT mg->(∀ P q,f.lookup P=some q->wX base P q)->aM P w K mg base CX k fa fd [x] sp)(O:∀ (s:Shared) (u:Value),Tg s fd ⟨[u],[]⟩ [(x,u)])(a5:∀ H:Hp,Ln H->SqL K H a (ns.map V.int)->sp [.ref a] H (λv _=>v=.bl true) λ_ _ _=>False)(a0:∀ H e s',CX [] H s₁ (λ_ _ _=>False) e s'->False) :
  qG (model P w) Sz (.call (.ref fa) ⟨[.ref a],[]⟩) (λr s'=>r=.ok (.ret (.bool true))/\OldK s₁.heap s'.heap/\s'.os=s₁.os/\QP s'.gens) s₁:=by
 have rv:=o9 hi;have R:=hi.length;have j:∀ {b:Addr} {q:Str},f.lookup b=some q->s₁.heap.get? b=some { cls:=.none,data:=.fields #[] }:=λ{b q} e=>(hT _ (nW e)).1;have B:f.lookup a=none:=by
  cases q:f.lookup a with
  | none=>rfl
  | some y=>have z:=j q;rw[Q] at z;cases z
 have J:∀ H:Hp,Ln H->SqL K H a (ns.map V.int)->HOk P w H s₁.heap->(∀ b u,H b=some u->b=a\/∃ q,f.lookup b=some q)->(H a≠none->K.lookup a=none)->(∀ b q,f.lookup b=some q->H b=some (.tbl #[.str q 0]))->
   qG (model P w) Sz (.call (.ref fa) ⟨[.ref a],[]⟩) (λr s'=>r=.ok (.ret (.bool true))/\OldK s₁.heap s'.heap/\s'.os=s₁.os/\QP s'.gens) s₁:=by
  intro H hO hS N Z hK U;have i:∀ {b:Addr} {o:Obj},s₁.heap.get? b=some o->H b=none->(eO s₁.heap.objs.size (λb=>if (H b).isNone then s₁.heap.get? b else none) λb=>f.lookup b).get? b=some o:=λe n=>y9 (er e) (by rw[n];exact e) (zA e);have a1:∀ {b:Addr} {o:Obj},s₁.heap.get? b=some o->o.cls≠.type "list"->o≠{ cls:=.none,data:=.fields #[] }->H b=none:=λ{b o} e d1 d2=>by
   cases q:H b with
   | none=>rfl
   | some u=>
    rcases Z b u q with z | ⟨y,z⟩
    .subst z;rw[Q] at e;cases e;exact absurd rfl d1
    .rw[j z] at e;cases e;exact absurd rfl d2
  have a2:∀ {b:Addr} {o:Obj} {es:Array U1} {ep:Nat},s₁.heap.get? b=some o->o.data=.dict es ep->H b=none:=λ{b o es ep} e d=>by
   cases q:H b with
   | none=>rfl
   | some u=>
    rcases Z b u q with z | ⟨y,z⟩
    .subst z;rw[Q] at e;cases e;cases d
    .rw[j z] at e;cases e;cases d
  have A:∀ {b:Addr} {m:SV},s₁.heap.Ns b m->(eO s₁.heap.objs.size (λb=>if (H b).isNone then s₁.heap.get? b else none) λb=>f.lookup b).Ns b m:=λ{b m} ⟨o,es,ep,e,d,r⟩=>⟨o,es,ep,i e (a2 e d),d,r⟩;have W:K.In (eO s₁.heap.objs.size (λb=>if (H b).isNone then s₁.heap.get? b else none) λb=>f.lookup b):=λb o e=>by
   refine i (KX b o e) ?_;cases q:H b with
   | none=>rfl
   | some u=>
    rcases Z b u q with z | ⟨y,z⟩
    .subst z;rw[hK (by rw[q];simp)] at e;cases e
    .have z2:=(hT _ (nW z)).2.1;rw[z2] at e;cases e
  have M:∀ {b:Addr} {o:Obj},(if (H b).isNone then s₁.heap.get? b else none)=some o->s₁.heap.get? b=some o/\H b=none:=λ{b o} e=>by
   split at e
   .rename_i z;exact⟨e,by simpa using z⟩
   .cases e
  have hM:Mod K mg (eO s₁.heap.objs.size (λb=>if (H b).isNone then s₁.heap.get? b else none) λb=>f.lookup b):=⟨W,A S,⟨mb,A l,a7⟩,let ⟨mc,h1,h2⟩:=T;⟨mc,A h1,h2⟩,let ⟨X,C,h1,h2,h3,h4,h5⟩:=a6;⟨X,C,h1,h2,i h3 (a1 h3 (by rw[h4];decide) (by intro z;rw[z] at h4;cases h4)),h4,h5⟩⟩;have e0:zU P w K mg (eO s₁.heap.objs.size (λb=>if (H b).isNone then s₁.heap.get? b else none) λb=>f.lookup b) Sz [] s₁ H:=⟨rfl,hM,λb o e=>⟨(M (uE e).2).1,.inl (M (uE e).2).2⟩,Pp kY,trivial,λb l=>absurd (show b∈([]:La0) from l) (by simp),N,.of_eq hg,
   λP q z=>⟨_,0,U P q (DT (λo e=>zA (M e).1) z).2,rfl⟩⟩
  refine Mp ((F _ W (A S) λP q z=>y8 (er (j z)) (by rw[U P q z];rfl) z).run Sz [] s₁ H ⟨[.ref a],[]⟩ [.ref a] [.ref a] _ _ hr e0 (O s₁ (.ref a)) (.cons rfl .nil) (a5 H hO hS)) λr s' h=>?_;cases r with
  | error e=>exact(a0 H e s' h).elim
  | ok fl=>
   cases fl with
   | next=>exact mM h
   | brk=>exact mM h
   | cont=>exact mM h
   | ret u=>
    obtain⟨v,H',os,bare,Y,G,r',q⟩:=h;have q':v=.bl true:=q;subst q';obtain rfl:u=SQ true:=r';refine⟨rfl,⟨λb o e=>?_,λb o e=>Y.there b o e (by simp)⟩,os,bare⟩;cases q:H b with
    | none=>exact .inl (Y.keep b o e q (by intro z;exact absurd (show b∈([]:La0) from z) (by simp)) (by simp))
    | some u=>
     rcases hO b with z | ⟨C,xs,z⟩ | ⟨ps,z⟩
     .rw[q] at z;cases z
     .have z2:=Y.frzs b C _ z;obtain⟨I,_⟩:=N b _ z;obtain⟨e2,_⟩:=G b _ z2;rw[e] at I;cases I;exact .inl e2
     .rcases Z b u q with y | ⟨y,hy⟩
      .subst y;obtain⟨_,_,_,_,I,_⟩:=N b _ z;rw[Q] at I;cases I
      .obtain⟨m,z2⟩:=Y.tbls b ps z;obtain⟨_,_,qs,_,e2,_⟩:=G b _ z2;have I:=j hy;rw[e] at I;cases I;obtain⟨c,oc,ws,c1,c2,c3,c4⟩:=(hT _ (nW hy)).2.2;exact .inr (.inl ⟨⟨c,oc,ws,c1,c2,c3,c4⟩,rfl,#[],qs,rfl,by rw[Array.empty_append];exact e2⟩)
 let L:Hp:=λb=>(f.lookup b).map λq=>.tbl #[.str q 0]
 have D:∀ {b:Addr} {u:HO} {H:Hp},L b=some u->eC P w H s₁.heap b u:=λ{b u H} z=>by
  cases q:f.lookup b with
  | none=>have t:(f.lookup b).map (λq=>HO.tbl #[.str q 0])=some u:=z;rw[q] at t;cases t
  | some y=>
   have t:(f.lookup b).map (λq=>HO.tbl #[.str q 0])=some u:=z;rw[q] at t;cases t;exact⟨y,0,#[],rfl,j q,trivial,λ_ _ r=>by simp -iota [codeAmong] at r⟩
 have g:∀ {b:Addr} {u:HO},L b=some u->∃ q,f.lookup b=some q/\u=.tbl #[.str q 0]:=λ{b u} z=>by
  have t:(f.lookup b).map (λq=>HO.tbl #[.str q 0])=some u:=z;cases q:f.lookup b with
  | none=>rw[q] at t;cases t
  | some y=>rw[q] at t;cases t;exact⟨y,rfl,rfl⟩
 have a4:L a=none:=by show (f.lookup a).map _=none;rw[B];rfl
 have E:∀ b q,f.lookup b=some q->L b=some (.tbl #[.str q 0]):=λb q z=>by show (f.lookup b).map _=_;rw[z];rfl
 cases hk:K.lookup a with
 | some o=>
  have e:=KX a o hk;rw[Q] at e;cases e;refine J L (λb=>?_) (.inr ⟨_,vs.toArray,_,hk,rfl,rfl,rfl,by rw[eH,R];exact hl,by simpa using rv⟩) (λb u z=>D z) (λb u z=>.inr (let ⟨q,h,_⟩:=g z;⟨q,h⟩)) (λz=>absurd a4 z) E;cases z:L b with
  | none=>exact .inl rfl
  | some u=>obtain⟨q,_,rfl⟩:=g z;exact .inr (.inr ⟨_,rfl⟩)
 | none=>
  refine J (upd L a (.frz { cls:=.type "list",data:=.seq vs.toArray } (.lst (ns.map V.int)))) (λb=>?_) (.inl (.inr ⟨{ cls:=.type "list",data:=.seq vs.toArray },aC⟩)) (λb u z=>?_) (λb u z=>?_) (λ_=>hk) λb q z=>?_
  .by_cases l:b=a
   .subst l;exact .inr (.inl ⟨_,_,aC⟩)
   .rw[ao l];cases z:L b with
    | none=>exact .inl rfl
    | some u=>obtain⟨q,_,rfl⟩:=g z;exact .inr (.inr ⟨_,rfl⟩)
  .by_cases l:b=a
   .subst l;rw[aC] at z;cases z;exact⟨Q,by rw[lM0];exact hl,vs,_,rv,Q⟩
   .rw[ao l] at z;exact D z
  .by_cases l:b=a
   .exact .inl l
   .rw[ao l] at z;exact .inr (let ⟨q,h,_⟩:=g z;⟨q,h⟩)
  .rw[ao (λy=>by rw[y,B] at z;cases z)];exact E b q z
theorem Cz{l:PZ}{q:nI}{i:Ls0}{XP:(SV)->Heap->Prop}{I:World->Heap->Prop}{d:DefRec}{K:Params->Fg0}{CX:World->CXT}{sp:Fg0->Sp}{ts:La0}(N:l.most=some n)(A:n<=sizeLine)(C:d.params.defaults=[])(L:cz k Sz)(S:∀ (w:World) (h:Heap),I w h->(K w.params).In h/\∀ P∈ts,h.get? P=some (UC #[]))(F:∀ (w:World) (mg:SV) (t:Addr) (h:Heap),(K w.params).In h->h.Ns fT mg->mg d.name=some (.ref t)->
   ∃ (fd:tj) (b:List (Addr×Str)),(∀ (s:Shared) (u:Value),Tg s fd ⟨[u],[]⟩ [(x,u)])/\(∀ p∈b,p.1∈ts/\(K w.params).lookup p.1=none/\∃ c,Sj h c p.1)/\
    ∀ base:Heap,(K w.params).In base->base.Ns fT mg->(∀ P q,b.lookup P=some q->wX base P q)->aM l.prog w (K w.params) mg base (CX w) k t fd [x] (sp (K w.params)))(z:∀ (K:Fg0) (H:Hp) (a:Addr) (ns:Li0),ns.length<=n->Ln H->SqL K H a (ns.map V.int)->sp K [.ref a] H (λv _=>v=.bl true) λ_ _ _=>False)(D:∀ (w:World) (H:Hp) (s:Shared) (e:Value) (s':Shared),CX w [] H s (λ_ _ _=>False) e s'->False) :
  UP q i XP I l.row.toRowW d [] (λf vs=>Uz f vs):=by
 refine _a.yq N C λw E m mg mb t o pm cd a1 a vs ns G Y ho hd Q B r j g O=>?_;obtain⟨J,y⟩:=S w _ Y;obtain⟨fd,b,R,T,X⟩:=F w mg t _ J G.T.g B;refine B1 J G.T.g G.T.b G.T.builtins G.T.nolimit G.T.bmain O r j (kj g A) L (λp M=>?_) X R (λH W U=>z _ H a ns g W U) λH e s'=>D w H m e s';obtain⟨h1,Z,c,o,vs,_,_,_,_,_,_,_,c1,c2,c3,c4,_⟩:=T p M;exact⟨y _ h1,Z,c,o,vs,c1,c2,c3,c4⟩
end _2
namespace _3
open PySem _2 PySem.Spec PyProof.Rows
abbrev NR:=LL0
noncomputable def eX (a:NR):List (List D):=a.map λns=>ns.map D.int
structure mh (F H:Hp) (p:Addr) (qs:La0) (xss:NR):Prop where
 sub:aB F H
 top:H p=some (.lst (qs.map V.ref))
 nd:(p::qs).Nodup
 len:qs.length=xss.length
 row:∀ (i:Nat) (q:Addr) (xs:Li0),qs[i]?=some q->xss[i]?=some xs->H q=some (.lst (xs.map V.int))
 no:∀ z,z∈p::qs->F z=none
structure Step (H0:Hp) (own:La0) (H:Hp) (qs:La0):Prop where
 keep:∀ b o,H0 b=some o->b∉own->H b=some o
 dom:∀ b,H b=none->H0 b=none
 new:∀ q,q∈qs->q∈own\/H0 q=none
abbrev E0n (K:Fg0)(F:Hp)(σ:_2.St)(H:Hp)(Γ:G):Prop:=En K ⟨F,H,[]⟩ F σ H Γ
section
variable {p:Addr}{xss:NR}
theorem uY(sub:aB F H)(len:σ.length=Γ.length)(fz:∀ (k:Nat) (s:Sl),Γ[k]?=some (some s)->∃ d v,s=.fz d/\σ[k]?=some (some v)/\Rep K F d v):E0n K F σ H Γ where
 sub:=sub
 len:=len
 fz:=λk d h=>by obtain⟨c,v,e,a,b⟩:=fz k _ h;cases e;exact⟨v,a,b⟩
 hl:=λk d h=>by rcases h with h | h <;> (obtain⟨_,_,e,_⟩:=fz k _ h;cases e)
 ow:=λk d q h=>by obtain⟨_,_,e,_⟩:=fz k _ h;cases e
 ln:=λk d q h=>by obtain⟨_,_,e,_⟩:=fz k _ h;cases e
 dis:=λk j d e q h=>by rcases h with h | h <;> (obtain⟨_,_,e,_⟩:=fz k _ h;cases e)
 par:=λk q h=>nomatch h
 keep:=aB.refl F
 new:=λb o h=>.inl h
 rest:=λb o h _=>h
 dom:=λb h=>h
theorem E0n.all(e:E0n K F σ H Γ){s:Sl}(h:Γ[k]?=some (some s)):∃ d v,s=.fz d/\σ[k]?=some (some v)/\Rep K F d v:=by
 cases s with
 | fz d=>obtain⟨v,a,b⟩:=e.fz k d h;exact⟨d,v,rfl,a,b⟩
 | ow d=>
  obtain⟨q,a,_,o⟩:=e.hl k d (.inl h);obtain⟨u,c⟩:=o.some;have:=e.ow k d q h a;rw[show (⟨F,H,[]⟩:Bs).H q=H q from rfl,c] at this;cases this
 | ln d=>
  obtain⟨q,a,_,o⟩:=e.hl k d (.inr h);exact nomatch e.ln k d q h a
theorem E0n.move(e:E0n K F σ H Γ)(s:aB F F')(sub:aB F' H'):E0n K F' σ H' Γ:=uY sub e.len λk f h=>by
 obtain⟨d,v,a,b,c⟩:=e.all h;exact⟨d,v,a,b,c.mono s⟩
theorem E0n.put(e:E0n K F σ H Γ){d:D}(a:j < Γ.length)(r:Rep K F d v):E0n K F (σ.set j (some v)) H (Γ.set j (some (.fz d))):=uY e.sub (by rw[oJ,oJ];exact e.len) λk s h=>by
 by_cases z:k=j
 .subst z;rw[aH a] at h;cases h;exact⟨d,v,rfl,aH (by rw[e.len];exact a),r⟩
 .rw[bP (lj z)] at h ⊢;exact e.all h
theorem E0n.see(e:E0n K F σ H Γ){d:D}(hs:σ[j]?=some (some v))(r:Rep K F d v):E0n K F σ H (Γ.set j (some (.fz d))):=uY e.sub (by rw[oJ];exact e.len) λk s h=>by
 by_cases z:k=j
 .subst z;have a:k < Γ.length:=by rw[<- e.len];exact(gS0 hs).1
  rw[aH a] at h;cases h;exact⟨d,v,rfl,hs,r⟩
 .rw[bP (lj z)] at h;exact e.all h
structure NSt (K:Fg0) (H0:Hp) (own:La0) (i:Nat) (p:Addr) (F:Hp) (σ:_2.St) (H:Hp) (Γ:G) (xss:NR):Prop where
 e:E0n K F σ H Γ
 at_:Γ[i]?=some (some (.fz (.adr p)))
 n:∃ qs,mh F H p qs xss/\Step H0 own H qs
 po:p∈own
theorem mh.grow(n:mh F H p qs xss)(s:aB H H')(sub:aB F' H')(g:∀ b o,F' b=some o->F b=some o\/H b=none):mh F' H' p qs xss where
 sub:=sub
 top:=s _ _ n.top
 nd:=n.nd
 len:=n.len
 row:=λi q f a b=>s _ _ (n.row i q f a b)
 no:=λz c=>by
  cases q:F' z with
  | none=>rfl
  | some o=>
   exfalso;rcases g z o q with h | h
   .rw[n.no z c] at h;cases h
   .rcases cS.mp c with e | hm
    .rw[e,n.top] at h;cases h
    .obtain⟨k,d⟩:=List.mem_iff_getElem?.mp hm;have lk:k < xss.length:=by rw[<- n.len];exact(gS0 d).1
     rw[n.row k z _ d (gE0 lk)] at h;cases h
theorem Step.grow(n:Step H0 own H qs)(s:aB H H'):Step H0 own H' qs:=⟨λb o h a=>s _ _ (n.keep b o h a),λb h=>n.dom b (by
 cases q:H b with
 | none=>rfl
 | some o=>rw[s _ _ q] at h;cases h),n.new⟩
theorem NSt.grow(t:NSt K H0 own i p F σ H Γ xss)(s:aB H H')(a:aB F F')(sub:aB F' H')(d:∀ b o,F' b=some o->F b=some o\/H b=none):NSt K H0 own i p F' σ H' Γ xss:=by
 obtain⟨c,n,st⟩:=t.n;exact⟨t.e.move a sub,t.at_,⟨c,n.grow s sub d,st.grow s⟩,t.po⟩
theorem NSt.up(t:NSt K H0 own i p F σ H Γ xss)(s:aB H H'):NSt K H0 own i p F σ H' Γ xss:=t.grow s (aB.refl F) (t.e.sub.trans s) λ_ _ h=>.inl h
noncomputable def kc (F H:Hp)(l:La0):Hp:=λb=>if b∈l then H b else F b
theorem uh {l:La0}:∀ {qs:La0} {xss:NR},qs.length=xss.length->(∀ q,q∈qs->q∈l)->(∀ (i:Nat) (q:Addr) (xs:Li0),qs[i]?=some q->xss[i]?=some xs->H q=some (.lst (xs.map V.int)))->
  aA K (kc F H l) (xss.map λns=>D.lst (ns.map D.int)) (qs.map V.ref)
 | [],[],_,_,_=>rfl
 | [],_::_,h,_,_=>nomatch h
 | _::_,[],h,_,_=>nomatch h
 | q::qs,xs::xss,h,e,d=>⟨_,_,rfl,⟨q,_,rfl,by delta kc;rw[if_pos (e q (.head _))];exact d 0 q xs rfl rfl,aA.ints xs⟩,uh (U7 h) (λz g=>e z (.tail _ g)) λi f c a b=>d (i + 1) f c a b⟩
theorem mh.HU(n:mh F H p qs xss):aB F (kc F H (p::qs)):=λb o h=>by
 delta kc;rw[if_neg]
 .exact h
 .intro z;rw[n.no b z] at h;cases h
theorem mh.HS(n:mh F H p qs xss){l:La0}:aB (kc F H l) H:=λb o h=>by
 delta kc at h;split at h
 .exact h
 .exact n.sub b o h
theorem NSt.view(t:NSt K H0 own i p F σ H Γ xss):∃ c,aB F c/\E0n K c σ H (Γ.set i (some (.fz (.lst (xss.map λns=>D.lst (ns.map D.int)))))):=by
 obtain⟨d,n,_⟩:=t.n;refine⟨kc F H (p::d),n.HU,(t.e.move n.HU n.HS).see (v:=.ref p) ?_ ⟨p,_,rfl,by delta kc;rw[if_pos (.head _)];exact n.top,uh n.len (λq h=>.tail _ h) n.row⟩⟩;obtain⟨v,a,b⟩:=t.e.fz i _ t.at_;rw[a,show v=.ref p from b]
noncomputable def J7 (R:Li0->Prop)(_:Tag R):RV->G->Prop:=λr _=>∃ ns:Li0,r=.fr (.lst (ns.map D.int))/\R ns
noncomputable def CU (i:Nat)(Γ:G)(a:NR):G:=Γ.set i (some (.fz (.lst (a.map λns=>D.lst (ns.map D.int)))))
theorem NSt.eval{R:Li0->Prop}(t:NSt K H0 own i p F σ H Γ xss)(g:Ref K te e3)(l:e3 (CU i Γ xss) (J7 R ⟨⟩))(k:∀ z H' ns,R ns->H z=none->aB H H'->H' z=some (.lst (ns.map V.int))->QQ (.ref z) H'):te σ H QQ:=by
 obtain⟨s,_,m⟩:=t.view;refine g _ s σ H _ _ QQ m l λv H' Z=>?_;obtain⟨x,c,r,w,n,d,ns,f,hR⟩:=Z;subst f;obtain⟨z,rfl,_,⟨u,a,e⟩,j,_⟩:=d;rw[e.n9] at a;exact k z H' ns hR j (λb o h=>n.rest b o h λ_ q=>nomatch q) a
abbrev TN:=(G->NR->Prop)->G->NR->Prop
def NS (K:Fg0)(i:Nat)(t:TS)(b:TN):Prop:=∀ (H0:Hp) (own:La0) (p:Addr) (F:Hp) (σ:_2.St) (H:Hp) (Γ:G) (xss:NR) (D:Ends) (k:G->NR->Prop),NSt K H0 own i p F σ H Γ xss->
 (∀ F' σ' H' Γ' a,aB F F'->NSt K H0 own i p F' σ' H' Γ' a->k Γ' a->D.nx σ' H')->b k Γ xss->t D σ H
structure N3S (K:Fg0) (X:Cx) (i:Nat) (st:Stmt) (t:TS) (n3:TN):Prop where
 pe:PS X st t
 rf:NS K i t n3
structure yC (K:Fg0) (X:Cx) (i:Nat) (st:List Stmt) (t:TS) (n3:TN):Prop where
 pe:PSs X st t
 rf:NS K i t n3
variable {rest:List Stmt}{t:TS}{n3 m3:TN}
def xK:TN:=λk Γ xss=>k Γ xss
theorem DY:yC K X i [] CK xK:=⟨Ar,λf d p F b H c a D k s e q=>e F b H c a (aB.refl F) s q⟩
theorem jY(h:N3S K X i st t n3):yC K X i [st] t n3:=⟨vV h.pe,h.rf⟩
theorem wA(h:N3S K X i st t n3)(l:yC K X i rest u m3):yC K X i (st::rest) (CJ t u) (λk=>n3 (m3 k)):=⟨nH h.pe l.pe,λm a p F n H o j D k s y q=>
 h.rf m a p F n H o j _ _ s (λC c A e g r w x=>l.rf m a p C c A e g D k w (λB b z d f v=>y B b z d f (r.trans v)) x) q⟩
theorem AL(h:k < n):ixN n (k:Int)=some k:=by
 delta ixN;rw[if_pos (by lia),if_pos (by lia),et]
end
section
variable {p:Addr}{xss:NR}
variable {rest:List Stmt}{t:TS}{n3 m3:TN}
theorem NSt.Lw(t:NSt K H0 own i p F σ H Γ xss)(n:mh F H p qs xss):∃ d,E0n K d σ H (Γ.set i (some (.fz (.lst (qs.map D.adr))))):=by
 have c:aB F (kc F H [p]):=λb o h=>by
  delta kc;rw[if_neg]
  .exact h
  .intro z;rw[fP] at z;rw[z,n.no p (.head _)] at h;cases h
 refine⟨kc F H [p],(t.e.move c n.HS).see (v:=.ref p) ?_ ⟨p,_,rfl,by delta kc;rw[if_pos (.head _)];exact n.top,xn⟩⟩;obtain⟨v,a,b⟩:=t.e.fz i _ t.at_;rw[a,show v=.ref p from b]
theorem Ie {e:Type}:∀ {l:List e} {m k:Nat} {a:e},l.Nodup->l[m]?=some a->l[k]?=some a->m=k
 | [],_,_,_,_,h,_=>by simp -iota at h
 | x::l,0,0,_,_,_,_=>rfl
 | x::l,0,k + 1,a,b,d,c=>by
  cases d;exact absurd (eW (l:=l) (i:=k) c) (hX.mp b).1
 | x::l,m + 1,0,a,b,d,c=>by
  cases c;exact absurd (eW (l:=l) (i:=m) d) (hX.mp b).1
 | x::l,m + 1,k + 1,a,b,d,c=>by rw[Ie (hX.mp b).2 (m:=m) (k:=k) d c]
def xT (i l:Nat)(a:TE3):TN:=λk Γ xss=>a (CU i Γ xss) (J7 (λns=>l < Γ.length/\k (Γ.set l (some (.fz (.lst (ns.map D.int))))) xss) ⟨⟩)
theorem GH{l:Nat}(w:i≠l)(h:PS X st (jo te (gr l)))(x:Ref K te e3):N3S K X i st (jo te (gr l)) (xT i l e3):=⟨h,λC n p F A H B c E k s t q=>by
 refine s.eval x q λz H' a ⟨r,q⟩ f g u=>?_;have y:F z=none:=by
  cases q:F z with
  | none=>rfl
  | some o=>rw[s.e.sub _ _ q] at f;cases f
 have j:aB F (upd F z (.lst (a.map V.int))):=bz y;have sub:aB (upd F z (.lst (a.map V.int))) H':=λb o h=>by
  by_cases e:b=z
  .subst e;rw[aC] at h;cases h;exact u
  .rw[ao e] at h;exact g _ _ (s.e.sub _ _ h)
 have m:=s.grow (F':=upd F z (.lst (a.map V.int))) g j sub λb o h=>by
  by_cases e:b=z
  .subst e;exact .inr f
  .rw[ao e] at h;exact .inl h
 exact t _ _ H' _ c j ⟨m.e.put (d:=.lst (a.map D.int)) (v:=.ref z) r ⟨z,_,rfl,aC,aA.ints a⟩,by rw[bP (lj w)];exact s.at_,m.n,s.po⟩ q⟩
end
def spN (K:Fg0)(n:Nat)(S:List D->NR->(NR->Prop)->Prop):Sp:=λvs H Q _=>vs.length=n/\∃ F ds p qs xss k3,aA K F ds vs/\ds[1]?=some (.adr p)/\mh F H p qs xss/\S ds xss k3/\
 ∀ a,k3 a->∀ H' b,mh F H' p b a->Step H (p::qs) H' b->Q .non H'
section
variable {p:Addr}{xss:NR}
variable {rest:List Stmt}{t:TS}{n3 m3:TN}
def ifN (d:TT3)(a b:TN):TN:=λk Γ xss=>d Γ λc Γ1=>Γ1=Γ/\match c with
 | true=>a k Γ xss
 | false=>b k Γ xss
theorem Ig{c:Expr}{a b:List Stmt}(n:P3T K X c tc A3)(v:yC K X i a t n3)(r:yC K X i b u m3):N3S K X i (.If c a b pos) (I0 tc t u) (ifN A3 n3 m3):=⟨H8 n.pe v.pe r.pe,λw e p F f H g d x k s m q=>by
 refine n.rf _ F f H g _ _ s.e q λc H' Z=>?_;obtain⟨B,y,A,z,_,l⟩:=Z;have j:=s.up (H':=H') λb o h=>z.rest b o h λ_ q=>nomatch q
 cases c with
 | true=>exact v.rf w e p F f H' g d x k j m l
 | false=>exact r.rf w e p F f H' g d x k j m l⟩
def K1 (i:Nat)(xs:List D)(Γ:G)(c:NR)(e:TG3)(f:TN)(k:G->NR->Prop)(_:Tag (e,f,k)):Prop:=∃ b:Nat->G->NR->Prop,b 0 Γ c/\(∀ m d Γ a,xs[m]?=some d->b m Γ a->e d Γ λΓ'=>Γ'[i]?=Γ[i]?/\f (b (m + 1)) Γ' a)/\∀ Γ a,b xs.length Γ a->k Γ a
def zB (i:Nat)(a:TI3)(b:TG3)(c:TN):TN:=λk Γ xss=>a Γ λxs Γ1=>Γ1=Γ/\K1 i xs Γ xss b c k ⟨⟩
theorem ju{a:TN}{k:G->NR->Prop}:zB i i3 g3 a k Γ xss=i3 Γ λxs Γ1=>Γ1=Γ/\K1 i xs Γ xss g3 a k ⟨⟩:=rfl
theorem lZ{b3:TN}{k:G->NR->Prop}{t:Tag (g3,b3,k)}(b:Nat->G->NR->Prop)(f:b 0 Γ xss)(c:∀ m d Γ a,xs[m]?=some d->b m Γ a->g3 d Γ λΓ'=>Γ'[i]?=Γ[i]?/\b3 (b (m + 1)) Γ' a)(e:∀ Γ a,b xs.length Γ a->k Γ a):K1 i xs Γ xss g3 b3 k t:=⟨b,f,c,e⟩
theorem pO{Q:TS}{b3:TN}(hp:UX (model X.prog X.w) X.A X.env X.xe)(hc:X.calm=true)(V:P3I K X tg iter wi i3)(W:P3G K X tg g g3)(hb:yC K X i body Q b3)(hs:autoParam (∀ x,ic iter X.env x=pure x) wT) :
  N3S K X i (.For tg iter body [] pos) (I9 wi g Q) (zB i i3 g3 b3):=⟨Du hp hc V.pe W.pe hb.pe hs,λv f p F B H I xss DD k s kk q=>by
 refine V.rf _ F B H I _ _ s.e q λJ H1 G a1 u T M R Z=>?_;obtain⟨a2,N,i0,it,ie⟩:=Z;have t1:NSt K v f i p G B H1 I xss:=s.grow (λb o h=>M.rest b o h λ_ q=>nomatch q) T M.sub λb o h=>M.new b o h;refine⟨λm n B H=>n=u.length - m/\m<=u.length/\∃ l d yss,aB G l/\NSt K v f i p l B H d yss/\N m d yss,⟨_,rfl,eg _,G,I,xss,aB.refl _,t1,i0⟩,?_⟩;rintro m n r O ⟨rfl,hm,F2,j,yss,A,w,U⟩;by_cases lt:m < u.length
 .refine .inr ⟨R.go m O (A.trans w.e.sub) lt,λe P=>∃ l d yss,aB G l/\NSt K v f i p l e P d yss/\N (m + 1) d yss,λe P ⟨l,d,t,a,b,c⟩=>⟨u.length - (m + 1),by omega,rfl,lt,l,d,t,a,b,c⟩,λx D y=>?_⟩;have Y:u[m]?=some u[m]:=gE0 lt;obtain⟨E,S,L,r3⟩:=R.turn A w.e Y y;have C:NSt K v f i p E r D j yss:=w.grow (λb o h=>L.rest b o h λ_ q=>nomatch q) S L.sub λb o h=>L.new b o h;refine W.rf _ E r D j x _ _ _ C.e r3 (it m _ j yss Y U) λe d e4 Z=>?_;obtain⟨a4,q4⟩:=Z;have t4:NSt K v f i p E e D d yss:=⟨e4,a4.trans C.at_,C.n,C.po⟩;exact hb.rf v f p E e D d yss _ (N (m + 1)) t4 (λl e P d t sF t' q'=>⟨l,d,t,(A.trans S).trans sF,t',q'⟩) q4
 .have z:m=u.length:=by lia
  subst z;exact .inl ⟨R.stop _ O (A.trans w.e.sub) rfl,kk F2 r O j yss (T.trans A) w (ie j yss U)⟩⟩
theorem IL:∀ {ds:List D} {vs:List V},cg K F σ (ds.map Bo.d) vs->aA K F ds vs
 | [],_,h=>h
 | d::ds,_,⟨v,a,e,c,b⟩=>⟨v,a,e,c,IL b⟩
def vb (i n:Nat)(S:List D->NR->(NR->Prop)->Prop)(c:dO):TN:=λk Γ xss=>c Γ λb _=>b.length=n/\∃ ds p,b=ds.map Bo.d/\ds[1]?=some (.adr p)/\Γ[i]?=some (some (.fz (.adr p)))/\S ds xss λa=>k Γ a
theorem mh.less(s:aB F F')(n:mh F' H p qs xss):mh F H p qs xss:=⟨s.trans n.sub,n.top,n.nd,n.len,n.row,λz a=>by
 cases q:F z with
 | none=>rfl
 | some o=>have:=s _ _ q;rw[n.no z a] at this;cases this⟩
theorem Step.trans{i:Hp}{d c:La0}(a:Step H0 own i d)(g:p∈own)(b:Step i (p::d) H2 c):Step H0 own H2 c where
 keep:=λx o h f=>b.keep x o (a.keep x o h f) λz=>by
  rcases cS.mp z with e | z
  .exact f (e ▸ g)
  .rcases a.new x z with w | w
   .exact f w
   .rw[w] at h;cases h
 dom:=λx h=>a.dom x (b.dom x h)
 new:=λq h=>by
  rcases b.new q h with w | w
  .rcases cS.mp w with e | w
   .exact .inl (e ▸ g)
   .exact a.new q w
  .exact .inr (a.dom q w)
theorem GI{S:List D->NR->(NR->Prop)->Prop}{ta:TA}{E:XK}(h:PS X st (w6 (qb (spN K n S) [] E ta)))(P:tV K ta t3):N3S K X i st (w6 (qb (spN K n S) [] E ta)) (vb i n S t3):=⟨h,λT j p F a H c xss W k s M q=>by
 refine P _ F a H c _ _ s.e q λA y Z=>?_;obtain⟨r,z,V,u,m,C,N,R,g,O,l,x,I⟩:=Z;have Q:g=p:=by rw[s.at_] at x;cases x;rfl
 subst Q O;have t:NSt K T j i g r a y c xss:=s.grow (λb o h=>m.rest b o h λ_ q=>nomatch q) u m.sub λb o h=>m.new b o h;obtain⟨G,J,B⟩:=t.n;have v:=IL C;show spN K n S (A++[]) y _ E;rw[jw];refine⟨by rw[v.length,<- N,lM0],r,R,g,G,xss,_,v,l,J,I,λd L U f w e=>?_⟩;exact M r a U c d u ⟨t.e.move (aB.refl _) w.sub,s.at_,⟨f,w,B.trans s.po e⟩,s.po⟩ L⟩
end
noncomputable def rP (N:Ls0)(ds:List D):G:=(ds.map λd=>some (Sl.fz d))++Qr (N.length - ds.length) none
theorem okN{S:List D->NR->(NR->Prop)->Prop}(F:Fun K x qual st f fd)(V:ar N ps (ah st))(Z:autoParam (ps.length<=N.length) wP)(hbody:∀ (e:Value) (A:Around) (outer:List Env) (s:Shared) (H:Hp) (E:XK),cz k (A.deeper (envOfC qual (ah st) s.heap.objs.size f e))->
   ∃ t n3,yC K (yj CX0 P w K mg base N qual (ah st) f e A outer s H E).nox 1 (gI st) t n3/\∀ ds xss k3,S ds xss k3->ds.length=ps.length->n3 (λ_ c=>k3 c) (rP N ds) xss) :
  aM P w K mg base CX0 (k + 1) f fd ps (spN K ps.length S):=by
 refine F.ok V (λC H Q E h=>h.1) λe A outer s H C Q E O h=>?_;obtain⟨R,X,ds,p,n,xss,k3,i,y,r,T,U⟩:=h;obtain⟨t,n3,u,J⟩:=hbody e A outer s H E O;have dl:ds.length=ps.length:=by rw[<- i.length];exact R
 refine⟨t,u.pe,u.rf H (p::n) p X _ H (rP N ds) xss _ (λ_ c=>k3 c) ⟨uY r.sub ?_ ?_,?_,⟨n,r,⟨λb o h _=>h,λb h=>h,λq h=>.inl (.tail _ h)⟩⟩,.head _⟩ (λF' z W B c I G M=>?_) (J ds xss k3 T dl)⟩
 .delta _2.start rP;rw[bM,bM,lM0,lM0,HT,HT,i.length]
 .intro m Y g;unfold rP at g;by_cases lt:m < ds.length
  .rw[eQ (by rw[lM0];exact lt),ba] at g;cases q:ds[m]? with
   | none=>rw[q] at g;cases g
   | some d=>
    rw[q] at g;cases g;obtain⟨v,a,b⟩:=i.get q;refine⟨d,v,rfl,?_,b⟩;delta _2.start;rw[eQ (by rw[lM0,i.length];exact lt),ba,a];rfl
  .rw[hC (by rw[lM0];exact WF 6567239198 lt)] at g;have:=(SX.mp (eW g)).2;cases this
 .delta rP;have lt:1 < ds.length:=(gS0 y).1;rw[eQ (by rw[lM0];exact lt),ba,y];rfl
 .obtain⟨l,L,j⟩:=G.n;exact U c M W l (L.less I) j
section
variable {g:Nat}{p:Addr}{xss:NR}
theorem Ao:∀ {qs:La0} {xss:NR},qs.length=xss.length->(∀ (i:Nat) (q:Addr) (xs:Li0),qs[i]?=some q->xss[i]?=some xs->H q=some (.lst (xs.map V.int)))->dP K F H qs (eX xss)
 | [],[],_,_=>rfl
 | [],_::_,h,_=>nomatch h
 | _::_,[],h,_=>nomatch h
 | q::qs,xs::xss,h,d=>⟨_,_,_,rfl,d 0 q xs rfl rfl,aA.ints xs,Ao (U7 h) λi e c a b=>d (i + 1) e c a b⟩
end
section
variable {l:Nat}{p2:Pos}{k:Expr}{to:TE}
theorem Mq(c:i≠l)(hN:X.N.Nodup)(d:X.N[l]?=some x)(b:Loc X.env.scope x)(a:P3 K X e te e3)(hs:autoParam (zJ e (some (.Name x pos')) pos.line X.env=pure false) wE)(f:autoParam (X.fn x=true\/X.env.scope.names.lookup x=some .local) wq0) :
  N3S K X i (.Assign [.Name x pos'] e pos) (jo te (gr l)) (xT i l e3):=GH c (aw hN d b a hs f).pe a.rf
variable {kk:Nat}{S:List D->NR->(NR->Prop)->Prop}{rest:List Stmt}
theorem xN(F:aM X.prog X.w X.K X.mg X.base CX0 kk f fd ps (spN K n S))(d:cz kk X.A)(j:Gl X x)(g:X.mg x=some (.ref f))(h:lF X.K (.ref f)=true)(l:Binds X.K fd ps [])(c:tW K X (e::es) t t3)(hs:autoParam (zJ (.Call (.Name x p) (e::es) [] p2) none pos.line X.env=pure false) wE)(b:autoParam ((x == ("__debug__":Str))=false) wP)(k:autoParam (ed (e::es) X.env=(false,eval e X.env)::ed es X.env) wE)(a:autoParam ((backTo p2 (ed es X.env)).any (·.1)=false) wE) :
  N3S K X i (.Expr (.Call (.Name x p) (e::es) [] p2) pos) (w6 (qb (spN K n S) [] E0 t)) (vb i n S t3):=GI (As (Av F d j g h l .nil qg c.pe b k a) hs) c.rf
end
end _3
namespace _2
open PySem
structure FN (K:Fg0) (x q:Str) (st:Stmt) (f:Addr) (d:tj):Prop where
 n:fQ K fT x=some (some (.ref f))
 F:Fun K x q st f d
structure FM (K:Fg0) (C:Addr) (x q:Str) (st:Stmt) (f:Addr) (d:tj):Prop where
 m:hE K (.ref C) x=some (some (.ref f))
 i:RD K (.ref f)=true
 F:Fun K x q st f d
structure FY (K:Fg0) (x q:Str) (st:Stmt) (f:Addr) (d:tj) (ps:Ls0):Prop where
 F:Fun K x q st f d
 b:Binds K d ps []
structure FX (K:Fg0) (mg:SV) (x q:Str) (st:Stmt) (f:Addr) (d:tj) (ps:Ls0):Prop where
 F:Fun K x q st f d
 b:Binds K d ps []
 m:mg x=some (.ref f)
section
variable {q:Str}{d:tj}
theorem fx(X:K.In h)(G:h.Ns fT mg)(F:FN K x q st f d)(b:∀ (kV a e:Value) (i:Option Addr) (c g:Value) (us:Lv0),us.length=ps.length->Uw (FB x q (l9 st) (gI st) (ah st) .none kV a e i c g) ⟨us,[]⟩=pure (ps.zip us)):FX K mg x q st f d ps:=⟨F.F,F.F.binds b,ot X G F.n⟩
theorem fy(F:FM K C x q st f d)(b:∀ (kV a e:Value) (h:Option Addr) (c g:Value) (us:Lv0),us.length=ps.length->Uw (FB x q (l9 st) (gI st) (ah st) .none kV a e h c g) ⟨us,[]⟩=pure (ps.zip us)):FY K x q st f d ps:=⟨F.F,F.F.binds b⟩
theorem cz.dn(r:cz k A)(h:autoParam (j<=k) wP):cz j A:=r.mono h
theorem FM.me(F:FM K C x q st f d):Meth K C x f:=⟨F.m,F.i,F.F.kp⟩
end
open PySem PySem.Spec PyProof.Rows
noncomputable def yD (K:Fg0)(d:Addr):List (Str×Addr)->Prop
 | []=>True
 | p::l=>fQ K d p.1=some (some (.ref p.2))/\yD K d l
theorem yD.at {K:Fg0}{d:Addr}{k:Str}{f:Addr}:∀ {l:List (Str×Addr)},yD K d l->l.lookup k=some f->fQ K d k=some (some (.ref f))
 | [],_,h=>nomatch h
 | (y,g)::l,⟨b,a⟩,h=>by
  rw[fg] at h;by_cases e:k=y
  .subst e;rw[beq_self_eq_true] at h;cases h;exact b
  .rw[show (k == y)=false from beq_eq_false_iff_ne.mpr e] at h;exact yD.at a h
structure HE (K:Fg0) (P:Params) (mg:SV) (x:Str) (d:Addr) (l:List (Str×Addr)):Prop where
 mg:mg x=some (.ref d)
 ex:∃ es n,K.lookup d=some ⟨.type "dict",none,.dict es n,#[]⟩/\RX P es.toList
 it:yD K d l
section
variable {d:Addr}{l:List (Str×Addr)}{i:Expr}{ty:TE}
def Js (l:List (Str×Addr))(y:V)(H:Hp)(Q:VK):Prop:=∃ k f,y=.str k/\l.lookup k=some f/\Q (.ref f) H
theorem Gn(o:Gl X x)(D:HE X.K X.w.params X.mg x d l)(m:PE X i ty)(hs:Lo i)(r:autoParam ((x == ("__debug__":Str))=false) wP):PE X (.Subscript (.Name x p) i pos) (λσ H Q=>ty σ H λy H1=>Js l y H1 Q):=by
 intro a s σ H Q I h;refine Fq PySem.F.slot_dict_getitem.lookup hs (thn (rm (v:=.ref d) o D.mg rfl r a s σ H (λv G=>v=.ref d/\G=H) I ⟨rfl,rfl⟩) λu e Z=>?_);obtain⟨v,H1,E,j,C,B⟩:=Z;subst C;subst B;obtain rfl:u=.ref d:=j;refine thn (m a e σ _ _ E h) λK J Z=>?_;obtain⟨y,F,c,g,k,f,z,A,q⟩:=Z;subst z;obtain⟨t,rfl⟩:=g;obtain⟨L,n,lk,kl⟩:=D.ex;have b:=PySem.W.mapOf_K (prog:=X.prog) (w:=X.w) c.kIn lk kl;exact⟨b.typeIs,wpAny_getItem_of (strKind_is X.prog X.w k t) b (PySem.W.find_K lk (D.it.at A)) ⟨.ref f,F,c.tok _,rfl,q⟩⟩
theorem DI{sp:Sp}(lk:∃ d c b,X.K.lookup f=some ⟨d,c,.func fd,b⟩)(F:aM X.prog X.w X.K X.mg X.base CX0 k f fd ps sp)(D:cz k X.A)(G:Binds X.K fd ps [])(hN:X.N[j]?=some x)(C:Vis X.env.scope x)(J:PA X (e::es) t)(l:autoParam ((x == ("__debug__":Str))=false) wP)(m:autoParam ((x == ("__classdict__":Str))=false) wP)(E:autoParam (ed (e::es) X.env=(false,eval e X.env)::ed es X.env) wE)(g:autoParam ((backTo pos (ed es X.env)).any (·.1)=false) wE) :
  PE X (.Call (.Name x p) (e::es) [] pos) (yJ j f sp t):=by
 intro a s n H Q I ⟨L,K⟩;obtain⟨d,c,b,lk⟩:=lk;have o:∀ {h:Heap},X.K.In h->U8 f h:=λ{h} z=>⟨d,c,fd,b,z _ _ lk⟩;refine oi (thn (v_ (i:=j) hN C l m a s n H (λv y=>v=.ref f/\y=H) I ⟨_,L,rfl,rfl⟩) λu A Z=>?_);obtain⟨v,y,w,B,N,M⟩:=Z;subst N;subst M;obtain rfl:u=.ref f:=B;refine SZ (o w.kIn) (thn (J pos a A n _ _ w K) λP R ⟨O,S,q,r,z⟩=>⟨o q.kIn,?_⟩) E g;exact pG (dvs:=[]) (ds:=[]) F D G .nil qg q r (by rw[jw];exact z)
end
end _2
namespace _3
open PySem _2 PySem.Spec PyProof.Rows
section
variable {d:Addr}{l:List (Str×Addr)}{b:Expr}{tb:TE}
theorem Gv(d:P3B K X a ta a3)(c:P3B K X b tb b3):P3 K X (.BinOp a .BitAnd b pos) (tOp (rI0 λi j=>.int (AC i j)) ta tb) (cn (i2' λi j=>.int (AC i j)) a3 b3):=⟨kR J2 d.pe c.pe,fc (qR λ_ _ _=>rfl) d.rf c.rf⟩
def OO (l:List (Str×Addr))(y:D)(Γ:G)(Q:RV->G->Prop):Prop:=∃ k f,y=.str k/\l.lookup k=some f/\Q (.fz (.adr f)) Γ
theorem Ay(h:Gl X x)(D:HE X.K X.w.params X.mg x d l)(b:P3B K X a ta a3)(hs:Lo a:=by intro _ _;rfl)(i:autoParam ((x == ("__debug__":Str))=false) wP):P3 K X (.Subscript (.Name x p) a pos) (λσ H Q=>ta σ H λy H1=>Js l y H1 Q) (Bp (OO l) a3):=
 ⟨Gn h D b.pe hs i,yU (r:=Js l) (by
  intro B F σ H n x o Q s e c ⟨k,f,m,j,q⟩ g;subst m;cases c;exact⟨k,f,rfl,j,g _ _ (iM (d:=.adr f) e rfl q)⟩) b.rf⟩
def nv (j n:Nat)(f:Addr)(S:S3)(b:dO)(Γ:G)(Q:RV->G->Prop):Prop:=Γ[j]?=some (some (.fz (.adr f)))/\b Γ λa Γ1=>a.length=n/\(du a).Nodup/\S (c6 Γ1 (a.map some)) λr Γa=>Q r (bE ((a.map some).map cM) Γ1 Γa)
theorem BC(h:tV K t t3):Ref K (yJ j f (sp3 K n S) t) (nv j n f S t3):=by
 intro B F i H m Q N e ⟨D,u⟩ z;obtain⟨y,A,p⟩:=e.fz j _ D;obtain rfl:y=.ref f:=p;refine⟨A,h B F i H m _ _ e u λL O Z=>?_⟩;obtain⟨I,l,M,o,g,d,C,x,w⟩:=Z;refine⟨by rw[d.length];exact C,I,_,_,_,g.args d x,oV,w,λr k q v G J E s=>?_⟩;obtain⟨a,b,c⟩:=g.called E s;exact z v G ⟨J,_,r,o.trans a,b,c,q⟩
theorem cN{q:Str}(s:Fun X.K y q st f fd)(F:aM X.prog X.w X.K X.mg X.base CX0 k f fd ps (sp3 K n S))(m:cz k X.A)(r:Binds X.K fd ps [])(hN:X.N[j]?=some x)(l:Vis X.env.scope x)(d:tW K X (e::es) t t3)(b:autoParam ((x == ("__debug__":Str))=false) wP)(c:autoParam ((x == ("__classdict__":Str))=false) wP)(o:autoParam (ed (e::es) X.env=(false,eval e X.env)::ed es X.env) wE)(a:autoParam ((backTo pos (ed es X.env)).any (·.1)=false) wE) :
  P3 K X (.Call (.Name x p) (e::es) [] pos) (yJ j f (sp3 K n S) t) (nv j n f S t3):=⟨DI (by obtain⟨i,h,_,_,_,_,_,_,g,_,lk,_⟩:=s.ex;exact⟨i,h,g,lk⟩) F m r hN l d.pe b c o a,BC d.rf⟩
end
open PySem _2 PySem.Spec PyProof.Rows
def yw (Γ:G):Prop:=∀ s,some s∈Γ->∃ d,s=.fz d
section
variable {p:Addr}{xss:NB}
theorem yw.at(h:yw Γ){s:Sl}(e:Γ[k]?=some (some s)):∃ d,s=.fz d:=h s (eW e)
theorem Nl(e:En K B F σ H Γ)(h:yw Γ):E0n K F σ H Γ:=uY e.sub e.len λk s c=>by
 obtain⟨d,rfl⟩:=h.at c;obtain⟨v,a,b⟩:=e.fz k d c;exact⟨d,v,rfl,a,b⟩
variable {rest:List Stmt}{t:TS}{n3 m3:TNB}
end
section
variable {p:Addr}{xss:NB}
variable {rest:List Stmt}{t:TS}{n3 m3:TNB}
noncomputable def xM (R:List Bool->Prop)(_:Tag R):RV->G->Prop:=λr _=>∃ a:List Bool,r=.fr (.lst (a.map D.bl))/\R a
end
end _3
namespace _2
open PySem PySem.Spec PyProof.Rows
abbrev Ris (xs:Array Nat):Prop:=xs.toList.Pairwise (· < ·)
theorem Ris.lt{xs:Array Nat}(h:Ris xs){a b:Nat}(e:i < k)(d:xs[i]?=some a)(c:xs[k]?=some b):a < b:=by
 rw[<- dm] at d c;obtain⟨g,rfl⟩:=gS0 d;obtain⟨f,rfl⟩:=gS0 c;exact Ng.mp h i k g f e
theorem tO {xs:Array Nat}(h:Ris xs)(j:Nat):∀ fuel lo hi,hi - lo<=fuel->lo<=hi->hi<=xs.size->(∀ i a,i < lo->xs[i]?=some a->a < j)->(∀ i a,hi<=i->xs[i]?=some a->j<=a)->
  Px xs j fuel lo hi<=xs.size/\(∀ i a,i < Px xs j fuel lo hi->xs[i]?=some a->a < j)/\∀ i a,Px xs j fuel lo hi<=i->xs[i]?=some a->j<=a
 | 0,lo,hi,n,p,g,m,l=>by
  have e:lo=hi:=by lia
  subst e;exact⟨g,m,l⟩
 | fuel + 1,lo,hi,n,p,g,m,l=>by
  unfold Px;by_cases b:lo < hi
  .rw[if_pos b];dsimp only;have o:(lo + hi) / 2 < xs.size:=by exact WF 0xf9988d22cca536f9f2bf4f838 g b (ea _ _)
   have k:xs[(lo + hi) / 2]?=some xs[(lo + hi) / 2]:=eR o;have q:xs.getD ((lo + hi) / 2) j=xs[(lo + hi) / 2]:=by rw[gp,k];rfl
   rw[q];by_cases f:xs[(lo + hi) / 2] < j
   .rw[if_pos f];refine tO h j fuel _ _ (by exact WF 0x2eb46392cf6d295230ca9b59fe18787e48b68f52 n (V5 (by decide)) V1 (V3 (WF 0x18b9283a774a361b44a4b b (ea _ _)))) (by exact WF 0x18b9283a774a361b44a4b b (ea _ _)) g (λi a c d=>?_) l;rcases Pe (show i<=(lo + hi) / 2 by exact WF 183415229342 c) with z | z
    .exact Pv (h.lt z d k) f
    .subst z;rw[k] at d;cases d;exact f
   .rw[if_neg f];refine tO h j fuel _ _ (by exact WF 0x4fad125b95bfd9aafc17bc1bfa713bd3f52 n (ea _ _) V1 (V3 (WF 0x4bb7043613148022f94bc4b b (V5 (by decide))))) (by exact WF 0x4bb7043613148022f94bc4b b (V5 (by decide))) (by exact fq (by assumption)) m (λi a c d=>?_);rcases Pe c with z | z
    .have:=h.lt z k d;exact WF 0x82c888bba74b f this
    .subst z;rw[k] at d;cases d;exact WF 6567239198 f
  .rw[if_neg b];have e:lo=hi:=by lia
   subst e;exact⟨g,m,l⟩
theorem fm{xs:Array Nat}(h:Ris xs)(j:Nat):hP xs j<=xs.size/\(∀ i a,i < hP xs j->xs[i]?=some a->a < j)/\∀ i a,hP xs j<=i->xs[i]?=some a->j<=a:=
 tO h j xs.size 0 xs.size (by exact bU _) (by exact eg _) (bU _) (λi a b=>by lia) λi a b c=>by
  have:=(ml.mp c).1;lia
noncomputable def frm (xs:Array Nat):Nat->Nat
 | 0=>0
 | i + 1=>xs.getD i 0 + 1
theorem Cp{xs:Array Nat}(h:Ris xs)(d:i<=xs.size):hP xs (frm xs i)=i:=by
 obtain⟨f,c,b⟩:=fm h (frm xs i);generalize hP xs (frm xs i)=p at *;rcases Py p i with z | z | z
 .exfalso;cases i with
  | zero=>lia
  | succ i=>
   have e:xs[i]?=some xs[i]:=eR (by assumption);have:=b i _ (by lia) e;simp only[frm,gp,e,tE] at this;lia
 .exact z
 .exfalso;have e:xs[i]?=some xs[i]:=eR (by omega);have q:=c i _ z e;cases i with
  | zero=>simp only[frm] at q;lia
  | succ i=>
   have a:xs[i]?=some xs[i]:=eR (by assumption);simp only[frm,gp,a,tE] at q;have:=h.lt (ox i) a e;exact WF 5769952313246 q this
theorem r_{xs:Array Nat}(h:Ris xs)(k:j∉xs.toList):Ris (jf xs (hP xs j) j):=by
 obtain⟨s,n,l⟩:=fm h j;generalize hP xs j=p at *;show (jf xs p j).toList.Pairwise _;rw[yc];have g:(xs.toList.take p++xs.toList.drop p).Pairwise (· < ·):=by rw[lH];exact h
 obtain⟨r,q,o⟩:=iR.mp g;have lo:∀ a∈xs.toList.take p,a < j:=λa d=>by
  obtain⟨i,e,rfl⟩:=qv d;have c:=e;rw[dU] at c;refine n i _ (by exact WF 0x8c6a8d519f4b c (lC _ _)) ?_;rw[<- dm,QV];exact gE0 (by exact WF 0x8c6a8d519f4b c (mu _ _))
 have f:∀ a∈xs.toList.drop p,j < a:=λa d=>by
  obtain⟨i,e,rfl⟩:=qv d;have c:=e;rw[dw] at c;have m:xs.toList[p + i]?=some ((xs.toList.drop p)[i]):=by rw[List.getElem_drop];exact gE0 (by lia)
  rcases Pe (l (p + i) _ (by lia) (by rw[<- dm];exact m)) with z | z
  .exact z
  .exact absurd (z ▸ eW m) k
 exact iR.mpr ⟨r,kq.mpr ⟨f,q⟩,λa d b hb=>by
  rcases cS.mp hb with rfl | hb
  .exact lo a d
  .exact o a d b hb⟩
structure TbI (led:Bool) (t:mH) (n:Nat):Prop where
 fits:t.fits n=true
 led:t.led=led
 dum:t.dummies=#[]
 ris:Ris t.place
theorem yN{t:mH}(p:t.dummies=#[])(c:Ris t.place)(h:t.slot j=.empty):j∉t.place.toList:=by
 intro g;obtain⟨i,a,e⟩:=qv g;obtain⟨q,m,l⟩:=fm c j;have b:t.place[i]?=some j:=by rw[<- dm,gE0 a,e]
 have k:hP t.place j=i:=by
  rcases Py (hP t.place j) i with z | z | z
  .have f:hP t.place j < t.place.size:=by rw[dy] at a;exact WF 0x8cbc5a54064b a z
   have d:t.place[hP t.place j]?=some t.place[hP t.place j]:=eR f;have o:=l _ _ (bU _) d;have n:=c.lt z d b;lia
  .exact z
  .have:=m i j z b;lia
 delta Q9 at h;dsimp only at h;rw[k,b] at h;simp -iota at h
theorem vw{t:mH}(a:t.dummies=#[]):t.slot j≠.dummy:=by
 delta Q9;dsimp only;split
 .exact λh=>by cases h
 .rw[a];simp -iota [Pz]
theorem xA {t:mH}(g:t.dummies=#[]){f:Nat->Int}{h:Int}:∀ (fuel:Nat) (p:Qy) {j:Nat} {d:Option Nat},p.dummy=none->vl t f h fuel p=some (.empty j d)->d=none/\t.slot j=.empty
 | 0,p,j,d,_,e=>by unfold vl at e;cases e
 | fuel + 1,p,j,d,c,e=>by
  have adv:∀ q:Qy,q.dummy=none->(t.advance q).dummy=none:=λq b=>by
   delta SetTable.advance;split
   .exact b
   .exact b
  unfold vl at e;split at e
  .rename_i a;cases e;exact⟨c,a⟩
  .rename_i a;exact absurd a (vw g)
  .split at e
   .cases e
   .exact xA g fuel _ (adv _ c) e
theorem G8{t:mH}(f:t.dummies=#[]){h:Int}{b:Bool}(e:t.freeSlot h=some (j,b)):b=false/\t.slot j=.empty:=by
 delta SetTable.freeSlot at e;split at e
 .rename_i g d c;obtain⟨rfl,a⟩:=xA f _ _ (by rfl) c;cases e;exact⟨rfl,a⟩
 .cases e
theorem ur(n:Nat):Ris (Vm n):=by
 show (Vm n).toList.Pairwise _;rw[Array.toList_range];exact qp
theorem TbI.standIn{t:mH}(h:t.led=led)(n:Nat):TbI led (t.standIn n) n:=⟨SetTable.standIn_fits t n,h,rfl,ur n⟩
theorem TbI.layNew {c:Bool}{t:mH}{d:Array (Int×Value)}(T:TbI c t d.size)(h:Int)(x:Value):TbI c (layNew t d h x).2.1 (layNew t d h x).1.size:=by
 have f:=layNew_fits t d h x;unfold PySem.layNew at f ⊢;split
 .rename_i a b e;rw[e] at f;obtain⟨rfl,g⟩:=G8 T.dum e;dsimp only at f ⊢;refine⟨f,?_,?_,?_⟩ <;> delta SetTable.orStandIn <;> split
  .exact T.led
  .exact T.led
  .show (if Pz t.dummies a=true then _ else t.dummies)=#[];rw[T.dum];simp -iota [Pz]
  .rfl
  .exact r_ T.ris (yN T.dum T.ris g)
  .exact ur _
 .simpa using TbI.standIn T.led (d.size + 1)
theorem TbI.LX{t:mH}(T:TbI led t n)(g:Array (Int×Value))(c:Nat):TbI led (Ro t g c).2.1 (Ro t g c).1.size:=by
 have f:=relayAll_fits t g c;unfold Ro at f ⊢;split
 .rename_i q h e;rw[e] at f;dsimp only at f ⊢;split
  .rename_i m;rw[if_pos m] at f;refine⟨f,?_,?_,?_⟩ <;> (delta Ui Ra at e;cases l:QW (Qz c - 1) (g.map (·.1)) with
    | none=>rw[l] at e;cases e
    | some d=>
     rw[l] at e;cases e
     first
      | exact T.led
      | rfl
      | (show SJ _ (uP _ _);rw[mD,Rp];refine Tp ?_ qp;intro a b i x k y j;cases p:d.getD a none <;> rw[p] at k <;> cases k;cases o:d.getD b none <;> rw[o] at j <;> cases j;exact i))
  .exact TbI.standIn T.led _
 .exact TbI.standIn T.led _
theorem nj {a:Type}:∀ (l:List a) (i:Nat) (h:i < l.length),(l[i]::l.eraseIdx i).Perm l
 | x::r,0,_=>oF _
 | x::r,i + 1,h=>(Sk x _ _).trans (UD x (nj r i (Nat.lt_of_succ_lt_succ h)))
theorem Au {b:Type}(nx:Nat->Nat):∀ (fuel k:Nat) (left:List b) (out:Array b),left.length=fuel->(Tq nx fuel k left out).toList.Perm (out.toList++left)
 | 0,k,left,out,h=>by
  have:left=[]:=Rq.mp h;subst this;unfold Tq;simp
 | fuel + 1,k,left,out,h=>by
  unfold Tq;have a:nx k % left.length < left.length:=QC _ (by lia);rw[gE0 a];dsimp only;refine(Au nx fuel (k + 1) _ _ (by rw[QD a];lia)).trans ?_;rw[gs,hQ];exact qO _ (nj _ _ a)
theorem BE{a:Type}(nx:Nat->Nat)(xs:Array a):(Rr nx xs).toList.Perm xs.toList:=by
 delta Rr;simpa using Au nx xs.size 0 xs.toList #[] (by simp)
theorem vo{s:Shared}{src:Source}{Q:Nat->Shared->Prop}(a:n≠0)(h:∀ i d,i < n->Q i { s with drawn:=d }):wpAny M A (choose src n) Q E s:=
 λ_ _ _=>⟨a,h _ _ (QC _ (Nat.pos_of_ne_zero a))⟩
theorem uZ {c:Type}{M:Model}{A:Around}{E:VS}:∀ (n:Nat) (xs:List c) {s:Shared} {Q:List c->Shared->Prop},xs.length=n->(∀ ys d,ys.Perm xs->Q ys { s with drawn:=d })->wpAny M A (drawOrder n xs) Q E s
 | 0,xs,s,Q,a,h=>by
  have:xs=[]:=Rq.mp a;subst this;exact aP (h [] s.drawn (oF _))
 | n + 1,[],s,Q,a,h=>by simp -iota at a
 | n + 1,x::r,s,Q,a,h=>by
  unfold drawOrder;refine aI (vo (by rw[a];lia) λi d b=>?_);rw[gE0 b];refine aI (uZ n _ (by rw[QD b];lia) λys f e=>?_);exact aP (h _ f ((UD _ e).trans (nj _ _ b)))
noncomputable def eV (w:World):Bool:=w.params.followText "set-order"
noncomputable abbrev aV (a:Array (Int×Value))(b:Nat)(t:mH):Obj:={ cls:=.type "set",dict:=none,data:=.set a b t,slots:=#[] }
section
variable {s:Shared}{a:Addr}
def ElI (a:List (Int×Value)):Prop:=∀ e∈a,∃ k tk,e=((Fk prog w).hash k,Me k tk)
def qZ (prog:nI)(w:World)(h:Heap)(a:Addr)(ns:Li0):Prop:=
 ∃ es ep t,h.get? a=some (aV es ep t)/\ElI (prog:=prog) (w:=w) es.toList/\ns=es.toList.map (λe=>numOf e.2)/\ns.Nodup/\TbI (!eV w) t es.size
theorem ElI.of{es:List (Int×Value)}(h:ElI (prog:=prog) (w:=w) es):ElemsOf (Fk prog w) es:=λe b=>by
 obtain⟨k,a,rfl⟩:=h e b;exact⟨⟨k,RG prog w k a,rfl⟩,rfl⟩
theorem vU{d b:Array (Int×Value)}{t t':mH}(c:h.get? a=some (aV d ep t)):(h.update a (FS b t')).get? a=some (aV b (ep + 1) t'):=by
 rw[uQ _ c rfl];rfl
theorem Ee{k m:Int}:(Fk prog w).is k (.int m tk)=true↔m=k:=by
 constructor
 .intro h;exact(Fk prog w).inj _ _ _ (RG prog w m tk) h
 .rintro rfl;exact RG prog w m tk
theorem xc{k:Int}{b:List (Int×Value)}(h:ElI (prog:=prog) (w:=w) b):(∃ e∈b,(Fk prog w).is k e.2=true)↔k∈b.map (λe=>numOf e.2):=by
 rw[jc];constructor
 .rintro⟨e,a,q⟩;obtain⟨m,c,rfl⟩:=h e a;exact⟨_,a,Ee.mp q⟩
 .rintro⟨e,a,q⟩;refine⟨e,a,?_⟩;obtain⟨m,c,rfl⟩:=h e a;exact Ee.mpr q
set_option maxHeartbeats 1000000 in
theorem add_int{k:Int}{Q:Bool->Shared->Prop}(S:qZ prog w s.heap a ns)(X:ns.length + 1 < SA)(h:∀ b h' u,ov a s.heap h'->qZ prog w h' a u->(∀ m,m∈u↔m∈ns\/m=k)->u.length<=ns.length + 1->Q b { s with heap:=h',toks:=s.toks + 1 }) :
  wpAny (model prog w) A (setAdd a (.int k tk)) Q E s:=by
 obtain⟨o,ep,t,F,l,rfl,nd,T⟩:=id S;have hz:(o.toList.map (λe=>numOf e.2)).length=o.size:=by simp
 rw[hz] at X;have r:=RG prog w k tk;delta setAdd;refine jz (aI ((Fk prog w).pyHash r ?_));unfold setAddHashed setAddHashedIn;refine jz (aI (mE (s:={ s with toks:=s.toks + 1 }) F rfl T.fits ?_));dsimp only;rw[byScan_of rfl (by exact fq (by assumption)) l.of];simp -iota only[if_true];delta setAddByScan;refine aI (aI (PN (aI (wpAny_setScan_of (s:={ s with toks:=s.toks + 1 }) r F rfl T.fits l.of ?_))));cases Y:List.findIdx? (λe=>(Fk prog w).is k e.2) o.toList with
 | some j=>
  dsimp only;obtain⟨hj,hp,_⟩:=List.findIdx?_eq_some_iff_getElem.mp Y;have M:=(xc l).mp ⟨_,Rn hj,hp⟩;exact aP (aP (h _ s.heap _ (Tr a s.heap) S (λm=>⟨.inl,λq=>q.elim id λe=>e ▸ M⟩) (KB _)))
 | none=>
  dsimp only;have K:k∉o.toList.map (λe=>numOf e.2):=λM=>by
   obtain⟨e,N,q⟩:=(xc l).mpr M;have:=List.findIdx?_eq_none_iff.mp Y e N;rw[q] at this;cases this
  have v:=layNew_perm t o ((Fk prog w).hash k) (.int k tk);have G:=T.layNew ((Fk prog w).hash k) (.int k tk);generalize hL:layNew t o ((Fk prog w).hash k) (.int k tk)=L at v G ⊢;obtain⟨c,i,wd,gv⟩:=L;dsimp only at v G ⊢;rw[gs] at v;have C:∀ (d:Array (Int×Value)) (f:mH) (h':Heap) (n:Nat),d.toList.Perm (o.toList++[((Fk prog w).hash k,Me k tk)])->TbI (!eV w) f d.size->h'.get? a=some (aV d n f)->ov a s.heap h'->Q true { s with heap:=h',toks:=s.toks + 1 }:=λd f h' n p2 p g B=>by
   have J:(d.toList.map (λe=>numOf e.2)).Perm (o.toList.map (λe=>numOf e.2)++[k]):=by
    have:=p2.map (λe=>numOf e.2);rw[dE] at this;exact this
   refine h true h' (d.toList.map (λe=>numOf e.2)) B ⟨d,n,f,g,λe N=>?_,rfl,?_,p⟩ (λm=>?_) ?_
   .rcases eE.mp (p2.mem_iff.mp N) with z | z
    .exact l e z
    .rw[fP] at z;exact⟨k,tk,z⟩
   .refine J.nodup_iff.mpr (Ts.mpr ⟨nd,by simp,λx hx y W e=>?_⟩);rw[fP] at W;exact K (W ▸ e ▸ hx)
   .rw[J.mem_iff,eE,fP]
   .rw[J.length_eq,bM];exact bU _
  have gw:∀ (b:Bool) {s1:Shared} {R:Unit->Shared->Prop},R () s1->wpAny (model prog w) A (match b with | true=>rule "set.scan.the-table-gave-way" | false=>pure ()) R E s1:=λb s1 R q=>by
   cases b
   .exact aP q
   .exact PN q
  have I:c.size=o.size + 1:=by have:=v.length_eq;simpa using this
  have D:c.size<=sizeLine:=fits_of_scanBound (by exact WF 0x1af00f77249fdcb X I);refine aI (gw gv ?_);have rest:∀ {P:Option Bool->Shared->Prop},(∀ h' n d f,d.toList.Perm c.toList->TbI (!eV w) f d.size->h'.get? a=some (aV d n f)->ov a s.heap h'->P (some true) { s with heap:=h',toks:=s.toks + 1 })->
    wpAny (model prog w) A (do
     storeSet a c i
     if (!wd && i.tooFull)=true then do
      (match (Ro i c (qq c.size)).2.2 with | true=>rule "set.scan.the-table-gave-way" | false=>pure ())
      storeSet a (Ro i c (qq c.size)).1 (Ro i c (qq c.size)).2.1
      pure (some true)
     else pure (some true)) P E { s with toks:=s.toks + 1 }:=λ{P} Z=>by
   refine aI (PC (s:={ s with toks:=s.toks + 1 }) F rfl ?_ D);have U:(s.heap.update a (FS c i)).get? a=some (aV c (ep + 1) i):=vU F;have b1:=zl s.heap a (FS c i);split
   .have p2:=relayAll_perm i c (qq c.size);have p:=G.LX c (qq c.size);generalize Ro i c (qq c.size)=R2 at p2 p ⊢;obtain⟨d,f,g2⟩:=R2;dsimp only at p2 p ⊢;have H:d.size=c.size:=by have:=p2.length_eq;simpa using this
    refine aI (gw g2 (aI (PC (s:={ s with heap:=s.heap.update a (FS c i),toks:=s.toks + 1 }) U rfl (aP ?_) (by exact WF 0x831d79f0c08b D H))));exact Z _ _ _ _ p2 p (vU U) (b1.trans (zl _ a _))
   .exact aP (Z _ _ _ _ (oF _) G U b1)
  split
  .refine aI ?_;rw[hashByValue_scannable 8 (by rfl)];refine aP ?_;simp only[plainKind,if_true];exact rest λO V d f p2 p g B=>aP (C d f O V (p2.trans v) p g B)
  .refine aI (aP ?_);simp -iota only[if_true];exact rest λO V d f p2 p g B=>aP (C d f O V (p2.trans v) p g B)
theorem qZ.at(S:qZ prog w h a ns)(k:∀ o,h.get? a=some o->h'.get? a=some o):qZ prog w h' a ns:=by
 obtain⟨c,d,t,b,r⟩:=S;exact⟨c,d,t,k _ b,r⟩
theorem CS(b:h.get? a=some (aV #[] 0 (.fresh 0 0 (!eV w)))):qZ prog w h a []:=
 ⟨#[],0,_,b,λe c=>by simp -iota at c,rfl,KM,⟨rfl,rfl,rfl,oC⟩⟩
abbrev NP (prog:nI)(w:World)(s:Shared)(a I:Addr)(ns:Li0)(P:Shared->Prop):Prop:=∀ h' t' ms,(∀ b o,b≠a->b≠I->s.heap.get? b=some o->h'.get? b=some o)->qZ prog w h' a ms->(∀ m,m∈ms↔m∈ns)->ms.length<=ns.length->P { s with heap:=h',toks:=t' }
theorem CA(V:A.handled=none)(M:PU vs ns)(H:a≠I)(P:l≠I)(O:l≠a)(W:ns.length + 1 < SA) :
  ∀ (k i:Nat) (s:Shared) (ms:Li0),ns.length - i=k->i<=ns.length->s.heap.IsListIter I l i->s.heap.IsList l vs.toArray->qZ prog w s.heap a ms->(∀ m,m∈ms↔m∈ns.take i)->ms.length<=i->NP prog w s a I ns (λs'=>R (.ok (.ret .none)) s')->
   qG (model prog w) A (.builtin "set.update.loop" ⟨[.ref a,.ref I],[]⟩) R s:=by
 have L:vs.length=ns.length:=IntsAre.length M;intro k
 induction k with
 | zero=>
  intro i s ms f d v g S E h q;obtain rfl:i=ns.length:=by lia
  refine sH Rt ?_;rw[ry Pj _];show wpAny _ A.in1 (pyNext (.ref I) >>= λr=>_) _ _ s;refine aI (R3 (by simp -iota [V]) v g (by simp -iota [L]) λG x=>?_);exact aP (q G s.toks ms (λb o _ n e=>x b o n e) (S.at λo e=>x a o H e) (λm=>by rw[E,lD]) h)
 | succ k U=>
  intro i s ms f d v g S E h q;refine sH Rt ?_;rw[ry Pj _];show wpAny _ A.in1 (pyNext (.ref I) >>= λr=>_) _ _ s;have B:vs[i]?=some (vs[i]'(by exact WF 0xfe7ef59f9f3b3933e25 L f (V3 (WF 6550533726 d)))):=gE0 (by lia);obtain⟨n,t,e,en⟩:=M.at i _ B;rw[e] at B;refine aI (RB (x:=.int n t) v g (by simpa using B) λX T j=>?_);show wpAny _ A.in1 (holding [Me n t] (setAdd a (.int n t)) >>= λr=>_) _ _ _;refine aI (jz (add_int (s:={ s with heap:=X }) (S.at λo e=>j.extBut _ _ H e) (by exact WF 0x908968e3bbb732bfa8 W d h) λb h2 p c Y C y=>?_));refine aP ⟨Q8 Pj _,U (i + 1) _ p (by exact ly (WF 0x4f4118ae70e5d2fdbb99225 f V1 (V3 (WF 0x4c8cd80d218a49bf8 f (V3 (WF 6550533726 d))))) (WF 0x4edcf9bed901a1ff3130325 f V1 (V3 (WF 6550533726 d)))) (by exact WF 0x4c8cd80d218a49bf8 f (V3 (WF 6550533726 d))) (T.extBut c.extBut H.symm) ((g.extBut j.extBut P).extBut c.extBut O) Y (λm=>?_) (by exact WF 0x180c041ddf6d08b h y) λG N u Q Z D z=>?_⟩
  .rw[C,E,BS,en,Option.toList_some,eE,fP]
  .exact q G N u (λb o K J e=>Q b o K J (c.extBut _ _ K (j.extBut _ _ J e))) Z D z
theorem DV(x:Value){Q:VS}(h:Q (.ref s.heap.objs.size) { s with heap:=s.heap.push (aV #[] 0 (.fresh 0 0 (!eV w))) }) :
  qG (model prog w) A (.call (.builtin "set.__new__") ⟨[.type "set",x],[]⟩) (wants Q E) s:=by
 refine Qa F.plain_set_new F.entry_set_new (qz (F.newCall_set_1 x) ?_);delta zq.«set.__new__» UE;have sub:=sub_set_self;obtain⟨b,g,d,a,os⟩:=s;dsimp only
 wp_walk
 refine rd (aP ?_);dsimp only;simp only[newObj];refine aI (T9 (aP ?_));exact aP h
set_option maxHeartbeats 3200000 in
theorem B9{S:Addr}{Y:VS}(B:A.handled=none)(h:s.heap.get? S=some (aV #[] 0 (.fresh 0 0 (!eV w))))(g:s.heap.IsList l vs.toArray)(z:PU vs ns)(C:ns.length + 1 < SA)(x:l≠S)(q:NP prog w s S s.heap.objs.size ns (λs'=>R (.ok (.ret .none)) s')) :
  wpAny (model prog w) A.in1 (zq.«set.__init__» ⟨[.ref S,.ref l],[]⟩) (λfin s'=>match fin with | .done f=>R (.ok f) s' | .again c=>c.quiet=true/\qG (model prog w) A c R s') Y s:=by
 have t:l < s.heap.objs.size:=let ⟨o,e,_⟩:=g;er e
 have j:S < s.heap.objs.size:=er h;obtain⟨n,v,d,nl,a⟩:=id g;obtain⟨J,I,K,H⟩:=n;dsimp only at d a;subst d;subst a;have z1:=F.sub_list_set;have z2:=F.sub_list_frozenset;have z3:(xt "list" == xt "dict")=false:=by decide
 delta zq.«set.__init__» noKeywords Uj;generalize D:pyIter=P
 wp_walk
 subst D;refine Ta g (aI (wpAny_runValue ?_));refine CA (by simp -iota [B]) z (hY j) (hY t) x C _ 0 _ [] rfl (eg _) ⟨_,ey _ rfl,rfl,rfl⟩ (g.push _) (CS (bh _ h)) (λm=>by simp) (eg _) λE i ms k G y u=>?_;exact aP (aP <| q E i ms (λb o r p e=>k b o r p (bh _ e)) G y u)
end
theorem nC:Slot "set_iterator" "__next__" "set_iterator.__next__":=
 .of (owner:="set_iterator") (n:="__next__") (by rw[typeLookup_type,builtinLookup_eq_fast];kernel_rfl) (by decide +kernel) (by decide +kernel) (by decide +kernel) (by first | exact .inl (by decide +kernel) | exact .inr (by decide +kernel)) (by rw[isSubtype_type];kernel_rfl)
theorem xa:entryFor table "set_iterator.__next__"=some zq.«set_iterator.__next__»:=entryFor_of_tree (by kernel_rfl)
theorem Ah(a:Value):argsOk "set_iterator.__next__" ⟨[a],[]⟩:=by delta argsOk;kernel_rfl
theorem Fs:entryFor table "set.__iter__"=some zq.«frozenset.__iter__»:=entryFor_alias (id':="frozenset.__iter__") (by kernel_rfl) rfl (by decide +kernel) (by kernel_rfl)
noncomputable def dr (t:mH)(n:Nat):Bool:=!t.plain && decide (n > 1)
section
variable {s:Shared}{a:Addr}{es:Array (Int×Value)}{t:mH}
theorem Bu{Q:Bool->Shared->Prop}(b:s.heap.get? a=some (aV es ep t))(c:t.fits es.size=true)(h:Q (!eV w && dr t es.size) s):wpAny (model prog w) A (setDrawn a) Q E s:=by
 delta setDrawn RH;exact aI (mE b rfl c (aI (aI (rd (aP (aP h))))))
noncomputable abbrev rT (a:Value)(i:Nat)(x2:Value)(n b:Nat):Obj:={ cls:=.type "set_iterator",dict:=none,data:=.fields #[a,.int i 0,x2,.int n 0,.int b 0],slots:=#[] }
theorem rO{Y:Fin->Shared->Prop}(c:A.handled=none)(d:∀ h' e,(∀ b o,s.heap.get? b=some o->h'.get? b=some o)->(∃ o,h'.get? e=some o/\o.cls=.type "StopIteration")->E (.ref e) { s with heap:=h' }) :
  wpAny (model prog w) A (newExc (.type "StopIteration") [] >>= λe=>UF e) Y E s:=by
 refine aI ?_;simp -iota only[newExc,newTuple];refine aI (mz ?_ (by size_fits));refine aI (m:=firstArgMember _ _) (qz (a:=xb) (by first | rfl | (simp only[firstArgMember];rfl)) (mz ?_ (by size_fits)));simp -iota only[UF];refine aI (wpAny_handled ?_);rw[c];refine aI (aP (wpAny_throw ?_));exact d _ _ (λb o e=>bh _ (bh _ e)) ⟨_,ey _ rfl,rfl⟩
theorem vz{y0:Value}{x:Value}{Q:Option Value->Shared->Prop}(hI:s.heap.get? I=some (rT x0 i (.ref a) n ep))(b:∀ Y:Value->Shared->Prop,wpAny (model prog w) A.in1 (zq.«set_iterator.__next__» ⟨[.ref I],[]⟩) (λfin s'=>∃ v,fin=.done (.ret v)/\(v=x/\∃ h',s'={ s with heap:=h' }/\h'.get? I=some (rT y0 (i + 1) (.ref a) n ep)/\ov I s.heap h')) Y s)(q:∀ h',h'.get? I=some (rT y0 (i + 1) (.ref a) n ep)->ov I s.heap h'->Q (some x) { s with heap:=h' }):wpAny (model prog w) A (pyNext (.ref I)) Q E s:=by
 delta pyNext;have d:s.TypeIs (.ref I) "set_iterator":=⟨_,hI,rfl⟩;refine aI (SK (Bk (name:=fS "__next__") d nC (oy nC d xa (thn (b _) λfin s' ⟨v,e,h,h',c,g,f⟩=>⟨v,e,?_⟩) (Ah _))));subst h;subst c;exact aP (q h' g f)
theorem vA{Q:Option Value->Shared->Prop}(hI:s.heap.get? I=some (rT x0 i (.ref a) n ep))(c:∀ (P:Fin->Shared->Prop) (Y:VS),(∀ h' e,Ub I s.heap h'->(∃ o,h'.get? e=some o/\o.cls=.type "StopIteration")->Y (.ref e) { s with heap:=h' })->wpAny (model prog w) A.in1 (zq.«set_iterator.__next__» ⟨[.ref I],[]⟩) P Y s)(q:∀ h',Ub I s.heap h'->Q none { s with heap:=h' }):wpAny (model prog w) A (pyNext (.ref I)) Q E s:=by
 delta pyNext;have d:s.TypeIs (.ref I) "set_iterator":=⟨_,hI,rfl⟩;refine aI (SK (Bk (name:=fS "__next__") d nC (oy nC d xa (c _ _ λh' e x ⟨o,f,g⟩=>?_) (Ah _))));exact aI (TZ (T:="StopIteration") (b:=true) ⟨o,f,g⟩ isSubtype_stop (aP (q _ x)))
theorem lP{P:Fin->Shared->Prop}{Y:VS}{B:Value->Sem Fin}(hI:s.heap.get? I=some (rT x0 i (.ref a) es.size ep))(b:s.heap.get? a=some (aV es ep t))(c:t.fits es.size=true)(h:wpAny (model prog w) A (if let .int a1 _:=x0 then (do
    match <- Ur a a1.toNat i ep with
    | some (x,next)=>
     Sm (.ref I) 0 (rawInt next)
     Sm (.ref I) 1 (rawInt ((i:Int) + 1))
     ret x
    | none=>Sm (.ref I) 2 .none;UF (<- newExc (.type "StopIteration") [])) else (do
    let some O <- seqItems? x0 | unsupported "internal:set_iterator"
    match O[i]? with
    | some (.int U _)=>
     let x <- Tt a U.toNat ep
     Sm (.ref I) 1 (rawInt ((i:Int) + 1))
     ret x
    | some _=>unsupported "internal:set_iterator"
    | none=>Sm (.ref I) 0 (rawInt 0);Sm (.ref I) 2 .none;UF (<- newExc (.type "StopIteration") []))) P Y s) :
  wpAny (model prog w) A (zq.«set_iterator.__next__» ⟨[.ref I],[]⟩) P Y s:=by
 delta zq.«set_iterator.__next__»;refine aI (m:=slotArgs _ _ _) (aP ?_);refine aI (wpAny_fieldsOf hI rfl ?_);dsimp only;refine aI (SD b rfl c ?_);have d:((es.size:Int) != (es.size:Int))=false:=by simp
 rw[d];simp -iota only[fi,if_false,et];exact h
theorem uF{Q:Option (Value×Nat)->Shared->Prop}(f:eV w=true)(c:s.heap.get? a=some (aV es ep t))(d:t.fits es.size=true)(h:Q (((Rr (w.params.setOrder a ep) es)[i]?).map λe=>(e.2,j)) s):wpAny (model prog w) A (Ur a j i ep) Q E s:=by
 delta Ur RH;refine aI (mE c rfl d (aI (aI (rd (aP ?_)))));have b:(⟨(model prog w).prog,(model prog w).w.params⟩:Setting).params.followText "set-order"=true:=f;rw[b];have g:(ep != ep)=false:=by simp
 simp -iota only[if_true,g,fi,if_false];delta setWalk RH;refine aI (aI (mE c rfl d (aI (aI (rd (aP ?_))))));rw[b];simp -iota only[if_true];exact aI (rd (aP (aP h)))
theorem sD{Q:Option (Value×Nat)->Shared->Prop}(f:eV w=false)(m:dr t es.size=false)(k:s.heap.get? a=some (aV es ep t))(T:TbI (!eV w) t es.size)(p:i<=es.size)(h:Q ((es[i]?).map λe=>(e.2,frm t.place (i + 1))) s):wpAny (model prog w) A (Ur a (frm t.place i) i ep) Q E s:=by
 have o:t.place.size=es.size:=by have:=T.fits;simp -iota only[UQ,kn,beq_iff_eq] at this;exact this.1
 delta Ur RH;refine aI (mE k rfl T.fits (aI (aI (rd (aP ?_)))));have d:(⟨(model prog w).prog,(model prog w).w.params⟩:Setting).params.followText "set-order"=false:=f;rw[d];simp -iota only[fi,if_false];show wpAny _ _ (if dr t es.size=true then _ else _) _ _ _;rw[if_neg (by rw[m];decide)];have l:t.led=true:=by rw[T.led,f];rfl
 have j:∀ {P:Unit->Shared->Prop},P () s->wpAny (model prog w) A (if (!t.led && !es.isEmpty)=true then unsupported "set:maker-not-led" else pure ()) P E s:=λ{P} q=>by
  rw[l];simp -iota only[oM,Sb,fi,if_false];exact aP q
 refine aI (j (aP ?_));rw[Cp T.ris (by lia)];by_cases b:i < es.size
 .have c:es[i]?=some es[i]:=eR b;have g:t.place[i]?=some (t.place[i]'(by lia)):=eR (by lia);rw[c] at h;rw[c,g];have n:frm t.place (i + 1)=t.place[i]'(by lia) + 1:=by simp only[frm,gp,g,tE]
  rw[n] at h;exact h
 .have c:es[i]?=none:=tq (by exact WF 6567239198 b);rw[c] at h;rw[c];exact h
theorem BR{Q:VS}{p:Nat}{x:Int×Value}(c:s.heap.get? a=some (aV es ep t))(d:t.fits es.size=true)(b:es[p]?=some x)(h:Q x.2 s):wpAny (model prog w) A (Tt a p ep) Q E s:=by
 delta Tt;refine aI (mE c rfl d ?_);have e:(ep != ep)=false:=by simp
 simp only[e,fi,if_false,b];exact aP h
noncomputable def drw (b:Array (Int×Value))(a:List Nat):Lv0:=a.map λp=>((b[p]?).map (·.2)).getD .none
def SIt (prog:nI)(w:World)(h:Heap)(I a:Addr)(i:Nat)(us:Lv0):Prop:=
 ∃ es ep t x0,h.get? a=some (aV es ep t)/\TbI (!eV w) t es.size/\h.get? I=some (rT x0 i (.ref a) es.size ep)/\
  ((eV w=true/\(∃ j:Nat,x0=.int j 0)/\us=(Rr (w.params.setOrder a ep) es).toList.map (·.2))\/
   (eV w=false/\dr t es.size=false/\x0=.int (frm t.place i) 0/\us=es.toList.map (·.2))\/
   ∃ T ps,x0=.ref T/\h.get? T=some { cls:=.type "tuple",dict:=none,data:=.seq (ps.map λp:Nat=>Me p 0).toArray 0,slots:=#[] }/\ps.Perm (cj es.size)/\us=drw es ps)
theorem SIt.frame{X:Addr}{d:Lv0}{c:Nat}(S:SIt prog w h I a i us)(m:h.get? X=some (c9 d c))(k:∀ b o,b≠X->h.get? b=some o->h'.get? b=some o):SIt prog w h' I a i us:=by
 obtain⟨p,q,t,j,f,T,hI,r⟩:=S;have nn:∀ {b:Addr} {o:Obj},h.get? b=some o->o.cls≠.type "list"->b≠X:=λe n z=>by subst z;rw[m] at e;cases e;exact n rfl
 refine⟨p,q,t,j,k _ _ (nn f (by simp)) f,T,k _ _ (nn hI (by simp)) hI,?_⟩;rcases r with r | r | ⟨s,l,e,g,r⟩
 .exact .inl r
 .exact .inr (.inl r)
 .exact .inr (.inr ⟨s,l,e,k _ _ (nn g (by simp)) g,r⟩)
theorem SIt.len(S:SIt prog w h I a i us):∃ es ep t,h.get? a=some (aV es ep t)/\us.Perm (es.toList.map (·.2)):=by
 obtain⟨es,ep,t,d,c,T,hI,r⟩:=S;refine⟨es,ep,t,c,?_⟩;rcases r with ⟨_,_,rfl⟩ | ⟨_,_,_,rfl⟩ | ⟨_,e,_,_,p,rfl⟩
 .exact(BE _ _).map _
 .exact oF _
 .refine(p.map _).trans (Uk (ng λi=>?_));by_cases b:i < es.size
  .rw[ba,mK b,ba,dm,eR b];simp -iota only[OY,eR b,tE]
  .rw[ba,ba,iT (by simp;exact WF 6567239198 b),iT (by simp;lia)];rfl
theorem CO{x:Value}{Q:Option Value->Shared->Prop}(S:SIt prog w s.heap I a i us)(b:us[i]?=some x)(q:∀ h',SIt prog w h' I a (i + 1) us->ov I s.heap h'->Q (some x) { s with heap:=h' }):wpAny (model prog w) A (pyNext (.ref I)) Q E s:=by
 obtain⟨f,m,t,M,c,T,hI,r⟩:=S;have u:a≠I:=λz=>by subst z;rw[c] at hI;simp -iota at hI
 rcases r with ⟨k,⟨j,rfl⟩,rfl⟩ | ⟨k,H,rfl,rfl⟩ | ⟨F,o,rfl,g,p,rfl⟩
 .refine vz (y0:=.int j 0) (x:=x) hI (λY=>lP (B:=λ_=>ret .none) hI c T.fits (aI (uF k c T.fits ?_))) λh' g d=>q h' ⟨f,m,t,_,d.extBut _ _ u c,T,g,.inl ⟨k,⟨j,rfl⟩,rfl⟩⟩ d;rw[ba,dm] at b;cases e:(Rr (w.params.setOrder a m) f)[i]? with
  | none=>rw[e] at b;cases b
  | some y=>
   rw[e] at b;cases b;dsimp only[OY];refine aI (oj hI (by simp) λC l h=>aI (oj l (by simp) λv D n=>aP ⟨_,rfl,rfl,v,rfl,?_,h.trans n⟩));rw[D];simp -iota [rawInt]
 .refine vz (y0:=.int (frm t.place (i + 1)) 0) (x:=x) hI (λY=>lP (B:=λ_=>ret .none) hI c T.fits (aI (sD k H c T ?_ ?_))) λh' g d=>q h' ⟨f,m,t,_,d.extBut _ _ u c,T,g,.inr (.inl ⟨k,H,rfl,rfl⟩)⟩ d
  .have:=(gS0 b).1;simp -iota at this;exact fq (by assumption)
  .rw[ba,dm] at b;cases e:f[i]? with
   | none=>rw[e] at b;cases b
   | some y=>
    rw[e] at b;cases b;dsimp only[OY];refine aI (oj hI (by simp) λC l h=>aI (oj l (by simp) λv D n=>aP ⟨_,rfl,rfl,v,rfl,?_,h.trans n⟩));rw[D];simp -iota [rawInt]
 .have J:F≠I:=λz=>by subst z;rw[g] at hI;simp -iota at hI
  refine vz (y0:=.ref F) (x:=x) hI (λY=>lP (B:=λ_=>ret .none) hI c T.fits ?_) λh' K d=>q h' ⟨f,m,t,_,d.extBut _ _ u c,T,K,.inr (.inr ⟨F,o,rfl,d.extBut _ _ J g,p,rfl⟩)⟩ d;dsimp only;refine aI (KN g rfl ?_);rw[drw,ba] at b;cases e:o[i]? with
  | none=>rw[e] at b;cases b
  | some y=>
   rw[e] at b;have G:y < f.size:=iU.mp (p.mem_iff.mp (eW e));rw[OY,eR G] at b;cases b;have L:(o.map λp:Nat=>Me p 0).toArray[i]?=some (.int y 0):=by simp -iota [e]
   dsimp only;rw[L];dsimp only;rw[et];refine aI (BR c T.fits (eR G) (aI (oj hI (by simp) λC l h=>aP ⟨_,rfl,rfl,C,rfl,?_,h⟩)));rw[l];simp -iota [rawInt]
theorem CP{Q:Option Value->Shared->Prop}(i:A.handled=none)(S:SIt prog w s.heap I a us.length us)(q:∀ h',Ub I s.heap h'->Q none { s with heap:=h' }):wpAny (model prog w) A (pyNext (.ref I)) Q E s:=by
 obtain⟨H,J,t,C,c,T,hI,r⟩:=S;have F:a≠I:=λz=>by subst z;rw[c] at hI;simp -iota at hI
 rcases r with ⟨h,⟨j,rfl⟩,rfl⟩ | ⟨h,v,rfl,rfl⟩ | ⟨L,D,rfl,g,p,rfl⟩
 .refine vA hI (λP Y y=>lP (B:=λ_=>ret .none) hI c T.fits (aI (uF h c T.fits ?_))) q;rw[tq (by simp)];dsimp only[Ul];refine aI (oj hI (by simp) λm l d=>rO (by simp -iota [i]) λh' e k f=>y h' e (λb o n x=>k b o (d.extBut b o n x)) f)
 .refine vA hI (λP Y y=>lP (B:=λ_=>ret .none) hI c T.fits (aI (sD h v c T (by simp) ?_))) q;rw[tq (by simp)];dsimp only[Ul];refine aI (oj hI (by simp) λm l d=>rO (by simp -iota [i]) λh' e k f=>y h' e (λb o n x=>k b o (d.extBut b o n x)) f)
 .refine vA hI (λP Y y=>lP (B:=λ_=>ret .none) hI c T.fits ?_) q;dsimp only;refine aI (KN g rfl ?_);dsimp only;rw[tq (by simp -iota [drw])];dsimp only;refine aI (oj hI (by simp) λm l d=>aI (oj l (by simp) λG K u=>rO (by simp -iota [i]) λh' e k f=>y h' e (λb o n x=>k b o (u.extBut b o n (d.extBut b o n x))) f))
theorem Ag:Uy (.type "set_iterator") "__next__"=pure (some (.builtin "set_iterator.__next__")):=nC.lookup
theorem Br{Q:VS}(c:s.heap.get? a=some (aV es ep t))(T:TbI (!eV w) t es.size)(q:∀ h' d' I us,(∀ b o,s.heap.get? b=some o->h'.get? b=some o)->s.heap.objs.size<=I->SIt prog w h' I a 0 us->Q (.ref I) { s with heap:=h',drawn:=d' })(hz:es.size<=sizeLine):wpAny (model prog w) A (pyIter (.ref a)) Q E s:=by
 have p:s.TypeIs (.ref a) "set":=⟨_,c,rfl⟩;refine wpAny_pyIter_slot p Um (oy Um p Fs ?_ (F.args_set_iter_1 _));delta zq.«frozenset.__iter__» U2 UR;refine aI (aI (m:=slotArgs _ _ _) (aP (aP ?_)));refine aI (aI (SD c rfl T.fits (aP ?_)));refine aI (Bu c T.fits ?_);by_cases k:(!eV w && dr t es.size)=true
 .rw[if_pos k];refine aI (uZ es.size (cj es.size) (by simp) λf d n=>?_);have u:f.length=es.size:=by rw[n.length_eq,oD]
  refine aI (wpAny_newTuple ?_ (by rw[lM0,u];simpa using hz));have h:(s.heap.push { cls:=.type "tuple",data:=.seq (f.map λi:Nat=>rawInt i).toArray }).get? a=some (aV es ep t):=bh _ c;refine aI (Tu (s:={ s with heap:=s.heap.push { cls:=.type "tuple",data:=.seq (f.map λi:Nat=>rawInt i).toArray },drawn:=d }) h rfl T.fits ?_);refine aI (mz (aP ⟨_,rfl,"set_iterator",_,⟨_,ey _ rfl,rfl⟩,Ag,?_⟩));refine q _ _ _ (drw es f) (λb o e=>bh _ (bh _ e)) (by rw[mG];exact KB _) ⟨es,ep,t,_,bh _ h,T,ey _ rfl,.inr (.inr ⟨_,f,rfl,bh _ (ey _ rfl),n,rfl⟩)⟩
 .rw[if_neg k];refine aI (aP (aI (Tu c rfl T.fits ?_)));refine aI (mz (aP ⟨_,rfl,"set_iterator",_,⟨_,ey _ rfl,rfl⟩,Ag,?_⟩));have g:∀ us,(eV w=true/\(∃ j:Nat,rawInt 0=.int j 0)/\us=(Rr (w.params.setOrder a ep) es).toList.map (·.2))\/(eV w=false/\dr t es.size=false/\rawInt 0=.int (frm t.place 0) 0/\us=es.toList.map (·.2))->SIt prog w (s.heap.push (rT (rawInt 0) 0 (.ref a) es.size ep)) s.heap.objs.size a 0 us:=λus r=>
   ⟨es,ep,t,_,bh _ c,T,ey _ rfl,by rcases r with r | r;exact .inl r;exact .inr (.inl r)⟩
  cases l:eV w with
  | true=>exact q _ s.drawn _ _ (λb o e=>bh _ e) (bU _) (g _ (.inl ⟨l,⟨0,rfl⟩,rfl⟩))
  | false=>
   have v:dr t es.size=false:=by rw[l] at k;simpa using k
   exact q _ s.drawn _ _ (λb o e=>bh _ e) (bU _) (g _ (.inr ⟨l,v,rfl,rfl⟩))
end
theorem CN:splitId "set.__len__"=some ("set","__len__"):=by kernel_rfl
theorem pQ(h:n < 64):n < sizeLine:=by rw[ew];lia
section
variable {s:Shared}{a:Addr}
theorem Ha{X:Addr}{V:mH}{c:Nat}{Y:VS}(hh:A.handled=none)(j:s.heap.get? a=some (aV es0 ep0 V))(T0:TbI (!eV w) V es0.size)(Q:s.heap.get? X=some (c9 [] c))(D:es0.size < sizeLine)(q:∀ h' d' us l,(∀ b o,b≠X->s.heap.get? b=some o->h'.get? b=some o)->h'.get? X=some (c9 us l)->us.Perm (es0.toList.map (·.2))->R (.ok (.ret (.ref X))) { s with heap:=h',drawn:=d' }) :
  wpAny (model prog w) A.in1 (Jo (.ref X) (.ref a) (.ref X)) (λfin s'=>match fin with | .done f=>R (.ok f) s' | .again l=>l.quiet=true/\qG (model prog w) A l R s') Y s:=by
 have nX:∀ {b:Addr} {o:Obj},s.heap.get? b=some o->o.cls≠.type "list"->b≠X:=λe n z=>by subst z;rw[Q] at e;cases e;exact n rfl
 have K:a≠X:=nX j (by simp);have hT:s.TypeIs (.ref a) "set":=⟨_,j,rfl⟩;delta Jo;refine aI (Pr hT ?_);have b1:OC (.ref X) (.ref a)=false:=by simp [OC,K.symm]
 have b2:(xt "set" == xt "list")=false:=by decide
 have b3:(xt "set" == xt "tuple")=false:=by decide
 simp -iota only[b1,b2,b3,UM,fi,if_false];refine aI (Br j T0 (λG v I us N hI S1=>?_) (fq D));have x:=N _ _ j;have r:US { s with heap:=G,drawn:=v } (.ref a) "set":=⟨_,x,rfl⟩;refine aI (jz ?_);delta Builtin.List.listLengthHint;refine aI (OE r F.slot_set_len.lookup ?_);dsimp only;rw[CN];dsimp only;refine aI (TZ r sub_set_self ?_);simp -iota only[oM,fi,if_false];rw[if_pos (by decide +kernel)];refine aI (Pr r (aP ?_));rw[if_pos (by decide +kernel)];refine aI (PN (aI ?_));show wpAny _ _ (UY X (·.push .none) >>= λ_=>UY X (·.pop)) _ _ _;have p:=N _ _ Q;refine aI (Qd (s:={ s with heap:=G,drawn:=v }) p rfl ?_);have C:=uQ (mO (·.push xb)) p rfl;refine Qd (hz:=by seq_fits) C rfl ?_;have B:=uQ (mO (·.pop)) C rfl;have m:∀ b o,b≠X->G.get? b=some o->((G.update X (mO (·.push xb))).update X (mO (·.pop))).get? b=some o:=λb o nb e=>(FI _ _ (lj nb)).trans ((FI _ _ (lj nb)).trans e);generalize a1:(G.update X (mO (·.push xb))).update X (mO (·.pop))=g3 at B m;obtain⟨S,P⟩:∃ S,g3.get? X=some (c9 [] S):=⟨_,B⟩;have S3:SIt prog w g3 I a 0 us:=S1.frame p m;obtain⟨es,ep,t,ho,Z⟩:=S1.len;have ee:es=es0:=by rw[x] at ho;cases ho;rfl
 subst ee;have y:us.length=es.size:=by rw[Z.length_eq];simp
 have L:I≠X:=λz=>ky _ (fC (er Q) (z ▸ hI))
 let J:Nat->Lv0->Shared->Prop:=λi d s'=>d=us.take i/\i<=us.length/\SIt prog w s'.heap I a i us/\(∃ c,s'.heap.get? X=some (c9 d c))/\(∀ b o,b≠X->s.heap.get? b=some o->s'.heap.get? b=some o)/\∃ h',s'={ s with heap:=h',drawn:=v }
 refine aP ⟨Q8 NX _,Eu J (n:=us.length) (by rw[y];exact D) (λi d s' h=>?_) (λi d s' E' O h=>?_) (λd s' E' h=>?_) _ 0 [] _ rfl (eg _) ⟨rfl,eg _,S3,⟨S,P⟩,λb o n e=>m b o n (N b o e),_,rfl⟩⟩
 .obtain⟨rfl,h2,_⟩:=h;rw[dU];lia
 .obtain⟨rfl,h2,T,⟨l,k⟩,M,u,rfl⟩:=h;refine CO (s:={ s with heap:=u,drawn:=v }) T (gE0 O) λE S2 H=>⟨_,l,rfl,H.extBut _ _ L.symm k,λg W hg=>⟨?_,O,S2.frame (H.extBut _ _ L.symm k) λb o n e=>W.extBut b o n e,⟨_,hg⟩,λb o n e=>W.extBut b o n (H.extBut b o (λz=>?_) (M b o n e)),g,rfl⟩⟩
  .rw[BS,gE0 O];rfl
  .exact ky _ (fC (er e) (z ▸ hI))
 .obtain⟨rfl,h2,T,⟨l,k⟩,M,u,rfl⟩:=h;refine CP (s:={ s with heap:=u,drawn:=v }) (by simp -iota [hh]) T λE U=>⟨rfl,?_⟩;refine q E v us l (λb o n e=>U b o (λz=>?_) (M b o n e)) ?_ Z
  .exact ky _ (fC (er e) (z ▸ hI))
  .have:=U X _ L.symm k;rw[lD] at this;exact this
theorem B8{b:Array (Int×Value)}(a:ElI (prog:=prog) (w:=w) b.toList)(p:us.Perm (b.toList.map (·.2))):∃ ms,PU us ms/\ms.Perm (b.toList.map λe=>numOf e.2):=by
 refine⟨us.map numOf,intsAre_map us λv d=>?_,?_⟩
 .obtain⟨e,f,rfl⟩:=jc.mp (p.mem_iff.mp d);obtain⟨k,c,rfl⟩:=a e f;exact⟨k,c,rfl⟩
 .have:=p.map numOf;rw[iS] at this;exact this
theorem qc{f:mH}{P:VS}(i:A.handled=none)(c:s.heap.get? a=some (aV es0 ep0 f))(T0:TbI (!eV w) f es0.size)(d:es0.size < sizeLine)(q:∀ h' d' us p,(∀ b o,s.heap.get? b=some o->h'.get? b=some o)->h'.get? s.heap.objs.size=some (c9 us p)->us.Perm (es0.toList.map (·.2))->P (.ref s.heap.objs.size) { s with heap:=h',drawn:=d' }) :
  wpAny (model prog w) A (runValue (.builtin "proto.collect" ⟨[.ref a],[]⟩)) P E s:=by
 refine wpAny_runValue (sH entry_proto_collect' ?_);show wpAny _ _ (newList [] >>= λl=>again (.builtin "list.__iadd__" ⟨[l,.ref a],[]⟩)) _ _ s;refine aI (PX (aP ⟨S0 _ (by decide +kernel),sH entry_list_iadd' ?_⟩));show wpAny _ _ (Jo (.ref s.heap.objs.size) (.ref a) (.ref s.heap.objs.size)) _ _ { s with heap:=s.heap.push (c9 [] 0) };rw[ry F.plain_list_iadd _];exact Ha (A:=A) (R:=λr g=>match r with | .ok (.ret v)=>P v g | .ok _=>False | .error e=>E e g) (s:={ s with heap:=s.heap.push (c9 [] 0) }) i (bh _ c) T0 (ey _ rfl) d λk m us n h j x=>q k m us n (λb o e=>h b o (hY (er e)) (bh _ e)) j x
theorem yM{Q:VS}(G:A.handled=none)(S:qZ prog w s.heap a ns)(c:ns.length < 64)(q:∀ h' d' L out e ms,s.heap.objs.size<=L->(∀ b o,s.heap.get? b=some o->h'.get? b=some o)->h'.get? L=some (seqObj "list" out e)->PU out.toList ms->ms.Perm ns->ms.Pairwise (·<=·)->Q (.ref L) { s with heap:=h',drawn:=d' }) :
  wpAny (model prog w) A (call (.builtin "sorted") [.ref a]) Q E s:=by
 obtain⟨N,O,t,F,n,d,_,T⟩:=S;refine NQ Uc Tv Tw (Tx _) ?_;delta zq.«sorted»;refine aI (m:=UG "sorted" 1 1 _) (aP ?_);refine aI ?_;show wpAny _ _ (collect (.ref a)) _ _ _;delta collect;refine aI (qc (A:=A.in1) (by simp -iota [G]) F T (by rw[d] at c;have:=pQ c;simpa using this) λf z g P D x r=>?_);show wpAny (model prog w) _ (load s.heap.objs.size >>= λo=>_) _ _ _;refine aI (Uv x (aP ?_));obtain⟨B,l,j⟩:=B8 n r;have v:g.length < 64:=by rw[r.length_eq];rw[d] at c;simpa using c
 refine aI (PX ?_ (by have:=pQ v;simp;exact fq (by assumption)));have p:(f.push (seqObj "list" g.toArray 0)).get? f.objs.size=some (seqObj "list" g.toArray 0):=ey _ rfl;refine aI (jz (oy Sn ⟨_,p,rfl⟩ RY (list_sort_tree (s:={ s with heap:=f.push (seqObj "list" g.toArray 0),drawn:=z }) p l v λout k M K J=>⟨_,rfl,?_⟩) (So _)));have i:s.heap.objs.size < f.objs.size:=er x;obtain⟨e,H⟩:=sortedHeap_at (h:=f.push (seqObj "list" g.toArray 0)) (vs:=g) (out:=out) p;refine aP ⟨_,rfl,q _ z _ out e k (fq i) (λb o y=>?_) H M ((K.trans j).trans (by rw[d])) J⟩;have C:=er y;have I:f.get? b=some o:=D b o y;have u:b < f.objs.size:=Pv C i;rw[sortedHeap_old (hY u) (by rw[mG];exact sr u)];exact bh _ I
end
section
variable {s:Shared}
set_option maxHeartbeats 3200000 in
theorem Cg{Q:VS}(u:A.handled=none)(t:s.heap.IsList l vs.toArray)(D:PU vs ns)(I:ns.length + 1 < SA)(q:∀ h' t' ms,(∀ b o,s.heap.get? b=some o->h'.get? b=some o)->qZ prog w h' s.heap.objs.size ms->(∀ m,m∈ms↔m∈ns)->ms.length<=ns.length->Q (.ref s.heap.objs.size) { s with heap:=h',toks:=t' }) :
  wpAny (model prog w) A (call (.type "set") [.ref l]) Q E s:=by
 obtain⟨c,tl,p⟩:=Gc.mro;have h:=Gc.made;have n:=Gc.sub;refine SS (RU ?_);show wpAny _ _ (callAny (.type "set") _) _ _ _;refine aP ⟨S0 _ (by decide +kernel),sH F.entry_type_call ?_⟩;rw[Around.under_plain (weight_type_call_type "set" [.ref l] []) rfl];have P:=Gc.notType;have O:=Gc.canCreate;have G:=F.typeCall_set_1 (.ref l)
 repeat (any_goals (first | assumption | wp_step))
 refine Mp (DV (.ref l) (E:=E) (Q:=λd j=>d=.ref s.heap.objs.size/\j={ s with heap:=s.heap.push (aV #[] 0 (.fresh 0 0 (!eV w))) }) ⟨rfl,rfl⟩) λr j g=>?_;cases r with
 | error e=>exact g
 | ok K=>
  cases K with
  | ret d=>
   obtain⟨rfl,rfl⟩:=g;have v:(s.heap.push (aV #[] 0 (.fresh 0 0 (!eV w)))).get? s.heap.objs.size=some (aV #[] 0 (.fresh 0 0 (!eV w))):=ey _ rfl;have J:US { s with heap:=s.heap.push (aV #[] 0 (.fresh 0 0 (!eV w))) } (.ref s.heap.objs.size) "set":=⟨_,v,rfl⟩;have C:=Gc.init.lookup;have H:=Gc.init.bind (.ref s.heap.objs.size)
   repeat (any_goals (first | assumption | wp_step))
   have nl:l≠s.heap.objs.size:=let ⟨o,e,_⟩:=t;hY (er e)
   refine Mp (Qa (R:=wants (λr f=>r=.none/\Q (.ref s.heap.objs.size) f) E) Gc.init.plain F.entry_set_init (check_set_init_1 J (B9 (A:=A.in1) (R:=wants (λr f=>r=.none/\Q (.ref s.heap.objs.size) f) E) (s:={ s with heap:=s.heap.push (aV #[] 0 (.fresh 0 0 (!eV w))) }) (by first | exact u | simp [u]) v (t.push _) D I nl λh' t' ms k M B y=>⟨rfl,q h' t' ms (λb o e=>k b o (hY (er e)) (λz=>?_) (bh _ e)) M B y⟩))) λx f a=>?_
   .have:=er e;rw[z] at this;have L:(s.heap.push (aV #[] 0 (.fresh 0 0 (!eV w)))).objs.size=s.heap.objs.size + 1:=mG ..;exact ky _ (Pv (ox _) (L ▸ this))
   .cases x with
    | error e=>exact a
    | ok i=>
     cases i with
     | ret r=>
      obtain⟨rfl,N⟩:=a
      repeat (any_goals (first | assumption | wp_step))
     | _=>exact a.elim
  | _=>exact g.elim
end
noncomputable def wD (x:Int):Li0->Li0
 | []=>[x]
 | y::r=>if x < y then x::y::r else if x=y then y::r else y::wD x r
noncomputable def sset (ns:Li0):Li0:=ns.foldr wD []
theorem sG {x m:Int}:∀ {l:Li0},m∈wD x l↔m=x\/m∈l
 | []=>by simp -iota [wD]
 | y::r=>by
  unfold wD;split
  .simp
  .split
   .rename_i h;subst h;simp
   .simp -iota only[cS,sG (l:=r)];constructor <;> (intro h;rcases h with h | h | h <;> simp -iota [h])
theorem uI {x:Int}:∀ {l:Li0},l.Pairwise (· < ·)->(wD x l).Pairwise (· < ·)
 | [],_=>by simp -iota [wD]
 | y::r,h=>by
  obtain⟨b,c⟩:=kq.mp h;unfold wD;split
  .rename_i a;exact kq.mpr ⟨λz hz=>by rcases cS.mp hz with rfl | hz;exact a;exact U9 a (b z hz),h⟩
  .split
   .exact h
   .rename_i a d;refine kq.mpr ⟨λz hz=>?_,uI c⟩;rcases sG.mp hz with rfl | hz
    .lia
    .exact b z hz
theorem xQ {m:Int}:∀ {ns:Li0},m∈sset ns↔m∈ns
 | []=>by simp -iota [sset]
 | x::r=>by
  show m∈wD x (sset r)↔_;rw[sG,xQ (ns:=r),cS]
theorem um:∀ (ns:Li0),(sset ns).Pairwise (· < ·)
 | []=>by simp -iota [sset]
 | x::r=>uI (um r)
theorem vP:∀ {xs ys:Li0},xs.Pairwise (· < ·)->ys.Pairwise (· < ·)->(∀ m,m∈xs↔m∈ys)->xs=ys
 | [],[],_,_,_=>rfl
 | [],y::ys,_,_,h=>by have:=(h y).mpr (by simp);simp -iota at this
 | x::xs,[],_,_,h=>by have:=(h x).mp (by simp);simp -iota at this
 | x::xs,y::ys,f,d,h=>by
  obtain⟨c,g⟩:=kq.mp f;obtain⟨b,b2⟩:=kq.mp d;have e:x=y:=by
   have p:=(h x).mp (by simp);have q:=(h y).mpr (by simp);rcases cS.mp p with p | p
   .exact p
   .rcases cS.mp q with q | q
    .exact q.symm
    .have:=c y q;have:=b x p;lia
  subst e;rw[vP g b2 λm=>⟨λa=>?_,λa=>?_⟩]
  .rcases cS.mp ((h m).mp (eh _ a)) with rfl | z
   .have:=c _ a;lia
   .exact z
  .rcases cS.mp ((h m).mpr (eh _ a)) with rfl | z
   .have:=b _ a;lia
   .exact z
theorem FK{l:Li0}(h:l.Pairwise (·<=·))(n:l.Nodup):l.Pairwise (· < ·):=
 (h.and n).imp λZ=>by obtain⟨a,b⟩:=Z;lia
theorem Ft{ms:Li0}(b:∀ m,m∈ms↔m∈ns)(a:ms.Nodup)(p:ks.Perm ms)(s:ks.Pairwise (·<=·)):ks=sset ns:=
 vP (FK s (p.nodup_iff.mpr a)) (um ns) λm=>by rw[p.mem_iff,b,xQ]
section
variable {pins:Pn}{s:Shared}
theorem Inv.draw{d:Drawn}(I:Inv X pins σ H s):Inv X pins σ H { s with drawn:=d }:=⟨I.ok,I.os,I.bare,I.base,I.loc,I.cell,I.free,I.freeC,I.pin,I.hok,I.len⟩
def HM (t:TA):TE:=λσ H Q=>t σ H λvs H1=>∃ (p:Addr) (ns:Li0),vs=[.ref p]/\H1 p=some (.lst (ns.map V.int))/\ns.length < 64/\∀ S,H1 S=none->Q (.ref S) (upd H1 S (.lst ((sset ns).map V.int)))
theorem qZ.nodup{a:Addr}{ms:Li0}(S:qZ prog w h a ms):ms.Nodup:=let ⟨_,_,_,_,_,_,n,_⟩:=S;n
theorem Gj{ta:TA}{p2:Pos}(u:X.calm=true)(N:Gl X "sorted")(K:X.mg "sorted"=none)(m:Gl X "set")(b:X.mg "set"=none)(O:PA X [e] ta)(hs:autoParam (ed [e] X.env=[(false,eval e X.env)]) wE)(f:autoParam (ed [Expr.Call (.Name "set" p2) [e] [] pos2] X.env=[(false,eval (.Call (.Name "set" p2) [e] [] pos2) X.env)]) wE) :
  PE X (.Call (.Name "sorted" p) [.Call (.Name "set" p2) [e] [] pos2] [] pos) (HM ta):=by
 intro a s g H Q I h;refine oi (ff I N K (by decide +kernel:mP "sorted"=some (.builtin "sorted")) ?_);refine AX ?_ (by rw[f];rfl) rfl;rw[f];show wpAny _ _ (spliced ((false,eval (.Call (.Name "set" p2) [e] [] pos2) X.env)::backTo pos [])) _ _ s;refine Fv (Call_ (ff I m b (by decide +kernel:mP "set"=some (.type "set")) (jl (thn (O pos2 a s g H _ I h) λus i ⟨vs,t,y,j,C⟩=>?_) (by rw[hs];rfl) rfl)));obtain⟨l,ns,U,R,Z,q⟩:=C;subst U;cases j with
 | cons A j=>
 cases j;cases A;obtain⟨G,na,B,T,_⟩:=y.lst R;refine Cg (vs:=G) (ns:=ns) (I.ok.hd u) ⟨_,T,rfl,_,rfl⟩ (intsAre_of B) (by have:SA=4096:=rfl;lia) λw d ms F x b M=>?_;have r:Inv X a g t { i with heap:=w,toks:=d }:=y.kept (t':=d) F;refine IV ?_;refine yM (s:={ i with heap:=w,toks:=d }) (I.ok.hd u) x (by lia) λP W L k c D v E S J pL z=>?_;have Y:Inv X a g t { i with heap:=P,toks:=d,drawn:=W }:=(r.kept (t':=d) E).draw;have n:t L=none:=r.hok.fresh v;have o:D=sset ns:=Ft b x.nodup pL z;subst o;have lk:((sset ns).map V.int).length<=sizeLine:=by
  have:=pL.length_eq;have:=pQ (show (sset ns).length < 64 by lia);rw[lM0];exact fq (by assumption)
 exact⟨.ref L,_,Y.adopt (c:=c) (us:=k.toList) ((r.qX v n).heap n) (by rw[S]) (o9 J) lk,rfl,q L n⟩
end
end _2
namespace _3
open PySem _2 PySem.Spec PyProof.Rows
section
variable {ta:TA}{p2:Pos}
def ss3 (a:dO)(Γ:G)(Q:RV->G->Prop):Prop:=a Γ λb Γ1=>∃ ns:Li0,ats Γ1 b=some [.lst (ns.map .int)]/\ns.length < 64/\Q (.fr (.lst ((sset ns).map .int))) Γ1
theorem Ax(G:X.calm=true)(D:Gl X "sorted")(C:X.mg "sorted"=none)(j:Gl X "set")(i:X.mg "set"=none)(l:tW K X [e] ta t3)(hs:autoParam (ed [e] X.env=[(false,eval e X.env)]) wE)(h:autoParam (ed [Expr.Call (.Name "set" p2) [e] [] pos2] X.env=[(false,eval (.Call (.Name "set" p2) [e] [] pos2) X.env)]) wE) :
  P3 K X (.Call (.Name "sorted" p) [.Call (.Name "set" p2) [e] [] pos2] [] pos) (HM ta) (ss3 t3):=⟨Gj G D C j i l.pe hs h,by
 intro B F n H r Q T e q k;refine l.rf B F n H r _ _ e q λP N Z=>?_;obtain⟨U,d,R,u,c,x,f,E,A,y⟩:=Z;obtain⟨v,rfl,z,s,rfl,I,w⟩:=(c.bos x E).one;have L:=aA.n9 w;subst L;refine⟨z,f,rfl,I,A,λS a=>k _ _ ?_⟩;obtain⟨O,t,M,J,g⟩:=c.grow (H':=upd N S (.lst ((sset f).map V.int))) (λb o m=>by rw[ao (a_ m a)];exact m) S a;exact⟨O,d,.fr (.lst ((sset f).map .int)),u.trans t,M,⟨S,rfl,J,⟨_,aC,aA.ints _⟩,c.dom _ a,c.wt a⟩,y⟩⟩
theorem M4:ss3 t3 Γ Q=t3 Γ λa Γ1=>∃ ns:Li0,ats Γ1 a=some [.lst (ns.map .int)]/\ns.length < 64/\Q (.fr (.lst ((sset ns).map .int))) Γ1:=rfl
end
open PySem _2 PySem.Spec PySem.SeqAt
section
variable {b:Expr}{tb:TE}
theorem fe(d:P3B K X a ta a3)(c:P3B K X b tb b3):P3 K X (.BinOp a .BitOr b pos) (tOp (rI0 λi j=>.int (HD i j)) ta tb) (cn (i2' λi j=>.int (HD i j)) a3 b3):=⟨kR Mh d.pe c.pe,fc (qR λ_ _ _=>rfl) d.rf c.rf⟩
theorem JQ(d:P3B K X a ta a3)(c:P3B K X b tb b3):P3 K X (.BinOp a .LShift b pos) (tOp (rI Cu λi j=>.int (i * 2 ^ j.toNat)) ta tb) (cn (i2 Cu λi j=>.int (i * 2 ^ j.toNat)) a3 b3):=⟨kR JU d.pe c.pe,fc (opI λ_ _ _=>rfl) d.rf c.rf⟩
theorem JP(d:P3B K X a ta a3)(c:P3B K X b tb b3):P3 K X (.BinOp a .RShift b pos) (tOp (rI (λ_ j=>0<=j) λi j=>.int (i / 2 ^ j.toNat)) ta tb) (cn (i2 (λ_ j=>0<=j) λi j=>.int (i / 2 ^ j.toNat)) a3 b3):=⟨kR JT d.pe c.pe,fc (opI λ_ _ _=>rfl) d.rf c.rf⟩
end
end _3
namespace _t
open PySem PyProof.Rows
theorem Cq{d c:Type}{p G:Prop}{A B:d->c->Prop}(h:p/\∃ x0 b,A x0 b/\B x0 b)(k:p->∀ x0 b,A x0 b->B x0 b->G):G:=by
 obtain⟨a,x0,b,h⟩:=h;exact k a x0 b h.1 h.2
theorem Hw{i g f e:Type}{p G:Prop}{A B:i->g->f->e->Prop}(h:p/\∃ x0 d c b,A x0 d c b/\B x0 d c b)(k:p->∀ x0 d c b,A x0 d c b->B x0 d c b->G):G:=by
 obtain⟨a,x0,d,c,b,h⟩:=h;exact k a x0 d c b h.1 h.2
theorem Hv{l j i g f:Type}{p G:Prop}{A B:l->j->i->g->f->Prop}(h:p/\∃ x0 e d c b,A x0 e d c b/\B x0 e d c b)(k:p->∀ x0 e d c b,A x0 e d c b->B x0 e d c b->G):G:=by
 obtain⟨a,x0,e,d,c,b,h⟩:=h;exact k a x0 e d c b h.1 h.2
theorem NK{n m l j i g:Type}{p G:Prop}{A B:n->m->l->j->i->g->Prop}(h:p/\∃ x0 f e d c b,A x0 f e d c b/\B x0 f e d c b)(k:p->∀ x0 f e d c b,A x0 f e d c b->B x0 f e d c b->G):G:=by
 obtain⟨a,x0,f,e,d,c,b,h⟩:=h;exact k a x0 f e d c b h.1 h.2
theorem ex1{a:Type}{G:Prop}{A B:a->Prop}(h:∃ x0,A x0/\B x0)(k:∀ x0,A x0->B x0->G):G:=by
 obtain⟨x0,h⟩:=h;exact k x0 h.1 h.2
theorem ex2{c b:Type}{G:Prop}{A B:c->b->Prop}(h:∃ x0 a,A x0 a/\B x0 a)(k:∀ x0 a,A x0 a->B x0 a->G):G:=by
 obtain⟨x0,a,h⟩:=h;exact k x0 a h.1 h.2
theorem ex5{j i g f e:Type}{G:Prop}{A B:j->i->g->f->e->Prop}(h:∃ x0 d c b a,A x0 d c b a/\B x0 d c b a)(k:∀ x0 d c b a,A x0 d c b a->B x0 d c b a->G):G:=by
 obtain⟨x0,d,c,b,a,h⟩:=h;exact k x0 d c b a h.1 h.2
theorem ex6{m l j i g f:Type}{G:Prop}{A B:m->l->j->i->g->f->Prop}(h:∃ x0 e d c b a,A x0 e d c b a/\B x0 e d c b a)(k:∀ x0 e d c b a,A x0 e d c b a->B x0 e d c b a->G):G:=by
 obtain⟨x0,e,d,c,b,a,h⟩:=h;exact k x0 e d c b a h.1 h.2
section
variable {s:Shared}{α:Type}{c:Prop}[Decidable c]{t e:StateT SortSt Sem α}{Q:α->SortSt->Prop}{st:SortSt}
theorem wif(a:c)(h:wpS M A E s t Q st):wpS M A E s (if c then t else e) Q st:=by rw[if_pos a];exact h
theorem dv(a:¬ c)(h:wpS M A E s e Q st):wpS M A E s (if c then t else e) Q st:=by rw[if_neg a];exact h
end
noncomputable def gal:Bool->Keyed->Array Keyed->Nat->Nat->Nat->StateT SortSt Sem (Option Nat):=sortPriv% PySem.Builtin.gallop
noncomputable def mLo:Array Keyed->Array Keyed->StateT SortSt Sem (Array Keyed):=sortPriv% PySem.Builtin.mergeLo
noncomputable def mHi:Array Keyed->Array Keyed->StateT SortSt Sem (Array Keyed):=sortPriv% PySem.Builtin.mergeHi
structure Ask (prog:nI) (w:World) (A:Around) (s:Shared) (κ:PD) (P:Keyed->Prop) (lt:Keyed->Keyed->Bool):Prop where
 ask:∀ {E:VS} {st:SortSt} {x y:Keyed} {Q:Option Bool->SortSt->Prop},kindOf st=κ->P x->P y->Q (some (lt x y)) st->wpS (model prog w) A E s (lt' x y) Q st
 asym:∀ x y,lt x y=true->lt y x=false
 tr:∀ x y z,lt y x=false->lt z y=false->lt z x=false
section
variable {s:Shared}{κ:PD}{P:Keyed->Prop}{lt:Keyed->Keyed->Bool}{st:SortSt}
theorem Ask.rf(h:Ask prog w A s κ P lt)(x:Keyed):lt x x=false:=by
 cases e:lt x x with
 | false=>rfl
 | true=>have:=h.asym x x e;rw[e] at this;exact this
noncomputable def XQ (a:Array Keyed)(i:Nat):Keyed:=a.getD i (.none,.none)
theorem yA{a:Array Keyed}(h:i < a.size):a[i]?=some (XQ a i):=by
 delta XQ;rw[eR h,Array.getD,dif_pos h]
 rfl
def All (P:Keyed->Prop)(a:Array Keyed):Prop:=∀ i,i < a.size->P (XQ a i)
theorem bI{a:Array Keyed}{Q:Keyed->SortSt->Prop}(h:i < a.size)(q:Q (XQ a i) st):wpS (model prog w) A E s (elem' a i) Q st:=by
 rw[elem'_eq,yA h];exact eL q
noncomputable def bey (lt:Keyed->Keyed->Bool)(left:Bool)(b:Keyed)(a:Array Keyed)(base i:Nat):Bool:=if left=true then lt (XQ a (base + i)) b else !lt b (XQ a (base + i))
structure Part (b:Nat->Bool) (n k:Nat):Prop where
 le:k<=n
 lo:∀ i,i < k->b i=true
 hi:∀ i,k<=i->i < n->b i=false
theorem pU(h:Ask prog w A s κ P lt){left:Bool}{v:Keyed}{a:Array Keyed}{base hint:Nat}{Q:Option Nat->SortSt->Prop}(X:kindOf st=κ)(W:P v)(ha:All P a)(hs:base + n<=a.size)(d:hint < n)(y:∀ i j,i<=j->j < n->bey lt left v a base j=true->bey lt left v a base i=true)(q:∀ k,Part (bey lt left v a base) n k->Q (some k) st):wpS (model prog w) A E s (gal left v a base n hint) Q st:=by
 have ask:∀ {R:Option Bool->SortSt->Prop} {m:StateT SortSt Sem (Option Bool)} {i:Nat},i < n->R (some (bey lt left v a base i)) st->
   m=(do let x <- elem' a (base + i);if left=true then lt' x v else do let r <- lt' v x;pure (SY (λx=>!x) r))->wpS (model prog w) A E s m R st:=by
  intro R m i hi r e;subst e;refine dV (bI (by exact WF 0x526249be6910ad238 hs hi) ?_);have V:=ha (base + i) (by lia);delta bey at r;cases left with
  | true=>exact h.ask X V W r
  | false=>exact dV (h.ask X W V (eL r))
 have F:∀ i j,i<=j->j < n->bey lt left v a base i=false->bey lt left v a base j=false:=λi j J C D=>by
  cases e:bey lt left v a base j with
  | false=>rfl
  | true=>rw[y i j J C e] at D;cases D
 generalize Y:bey lt left v a base=b at ask y F q;have N:∀ (lo hi:Nat) {R:Option (Option Nat)×Nat×Nat->SortSt->Prop} {B:Nat->Option (Option Nat)×Nat×Nat->StateT SortSt Sem (ForInStep (Option (Option Nat)×Nat×Nat))},lo<=hi->hi<=n->(∀ i,i < lo->b i=true)->(∀ i,hi<=i->i < n->b i=false)->
   (∀ x lo hi (T:ForInStep (Option (Option Nat)×Nat×Nat)->SortSt->Prop),hi<=n->(lo≥hi->T (.done (none,lo,hi)) st)->(lo < hi->T (.yield (if b (lo + (hi - lo) / 2)=true then (none,lo + (hi - lo) / 2 + 1,hi) else (none,lo,lo + (hi - lo) / 2))) st)->wpS (model prog w) A E s (B x (none,lo,hi)) T st)->
   (∀ k,Part b n k->R (none,k,k) st)->wpS (model prog w) A E s (forIn [0:n] (none,lo,hi) B) R st:=by
  intro lo hi R B J C D G M r;refine mF (I:=λt c p=>p=st/\∃ lo hi,c=(none,lo,hi)/\lo<=hi/\hi<=n/\hi - lo<=n - t/\(∀ i,i < lo->b i=true)/\∀ i,hi<=i->i < n->b i=false) ?_ ?_ ⟨rfl,lo,hi,rfl,J,C,by exact WF 0xeac74e826c8951520b8 C V2 V1,D,G⟩
  .rintro t c p _ S hI;refine Cq hI λL lo hi e d=>?_;subst L;subst e;have J:=d.1;have C:=d.2.1;have H:=d.2.2.1;have D:=d.2.2.2.1;have G:=d.2.2.2.2;clear d hI;refine M t lo hi _ C (λz=>?_) λz=>?_
   .have:lo=hi:=by lia
    subst this;exact r lo ⟨C,D,G⟩
   .refine⟨rfl,?_⟩;split
    .rename_i e;exact⟨_,_,rfl,by exact WF 0x195c95abf21e8f3ec2605872e78 z (ea _ _) (V3 (WF 6550555678 z)),C,by exact WF 0x96834c166e2cca7768723b0c7ed44bfde59ebf4af9fa0de4419199 H V1 (V5 (by decide)) V1 (V3 (WF 6550555678 S)) (V3 (WF 0x195c95abf21e8f3ec2605872e78 z (ea _ _) (V3 (WF 6550555678 z)))),λi U=>y i _ (by exact WF 0x17fa9bd75c41e0b U) (by exact WF 0x1000a5176aba96bd9e0309285d07cb65 C z (ea _ _) (V3 (WF 6550555678 z))) e,G⟩
    .rename_i e;exact⟨_,_,rfl,by lia,by exact WF 0xeddd8d419891e7d66e709285d07cb65 C z (ea _ _) (V3 (WF 6550555678 z)),by exact WF 0x51bb9c4a4edcbcd358c080beefbbcc7caf64ca96c H (ea _ _) V1 (V3 (WF 224099822)) (V3 (WF 6550555678 S)),D,λi K h7=>F _ i K h7 (by simpa using e)⟩
  .rintro c p hI;refine Cq hI λL lo hi e d=>?_;subst L;subst e;have J:=d.1;have C:=d.2.1;have H:=d.2.2.1;have D:=d.2.2.2.1;have G:=d.2.2.2.2;clear d hI;have:lo=hi:=by lia
   subst this;exact r lo ⟨C,D,G⟩
 refine dV (ask d ?_ rfl);have fin:∀ (lo hi:Nat) {m:StateT SortSt Sem (Option Nat)} {B:Nat->Option (Option Nat)×Nat×Nat->StateT SortSt Sem (ForInStep (Option (Option Nat)×Nat×Nat))} {f:Option (Option Nat)×Nat×Nat->StateT SortSt Sem (Option Nat)},lo<=hi->hi<=n->(∀ i,i < lo->b i=true)->(∀ i,hi<=i->i < n->b i=false)->m=(forIn [0:n] (none,lo,hi) B >>= f)->
   (∀ k,f (none,k,k)=pure (some k))->
   (∀ x lo hi,∃ (u:StateT SortSt Sem (Option Bool)) (g:Option Bool->StateT SortSt Sem (ForInStep (Option (Option Nat)×Nat×Nat))),B x (none,lo,hi)=(if lo≥hi then pure (.done (none,lo,hi)) else u >>= g)/\u=(do let x <- elem' a (base + (lo + (hi - lo) / 2));if left=true then lt' x v else do let r <- lt' v x;pure (SY (λx=>!x) r))/\
    g (some true)=pure (.yield (none,lo + (hi - lo) / 2 + 1,hi))/\g (some false)=pure (.yield (none,lo,lo + (hi - lo) / 2)))->wpS (model prog w) A E s m Q st:=by
  intro lo hi m B f J C D G e hf Y;subst e;refine dV (N lo hi J C D G (λx lo hi T d r1 r2=>?_) λk pk=>?_)
  .obtain⟨u,g,e1,e2,g1,g2⟩:=Y x lo hi;rw[e1];by_cases z:lo≥hi
   .rw[if_pos z];exact eL (r1 z)
   .refine dv z ?_;refine dV (ask (i:=lo + (hi - lo) / 2) (by exact WF 0x1000a5176aba96bd9e030a2a32416b65 d z (ea _ _) (V3 (WF 6567217246 z))) ?_ e2);have z2:=r2 (by exact WF 7049107550 z);cases eb:b (lo + (hi - lo) / 2) with
    | true=>rw[if_pos eb] at z2;rw[g1];exact eL z2
    | false=>rw[eb] at z2;rw[g2];exact eL z2
  .rw[hf];exact eL (q k pk)
 cases Z:b hint with
 | true=>
  dsimp only;refine wif rfl ?_;refine dV (mF (I:=λt c p=>p=st/\∃ l o,c=(none,l,o)/\l < o/\t + 1<=o/\hint + l < n/\b (hint + l)=true)
   (Q:=λc p=>wpS (model prog w) A E s _ Q p) ?_ ?_ ⟨rfl,0,1,rfl,by exact nz _,by exact nz _,d,Z⟩)
  .rintro t c p _ S hI;refine Cq hI λL l o e d=>?_;subst L;subst e;have J:=d.1;have C:=d.2.1;have D:=d.2.2.1;have G:=d.2.2.2;clear d hI;dsimp only;by_cases z:o≥n - hint
   .refine wif z ?_;refine eL ?_;dsimp only;refine fin (hint + l + 1) (hint + min o (n - hint)) (by exact WF 0x193bb9dd511a5c30bf05f683265 D V1 (tF (WF 6550533726 z))) (by exact WF 0x4c8b28b47e78969b8 (mu _ _) (V3 (WF 6550555678 d))) (λi hi=>y i _ (by lia) D G) (λi H K=>by exact mM (WF 0x32b89cb1d414d6be109665 H K V1 (tF (WF 6550533726 z)))) rfl (λk=>rfl) (λx lo hi=>⟨_,_,rfl,rfl,rfl,rfl⟩)
   .refine dv z ?_;refine dV (ask (i:=hint + o) (by exact WF 0x522eda1c7d48421b8 z (V3 (WF 6550555678 d))) ?_ rfl);dsimp only;cases O:b (hint + o) with
    | true=>exact eL ⟨rfl,o,2 * o + 1,rfl,by lia,by exact WF 0xe131c3b116fe957ca4b J C,by lia,O⟩
    | false=>
     refine eL ?_;dsimp only;refine fin (hint + l + 1) (hint + min o (n - hint)) (by exact WF 0x8086249ffcb5d98a78 J (lE (WF 6567217246 z))) (by exact WF 0x19a3973eb31f0f4a45be5 z (lC _ _) (V3 (WF 6550555678 d))) (λi hi=>y i _ (by lia) D G) (λi H K=>F (hint + o) i (by exact WF 0x4cbe878acd3837238 H (lE (WF 6567217246 z))) K O) rfl (λk=>rfl) (λx lo hi=>⟨_,_,rfl,rfl,rfl,rfl⟩)
  .rintro c p hI;refine Cq hI λL l o e d=>?_;subst L;subst e;have J:=d.1;have C:=d.2.1;have D:=d.2.2.1;have G:=d.2.2.2;clear d hI;dsimp only;refine fin (hint + l + 1) (hint + min o (n - hint)) (by exact WF 0x193bb9dd511a5c30bf05f683265 D V1 (tF (WF 0x4d10bdbb1c5f62ea8 C V2 (Ru _ _)))) (by exact WF 0x4c8b28b47e78969b8 (mu _ _) (V3 (WF 6550555678 d))) (λi hi=>y i _ (by lia) D G) (λi H K=>by lia) rfl (λk=>rfl) (λx lo hi=>⟨_,_,rfl,rfl,rfl,rfl⟩)
 | false=>
  dsimp only;refine dv (by decide) ?_;refine dV (mF (I:=λt c p=>p=st/\∃ l o,c=(none,l,o)/\l < o/\t + 1<=o/\l<=hint/\b (hint - l)=false)
   (Q:=λc p=>wpS (model prog w) A E s _ Q p) ?_ ?_ ⟨rfl,0,1,rfl,by exact nz _,by exact nz _,by exact eg _,Z⟩)
  .rintro t c p _ S hI;refine Cq hI λL l o e d=>?_;subst L;subst e;have J:=d.1;have C:=d.2.1;have D:=d.2.2.1;have G:=d.2.2.2;clear d hI;dsimp only;by_cases z:o≥hint + 1
   .refine wif z ?_;refine eL ?_;dsimp only;refine fin (hint + 1 - min o (hint + 1)) (hint - l) (by exact WF 0x4ca992c91224f83f8 (tF (WF 5128091341550 z)) (V3 (WF 4932925450910 (mu _ _)))) (by exact WF 0x831d407ef64b d V2) (λi hi=>by exact mM (WF 0x962d24d256b15e9278 hi (tF (WF 5128091341550 z)) (V3 (WF 4932925450910 (mu _ _))))) (λi H K=>F (hint - l) i H K G) rfl (λk=>rfl) (λx lo hi=>⟨_,_,rfl,rfl,rfl,rfl⟩)
   .refine dv z ?_;refine dV (ask (i:=hint - o) (by exact WF 0x8cbc3d9af64b d V2) ?_ rfl);dsimp only;cases O:b (hint - o) with
    | false=>exact eL ⟨rfl,o,2 * o + 1,rfl,by lia,by lia,by exact WF 183882070766 z,O⟩
    | true=>
     refine eL ?_;dsimp only;refine fin (hint + 1 - min o (hint + 1)) (hint - l) (by exact WF 0xf2153fd01bd17e1d8b2bc12d2 J V1 (lE (WF 4933392906990 z)) (V3 (WF 0x180c9e2a461d0cb z (lC _ _)))) (by exact WF 0x831d407ef64b d V2) (λi hi=>y i (hint - o) (by exact WF 0xf2322cfb053ce589b1d8bd2d2 hi V1 (lE (WF 4933392906990 z)) (V3 (WF 0x180c9e2a461d0cb z (lC _ _)))) (by lia) O) (λi H K=>F (hint - l) i H K G) rfl (λk=>rfl) (λx lo hi=>⟨_,_,rfl,rfl,rfl,rfl⟩)
  .rintro c p hI;refine Cq hI λL l o e d=>?_;subst L;subst e;have J:=d.1;have C:=d.2.1;have D:=d.2.2.1;have G:=d.2.2.2;clear d hI;dsimp only;refine fin (hint + 1 - min o (hint + 1)) (hint - l) (by exact WF 0x4ca992c91224f83f8 (tF (WF 0x85f6b5147467ba1e78 d C (Ru _ _))) (V3 (WF 4932925450910 (mu _ _)))) (by lia) (λi hi=>by exact mM (WF 0x962d24d256b15e9278 hi (tF (WF 0x85f6b5147467ba1e78 d C (Ru _ _))) (V3 (WF 4932925450910 (mu _ _))))) (λi H K=>F (hint - l) i H K G) rfl (λk=>rfl) (λx lo hi=>⟨_,_,rfl,rfl,rfl,rfl⟩)
end
section
variable {s:Shared}{κ:PD}{P:Keyed->Prop}{lt:Keyed->Keyed->Bool}{st st':SortSt}{a b out:Array Keyed}{ia ib:Nat}
def Srt (lt:Keyed->Keyed->Bool)(l:List Keyed):Prop:=l.Pairwise λx y=>lt y x=false
def Res (lt:Keyed->Keyed->Bool)(a b r:Array Keyed):Prop:=r.toList.Perm (a.toList++b.toList)/\Srt lt r.toList
structure jJ (st st':SortSt):Prop where
 k:kindOf st'=kindOf st
 a:arrOf st'=arrOf st
 p:lg st'=lg st
 f:om st'=om st
theorem jJ.refl:jJ st st:=⟨rfl,rfl,rfl,rfl⟩
theorem jJ.gal(h:jJ st st')(g:Nat):jJ st (Pf (kindOf st') (arrOf st') (lg st') g (om st')):=⟨h.k,h.a,h.p,h.f⟩
structure MI (lt:Keyed->Keyed->Bool) (a b out:Array Keyed) (ia ib:Nat):Prop where
 perm:(out.toList++(a.toList.drop ia++b.toList.drop ib)).Perm (a.toList++b.toList)
 srt:Srt lt out.toList
 oa:∀ x∈out.toList,∀ y∈a.toList.drop ia,lt y x=false
 ob:∀ x∈out.toList,∀ y∈b.toList.drop ib,lt y x=false
theorem tJ(h:ia < a.size):a.toList.drop ia=XQ a ia::a.toList.drop (ia + 1):=by
 have b:ia < a.toList.length:=by simpa using h
 rw[NV b]
 congr 1
 have:=yA h;rw[eR h] at this;rw[<- hF this,Array.getElem_toList]
theorem Srt.rest(h:Srt lt a.toList)(c:ia < a.size):∀ y∈a.toList.drop (ia + 1),lt y (XQ a ia)=false:=by
 have b:Srt lt (a.toList.drop ia):=ko (vr _ _) h;rw[tJ c] at b;exact(kq.mp b).1
theorem rQ{l:List Keyed}{x:Keyed}(h:Srt lt l)(c:∀ y∈l,lt x y=false):Srt lt (l++[x]):=iR.mpr ⟨h,Rv _ _,λy b z a=>by rw[fP.mp a];exact c y b⟩
theorem MI.uz(m:MI lt a b out ia ib)(f:Srt lt a.toList)(d:ia < a.size)(g:∀ y∈b.toList.drop ib,lt y (XQ a ia)=false):MI lt a b (out.push (XQ a ia)) (ia + 1) ib:=by
 have e:=tJ d;refine⟨?_,?_,λx hx y c=>?_,λx hx y c=>?_⟩
 .have:=m.perm;rw[e] at this;rw[gs];simpa using this
 .rw[gs];exact rQ m.srt λy c=>m.oa y c _ (by rw[e];exact .head _)
 .rw[gs] at hx;rcases eE.mp hx with hx | hx
  .exact m.oa x hx y (by rw[e];exact .tail _ c)
  .rw[fP.mp hx];exact f.rest d y c
 .rw[gs] at hx;rcases eE.mp hx with hx | hx
  .exact m.ob x hx y c
  .rw[fP.mp hx];exact g y c
theorem MI.se(m:MI lt a b out ia ib)(f:Srt lt b.toList)(d:ib < b.size)(g:∀ y∈a.toList.drop ia,lt y (XQ b ib)=false):MI lt a b (out.push (XQ b ib)) ia (ib + 1):=by
 have e:=tJ d;refine⟨?_,?_,λx hx y c=>?_,λx hx y c=>?_⟩
 .refine OZ ?_ m.perm;rw[e,gs,hQ];refine qO _ ?_;simp -iota only[IR];exact PP.symm
 .rw[gs];exact rQ m.srt λy c=>m.ob y c _ (by rw[e];exact .head _)
 .rw[gs] at hx;rcases eE.mp hx with hx | hx
  .exact m.oa x hx y c
  .rw[fP.mp hx];exact g y c
 .rw[gs] at hx;rcases eE.mp hx with hx | hx
  .exact m.ob x hx y (by rw[e];exact .tail _ c)
  .rw[fP.mp hx];exact f.rest d y c
theorem ye(h:ia + k < a.size):out++a.extract ia (ia + (k + 1))=(out++a.extract ia (ia + k)).push (XQ a (ia + k)):=by
 apply ro.mp;have b:ia + k < a.toList.length:=by simpa using h
 rw[gs,ku,ku,oo,oo,hQ]
 congr 1
 rw[lu,lu,mv,mv,BS]
 congr 1
 rw[rp,dm,yA h]
 rfl
theorem MI.chA(m:MI lt a b out ia ib)(c:Srt lt a.toList):∀ k,ia + k<=a.size->(∀ i,i < k->∀ y∈b.toList.drop ib,lt y (XQ a (ia + i))=false)->MI lt a b (out++a.extract ia (ia + k)) (ia + k) ib
 | 0,_,_=>by
  have:out++a.extract ia (ia + 0)=out:=by apply ro.mp;simp
  rw[this];exact m
 | k + 1,h,d=>by
  rw[ye (by assumption)];exact(MI.chA m c k (by exact fq (by assumption)) λi e=>d i (by exact WF 189668871198 e)).uz c (by assumption) (d k (by exact bU _))
theorem MI.chB(m:MI lt a b out ia ib)(c:Srt lt b.toList):∀ k,ib + k<=b.size->(∀ i,i < k->∀ y∈a.toList.drop ia,lt y (XQ b (ib + i))=false)->MI lt a b (out++b.extract ib (ib + k)) ia (ib + k)
 | 0,_,_=>by
  have:out++b.extract ib (ib + 0)=out:=by apply ro.mp;simp
  rw[this];exact m
 | k + 1,h,d=>by
  rw[ye (by assumption)];exact(MI.chB m c k (by exact fq (by assumption)) λi e=>d i (by lia)).se c (by assumption) (d k (by exact bU _))
theorem rE:(a.extract ia a.size).toList=a.toList.drop ia:=by
 rw[oo,lu,iA (by simp)]
theorem MI.done(m:MI lt a b out ia ib)(d:Srt lt a.toList)(c:Srt lt b.toList)(h:a.size<=ia\/b.size<=ib):Res lt a b (out++a.extract ia a.size++b.extract ib b.size):=by
 have g:Srt lt (a.toList.drop ia):=ko (vr _ _) d;have f:Srt lt (b.toList.drop ib):=ko (vr _ _) c;delta Res;rw[ku,ku,rE,rE,hQ];refine⟨m.perm,?_⟩;rcases h with h | h
 .have e:a.toList.drop ia=[]:=oz (by simpa using h);rw[e,Pa];exact iR.mpr ⟨m.srt,f,m.ob⟩
 .have e:b.toList.drop ib=[]:=oz (by simpa using h);rw[e,jw];exact iR.mpr ⟨m.srt,g,m.oa⟩
theorem MI.last(m:MI lt a b out ia ib)(f:Srt lt b.toList)(d:ia + 1=a.size)(h:∀ y∈b.toList,lt (XQ a ia) y=false):Res lt a b (out++b.extract ib b.size++a.extract ia a.size):=by
 have g:Srt lt (b.toList.drop ib):=ko (vr _ _) f;delta Res;rw[ku,ku,rE,rE,hQ];refine⟨(qO _ List.perm_append_comm).trans m.perm,?_⟩;have e:a.toList.drop ia=[XQ a ia]:=by rw[tJ (by exact WF 196909090030 d),oz (by simpa using Pp d.symm)]
 have c:=m.oa;rw[e] at c ⊢;rw[<- hQ];refine rQ (iR.mpr ⟨m.srt,g,m.ob⟩) λy hy=>?_;rcases eE.mp hy with hy | hy
 .exact c y hy _ (.head _)
 .exact h y (Lr hy)
theorem sJ{y:Keyed}(h:y∈a.toList.drop ia):∃ i,ia<=i/\i < a.size/\y=XQ a i:=by
 obtain⟨k,b⟩:=rC h;rw[rp,dm] at b;have lt:ia + k < a.size:=(ml.mp b).1;refine⟨ia + k,by lia,lt,?_⟩;rw[yA lt] at b;cases b;rfl
theorem Srt.at (h:Srt lt a.toList)(d:∀ x,lt x x=false){i j:Nat}(b:i<=j)(c:j < a.size):lt (XQ a j) (XQ a i)=false:=by
 by_cases e:i=j
 .subst e;exact d _
 .have:=h.rest (ia:=i) (by exact WF 0x8c6aaa0a598b b c);refine this _ ?_;have:=yA c;rw[<- dm] at this;refine eW (i:=j - (i + 1)) ?_;rw[rp,show i + 1 + (j - (i + 1))=j by lia,this]
theorem lR{x:String}{Q:PUnit->SortSt->Prop}(q:Q ⟨⟩ st):wpS (model prog w) A E s (liftM (rule x):StateT SortSt Sem PUnit) Q st:=wpS_lift (PN ⟨rfl,q⟩)
theorem Srt.Ih(c:Srt lt a.toList)(h:Ask prog w A s κ P lt){b:Keyed}{base:Nat}(hs:autoParam (base + n<=a.size) wq4):∀ i j,i<=j->j < n->bey lt false b a base j=true->bey lt false b a base i=true:=λi j g f e=>by
 have d:lt b (XQ a (base + j))=false:=by simpa [bey] using e
 have:=h.tr _ _ _ (c.at h.rf (show base + i<=base + j by lia) (by lia)) d;simpa [bey] using this
theorem Srt.Ii(d:Srt lt a.toList)(h:Ask prog w A s κ P lt){b:Keyed}{base:Nat}(hs:autoParam (base + n<=a.size) wq4):∀ i j,i<=j->j < n->bey lt true b a base j=true->bey lt true b a base i=true:=λi j l k g=>by
 have c:lt (XQ a (base + j)) b=true:=by simpa [bey] using g
 have f:=d.at h.rf (show base + i<=base + j by lia) (by lia);show lt (XQ a (base + i)) b=true;cases e:lt (XQ a (base + i)) b with
 | true=>rfl
 | false=>rw[h.tr _ _ _ e f] at c;cases c
theorem jpI{b a:Type}{c:Prop}[Decidable c]{v:b->StateT SortSt Sem a}{x y:b}{Q:a->SortSt->Prop}(h:∀ g,wpS (model prog w) A E s (v g) Q st):wpS (model prog w) A E s (if c then v x else v y) Q st:=by
 split
 .exact h _
 .exact h _
theorem jpR{e d c:Type}{f:StateT SortSt Sem c}{Q:c->SortSt->Prop}(g:Unit->e->d->StateT SortSt Sem c)(R:e->d->Prop)(a:∀ x y,R x y->wpS (model prog w) A E s (g ⟨⟩ x y) Q st)(b:(∀ x y,R x y->wpS (model prog w) A E s (g ⟨⟩ x y) Q st)->wpS (model prog w) A E s f Q st):wpS (model prog w) A E s f Q st:=b a
theorem Kf(h:Ask prog w A s κ P lt){Q:Array Keyed->SortSt->Prop}(hk:kindOf st=κ)(pa:All P a)(pb:All P b)(K:Srt lt a.toList)(G:Srt lt b.toList)(na:0 < a.size)(nb:0 < b.size)(hf:lt (XQ b 0) (XQ a 0)=true)(hl:∀ y∈b.toList,lt (XQ a (a.size - 1)) y=false)(q:∀ r st',jJ st st'->Res lt a b r->Q r st'):wpS (model prog w) A E s (mLo a b) Q st:=by
 have rf:=h.rf;have U:∀ {i:Nat},i + 1=a.size->∀ y∈b.toList,lt (XQ a i) y=false:=λ{i} e=>by
  have:i=a.size - 1:=by lia
  rw[this];exact hl
 have m0:MI lt a b #[XQ b 0] 0 1:=by
  have z:MI lt a b #[] 0 0:=⟨by simp,oC,(λx hx=>by simp -iota at hx),(λx hx=>by simp -iota at hx)⟩;have:=z.se G nb λy J=>by
   obtain⟨i,_,V,rfl⟩:=sJ J;have:=K.at rf (eg i) V;exact h.tr _ _ _ (h.asym _ _ hf) this
  exact this
 refine dV (lR (dV (bI nb ?_)))
 extract_lets o0 n0 b7
 by_cases z1:1=b.size
 .refine wif (by simpa using z1) ?_;exact eL (q _ _ .refl (m0.done K G (.inr (by lia))))
 refine dv (by simpa using z1) ?_;by_cases z2:0 + 1=a.size
 .refine wif (by simpa using z2) ?_;exact eL (q _ _ .refl (m0.last G z2 (U z2)))
 refine dv (by simpa using z2) ?_;refine dV (PY ?_);refine dV (Lx (mF (I:=λt c st'=>jJ st st'/\∃ l R O g,c=(none,l,R,O,g)/\MI lt a b l R O/\R + 1 < a.size/\O < b.size/\t + 1<=R + O)
  (Q:=λc st'=>jJ st st'/\∃ r,c.1=some r/\Res lt a b r) ?_ ?_ ⟨.refl,_,_,_,_,rfl,m0,by lia,by lia,by exact nz _⟩) ?_)
 .rintro t c a2 _ ht hI;refine Hw hI λN l R O g e p=>?_;subst e;have m:=p.1;have u:=p.2.1;have f:=p.2.2.1;have hm:=p.2.2.2;clear p hI
  extract_lets s0 x1 s1 x2 s2 x3 x4
  dsimp -zeta -zetaHave only[s0,x1,s1,x2,s2,x3,x4];refine dV (Lx (mF (I:=λt' c st'=>jJ st st'/\∃ l d ib' T S,c=(none,l,d,ib',T,S)/\MI lt a b l d ib'/\d + 1 < a.size/\ib' < b.size/\R + O + t'<=d + ib')
   (Q:=λc st'=>jJ st st'/\((∃ r,c.1=some r/\Res lt a b r)\/∃ l d ib' T S,c=(none,l,d,ib',T,S)/\MI lt a b l d ib'/\d + 1 < a.size/\ib' < b.size/\R + O + 1<=d + ib')) ?_ ?_ ⟨N,_,_,_,_,_,rfl,m,u,f,by exact bU _⟩) ?_)
  .rintro t' c a1 _ b1 hI;refine Hv hI λM l d ib' T S e p=>?_;subst e;have m:=p.1;have u:=p.2.1;have f:=p.2.2.1;have D:=p.2.2.2;clear p hI
   try dsimp only
   refine dV (bI f (dV (bI (by exact fq (by assumption)) (dV (h.ask (M.k.trans hk) (pb _ f) (pa _ (by exact fq (by assumption))) ?_)))))
   try dsimp only
   cases e:lt (XQ b ib') (XQ a d) with
   | true=>
    refine wif rfl ?_;refine dV (bI f ?_)
    try dsimp only
    have m1:=m.se G f λy J=>by
     obtain⟨i,F,H,rfl⟩:=sJ J;exact h.tr _ _ _ (h.asym _ _ e) (K.at rf F H)
    by_cases z:ib' + 1=b.size
    .refine wif (by simpa using z) ?_;exact eL ⟨M,.inl ⟨_,rfl,m1.done K G (.inr (by exact WF 4933392292334 z))⟩⟩
    .refine dv (by simpa using z) ?_;split
     .exact eL ⟨M,.inr ⟨_,_,_,_,_,rfl,m1,u,by lia,by exact WF 0x4b3872136cca62641f71e65 D⟩⟩
     .exact eL ⟨M,_,_,_,_,_,rfl,m1,u,by lia,by exact WF 0xe65cdd4acc0064b269df71e65 D⟩
   | false=>
    refine dv (by decide) ?_;refine dV (bI (by exact fq (by assumption)) ?_)
    try dsimp only
    have m1:=m.uz K (by exact fq (by assumption)) λy J=>by
     obtain⟨i,F,H,rfl⟩:=sJ J;exact h.tr _ _ _ e (G.at rf F H)
    by_cases z:d + 1 + 1=a.size
    .refine wif (by simpa using z) ?_;exact eL ⟨M,.inl ⟨_,rfl,m1.last G z (U z)⟩⟩
    .refine dv (by simpa using z) ?_;split
     .exact eL ⟨M,.inr ⟨_,_,_,_,_,rfl,m1,by lia,by omega,by exact WF 0x4b53c50b76e58e701f71e65 D⟩⟩
     .exact eL ⟨M,_,_,_,_,_,rfl,m1,by lia,by omega,by exact WF 0xe6b08b626af39b9729df71e65 D⟩
  .rintro c a1 hI;refine Hv hI λM l d ib' T S e p=>?_;subst e;have m:=p.1;have u:=p.2.1;have f:=p.2.2.1;have D:=p.2.2.2;clear p hI;exact⟨M,.inr ⟨_,_,_,_,_,rfl,m,u,f,by lia⟩⟩
  .rintro c a1 ⟨M,⟨r,e,res⟩ | hI⟩
   .obtain⟨c1,c2⟩:=c;cases e;exact eL ⟨M,_,rfl,res⟩
   refine ex5 hI λl d ib' T S e p=>?_;subst e;have m:=p.1;have u:=p.2.1;have f:=p.2.2.1;have D:=p.2.2.2;clear p hI
   extract_lets u0 u1 u2 u3 u4 u5 u6 u7 u8 u9
   dsimp -zeta -zetaHave only[u0,u1,u2,u3,u4,u5,u6,u7,u8,u9];refine dV (lR ?_);refine dV (Lx (mF (I:=λt' c st'=>jJ st st'/\∃ l C B g T S,c=(none,l,C,B,g,T,S)/\MI lt a b l C B/\C + 1 < a.size/\B < b.size/\R + O + 1<=C + B)
    (Q:=λc st'=>jJ st st'/\((∃ r,c.1=some r/\Res lt a b r)\/∃ l C B g T S,c=(none,l,C,B,g,T,S)/\MI lt a b l C B/\C + 1 < a.size/\B < b.size/\R + O + 1<=C + B)) ?_ ?_ ⟨M,_,_,_,_,_,_,rfl,m,u,f,D⟩) ?_)
   .rintro t' c Z _ b1 hI;refine NK hI λL l d ib' g' T S e p=>?_;subst e;have m:=p.1;have u:=p.2.1;have f:=p.2.2.1;have D:=p.2.2.2;clear p hI
    extract_lets v0 v1 v2 v3 v4 v5 v6 v7 v8 v9 a' a0 jp g4
    refine jpI (v:=jp ⟨⟩) λg2=>?_;dsimp -zeta -zetaHave only[jp,v0,v1,v2,v3,v4,v5,v6,v8,v9,a',a0];refine dV (qr ?_);refine dV (bI f (dV (pU h (L.k.trans hk) (pb _ f) pa (by exact WF 0xe483a30ef7e0b (V3 (WF 183415546862 u))) (by exact WF 0x522dc5fb04e6839cb u V1) (K.Ih h) λk pk=>?_)));dsimp -zeta -zetaHave only
    extract_lets c1 a7 o4 n4
    have kl:=pk.le;have p1:∀ i,i < k->lt (XQ b ib') (XQ a (d + i))=false:=λi V=>by have:=pk.lo i V;simpa [bey] using this
    have p2:∀ j,d + k<=j->j < a.size->lt (XQ b ib') (XQ a j)=true:=λj F H=>by
     have:=pk.hi (j - d) (by exact WF 0x4cab69a6341206238 F V1) (by exact WF 0x1bb3580b57eeef1cbcfa5 H V1 (V3 (WF 5136099970571 F)));rw[show j=d + (j - d) by exact ly (WF 0xdb41b95ad5a0b V1) (WF 0xe483a30ef7e0b (V3 (WF 5136099970571 F)))];simpa [bey] using this
    have m1:=m.chA K k (by exact WF 0x4c8b28b47e78969b8 kl (V3 (WF 183415546862 u))) λi V y J=>by
     obtain⟨j,F,H,rfl⟩:=sJ J;exact h.tr _ _ _ (p1 i V) (G.at rf F H)
    refine jpR a7 (λo n=>n=d + k/\n + 1 < a.size/\MI lt a b o n ib') ?_ λtl=>?_
    .rintro o1 X ⟨e1,b0,m1⟩;rw[<- e1] at p2;have b5:R + O + 1<=X + ib':=by exact WF 0x193cec7c2a0b0ecf302d61c5492 D e1
     dsimp -zeta -zetaHave only[a7];refine dV (bI f ?_)
     try extract_lets o5
     have m2:=m1.se G f λy J=>by
      obtain⟨j,F,H,rfl⟩:=sJ J;exact h.asym _ _ (p2 j F H)
     by_cases z3:ib' + 1=b.size
     .refine wif (by simpa using z3) ?_;exact eL ⟨L.gal _,.inl ⟨_,rfl,m2.done K G (.inr (by lia))⟩⟩
     refine dv (by simpa using z3) ?_;refine dV (bI (by exact fq (by assumption)) (dV (pU h (L.k.trans hk) (pa _ (by exact fq (by assumption))) pb (by exact WF 0x2bbd2cd7f0936bcb (V3 (WF 183146141726 f))) (by exact WF 0x902a584fe503ea530b V1 (oq (WF 183146141726 f) z3)) (G.Ii h) λN W=>?_)));dsimp -zeta -zetaHave only
     extract_lets c3 a6 o6 n6
     have a5:=W.le;have q1:∀ i,i < N->lt (XQ b (ib' + 1 + i)) (XQ a X)=true:=λi V=>by have:=W.lo i V;simpa [bey] using this
     have q2:∀ j,ib' + 1 + N<=j->j < b.size->lt (XQ b j) (XQ a X)=false:=λj F H=>by
      have:=W.hi (j - (ib' + 1)) (by exact WF 0xeaccf25fb9b881a88a8 F V1) (by exact WF 0x54d53d9f86cd7bb621b8fa5 H V1 (V3 (WF 0xe4890f56e56cb F)));rw[show j=ib' + 1 + (j - (ib' + 1)) by exact ly (WF 0x29f7039feef8d30b V1) (WF 0x2bbd2cd7f0936bcb (V3 (WF 0xe4890f56e56cb F)))];simpa [bey] using this
     have m3:=m2.chB G N (by exact WF 0xea6a0fe561d825c79b8 a5 (V3 (WF 183146141726 f))) λi V y J=>by
      obtain⟨j,F,H,rfl⟩:=sJ J;exact h.tr _ _ _ (h.asym _ _ (q1 i V)) (K.at rf F H)
     refine jpR a6 (λo n=>n=ib' + 1 + N/\n < b.size/\MI lt a b o X n) ?_ λY=>?_
     .rintro o2 i2 ⟨e2,b8,m3⟩;rw[<- e2] at q2;have b4:R + O + 1<=X + i2:=by exact WF 0x2c29969e42e80756bb9e84cc5492 b5 e2
      dsimp -zeta -zetaHave only[a6];refine dV (bI (by exact fq (by assumption)) ?_)
      try extract_lets o7
      have m4:=m3.uz K (by exact fq (by assumption)) λy J=>by
       obtain⟨j,F,H,rfl⟩:=sJ J;exact q2 j F H
      by_cases z4:X + 1 + 1=a.size
      .refine wif (by simpa using z4) ?_;exact eL ⟨L.gal _,.inl ⟨_,rfl,m4.last G z4 (U z4)⟩⟩
      refine dv (by simpa using z4) ?_;split
      .exact eL ⟨L.gal _,.inr ⟨_,_,_,_,_,_,rfl,m4,by lia,by omega,by exact WF 0x2b0b4c068bfe734ac4f638 b4⟩⟩
      .exact eL ⟨L.gal _,_,_,_,_,_,_,rfl,m4,by lia,by omega,by lia⟩
     .by_cases a4:N > 0
      .refine wif a4 ?_;by_cases z:ib' + 1 + N=b.size
       .refine wif (by simpa using z) ?_;exact eL ⟨L.gal _,.inl ⟨_,rfl,m3.done K G (.inr (by exact WF 0x29f70449fa8b06cb z))⟩⟩
       refine dv (by simpa using z) ?_;exact Y _ _ ⟨rfl,by exact WF 0x2ef62484557366cb (oq (WF 0xea6a0fe561d825c79b8 a5 (V3 (WF 183146141726 f))) z),m3⟩
      .refine dv a4 ?_;have b6:N=0:=by lia
       exact Y _ _ ⟨by lia,by lia,m2⟩
    .by_cases kz:k > 0
     .refine wif kz ?_;by_cases z:d + k + 1=a.size
      .refine wif (by simpa using z) ?_;exact eL ⟨L.gal _,.inl ⟨_,rfl,m1.last G z (U z)⟩⟩
      refine dv (by simpa using z) ?_;by_cases z':d + k=a.size
      .refine wif (by simpa using z') ?_;exact eL ⟨L.gal _,.inl ⟨_,rfl,m1.done K G (.inl (by lia))⟩⟩
      refine dv (by simpa using z') ?_;exact tl _ _ ⟨rfl,by exact WF 0x2ef693d8a1bb470b (oq (WF 0x18fe9ce4dbd6a0b (oq (WF 0x4c8b28b47e78969b8 kl (V3 (WF 183415546862 u))) z')) z),m1⟩
     .refine dv kz ?_;have b6:k=0:=by lia
      exact tl _ _ ⟨by lia,u,m⟩
   .rintro c Z hc;exact⟨hc.1,.inr hc.2⟩
   .rintro c Z ⟨L,⟨r,e,res⟩ | hI⟩
    .obtain⟨c1,c2⟩:=c;cases e;exact eL ⟨L,_,rfl,res⟩
    .refine ex6 hI λl d ib' g' T S e p=>?_;subst e;have m:=p.1;have u:=p.2.1;have f:=p.2.2.1;have D:=p.2.2.2;clear p hI;exact dV (qr (eL ⟨L.gal _,_,_,_,_,rfl,m,u,f,by (try dsimp only);lia⟩))
 .rintro c a2 hI;refine Hw hI λN l R O g e p=>?_;subst e;have m:=p.1;have u:=p.2.1;have f:=p.2.2.1;have hm:=p.2.2.2;clear p hI;lia
 .rintro c a2 ⟨N,r,e,res⟩;obtain⟨c1,c2⟩:=c;cases e;exact eL (q _ _ N res)
end
section
variable {s:Shared}{κ:PD}{P:Keyed->Prop}{lt:Keyed->Keyed->Bool}{st st':SortSt}{a b out:Array Keyed}{na nb:Nat}
structure MH (lt:Keyed->Keyed->Bool) (a b out:Array Keyed) (na nb:Nat):Prop where
 perm:(a.toList.take na++(b.toList.take nb++out.toList.reverse)).Perm (a.toList++b.toList)
 srt:Srt lt out.toList.reverse
 oa:∀ x∈out.toList,∀ y∈a.toList.take na,lt x y=false
 ob:∀ x∈out.toList,∀ y∈b.toList.take nb,lt x y=false
theorem yI(h:na < a.size):a.toList.take (na + 1)=a.toList.take na++[XQ a na]:=by
 rw[BS,dm,yA h];rfl
theorem qj{y:Keyed}(h:y∈a.toList.take na):∃ i,i < na/\i < a.size/\y=XQ a i:=by
 obtain⟨k,c⟩:=rC h;have b:k < na:=by
  have:=(gS0 c).1;rw[dU] at this;exact WF 0x8c6a8d519f4b this (lC _ _)
 rw[ya b,dm] at c;have lt:k < a.size:=(ml.mp c).1;rw[yA lt] at c;cases c;exact⟨k,b,lt,rfl⟩
theorem rR{l:List Keyed}{x:Keyed}(h:Srt lt l)(a:∀ y∈l,lt y x=false):Srt lt (x::l):=kq.mpr ⟨a,h⟩
theorem MH.uz(m:MH lt a b out (na + 1) nb)(f:Srt lt a.toList)(g:∀ x,lt x x=false)(d:na < a.size)(j:∀ y∈b.toList.take nb,lt (XQ a na) y=false):MH lt a b (out.push (XQ a na)) na nb:=by
 have e:=yI d;have h:XQ a na∈a.toList.take (na + 1):=by rw[e];exact el _ (.head _)
 refine⟨?_,?_,λx hx y c=>?_,λx hx y c=>?_⟩
 .refine OZ ?_ m.perm;rw[e,gs,NY,hQ];refine qO _ ?_;simp -iota only[List.reverse_singleton,IR];exact PP
 .rw[gs,NY];exact rR m.srt λy c=>m.oa y (tD.mp c) _ h
 .rw[gs] at hx;rcases eE.mp hx with hx | hx
  .exact m.oa x hx y (by rw[e];exact ji _ c)
  .rw[fP.mp hx];obtain⟨i,l,k,rfl⟩:=qj c;exact f.at g (by exact fq (by assumption)) d
 .rw[gs] at hx;rcases eE.mp hx with hx | hx
  .exact m.ob x hx y c
  .rw[fP.mp hx];exact j y c
theorem MH.se(m:MH lt a b out na (nb + 1))(f:Srt lt b.toList)(g:∀ x,lt x x=false)(d:nb < b.size)(j:∀ y∈a.toList.take na,lt (XQ b nb) y=false):MH lt a b (out.push (XQ b nb)) na nb:=by
 have e:=yI d;have h:XQ b nb∈b.toList.take (nb + 1):=by rw[e];exact el _ (.head _)
 refine⟨?_,?_,λx hx y c=>?_,λx hx y c=>?_⟩
 .refine OZ ?_ m.perm;rw[e,gs,NY,hQ (List.take nb b.toList)];exact oF _
 .rw[gs,NY];exact rR m.srt λy c=>m.ob y (tD.mp c) _ h
 .rw[gs] at hx;rcases eE.mp hx with hx | hx
  .exact m.oa x hx y c
  .rw[fP.mp hx];exact j y c
 .rw[gs] at hx;rcases eE.mp hx with hx | hx
  .exact m.ob x hx y (by rw[e];exact ji _ c)
  .rw[fP.mp hx];obtain⟨i,l,k,rfl⟩:=qj c;exact f.at g (by exact fq (by assumption)) d
theorem AY{l:Nat}(h:l < n)(b:n<=a.size):out++(a.extract l n).reverse=(out++(a.extract (l + 1) n).reverse).push (XQ a l):=by
 apply ro.mp;have c:l < a.size:=by exact WF 0x8c6a8d519f4b h b
 rw[gs,ku,ku,LA,LA,oo,oo,hQ]
 congr 1
 rw[lu,lu,tJ c,show n - l=(n - (l + 1)) + 1 by lia,List.take_succ_cons,To]
theorem MH.chA(m:MH lt a b out na nb)(f:Srt lt a.toList)(g:∀ x,lt x x=false)(c:na<=a.size):∀ (d l:Nat),na=l + d->(∀ i,l<=i->i < na->∀ y∈b.toList.take nb,lt (XQ a i) y=false)->MH lt a b (out++(a.extract l na).reverse) l nb
 | 0,l,e,_=>by
  have k:l=na:=by lia
  subst k;have:out++(a.extract l l).reverse=out:=by apply ro.mp;simp
  rw[this];exact m
 | d + 1,l,e,h=>by
  rw[AY (by exact WF 0x8d179bc4430b e) c];exact(MH.chA m f g c d (l + 1) (by lia) λi n j=>h i (by exact fq (by assumption)) j).uz f g (by exact WF 0x2f42a86cfd7f8ab8 c e) (h l (bU _) (by lia))
theorem MH.chB(m:MH lt a b out na nb)(c:Srt lt b.toList)(f:∀ x,lt x x=false)(g:nb<=b.size):∀ (d l:Nat),nb=l + d->(∀ i,l<=i->i < nb->∀ y∈a.toList.take na,lt (XQ b i) y=false)->MH lt a b (out++(b.extract l nb).reverse) na l
 | 0,l,e,_=>by
  have k:l=nb:=by lia
  subst k;have:out++(b.extract l l).reverse=out:=by apply ro.mp;simp
  rw[this];exact m
 | d + 1,l,e,h=>by
  rw[AY (by lia) g];exact(MH.chB m c f g d (l + 1) (by lia) λi n j=>h i (by exact fq (by assumption)) j).se c f (by lia) (h l (bU _) (by lia))
theorem AZ:(a.extract 0 na).toList=a.toList.take na:=by
 rw[oo,lu,PF,RI]
theorem MH.done(m:MH lt a b out na nb)(f:Srt lt a.toList)(e:Srt lt b.toList)(h:na=0\/nb=0):Res lt a b (a.extract 0 na++b.extract 0 nb++out.reverse):=by
 have i:Srt lt (a.toList.take na):=ko (vc _ _) f;have g:Srt lt (b.toList.take nb):=ko (vc _ _) e;delta Res;rw[ku,ku,AZ,AZ,LA,hQ];refine⟨m.perm,?_⟩;rcases h with rfl | rfl
 .rw[UH,Pa];exact iR.mpr ⟨g,m.srt,λx d y c=>m.ob y (tD.mp c) x d⟩
 .rw[UH,Pa];exact iR.mpr ⟨i,m.srt,λx d y c=>m.oa y (tD.mp c) x d⟩
theorem MH.first(m:MH lt a b out na 1)(f:Srt lt a.toList)(j:0 < b.size)(i:∀ y∈a.toList,lt y (XQ b 0)=false):Res lt a b (b.extract 0 1++a.extract 0 na++out.reverse):=by
 have g:Srt lt (a.toList.take na):=ko (vc _ _) f;have e:b.toList.take 1=[XQ b 0]:=yI (na:=0) j;have d:=m.ob;have c:=m.perm;delta Res;rw[ku,ku,AZ,AZ,LA];rw[e] at c d ⊢;refine⟨?_,?_⟩
 .refine OZ ?_ c;simp -iota only[IR,PQ];exact PP.symm
 .simp -iota only[IR,PQ];refine rR (iR.mpr ⟨g,m.srt,λx h y hy=>m.oa y (tD.mp hy) x h⟩) λy hy=>?_;rcases eE.mp hy with hy | hy
  .exact i y (rD hy)
  .exact d y (tD.mp hy) _ (.head _)
theorem MH.pA(m:MH lt a b out na nb)(c:Srt lt a.toList)(d:∀ x,lt x x=false)(g:0 < na)(f:na<=a.size)(e:∀ y∈b.toList.take nb,lt (XQ a (na - 1)) y=false):MH lt a b (out.push (XQ a (na - 1))) (na - 1) nb:=by
 obtain⟨n,rfl⟩:∃ n,na=n + 1:=⟨na - 1,by lia⟩;exact m.uz c d (by assumption) e
theorem MH.pB(m:MH lt a b out na nb)(c:Srt lt b.toList)(d:∀ x,lt x x=false)(g:0 < nb)(f:nb<=b.size)(e:∀ y∈a.toList.take na,lt (XQ b (nb - 1)) y=false):MH lt a b (out.push (XQ b (nb - 1))) na (nb - 1):=by
 obtain⟨n,rfl⟩:∃ n,nb=n + 1:=⟨nb - 1,by lia⟩;exact m.se c d (by assumption) e
theorem Kg(h:Ask prog w A s κ P lt){Q:Array Keyed->SortSt->Prop}(hk:kindOf st=κ)(pa:All P a)(pb:All P b)(K:Srt lt a.toList)(S:Srt lt b.toList)(Y:0 < a.size)(c7:0 < b.size)(hf:∀ y∈a.toList,lt y (XQ b 0)=false)(hl:∀ y∈b.toList,lt (XQ a (a.size - 1)) y=false)(q:∀ r st',jJ st st'->Res lt a b r->Q r st'):wpS (model prog w) A E s (mHi a b) Q st:=by
 have T:=h.rf;have m0:MH lt a b #[XQ a (a.size - 1)] (a.size - 1) b.size:=by
  have z:MH lt a b #[] a.size b.size:=⟨by rw[iA (by simp),iA (by simp)];simp,oC,(λx hx=>by simp -iota at hx),(λx hx=>by simp -iota at hx)⟩;exact z.pA K T Y (bU _) λy L=>hl y (rD L)
 have W:∀ {p:Array Keyed} {na nb:Nat},nb=1->MH lt a b p na nb->Res lt a b (b.extract 0 nb++a.extract 0 na++p.reverse):=λ{p na nb} e m=>by
  subst e;exact m.first K c7 hf
 refine dV (lR (dV (bI (by exact WF 196907860718 (V3 (WF 5127833799481 Y))) ?_)))
 extract_lets o0 n0
 by_cases z1:a.size - 1=0
 .refine wif (by simpa using z1) ?_;exact eL (q _ _ .refl (m0.done K S (.inl z1)))
 refine dv (by simpa using z1) ?_;by_cases z2:b.size=1
 .refine wif (by simpa using z2) ?_;exact eL (q _ _ .refl (W z2 m0))
 refine dv (by simpa using z2) ?_;refine dV (PY ?_);refine dV (Lx (mF (I:=λt c st'=>jJ st st'/\∃ na nb p g,c=(none,na,nb,p,g)/\MH lt a b p na nb/\na<=a.size/\nb<=b.size/\0 < na/\1 < nb/\na + nb + t + 1<=a.size + b.size)
  (Q:=λc st'=>jJ st st'/\∃ r,c.1=some r/\Res lt a b r) ?_ ?_ ⟨.refl,_,_,_,_,rfl,m0,by exact WF 6550533726 V2,by exact bU _,by lia,by lia,by exact WF 0xe0e54fda14fa287f4cb (V3 (WF 5127833799481 Y))⟩) ?_)
 .rintro t c a6 _ ht hI;refine Hw hI λk1 na nb p g e f=>?_;subst e;have m:=f.1;have H:=f.2.1;have G:=f.2.2.1;have D:=f.2.2.2.1;have u:=f.2.2.2.2.1;have hm:=f.2.2.2.2.2;clear f hI
  extract_lets s0 d3 s1 c5 s2 a' g1
  dsimp -zeta -zetaHave only[s0,d3,s1,c5,s2,a',g1];refine dV (Lx (mF (I:=λt' c st'=>jJ st st'/\∃ na' d p R O,c=(none,na',d,p,R,O)/\MH lt a b p na' d/\na'<=a.size/\d<=b.size/\0 < na'/\1 < d/\na' + d + t'<=na + nb)
   (Q:=λc st'=>jJ st st'/\((∃ r,c.1=some r/\Res lt a b r)\/∃ na' d p R O,c=(none,na',d,p,R,O)/\MH lt a b p na' d/\na'<=a.size/\d<=b.size/\0 < na'/\1 < d/\na' + d + 1<=na + nb)) ?_ ?_ ⟨k1,_,_,_,_,_,rfl,m,H,G,D,u,by exact bU _⟩) ?_)
  .rintro t' c a5 _ d4 hI;refine Hv hI λN na' d p R O e f=>?_;subst e;have m:=f.1;have H:=f.2.1;have G:=f.2.2.1;have D:=f.2.2.2.1;have u:=f.2.2.2.2.1;have F:=f.2.2.2.2.2;clear f hI
   try dsimp only
   refine dV (bI (by exact WF 0xf6496ade0848b G (V3 (WF 5127833800265 u))) (dV (bI (by exact WF 0xf6496ade0848b H (V3 (WF 5127833799481 D))) (dV (h.ask (N.k.trans hk) (pb _ (by lia)) (pa _ (by lia)) ?_)))))
   try dsimp only
   cases e:lt (XQ b (d - 1)) (XQ a (na' - 1)) with
   | true=>
    refine wif rfl ?_;refine dV (bI (by lia) ?_)
    try dsimp only
    have m1:=m.pA K T D H λy L=>by
     obtain⟨i,J,V,rfl⟩:=qj L;exact h.tr _ _ _ (S.at T (show i<=d - 1 by exact WF 0xe4e4216594f4b J V1) (by lia)) (h.asym _ _ e)
    by_cases z:na' - 1=0
    .refine wif (by simpa using z) ?_;exact eL ⟨N,.inl ⟨_,rfl,m1.done K S (.inl z)⟩⟩
    .refine dv (by simpa using z) ?_;split
     .exact eL ⟨N,.inr ⟨_,_,_,_,_,rfl,m1,by exact WF 0x831d407ea08b H V2,G,by lia,u,by exact WF 0x193c50483f1554adbb3d0375292 F (V3 (WF 5127833799481 D))⟩⟩
     .exact eL ⟨N,_,_,_,_,_,rfl,m1,by lia,G,by lia,u,by exact WF 0x4d48b540bb19ceebb95dbd0375292 F (V3 (WF 5127833799481 D))⟩
   | false=>
    refine dv (by decide) ?_;refine dV (bI (by lia) ?_)
    try dsimp only
    have m1:=m.pB S T (by exact fq (by assumption)) G λy L=>by
     obtain⟨i,J,V,rfl⟩:=qj L;exact h.tr _ _ _ (K.at T (show i<=na' - 1 by exact WF 0xe4e4216594f4b J V1) (by lia)) e
    by_cases z:d - 1=1
    .refine wif (by simpa using z) ?_;exact eL ⟨N,.inl ⟨_,rfl,W z m1⟩⟩
    .refine dv (by simpa using z) ?_;split
     .exact eL ⟨N,.inr ⟨_,_,_,_,_,rfl,m1,H,by exact WF 0x831d407ea08b G V2,D,by exact WF 5505635798601 (oq (WF 0x2bbda1d27c54780a u V1) (lj z)),by exact WF 0x193c5047fd14a3dd6adff375292 F (V3 (WF 5127833800265 u))⟩⟩
     .exact eL ⟨N,_,_,_,_,_,rfl,m1,H,by lia,D,by lia,by exact WF 0x4d48b540bad7ce3ae90d5ff375292 F (V3 (WF 5127833800265 u))⟩
  .rintro c a5 hI;refine Hv hI λN na' d p R O e f=>?_;subst e;have m:=f.1;have H:=f.2.1;have G:=f.2.2.1;have D:=f.2.2.2.1;have u:=f.2.2.2.2.1;have F:=f.2.2.2.2.2;clear f hI;exact⟨N,.inr ⟨_,_,_,_,_,rfl,m,H,G,D,u,by lia⟩⟩
  .rintro c a5 ⟨N,⟨r,e,res⟩ | hI⟩
   .obtain⟨c1,c2⟩:=c;cases e;exact eL ⟨N,_,rfl,res⟩
   refine ex5 hI λna' d p R O e f=>?_;subst e;have m:=f.1;have H:=f.2.1;have G:=f.2.2.1;have D:=f.2.2.2.1;have u:=f.2.2.2.2.1;have F:=f.2.2.2.2.2;clear f hI
   extract_lets u0 c' u1 b' u2 a0 u3 e4 d9 d7
   dsimp -zeta -zetaHave only[u0,c',u1,b',u2,a0,u3,e4,d9,d7];refine dV (lR ?_);refine dV (Lx (mF (I:=λt' c st'=>jJ st st'/\∃ C B p g R O,c=(none,C,B,p,g,R,O)/\MH lt a b p C B/\C<=a.size/\B<=b.size/\0 < C/\1 < B/\C + B + 1<=na + nb)
    (Q:=λc st'=>jJ st st'/\((∃ r,c.1=some r/\Res lt a b r)\/∃ C B p g R O,c=(none,C,B,p,g,R,O)/\MH lt a b p C B/\C<=a.size/\B<=b.size/\0 < C/\1 < B/\C + B + 1<=na + nb)) ?_ ?_ ⟨N,_,_,_,_,_,_,rfl,m,H,G,D,u,F⟩) ?_)
   .rintro t' c a4 _ d4 hI;refine NK hI λM na' d p g' R O e f=>?_;subst e;have m:=f.1;have H:=f.2.1;have G:=f.2.2.1;have D:=f.2.2.2.1;have u:=f.2.2.2.2.1;have F:=f.2.2.2.2.2;clear f hI
    extract_lets v0 c0 v1 b0 v2 a7 v3 g3 v4 e2 d8 b8 jp g4
    refine jpI (v:=jp ⟨⟩) λg2=>?_;dsimp -zeta -zetaHave only[jp,v0,c0,v1,b0,v2,a7,v3,e2,d8,v4,b8];refine dV (qr ?_);refine dV (bI (by exact WF 0xf6496ade0848b G (V3 (WF 5127833800265 u))) (dV (pU h (M.k.trans hk) (pb _ (by omega)) pa (by lia) (by exact WF 196907860718 (V3 (WF 5127833799481 D))) (K.Ih h) λl pk=>?_)));dsimp -zeta -zetaHave only
    extract_lets c1 c2 b4 o4 n4
    have kl:=pk.le;have p1:∀ i,i < l->lt (XQ b (d - 1)) (XQ a i)=false:=λi hi=>by have:=pk.lo i hi;simpa [bey] using this
    have p2:∀ i,l<=i->i < na'->lt (XQ b (d - 1)) (XQ a i)=true:=λi J V=>by have:=pk.hi i J V;simpa [bey] using this
    have m1:=m.chA K T H (na' - l) l (by exact ly (WF 0xdb41b95ad5a0b V1) (WF 0xe483a30ef7e0b (V3 (WF 6550533726 kl)))) λi J V y L=>by
     obtain⟨j,h3,h4,rfl⟩:=qj L;exact h.tr _ _ _ (S.at T (show j<=d - 1 by exact WF 0xe4e4216594f4b h3 V1) (by exact WF 0xf6496ade0848b G (V3 (WF 5127833800265 u)))) (h.asym _ _ (p2 i J V))
    refine jpR b4 (λn o=>n=l/\0 < l/\MH lt a b o l d) ?_ λtl=>?_
    .rintro n o1 ⟨rfl,lp,m1⟩;dsimp -zeta -zetaHave only[b4];refine dV (bI (by exact WF 0xf6496ade0848b G (V3 (WF 5127833800265 u))) ?_)
     extract_lets o5
     have m2:=m1.pB S T (by exact fq (by assumption)) G λy L=>by
      obtain⟨j,J,V,rfl⟩:=qj L;exact p1 j J
     by_cases z3:d - 1=1
     .refine wif (by simpa using z3) ?_;exact eL ⟨M.gal _,.inl ⟨_,rfl,W z3 m2⟩⟩
     refine dv (by simpa using z3) ?_;have e1:d - 1<=b.size:=by exact WF 0x831d407ea08b G V2
     have d5:1 < d - 1:=by exact WF 5505635798601 (oq (WF 0x2bbda1d27c54780a u V1) (lj z3))
     have d6:n + (d - 1) + 1<=na + nb:=by exact WF 0x2c2ab2186a52022d842b4ebc5492 F kl V2
     refine dV (bI (by exact WF 0x52b2a70671a4ea0b8 H kl (V3 (WF 5127833799481 lp))) (dV (pU h (M.k.trans hk) (pa _ (by omega)) pb (by lia) (by exact WF 196907860718 (V3 (WF 5127833800265 d5))) (S.Ii h) λU X=>?_)));dsimp -zeta -zetaHave only
     extract_lets c3 c4 b1 o6 n6
     have a1:=X.le;have q1:∀ i,i < U->lt (XQ b i) (XQ a (n - 1))=true:=λi hi=>by have:=X.lo i hi;simpa [bey] using this
     have q2:∀ i,U<=i->i < d - 1->lt (XQ b i) (XQ a (n - 1))=false:=λi J V=>by have:=X.hi i J V;simpa [bey] using this
     have m3:=m2.chB S T e1 (d - 1 - U) U (by exact ly (WF 0xdb41b95ad5a0b V1) (WF 0xe483a30ef7e0b (V3 (WF 6550533726 a1)))) λi J V y L=>by
      obtain⟨j,h3,h4,rfl⟩:=qj L;exact h.tr _ _ _ (K.at T (show j<=n - 1 by exact WF 0xe4e4216594f4b h3 V1) (by exact WF 0x52b2a70671a4ea0b8 H kl (V3 (WF 5127833799481 lp)))) (q2 i J V)
     refine jpR b1 (λk o=>k=U/\1 < U/\MH lt a b o n U) ?_ λa2=>?_
     .rintro k o3 ⟨rfl,b5,m3⟩;dsimp -zeta -zetaHave only[b1]
      try extract_lets n7
      refine dV (bI (by exact WF 0x52b2a70671a4ea0b8 H kl (V3 (WF 5127833799481 lp))) ?_)
      extract_lets o7
      have m4:=m3.pA K T (by omega) (by lia) λy L=>by
       obtain⟨j,J,V,rfl⟩:=qj L;exact h.asym _ _ (q1 j J)
      by_cases z7:n - 1=0
      .refine wif (by simpa using z7) ?_;exact eL ⟨M.gal _,.inl ⟨_,rfl,m4.done K S (.inl z7)⟩⟩
      refine dv (by simpa using z7) ?_;split
      .exact eL ⟨M.gal _,.inr ⟨_,_,_,_,_,_,rfl,m4,by exact WF 0x2c0882e99b4aa0b8 H kl V2,by lia,by lia,b5,by exact WF 0x2c2ab2188777a9402f1e7bac5492 d6 a1 V2⟩⟩
      .exact eL ⟨M.gal _,_,_,_,_,_,_,rfl,m4,by omega,by lia,by lia,b5,by omega⟩
     .by_cases Z:d - 1 - U > 0
      .refine wif Z ?_;by_cases z5:U=1
       .refine wif (by simpa using z5) ?_;exact eL ⟨M.gal _,.inl ⟨_,rfl,W z5 m3⟩⟩
       refine dv (by simpa using z5) ?_;by_cases z6:U=0
       .refine wif (by simpa using z6) ?_;exact eL ⟨M.gal _,.inl ⟨_,rfl,m3.done K S (.inr z6)⟩⟩
       refine dv (by simpa using z6) ?_;exact a2 _ _ ⟨rfl,by lia,m3⟩
      .refine dv Z ?_;have b6:U=d - 1:=by exact ly (WF 6550533726 a1) (WF 0x2bce9ca8f274aebb Z V1)
       exact a2 _ _ ⟨b6.symm,by lia,by rw[b6];exact m2⟩
    .by_cases kz:na' - l > 0
     .refine wif kz ?_;by_cases z:l=0
      .refine wif (by simpa using z) ?_;exact eL ⟨M.gal _,.inl ⟨_,rfl,m1.done K S (.inl z)⟩⟩
      refine dv (by simpa using z) ?_;exact tl _ _ ⟨rfl,by lia,m1⟩
     .refine dv kz ?_;have b7:l=na':=by exact ly (WF 6550533726 kl) (WF 0x2bce9ca8f274aebb kz V1)
      exact tl _ _ ⟨b7.symm,by lia,by rw[b7];exact m⟩
   .rintro c a4 hc;exact⟨hc.1,.inr hc.2⟩
   .rintro c a4 ⟨M,⟨r,e,res⟩ | hI⟩
    .obtain⟨c1,c2⟩:=c;cases e;exact eL ⟨M,_,rfl,res⟩
    .refine ex6 hI λna' d p g' R O e f=>?_;subst e;have m:=f.1;have H:=f.2.1;have G:=f.2.2.1;have D:=f.2.2.2.1;have u:=f.2.2.2.2.1;have F:=f.2.2.2.2.2;clear f hI;exact dV (qr (eL ⟨M.gal _,_,_,_,_,rfl,m,H,G,D,u,by (try dsimp only);exact WF 0x8ac0be9b9c6a483ca1ed0f3d146563bc26bf hm F⟩))
 .rintro c a6 hI;refine Hw hI λk1 na nb p g e f=>?_;subst e;have m:=f.1;have H:=f.2.1;have G:=f.2.2.1;have D:=f.2.2.2.1;have u:=f.2.2.2.2.1;have hm:=f.2.2.2.2.2;clear f hI;lia
 .rintro c a6 ⟨k1,r,e,res⟩;obtain⟨c1,c2⟩:=c;cases e;exact eL (q _ _ k1 res)
end
section
variable {s:Shared}{κ:PD}{P:Keyed->Prop}{lt:Keyed->Keyed->Bool}{st st':SortSt}{a b:Array Keyed}{l L R L2:List Keyed}
noncomputable abbrev Y (l:List Keyed)(i:Nat):Keyed:=l.getD i (.none,.none)
theorem X_Y:XQ a i=Y a.toList i:=by
 delta XQ Y;rw[gp,dq,dm]
theorem tS(h:i < l.length):l[i]?=some (Y l i):=by
 delta Y;rw[dq,gE0 h];rfl
theorem Bd(e:a.toList=L++(R++L2))(h:i < R.length):XQ a (L.length + i)=Y R i:=by
 rw[X_Y,e];delta Y;rw[dq,dq,hC (by lia),mv,eQ h]
theorem wW:Y (l.drop k) i=Y l (k + i):=by
 delta Y;rw[dq,dq,rp]
theorem zQ(h:i < k):Y (l.take k) i=Y l i:=by
 delta Y;rw[dq,dq,ya h]
theorem xR{x:Keyed}(h:x∈l):∃ i,i < l.length/\x=Y l i:=by
 obtain⟨i,a⟩:=rC h;have lt:=(gS0 a).1;rw[tS lt] at a;cases a;exact⟨i,lt,rfl⟩
theorem DZ{x:Keyed}(h:x∈l.take k):∃ i,i < k/\i < l.length/\x=Y l i:=by
 obtain⟨i,a,rfl⟩:=xR h;rw[dU] at a;exact⟨i,by exact WF 0x8c6a8d519f4b a (lC _ _),by exact WF 0x8c6a8d519f4b a (mu _ _),zQ (by lia)⟩
theorem D0{x:Keyed}(h:x∈l.drop k):∃ i,k<=i/\i < l.length/\x=Y l i:=by
 obtain⟨i,a,rfl⟩:=xR h;rw[dw] at a;exact⟨k + i,by lia,by lia,wW⟩
theorem Srt.Yat(h:Srt lt l)(f:∀ x,lt x x=false)(b:i<=j)(a:j < l.length):lt (Y l j) (Y l i)=false:=by
 by_cases e:i=j
 .subst e;exact f _
 .have d:=tS a;have c:=tS (l:=l) (i:=i) (by exact WF 0x8c6aaa0a598b b a);have:=Ng.mp h i j (by lia) a (by lia);rw[gE0 a] at d;rw[gE0 (by lia)] at c;rw[<- hF d,<- hF c];exact this
theorem zW {b:Nat}:∀ (l:List Keyed) (j:Nat) (xs:Array Keyed),b + j + l.length<=xs.size->((l.zipIdx j).foldl (λa (x:Keyed×Nat)=>a.setIfInBounds (b + x.2) x.1) xs).toList=xs.toList.take (b + j)++(l++xs.toList.drop (b + j + l.length))
 | [],j,xs,h=>by simp
 | x::l,j,xs,h=>by
  rw[eK] at h;rw[List.zipIdx_cons,Uo,zW l (j + 1) _ (by rw[Rb];exact WF 0x19a38e255737ea7fc4638 h),QE,eK];have c:b + j < xs.toList.length:=by simp;exact WF 0x522edb505be3c4638 h
  rw[show b + (j + 1)=b + j + 1 by rfl,BS,Pm c,List.take_set_of_le (bU _),List.drop_set_of_lt (by lia),show b + j + 1 + l.length=b + j + (l.length + 1) by lia];simp
theorem wB(h:R≠[]):0 < R.length:=List.length_pos_iff.mpr h
theorem LS(h:Ask prog w A s κ P lt){base:Nat}{b:Keyed}(c:∀ i j,i<=j->j < n->lt (XQ a (base + j)) (XQ a (base + i))=false):∀ i j,i<=j->j < n->bey lt false b a base j=true->bey lt false b a base i=true:=λi j g f e=>by
 have d:lt b (XQ a (base + j))=false:=by simpa [bey] using e
 have:=h.tr _ _ _ (c i j g f) d;simpa [bey] using this
theorem LU(h:Ask prog w A s κ P lt){base:Nat}{b:Keyed}(d:∀ i j,i<=j->j < n->lt (XQ a (base + j)) (XQ a (base + i))=false):∀ i j,i<=j->j < n->bey lt true b a base j=true->bey lt true b a base i=true:=λi j k g f=>by
 have c:lt (XQ a (base + j)) b=true:=by simpa [bey] using f
 show lt (XQ a (base + i)) b=true;cases e:lt (XQ a (base + i)) b with
 | true=>rfl
 | false=>rw[h.tr _ _ _ e (d i j k g)] at c;cases c
theorem Kh(h:Ask prog w A s κ P lt){b R2:List Keyed}{N p2:Nat}{Q:Bool->SortSt->Prop}(S:kindOf st=κ)(B:All P (arrOf st))(C:(arrOf st).toList=L++(b++(R2++L2)))(z:Srt lt b)(t:Srt lt R2)(n1:b≠[])(n2:R2≠[])(hp:(lg st)[i]?=some (L.length,b.length,N))(X:(lg st)[i + 1]?=some (L.length + b.length,R2.length,p2))(T:om st=none)(q:∀ M st',M.Perm (b++R2)->Srt lt M->kindOf st'=kindOf st->om st'=none->(arrOf st').toList=L++(M++L2)->lg st'=((lg st).setIfInBounds i (L.length,b.length + R2.length,N)).eraseIdxIfInBounds (i + 1)->Q true st'):wpS (model prog w) A E s (mergeAt' i) Q st:=by
 have K:=h.rf;have c1:=wB n1;have J:=wB n2;have p:(arrOf st).toList=(L++b)++(R2++L2):=by rw[C,hQ]
 have o:(arrOf st).size=L.length + b.length + R2.length + L2.length:=by
  rw[<- dy,C];simp;lia
 have F:∀ j,j < b.length->XQ (arrOf st) (L.length + j)=Y b j:=λj e=>Bd C e;have D:∀ j,j < R2.length->XQ (arrOf st) (L.length + b.length + j)=Y R2 j:=λj e=>by
  have:=Bd (i:=j) p e;rw[bM] at this;exact this
 have plain:(∀ x∈b,∀ y∈R2,lt y x=false)->Q true (Pf (kindOf st) (arrOf st) (((lg st).setIfInBounds i (L.length,b.length + R2.length,N)).eraseIdxIfInBounds (i + 1)) (Tz st) (om st)):=λI=>
  q (b++R2) _ (oF _) (iR.mpr ⟨z,t,I⟩) rfl T (by show (arrOf st).toList=_;rw[C,hQ]) rfl
 refine dV (PY ?_);rw[hp,X];dsimp only;refine dV (show wpS (model prog w) A E s (set _) _ st from qr (f:=λ_=>_) ?_);have e2:XQ (arrOf st) (L.length + b.length)=Y R2 0:=D 0 J;refine dV (bI (a:=arrOf st) (by exact WF 0x54eca5cea365f0eff12ce3d J o) (dV (pU (a:=arrOf st) h S (B _ (by lia)) B (by exact WF 0x4f239d3896603feff12ce3d J o) c1 (LS h λi j d c=>by rw[F j c,F i (by exact WF 0x8c6aaa0a598b d c)];exact z.Yat K d c) λk pk=>?_)));dsimp only;have kl:=pk.le;have g1:∀ j,j < k->lt (Y R2 0) (Y b j)=false:=λj e=>by
  have:=pk.lo j e;rw[bey,if_neg (by decide),F j (by exact WF 0x8cbc5a53b08b kl e),e2] at this;simpa using this
 have g2:∀ j,k<=j->j < b.length->lt (Y R2 0) (Y b j)=true:=λj d c=>by
  have:=pk.hi j d c;rw[bey,if_neg (by decide),F j c,e2] at this;simpa using this
 have U:∀ x∈b.take k,∀ y∈R2,lt y x=false:=λx R y O=>by
  obtain⟨i,d,c,rfl⟩:=DZ R;obtain⟨j,Z,rfl⟩:=xR O;exact h.tr _ _ _ (g1 i d) (t.Yat K (eg _) Z)
 by_cases z1:b.length - k=0
 .rw[if_pos (by simpa using z1)];refine eL (plain ?_);rw[iA (by exact WF 0x2bce9ca8f2528c1b z1 V1)] at U;exact U
 rw[if_neg (by simpa using z1)];have e3:XQ (arrOf st) (L.length + k + (b.length - k) - 1)=Y b (b.length - 1):=by
  rw[show L.length + k + (b.length - k) - 1=L.length + (b.length - 1) by lia];exact F _ (by exact WF 196907860718 (V3 (WF 5127833799481 c1)))
 refine dV (bI (a:=arrOf st) (by exact WF 0x9dbe77973cd29b898bc54ffcdb472da01380 J o (V3 (WF 6550533726 kl)) (V3 (WF 0x2b0d6b08b718a2df6a787c c1 V1))) (dV (pU (a:=arrOf st) h S (B _ (by lia)) B (by exact WF 0x19e8a4502a82d3cfe9fe5 o) (by lia) (LU h λi j d c=>by rw[D j c,D i (by lia)];exact t.Yat K d c) λn V=>?_)));dsimp only;have nl:=V.le;have g3:∀ j,j < n->lt (Y R2 j) (Y b (b.length - 1))=true:=λj e=>by
  have:=V.lo j e;rw[bey,if_pos rfl,D j (by lia),e3] at this;exact this
 have g4:∀ j,n<=j->j < R2.length->lt (Y R2 j) (Y b (b.length - 1))=false:=λj d c=>by
  have:=V.hi j d c;rw[bey,if_pos rfl,D j c,e3] at this;exact this
 have f3:∀ x∈b,∀ y∈R2.drop n,lt y x=false:=λx R y O=>by
  obtain⟨i,d,rfl⟩:=xR R;obtain⟨j,c,Z,rfl⟩:=D0 O;exact h.tr _ _ _ (z.Yat K (show i<=b.length - 1 by exact WF 0xe4e4216594f4b d V1) (by lia)) (g4 j c Z)
 by_cases z2:n=0
 .rw[if_pos (by simpa using z2)];refine eL (plain ?_);rw[z2,PF] at f3;exact f3
 rw[if_neg (by simpa using z2)];have l:((arrOf st).extract (L.length + k) (L.length + b.length)).toList=b.drop k:=by
  rw[oo,lu,C,T1,oz (by lia),Pa,Qb (by exact WF 0x4d10b260a7f5a6cb8 kl (V3 (WF 224099822)))];rw[show L.length + k - L.length=k by lia,show L.length + b.length - (L.length + k)=(b.drop k).length by rw[dw];lia,List.take_left']
  rfl
 have m:((arrOf st).extract (L.length + b.length) (L.length + b.length + n)).toList=R2.take n:=by
  rw[oo,lu,p,<- bM,List.drop_left',mv,Qc nl]
  rfl
 generalize R:(arrOf st).extract (L.length + k) (L.length + b.length)=x at l;generalize O:(arrOf st).extract (L.length + b.length) (L.length + b.length + n)=y at m;have px:All P x:=λj e=>by
  rw[X_Y,l,wW];have:j < (b.drop k).length:=by rw[<- l];simpa using e
  rw[dw] at this;rw[<- F _ (by exact WF 0x522eeaf2b8389bf78 this (V3 (WF 6550533726 kl)))];exact B _ (by exact WF 0x5a038250e1254029635a5441d1a2da01380 J o this (V3 (WF 6550533726 kl)))
 have py:All P y:=λj e=>by
  have:j < (R2.take n).length:=by rw[<- m];simpa using e
  rw[dU] at this;rw[X_Y,m,zQ (by lia),<- D _ (by lia)];exact B _ (by exact WF 0x3224f5d4218c57246aead8e809bf o this (mu _ _))
 have sx:Srt lt x.toList:=by rw[l];exact ko (vr _ _) z
 have sy:Srt lt y.toList:=by rw[m];exact ko (vc _ _) t
 have zx:x.size=b.length - k:=by rw[<- dy,l,dw]
 have zy:y.size=n:=by rw[<- dy,m,dU];lia
 have hl:∀ u∈y.toList,lt (XQ x (x.size - 1)) u=false:=λu hu=>by
  rw[m] at hu;obtain⟨j,d,c,rfl⟩:=DZ hu;rw[X_Y,l,wW,zx,show k + (b.length - k - 1)=b.length - 1 by lia];exact h.asym _ _ (g3 j d)
 have H:XQ y 0=Y R2 0:=by rw[X_Y,m,zQ (by lia)]
 have W:∀ u∈x.toList,lt u (XQ y 0)=false:=λu hu=>by
  rw[l] at hu;obtain⟨j,d,c,rfl⟩:=D0 hu;rw[H];exact h.asym _ _ (g2 j d c)
 have fin:∀ (r:Array Keyed) (st':SortSt),jJ (Pf (kindOf st) (arrOf st) (((lg st).setIfInBounds i (L.length,b.length + R2.length,N)).eraseIdxIfInBounds (i + 1)) (Tz st) (om st)) st'->Res lt x y r->
   Q true (Pf (kindOf st') (r.toList.zipIdx.foldl (λa (x:Keyed×Nat)=>a.setIfInBounds (L.length + k + x.2) x.1) (arrOf st')) (lg st') (Tz st') (om st')):=λr st' g res=>by
  obtain⟨G,rs⟩:=res;rw[l,m] at G;have rl:r.toList.length=b.length - k + n:=by rw[G.length_eq,bM,dw,dU];lia
  have ka:arrOf st'=arrOf st:=g.a;refine q (b.take k++(r.toList++R2.drop n)) _ ?_ ?_ g.k (g.f.trans T) ?_ g.p
  .have:(b.take k++((b.drop k++R2.take n)++R2.drop n)).Perm (b++R2):=by
    rw[hQ (b.drop k),lH,<- hQ,lH]
   exact(qO _ (RJ _ G)).trans this
  .refine iR.mpr ⟨ko (vc _ _) z,iR.mpr ⟨rs,ko (vr _ _) t,λu hu v hv=>?_⟩,λu hu v hv=>?_⟩
   .rcases eE.mp (G.mem_iff.mp hu) with hu | hu
    .exact f3 u (Lr hu) v hv
    .have:=t;rw[<- lH n R2] at this;exact(iR.mp this).2.2 u hu v hv
   .rcases eE.mp hv with hv | hv
    .rcases eE.mp (G.mem_iff.mp hv) with hv | hv
     .have:=z;rw[<- lH k b] at this;exact(iR.mp this).2.2 u hu v hv
     .exact U u hu v (rD hv)
    .exact U u hu v (Lr hv)
  .show (List.foldl _ (arrOf st') r.toList.zipIdx).toList=_;rw[zW r.toList 0 (arrOf st') (by rw[ka,rl,o];exact WF 0x19e20e2977afd00b8b8e118b67824ed3f nl (V3 (WF 6550533726 kl))),ka,rl,TC];have t1:(arrOf st).toList.take (L.length + k)=L++b.take k:=by
    rw[C,List.take_append,iA (by lia),show L.length + k - L.length=k by lia,Qc kl]
   have t2:(arrOf st).toList.drop (L.length + k + (b.length - k + n))=R2.drop n++L2:=by
    rw[p,show L.length + k + (b.length - k + n)=(L++b).length + n by rw[bM];lia,T1,oz (by lia),Pa,mv,Qb nl]
   rw[t1,t2];simp -iota only[hQ]
 by_cases z3:b.length - k<=n
 .rw[if_pos z3];refine dV (Kf h S px py sx sy (by lia) (by lia) ?_ hl λr st' g res=>?_)
  .rw[H,X_Y,l,wW];exact g2 _ (by exact bU _) (by lia)
  .refine dV (qr (dV (PY (eL ?_))));have I:(om st').isNone=true:=by rw[show om st'=none from g.f.trans T];rfl
   show Q (om st').isNone _;rw[I];exact fin r st' g res
 .rw[if_neg z3];refine dV (Kg h S px py sx sy (by lia) (by lia) W hl λr st' g res=>?_);refine dV (qr (dV (PY (eL ?_))));have I:(om st').isNone=true:=by rw[show om st'=none from g.f.trans T];rfl
  show Q (om st').isNone _;rw[I];exact fin r st' g res
end
noncomputable abbrev lr (rk:Keyed->Int):Keyed->Keyed->Bool:=λx y=>decide (rk x < rk y)
section
variable {s:Shared}{κ:PD}{P:Keyed->Prop}{rk:Keyed->Int}{st st' st2:SortSt}{a b:Array Keyed}{lo:Nat}
noncomputable def Kr (rk:Keyed->Int)(a:Array Keyed)(i:Nat):Int:=rk (XQ a i)
def Up (rk:Keyed->Int)(a:Array Keyed)(lo n:Nat):Prop:=∀ i j,i<=j->j < n->Kr rk a (lo + i)<=Kr rk a (lo + j)
def Dn (rk:Keyed->Int)(a:Array Keyed)(lo n:Nat):Prop:=∀ i j,i<=j->j < n->Kr rk a (lo + j)<=Kr rk a (lo + i)
structure Chg (lo:Nat) (st st':SortSt):Prop where
 k:kindOf st'=kindOf st
 p:lg st'=lg st
 f:om st'=om st
 a:(arrOf st').toList.Perm (arrOf st).toList
 x:∀ k,k < lo->XQ (arrOf st') k=XQ (arrOf st) k
theorem Chg.refl:Chg lo st st:=⟨rfl,rfl,rfl,oF _,λ_ _=>rfl⟩
theorem Chg.size(h:Chg lo st st'):(arrOf st').size=(arrOf st).size:=by
 rw[<- dy,<- dy];exact h.a.length_eq
theorem oW:All P a↔∀ x∈a.toList,P x:=by
 constructor
 .intro h x c;obtain⟨i,b,rfl⟩:=xR c;rw[<- X_Y];exact h i (by simpa using b)
 .intro h i b;refine h _ ?_;have:=yA b;rw[<- dm] at this;exact eW this
theorem Chg.all(h:Chg lo st st')(p:All P (arrOf st)):All P (arrOf st'):=oW.mpr λx a=>oW.mp p x (h.a.mem_iff.mp a)
theorem yz:XQ a i=(a[i]?).getD (.none,.none):=by
 delta XQ;rw[gp]
theorem Be(b:j<=a.size):XQ (mirror a i j ((j - i) / 2)) k=if i<=k/\k < j then XQ a (i + j - 1 - k) else XQ a k:=by
 rw[yz,getElem?_mirror_all b];split <;> rw[yz]
theorem Chg.rev(h:Chg lo st st')(c:lo<=i)(b:j<=(arrOf st').size):Chg lo st (setArr st' (mirror (arrOf st') i j ((j - i) / 2))):=
 ⟨h.k,h.p,h.f,((mirror_perm _ _ _ _).toList).trans h.a,λk a=>by
  show XQ (mirror (arrOf st') i j ((j - i) / 2)) k=_;rw[Be b,if_neg (by lia)];exact h.x k a⟩
theorem nV(h:Ask prog w A s κ P (lr rk)){Q:Option Bool->SortSt->Prop}(d:kindOf st=κ)(a:All P (arrOf st))(c:i < (arrOf st).size)(b:j < (arrOf st).size)(q:Q (some (decide (Kr rk (arrOf st) i < Kr rk (arrOf st) j))) st):wpS (model prog w) A E s (ltAt' i j) Q st:=by
 rw[ltAt'_eq];exact dV (PY (dV (bI c (dV (bI b (h.ask d (a i c) (a j b) q))))))
theorem Up.snoc(h:Up rk a lo n)(d:1<=n)(e:Kr rk a (lo + n - 1)<=Kr rk a (lo + n)):Up rk a lo (n + 1):=λi j c f=>by
 by_cases z:j < n
 .exact h i j c z
 .have b:j=n:=by lia
  subst b;by_cases z2:i=j
  .subst z2;exact LP _
  .have:=h i (j - 1) (by lia) (by exact WF 196907860718 (V3 (WF 5127833185609 d)));rw[show lo + (j - 1)=lo + j - 1 by lia] at this;lia
theorem Dn.snoc(h:Dn rk a lo n)(d:1<=n)(e:Kr rk a (lo + n)<=Kr rk a (lo + n - 1)):Dn rk a lo (n + 1):=λi j c f=>by
 by_cases z:j < n
 .exact h i j c z
 .have b:j=n:=by lia
  subst b;by_cases z2:i=j
  .subst z2;exact LP _
  .have:=h i (j - 1) (by lia) (by lia);rw[show lo + (j - 1)=lo + j - 1 by lia] at this;lia
theorem Fh(h:Ask prog w A s κ P (lr rk)){R:Option (Option Nat)×Nat->SortSt->Prop}{b:Nat->Option (Option Nat)×Nat->StateT SortSt Sem (ForInStep (Option (Option Nat)×Nat))}(l:kindOf st=κ)(j:All P (arrOf st))(hs:lo + nrem<=(arrOf st).size)(u:1<=m)(k:m<=nrem)(d:Up rk (arrOf st) lo m)(o:∀ x n,∃ g:Option Bool->StateT SortSt Sem (ForInStep (Option (Option Nat)×Nat)),b x (none,n)=(ltAt' (lo + n) (lo + n - 1) >>= g)/\g (some true)=pure (.done (none,n))/\g (some false)=pure (.yield (none,n + 1)))(r:∀ n,m<=n->n<=nrem->Up rk (arrOf st) lo n->(n=nrem\/Kr rk (arrOf st) (lo + n) < Kr rk (arrOf st) (lo + n - 1))->R (none,n) st):wpS (model prog w) A E s (forIn [m:nrem] (none,m) b) R st:=by
 refine mF (I:=λx c a=>a=st/\c=(none,x)/\m<=x/\Up rk (arrOf st) lo x) ?_ ?_ ⟨rfl,rfl,bU _,d⟩
 .rintro x c a t i ⟨rfl,rfl,f,d⟩;obtain⟨g,e,q,p⟩:=o x x;rw[e];refine dV (nV h l j (by exact WF 0x522eeaf2b8486fa78 i hs) (by exact WF 0x1ba20ea61d3e4c0a8baa5 i hs V2) ?_);by_cases z:Kr rk (arrOf a) (lo + x) < Kr rk (arrOf a) (lo + x - 1)
  .rw[decide_eq_true z,q];exact eL (r x f (by exact fq (by assumption)) d (.inr z))
  .rw[decide_eq_false z,p];exact eL ⟨rfl,rfl,by lia,d.snoc (by lia) (by lia)⟩
 .rintro c a ⟨rfl,rfl,f,d⟩;rw[show max m nrem=nrem by lia] at f d ⊢;exact r nrem k (bU _) d (.inl rfl)
theorem zT(c:j<=a.size)(b:∀ k,i<=k->k < j->Kr rk a k=Kr rk a (j - 1))(k:Nat):Kr rk (mirror a i j ((j - i) / 2)) k=Kr rk a k:=by
 delta Kr at b ⊢;rw[Be c];split
 .rw[b _ (by lia) (by lia),b k (by lia) (by lia)]
 .rfl
theorem Dn.same(h:Dn rk a lo n)(e:∀ k,Kr rk b k=Kr rk a k):Dn rk b lo n:=λi j d c=>by rw[e,e];exact h i j d c
theorem Lc(h:Ask prog w A s κ P (lr rk)){Q:Option Nat->SortSt->Prop}(R:kindOf st=κ)(J:All P (arrOf st))(h1:1<=nrem)(hs:lo + nrem<=(arrOf st).size)(q:∀ n st',Chg lo st st'->1<=n->n<=nrem->Up rk (arrOf st') lo n->Q (some n) st'):wpS (model prog w) A E s (countRun' lo nrem) Q st:=by
 have v:∀ (n:Nat) (st':SortSt) {m:StateT SortSt Sem (Option Nat)} {u:Nat->Option (Option Nat)×Nat->StateT SortSt Sem (ForInStep (Option (Option Nat)×Nat))} {f:Option (Option Nat)×Nat->StateT SortSt Sem (Option Nat)},Chg lo st st'->1<=n->n<=nrem->Dn rk (arrOf st') lo n->
   m=(reverseSlice' lo (lo + n) >>= λ_=>forIn [n:nrem] (none,n) u >>= f)->(∀ k,f (none,k)=pure (some k))->
   (∀ x n,∃ g:Option Bool->StateT SortSt Sem (ForInStep (Option (Option Nat)×Nat)),u x (none,n)=(ltAt' (lo + n) (lo + n - 1) >>= g)/\g (some true)=pure (.done (none,n))/\g (some false)=pure (.yield (none,n + 1)))->wpS (model prog w) A E s m Q st':=by
  intro n st' m u f c D r o e hf hb;subst e;have S:=c.size;have d:=c.rev (i:=lo) (j:=lo + n) (bU _) (by lia);rw[reverseSlice'_eq];refine dV (qr (dV (Fh h (d.k.trans R) (d.all J) (by rw[d.size];omega) D r ?_ hb λk y h4 B _=>?_)))
  .intro i j t F;show Kr rk (mirror (arrOf st') lo (lo + n) ((lo + n - lo) / 2)) _<=Kr rk (mirror (arrOf st') lo (lo + n) ((lo + n - lo) / 2)) _;delta Kr;rw[Be (by lia),Be (by lia),if_pos (by lia),if_pos (by lia)];have:=o (n - 1 - j) (n - 1 - i) (by exact WF 0x19be77d123097a306ace5 t V1 (V3 (WF 0xe4e4216594f4b F V1))) (by exact WF 0xf5ba764ddc58b V2 (V3 (WF 5127833185609 D)));rw[show lo + (lo + n) - 1 - (lo + i)=lo + (n - 1 - i) by lia,show lo + (lo + n) - 1 - (lo + j)=lo + (n - 1 - j) by lia];exact this
  .rw[hf];exact eL (q k _ d (by lia) h4 B)
 refine dV (Fh h R J hs (bU 1) h1 (λi j t F=>by cases (show i=j by lia);exact LP _) (λx n=>⟨_,rfl,rfl,rfl⟩) λn M r B U=>?_);dsimp only;by_cases z:n=nrem
 .rw[if_pos (by simpa using z)];exact eL (q n st .refl M r B)
 rw[if_neg (by simpa using z)];have a4:=U.resolve_left z;by_cases D:n > 1
 case' pos=>
  rw[if_pos D];refine dV (nV h R J (by lia) (by exact WF 0x307af8229b1d6ce2ac8665 hs (V3 (WF 0xdb419a98aa40a D)) (oq (WF 6550533726 r) z)) ?_);by_cases Y:Kr rk (arrOf st) lo < Kr rk (arrOf st) (lo + n - 1)
  .rw[decide_eq_true Y];exact eL (q n st .refl M r B)
  rw[decide_eq_false Y];have p:∀ k,lo<=k->k < lo + n->Kr rk (arrOf st) k=Kr rk (arrOf st) (lo + n - 1):=λk G y=>by
   have a1:=B 0 (k - lo) (by exact eg _) (by exact WF 0x527f1820c5790aef8 y (V3 (WF 6550533726 G)));have Z:=B (k - lo) (n - 1) (by exact WF 0x2d0d52627598aba7fa67e5 y V1 (V3 (WF 6550533726 G))) (by lia);rw[TC] at a1;rw[show lo + (k - lo)=k by lia] at a1 Z;rw[show lo + (n - 1)=lo + n - 1 by lia] at Z;lia
  have V:Chg lo st (setArr st (mirror (arrOf st) lo (lo + n) ((lo + n - lo) / 2))):=Chg.rev .refl (bU _) (by lia);have o:Dn rk (arrOf (setArr st (mirror (arrOf st) lo (lo + n) ((lo + n - lo) / 2)))) lo (n + 1):=by
   have K:=zT (rk:=rk) (a:=arrOf st) (i:=lo) (j:=lo + n) (by lia) p;refine Dn.same (a:=arrOf st) ?_ K;refine Dn.snoc (λi j t F=>?_) (by omega) (by lia);rw[p _ (by lia) (by exact WF 0xec17d4c9c964b F),p (lo + i) (by lia) (by exact WF 0x4f14fb8c16a19d9b8 t F)];exact LP _
  refine dV (qr ?_);show wpS _ _ _ _ _ _ (setArr st (mirror (arrOf st) lo (lo + n) ((lo + n - lo) / 2)));generalize setArr st (mirror (arrOf st) lo (lo + n) ((lo + n - lo) / 2))=T at V o ⊢
 case' neg=>
  rw[if_neg D];have e1:n=1:=by lia
  have c0:Chg lo st st:=.refl;have d0:Dn rk (arrOf st) lo (n + 1):=Dn.snoc (λi j t F=>by cases (show i=j by lia);exact LP _) (by omega) (by lia);obtain⟨T,e2,V,o⟩:∃ x,x=st/\Chg lo st x/\Dn rk (arrOf x) lo (n + 1):=⟨st,rfl,c0,d0⟩;rw[<- e2]
 all_goals
  refine dV (lR ?_)
  try dsimp only
  refine dV (Lx (mF (I:=λx c st'=>∃ b,c=(none,x,b)/\Chg lo st st'/\Dn rk (arrOf st') lo x/\b + 1<=x/\∀ k,lo + x - (b + 1)<=k->k < lo + x->Kr rk (arrOf st') k=Kr rk (arrOf st') (lo + x - 1))
   (Q:=λc st'=>∃ m b,c=(none,m,b)/\1<=m/\m<=nrem/\Chg lo st st'/\Dn rk (arrOf st') lo m/\b + 1<=m/\∀ k,lo + m - (b + 1)<=k->k < lo + m->Kr rk (arrOf st') k=Kr rk (arrOf st') (lo + m - 1)) ?_ ?_ ⟨0,rfl,V,o,by exact nz _,λk G y=>by congr 1;lia⟩) ?_)
  .rintro x c st' hx L hI;refine ex1 hI λb e l=>?_;subst e;have d:=l.1;have o:=l.2.1;have C:=l.2.2.1;have p:=l.2.2.2;clear l hI;have S:=d.size;dsimp only;refine dV (nV h (d.k.trans R) (d.all J) (by exact WF 0x1b872c8baa561c3970665 hs L S) (by exact WF 0x9418866f96a1905cbcc33a92 hs L S V2) ?_);by_cases W:Kr rk (arrOf st') (lo + x) < Kr rk (arrOf st') (lo + x - 1)
   .rw[decide_eq_true W];dsimp only;rw[if_pos rfl];by_cases H:b > 0
    .rw[if_pos H];refine dV (qr (eL ?_));have K:=zT (rk:=rk) (a:=arrOf st') (i:=lo + x - (b + 1)) (j:=lo + x) (by lia) p;exact⟨0,rfl,d.rev (by exact WF 0xeac74e9d783dce5cea8 C V1) (by lia),Dn.same (o.snoc (by lia) (by lia)) K,by exact nz _,λk G y=>by congr 1;lia⟩
    .rw[if_neg H];exact eL ⟨0,rfl,d,o.snoc (by lia) (by lia),by exact nz _,λk G y=>by congr 1;lia⟩
   .rw[decide_eq_false W];dsimp only;rw[if_neg (by decide)];refine dV (nV h (d.k.trans R) (d.all J) (by lia) (by lia) ?_);by_cases X:Kr rk (arrOf st') (lo + x - 1) < Kr rk (arrOf st') (lo + x)
    .rw[decide_eq_true X];exact eL ⟨x,b,rfl,by lia,by exact fq (by assumption),d,o,C,p⟩
    .rw[decide_eq_false X];refine eL ⟨b + 1,rfl,d,o.snoc (by lia) (by lia),by lia,λk G y=>?_⟩;rw[show lo + (x + 1) - 1=lo + x by rfl];by_cases zk:k=lo + x
     .rw[zk]
     .rw[p k (by lia) (by lia)];lia
  .rintro c st' hI;refine ex1 hI λb e l=>?_;subst e;have d:=l.1;have o:=l.2.1;have C:=l.2.2.1;have p:=l.2.2.2;clear l hI;rw[show max (n + 1) nrem=nrem by lia] at o C p ⊢;exact⟨nrem,b,rfl,by omega,bU _,d,o,C,p⟩
  .rintro c st' hI;refine ex2 hI λm b e l=>?_;subst e;have O:=l.1;have N:=l.2.1;have d:=l.2.2.1;have o:=l.2.2.2.1;have C:=l.2.2.2.2.1;have p:=l.2.2.2.2.2;clear l hI;have S:=d.size;dsimp only;by_cases H:b > 0
   .rw[if_pos H];have K:=zT (rk:=rk) (a:=arrOf st') (i:=lo + m - (b + 1)) (j:=lo + m) (by lia) p;refine dV (qr ?_);exact v m _ (d.rev (i:=lo + m - (b + 1)) (j:=lo + m) (by lia) (by lia)) O N (Dn.same o K) rfl (λk=>rfl) (λx n=>⟨_,rfl,rfl,rfl⟩)
   .rw[if_neg H];exact v m _ d O N o rfl (λk=>rfl) (λx n=>⟨_,rfl,rfl,rfl⟩)
theorem NL{src d:Nat}(hs:src < a.size)(b:d<=src):XQ (bubble a src d) k=if k=src - d then XQ a src else if src - d < k/\k<=src then XQ a (k - 1) else XQ a k:=by
 rw[yz,getElem?_bubble hs d b];split
 .rw[yz]
 .split <;> rw[yz]
theorem Lh(h:Ask prog w A s κ P (lr rk)){ok:Nat}{Q:Bool->SortSt->Prop}(S:kindOf st=κ)(O:All P (arrOf st))(hs:lo + n<=(arrOf st).size)(W:1<=ok)(U:ok<=n)(g:Up rk (arrOf st) lo ok)(q:∀ st',Chg lo st st'->Up rk (arrOf st') lo n->Q true st'):wpS (model prog w) A E s (binarySort' lo n ok) Q st:=by
 have J:max ok 1=ok:=by lia
 refine dV (Lx (mF (I:=λk c st'=>c=(none,())/\Chg lo st st'/\Up rk (arrOf st') lo k) (Q:=λc st'=>c=(none,())/\Chg lo st st'/\Up rk (arrOf st') lo n) ?_ ?_ ⟨rfl,.refl,by rw[J];exact g⟩) ?_)
 .rintro k c e R y ⟨rfl,m,g⟩;have H:=m.size;dsimp only;refine dV (Lx (mF (I:=λt c st'=>st'=e/\∃ l r,c=(none,l,r)/\l<=r/\r<=k/\r - l<=k - t/\(∀ i,i < l->Kr rk (arrOf e) (lo + i)<=Kr rk (arrOf e) (lo + k))/\∀ i,r<=i->i < k->Kr rk (arrOf e) (lo + k)<=Kr rk (arrOf e) (lo + i))
   (Q:=λc st'=>st'=e/\∃ l,c=(none,l,l)/\l<=k/\(∀ i,i < l->Kr rk (arrOf e) (lo + i)<=Kr rk (arrOf e) (lo + k))/\∀ i,l<=i->i < k->Kr rk (arrOf e) (lo + k)<=Kr rk (arrOf e) (lo + i)) ?_ ?_ ⟨rfl,0,k,rfl,by exact eg _,by exact bU _,by exact bU _,(λi V=>by lia),(λi B p=>by lia)⟩) ?_)
  .rintro t c b _ K ⟨rfl,l,r,rfl,B,p,F,x,v⟩;dsimp only;by_cases z:l≥r
   .rw[if_pos z];have:l=r:=by lia
    subst this;exact eL ⟨rfl,l,rfl,p,x,v⟩
   rw[if_neg z];refine dV (nV h (m.k.trans S) (m.all O) (by exact WF 0x1b872c8baa561c3970665 hs y H) (by exact WF 0x9def9c21c8afae694436d9f682a4c6f5deb23b8172b52aec hs y H p z (ea _ _)) ?_);by_cases G:Kr rk (arrOf b) (lo + k) < Kr rk (arrOf b) (lo + (l + r) / 2)
   .rw[decide_eq_true G];refine eL ⟨rfl,l,(l + r) / 2,rfl,by exact WF 0x4bb7039829d5b1d2092f88b z (V5 (by decide)),by exact WF 0xe7e0e2d744c3c8fa1012e9838 p z (ea _ _),by exact WF 0x53d7bc78166a6f1579863190c95ea256af5262a25288d99 F (ea _ _) V1 V1 (V3 (WF 0x4bb7039829d5b1d2092f88b z (V5 (by decide)))) (V3 (WF 6550555678 K)),x,λi L T=>?_⟩;have:=g ((l + r) / 2) i L T;lia
   .rw[decide_eq_false G];refine eL ⟨rfl,(l + r) / 2 + 1,r,rfl,by exact WF 0x18b92dde398dbd0388b8b z (ea _ _),by omega,by exact WF 0x3125a5ea24a3c3bd7b9fd3174f81d9d1f6b29e76582854cb6d99 F (V5 (by decide)) V1 V1 (V3 (WF 0x18b92dde398dbd0388b8b z (ea _ _))) (V3 (WF 6550555678 K)),λi L=>?_,v⟩;have:=g i ((l + r) / 2) (by lia) (by exact WF 0xf9988d22cca5370a1012e9838 p z (ea _ _));lia
  .rintro c b ⟨rfl,l,r,rfl,B,p,F,x,v⟩;have:l=r:=by lia
   subst this;exact⟨rfl,l,rfl,p,x,v⟩
  .rintro c b ⟨rfl,l,rfl,B,x,v⟩;dsimp only;refine dV (qr (eL ?_));have M:∀ j,XQ (bubble (arrOf b) (lo + k) (lo + k - (lo + l))) j=if j=lo + l then XQ (arrOf b) (lo + k) else if lo + l < j/\j<=lo + k then XQ (arrOf b) (j - 1) else XQ (arrOf b) j:=λj=>by
    have:=NL (a:=arrOf b) (src:=lo + k) (d:=lo + k - (lo + l)) (k:=j) (by lia) (by exact WF 0xdb3c6c32a1a0b V2);rw[show lo + k - (lo + k - (lo + l))=lo + l by exact ly (WF 0x193c5efdb7c17c5bcc5e49f4e65 V1 (V3 (WF 0xdb3c6c32a1a0b V2))) (WF 0x1a7070da8179f0be98f658cea65 V1 (V3 (WF 0xdb4199d8c408b B)))] at this;exact this
   refine⟨rfl,⟨m.k,m.p,m.f,((bubble_perm _ _ _).toList).trans m.a,λj o=>?_⟩,λi j f o=>?_⟩
   .show XQ (bubble (arrOf b) (lo + k) (lo + k - (lo + l))) j=_;rw[M,if_neg (by lia),if_neg (by lia)];exact m.x j o
   .show Kr rk (bubble (arrOf b) (lo + k) (lo + k - (lo + l))) (lo + i)<=Kr rk (bubble (arrOf b) (lo + k) (lo + k - (lo + l))) (lo + j);have N:∀ j,Kr rk (bubble (arrOf b) (lo + k) (lo + k - (lo + l))) (lo + j)=if j=l then Kr rk (arrOf b) (lo + k) else if l < j/\j<=k then Kr rk (arrOf b) (lo + (j - 1)) else Kr rk (arrOf b) (lo + j):=λj=>by
     delta Kr;rw[M];by_cases z1:j=l
     .rw[if_pos (by lia),if_pos z1]
     .rw[if_neg (by lia),if_neg z1];by_cases z2:l < j/\j<=k
      .rw[if_pos (by exact ⟨WF 0xec17d4c9c964b z2.1,WF 0xdb4199d8c408b z2.2⟩),if_pos z2,show lo + j - 1=lo + (j - 1) by exact ly (WF 0xe0f081aac9f26b140f8 V1 (V3 (WF 0x7d4a0f32ac4b z2.1))) (WF 0xeb077ee76a17c31a638 V1 (V3 (WF 183136921886 z2.1)))]
      .rw[if_neg (by lia),if_neg z2]
    rw[N,N];by_cases D:i=l
    .rw[if_pos D];by_cases u:j=l
     .rw[if_pos u];exact LP _
     .rw[if_neg u,if_pos (by lia)];exact v (j - 1) (by exact WF 0xe57363211f1cb V1 (oq (WF 0x831d94af5a8b f D) (lj u))) (by lia)
    .rw[if_neg D];by_cases i2:l < i
     .rw[if_pos (by exact ⟨WF 7032445982 i2,WF 0xe4e453a96b98b f o⟩),if_neg (by lia),if_pos (by exact ⟨WF 0x8cbc5a53b08b f i2,WF 183415229342 o⟩)];exact g (i - 1) (j - 1) (by exact WF 0x867fd655438e22f9b8 f V1 (V3 (WF 183136921886 i2))) (by exact WF 0x1af007b049282cb o (V3 (WF 0xe51fdce07308b f i2)))
     .rw[if_neg (by lia)];by_cases u:j=l
      .rw[if_pos u];exact x i (by lia)
      .rw[if_neg u];by_cases C:l < j
       .rw[if_pos (by exact ⟨WF 7032445982 C,WF 183415229342 o⟩)];exact g i (j - 1) (by exact WF 0x4cab6a2fc6a5ba778 i2 C V1) (by exact WF 0x1af007b049282cb o (V3 (WF 183136921886 C)))
       .rw[if_neg (by lia)];exact g i j f (by lia)
 .rintro c e ⟨rfl,m,g⟩;rw[J,show max ok n=n by lia] at g;exact⟨rfl,m,g⟩
 .rintro c e ⟨rfl,m,g⟩;exact eL (q e m g)
end
noncomputable abbrev p2 (t:Nat×Nat×Nat):Nat×Nat:=(t.1,t.2.1)
noncomputable def starts:Nat->List (List Keyed)->List (Nat×Nat)
 | _,[]=>[]
 | k,R::rs=>(k,R.length)::starts (k + R.length) rs
theorem mT:∀ (rs:List (List Keyed)) (k:Nat),(starts k rs).length=rs.length
 | [],_=>rfl
 | R::rs,k=>by rw[starts,eK,mT rs,eK]
theorem starts_app:∀ (pre rs:List (List Keyed)) (k:Nat),starts k (pre++rs)=starts k pre++starts (k + pre.flatten.length) rs
 | [],rs,k=>by simp -iota [starts]
 | R::pre,rs,k=>by
  rw[PQ,starts,starts_app pre rs,starts,PQ,oE,bM,SI]
theorem D4 {a b:Type}(f:a->b):∀ (l:List a) (i:Nat),(l.eraseIdx i).map f=(l.map f).eraseIdx i
 | [],_=>rfl
 | x::l,0=>rfl
 | x::l,i + 1=>by rw[Pk,fO,fO,Pk,D4 f l i]
theorem x_:∀ {rs:List (List Keyed)},(∀ R∈rs,R≠[])->rs.length<=rs.flatten.length
 | [],_=>bU _
 | R::rs,h=>by
  have b:=wB (h R (.head _));have a:=x_ (rs:=rs) λR hR=>h R (.tail _ hR);rw[eK,oE,bM];exact WF 0x496f8418eadc88abb b a
section
variable {s:Shared}{κ:PD}{P:Keyed->Prop}{rk:Keyed->Int}{st st0 st' st2:SortSt}{a b:Array Keyed}{lo:Nat}{rest:List Keyed}
structure Cv (rk:Keyed->Int) (st0 st:SortSt) (rs:List (List Keyed)) (rest:List Keyed):Prop where
 a:(arrOf st).toList=rs.flatten++rest
 ne:∀ R∈rs,R≠[]
 so:∀ R∈rs,Srt (lr rk) R
 p:(lg st).toList.map p2=starts 0 rs
 k:kindOf st=kindOf st0
 f:om st=none
 pm:(arrOf st).toList.Perm (arrOf st0).toList
theorem Cv.psz{rs:List (List Keyed)}(c:Cv rk st0 st rs rest):(lg st).size=rs.length:=by
 have:=congrArg QS c.p;rw[lM0,mT,dy] at this;exact this
theorem Cv.all{rs:List (List Keyed)}(c:Cv rk st0 st rs rest)(a:All P (arrOf st0)):All P (arrOf st):=oW.mpr λx b=>oW.mp a x (c.pm.mem_iff.mp b)
theorem D2(h:Ask prog w A s κ P (lr rk)){rs:List (List Keyed)}{Q:Bool->SortSt->Prop}(y:kindOf st0=κ)(t:All P (arrOf st0))(c:Cv rk st0 st rs rest)(N:i + 1 < rs.length)(q:∀ st' e,Cv rk st0 st' e rest->e.flatten.length=rs.flatten.length->e.length + 1=rs.length->Q true st'):wpS (model prog w) A E s (mergeAt' i) Q st:=by
 obtain⟨a,d,R2,b,rfl,x⟩:∃ a d R2 b,rs=a++d::R2::b/\a.length=i:=by
  refine⟨rs.take i,rs[i],rs[i + 1],rs.drop (i + 2),?_,by rw[dU];lia⟩;rw[<- NV,<- NV,lH]
 have j:=c.p;rw[starts_app,starts,starts,rx] at j;have f:(starts 0 a).length=i:=by rw[mT,x]
 have m:((lg st).toList.map p2)[i]?=some (a.flatten.length,d.length):=by
  rw[j,hC (by lia),f,vk];rfl
 have l:((lg st).toList.map p2)[i + 1]?=some (a.flatten.length + d.length,R2.length):=by
  rw[j,hC (by exact WF 176175964638 f),f,mv];rfl
 rw[ba] at m l;obtain⟨⟨I,H,K⟩,o,D⟩:=oA.mp m;obtain⟨⟨G,F,J⟩,n,C⟩:=oA.mp l;cases D;cases C;rw[dm] at o n;refine Kh h (L:=a.flatten) (L2:=b.flatten++rest) (c.k.trans y) (c.all t) ?_ (c.so d (by simp)) (c.so R2 (by simp)) (c.ne d (by simp)) (c.ne R2 (by simp)) o n c.f λM st' k r v B p u=>?_
 .rw[c.a];simp
 .have g:M.length=d.length + R2.length:=by rw[k.length_eq,bM]
  refine q st' (a++M::b) ⟨?_,λR hR=>?_,λR hR=>?_,?_,v.trans c.k,B,?_⟩ ?_ ?_
  .rw[p];simp
  .rcases eE.mp hR with hR | hR
   .exact c.ne R (by simp -iota [hR])
   .rcases cS.mp hR with rfl | hR
    .intro z;rw[z] at g;have:=wB (c.ne d (by simp));simp -iota at g;lia
    .exact c.ne R (by simp -iota [hR])
  .rcases eE.mp hR with hR | hR
   .exact c.so R (by simp -iota [hR])
   .rcases cS.mp hR with rfl | hR
    .exact r
    .exact c.so R (by simp -iota [hR])
  .rw[u,Array.toList_eraseIdxIfInBounds,QE,D4,Va,j,starts_app,starts,rx,g];rw[List.set_append_right _ _ (by lia),List.eraseIdx_append_of_length_le (by lia),f,vk,mv,GD,Pk,List.eraseIdx_cons_zero,SI]
  .refine OZ ?_ c.pm;rw[p,c.a];simp -iota only[tp,oE,hQ];refine qO _ ?_;rw[<- hQ d];exact RJ _ k
  .simp -iota only[tp,oE,bM,g];lia
  .simp -iota only[bM,eK];rfl
end
section
variable {s:Shared}{κ:PD}{P:Keyed->Prop}{rk:Keyed->Int}{st st0 st' st2:SortSt}{a b:Array Keyed}{lo:Nat}{rest:List Keyed}{rs:List (List Keyed)}
theorem Cv.chg(c:Cv rk st0 st rs rest)(g:Chg rs.flatten.length st st'):∃ a,Cv rk st0 st' rs a/\a.length=rest.length:=by
 have d:(arrOf st').toList.length=(arrOf st).toList.length:=g.a.length_eq;have b:=congrArg QS c.a;rw[bM] at b;have e:(arrOf st').toList.take rs.flatten.length=rs.flatten:=by
  refine ng λk=>?_;by_cases z:k < rs.flatten.length
  .rw[ya z,tS (by exact WF 0x916d3ba52ef15f7b25 d b z),tS z,<- X_Y,g.x k z,X_Y,c.a]
   congr 1
   delta Y;rw[dq,dq,eQ z]
  .rw[iT (by rw[dU];exact WF 0x8375363ab14b z (lC _ _)),iT (by exact WF 6567239198 z)]
 refine⟨(arrOf st').toList.drop rs.flatten.length,⟨?_,c.ne,c.so,by rw[g.p];exact c.p,g.k.trans c.k,g.f.trans c.f,g.a.trans c.pm⟩,by rw[dw];lia⟩
 conv=>lhs;rw[<- lH rs.flatten.length (arrOf st').toList,e]
theorem CB(e:a.toList=rs.flatten++rest)(u:Up rk a rs.flatten.length n)(o:n<=rest.length):Srt (lr rk) (rest.take n):=by
 refine Ng.mpr λi j h f g=>?_;rw[dU] at h f;have d:a.toList=rs.flatten++(rest++[]):=by rw[e,jw]
 have m:=Bd (i:=i) d (by lia);have k:=Bd (i:=j) d (by lia);have:=u i j (by exact fq (by assumption)) (by lia);unfold Kr at this;rw[m,k] at this;rw[QV,QV];have c:=tS (l:=rest) (i:=i) (by lia);have b:=tS (l:=rest) (i:=j) (by lia);rw[gE0 (by lia)] at c b;rw[hF c,hF b];exact decide_eq_false (by lia)
theorem Cv.push(c:Cv rk st0 st rs rest)(a:Srt (lr rk) (rest.take n))(d:1<=n)(b:n<=rest.length)(g:Nat):Cv rk st0 (Pf (kindOf st) (arrOf st) ((lg st).push (rs.flatten.length,n,g)) (Tz st) (om st)) (rs++[rest.take n]) (rest.drop n):=by
 have tl:(rest.take n).length=n:=by rw[dU];lia
 refine⟨?_,λR hR=>?_,λR hR=>?_,?_,c.k,c.f,c.pm⟩
 .show (arrOf st).toList=_;rw[c.a];simp
 .rcases eE.mp hR with hR | hR
  .exact c.ne R hR
  .rw[fP.mp hR];intro z;rw[z] at tl;simp -iota at tl;lia
 .rcases eE.mp hR with hR | hR
  .exact c.so R hR
  .rw[fP.mp hR];exact a
 .show ((lg st).push _).toList.map p2=_;rw[gs,dE,c.p,starts_app,starts,tl,rx]
  rfl
theorem AF {f:Nat×Nat×Nat->Nat×Nat×Nat}(a:∀ t,p2 (f t)=p2 t):∀ (l:List (Nat×Nat×Nat)) (i:Nat),(l.modify i f).map p2=l.map p2
 | [],_=>by simp
 | x::l,0=>by simp -iota [a]
 | x::l,i + 1=>by rw[List.modify_succ_cons,fO,fO,AF a l i]
theorem Cv.mod(c:Cv rk st0 st rs rest){f:Nat×Nat×Nat->Nat×Nat×Nat}(a:∀ t,p2 (f t)=p2 t)(i:Nat):Cv rk st0 (Pf (kindOf st) (arrOf st) ((lg st).modify i f) (Tz st) (om st)) rs rest:=
 ⟨c.a,c.ne,c.so,by show ((lg st).modify i f).toList.map p2=_;rw[Array.toList_modify,AF a];exact c.p,c.k,c.f,c.pm⟩
theorem KA{c:Prop}[Decidable c]{x y:Nat}(b:x + 1 < n)(a:y + 1 < n):(if c then x else y) + 1 < n:=by split <;> assumption
theorem FH(h:Ask prog w A s κ P (lr rk)){Q:Unit->SortSt->Prop}(K:kindOf st=κ)(J:All P (arrOf st))(hp:lg st=#[])(hf:om st=none)(q:∀ st',(arrOf st').toList.Perm (arrOf st).toList->Srt (lr rk) (arrOf st').toList->om st'=none->Q () st'):wpS (model prog w) A E s sortRuns' Q st:=by
 have c0:Cv rk st st [] (arrOf st).toList:=⟨rfl,(λR hR=>by cases hR),(λR hR=>by cases hR),by rw[hp];rfl,rfl,hf,oF _⟩;have L:∀ {st' a rest},Cv rk st st' a rest->a.flatten.length + rest.length=(arrOf st).size:=λ{st' a rest} c=>by
  have D:=c.pm.length_eq;rw[c.a,bM,dy] at D;exact D
 refine dV (PY ?_);dsimp only;show wpS (model prog w) A E s _ Q st;generalize hz:(arrOf st).size=size at L;refine dV (Lx (mF (I:=λt c st'=>∃ a rest,c=(none,a.flatten.length)/\Cv rk st st' a rest/\t<=a.flatten.length)
  (Q:=λc st'=>∃ a,c=(none,a.flatten.length)/\Cv rk st st' a []) ?_ ?_ ⟨[],_,rfl,c0,bU _⟩) ?_)
 .rintro t c p _ ht hI;refine ex2 hI λa rest e b=>?_;subst e;have k:=b.1;have hm:=b.2;clear b hI;have v:=L k;dsimp only;by_cases z:a.flatten.length≥size
  .refine wif z ?_;refine eL ⟨a,rfl,?_⟩;have e:rest=[]:=Ea (by lia);rw[<- e];exact k
  refine dv z ?_;have C:(arrOf p).size=size:=by
   have:=k.pm.length_eq;rw[dy,dy,hz] at this;exact this
  refine dV (Lc h (k.k.trans K) (k.all J) (by exact WF 0x2bbda1cf742e318b z V1) (by exact WF 0x4d25b6ac036b9edf8 C (V3 (WF 6567217246 z))) λn1 i Z D h2 V=>?_);obtain⟨rest2,g,T⟩:=k.chg Z;dsimp only;split
  case' isTrue zn=>
   refine dV (lR (dV (Lh h (g.k.trans K) (g.all J) (by rw[Z.size];exact WF 0x19e8ad16cfca97b4c8e25 C (lC _ _) (V3 (WF 6567217246 z))) D (by lia) V λa2 g3 N=>?_)));obtain⟨kf,M,X⟩:=g.chg g3;refine dv (by decide) ?_;have G:Srt (lr rk) (kf.take (min (size - a.flatten.length) (Us size size 0))):=CB M.a N (by exact WF 0x2e573353fbf268e8b124407542bf v T X (lC _ _) (V3 (WF 6567217246 z)));have o:1<=min (size - a.flatten.length) (Us size size 0):=by
    have a1:n1 < Us size size 0:=zn;lia
   obtain⟨n,m⟩:∃ n,n=min (size - a.flatten.length) (Us size size 0):=⟨_,rfl⟩;rw[<- m] at G o;have l:n<=kf.length:=by exact WF 0xf90773e04c1689e7db1f44fcaa176ec v T X m (lC _ _) (V3 (WF 6567217246 z))
   clear zn
   delta Us at m;rw[<- m]
   clear m
  case' isFalse zn=>
   have M:=g;have G:Srt (lr rk) (rest2.take n1):=CB g.a V (by exact WF 0x89a2d74ca0765c5a4f50ce92 v h2 T (V3 (WF 6567217246 z)));have o:=D;have l:n1<=rest2.length:=by lia
   clear zn
   obtain⟨n,rfl⟩:∃ n,n=n1:=⟨_,rfl⟩;obtain⟨kf,rfl⟩:∃ r,r=rest2:=⟨_,rfl⟩
  all_goals
   refine dV (PY ?_)
   try dsimp only
   split
   .rename_i W m1 pw hb;refine dV (Lx (mF (I:=λt c st'=>∃ d,c=(none,())/\Cv rk st st' d kf/\d.flatten.length=a.flatten.length)
     (Q:=λc st'=>∃ d,c=(none,())/\Cv rk st st' d kf/\d.flatten.length=a.flatten.length) ?_ ?_ ⟨a,rfl,M,rfl⟩) ?_)
    .rintro t c j _ a4 hI;refine ex1 hI λd e b=>?_;subst e;have B:=b.1;have y:=b.2;clear b hI;refine dV (PY ?_)
     try dsimp only
     have H:=B.psz;split
     .rename_i u1 u2 S Y;have z2:(lg j).size > 1:=by
       by_cases z2:(lg j).size > 1
       .exact z2
       .rw[if_neg z2] at Y;cases Y
      split
      .exact eL ⟨d,rfl,B,y⟩
      .refine dV (D2 h K J B (show (lg j).size - 2 + 1 < _ by exact WF 0x52641994854124c0b H (V3 (WF 5128315690569 z2))) λO u F e5 _=>?_);refine dv (by decide) ?_;exact eL ⟨u,rfl,F,e5.trans y⟩
     .exact eL ⟨d,rfl,B,y⟩
    .rintro c j hc;exact hc
    .rintro c j hI;refine ex1 hI λd e b=>?_;subst e;have B:=b.1;have y:=b.2;clear b hI;dsimp only;refine dV (qr (dV (qr (eL ⟨d++[kf.take n],kf.drop n,?_,?_,?_⟩))))
     .simp -iota only[tp,oE,Mr,jw,bM,dU];rw[y,lE l]
     .rw[<- y];exact(B.mod (f:=λx=>(x.1,x.2.1,power' size (2 * W + m1) (2 * W + m1 + m1 + n) size)) (λ_=>rfl) ((lg j).size - 1)).push G o l 0
     .simp -iota only[tp,oE,Mr,jw,bM,dU];lia
   .have F:=M.push G o l 0;refine dV (qr (eL ⟨_,_,?_,F,?_⟩))
    .simp -iota only[tp,oE,Mr,jw,bM,dU];rw[lE l]
    .simp -iota only[tp,oE,Mr,jw,bM,dU];lia
 .rintro c p hI;refine ex2 hI λa rest e b=>?_;subst e;have k:=b.1;have hm:=b.2;clear b hI;have v:=L k;refine⟨a,rfl,?_⟩;have e:rest=[]:=Ea (by lia);rw[<- e];exact k
 .rintro c p ⟨a,rfl,k⟩;have v:=L k;dsimp only;have a5:=x_ k.ne;refine dV (Lx (mF (I:=λt c st'=>∃ a,c=(none,())/\Cv rk st st' a []/\a.length<=max 1 (size - t))
   (Q:=λc st'=>∃ a,c=(none,())/\Cv rk st st' a []/\a.length<=1) ?_ ?_ ⟨a,rfl,k,by rw[sL] at v;lia⟩) ?_)
  .rintro t c i _ ht hI;refine ex1 hI λa e b=>?_;subst e;have g:=b.1;have U:=b.2;clear b hI;refine dV (PY ?_)
   try dsimp only
   have H:=g.psz;by_cases z:(lg i).size<=1
   .refine wif z ?_;exact eL ⟨a,rfl,g,by lia⟩
   refine dv z ?_;refine dV (D2 h K J g ?_ λO u F e5 e6=>?_)
   .exact KA (show (lg i).size - 2 - 1 + 1 < _ by exact WF 0x1baa52b9f7e0168387838 H V2 (V3 (WF 5128317206433 z))) (show (lg i).size - 2 + 1 < _ by exact WF 0x52641994854124c0b H (V3 (WF 5128317206433 z)))
   .refine dv (by decide) ?_;exact eL ⟨u,rfl,F,by lia⟩
  .rintro c i hI;refine ex1 hI λa e b=>?_;subst e;have g:=b.1;have U:=b.2;clear b hI;exact⟨a,rfl,g,by lia⟩
  .rintro c i hI;refine ex1 hI λa e b=>?_;subst e;have g:=b.1;have U:=b.2;clear b hI;refine eL (q i g.pm ?_ g.f);rw[g.a,jw]
   match a,U,g with
   | [],_,_=>exact oC
   | [R],_,g=>
    simp -iota only[oE,Mr,jw];exact g.so R (.head _)
end
section
variable {s:Shared}{P:Keyed->Prop}{rk:Keyed->Int}
theorem HJ{l:List Keyed}(h:l.Perm (vs.zip vs)):∃ out:Lv0,l=out.map (λv=>(v,v))/\out.Perm vs:=by
 have e:vs.zip vs=vs.map λv=>(v,v):=by
  induction vs with
  | nil=>rfl
  | cons v vs a=>exact Qw.trans (by rw[fO,SE] ;congr 1;rw[<- SE];exact(by
    have:∀ l:Lv0,l.zip l=l.map λv=>(v,v):=λl=>by
     induction l with
     | nil=>rfl
     | cons x l a=>rw[Qw,a,fO]
    exact this vs))
 rw[e] at h;refine⟨l.map (·.2),?_,?_⟩
 .rw[iS];have:∀ x∈l,x=((λv:Value=>(v,v)) ∘ (·.2)) x:=λx b=>by
   obtain⟨v,_,rfl⟩:=jc.mp (h.mem_iff.mp b)
   rfl
  conv=>lhs;rw[<- Ua l]
  exact jx this
 .have:=h.map (·.2);rw[iS] at this;exact this.trans (by rw[show ((λx:Keyed=>x.2) ∘ λv:Value=>(v,v))=id from rfl,Ua])
def NW (prog:nI)(w:World)(A:Around)(s:Shared)(rk:Keyed->Int)(vs:Lv0):Prop:=
 ∀ h':Heap,(∀ b o,s.heap.get? b=some o->h'.get? b=some o)->∃ (κ:PD) (P:Keyed->Prop),(∀ (E:VS) (Q:PD->Shared->Prop),Q κ { s with heap:=h' }->wpAny (model prog w) A (keyKind' vs.toArray) Q E { s with heap:=h' })/\Ask prog w A { s with heap:=h' } κ P (lr rk)/\∀ v∈vs,P (v,v)
theorem Bt{lt:Keyed->Keyed->Bool}{l:List Keyed}(h:l.length < 2):Srt lt l:=by
 rcases l with _ | ⟨x,l⟩
 .exact oC
 .rcases l with _ | ⟨y,l⟩
  .exact Rv _ _
  .simp -iota at h;lia
theorem uH{a:Addr}{Q:Fin->Shared->Prop}(z:s.heap.get? a=some (seqObj "list" vs.toArray n))(j:∀ b o,s0.heap.get? b=some o->b≠a/\s.heap.get? b=some o)(D:{ s0 with heap:=s.heap }=s)(hz:vs.length<=100000)(ask:2<=vs.length->NW prog w A s0 rk vs)(q:∀ out:Lv0,out.Perm vs->out.Pairwise (λx y=>rk (x,x)<=rk (y,y))->Q (.done (.ret .none)) { s with heap:=UI s.heap a vs out.toArray }) :
  wpAny (model prog w) A (zq.«list.sort» ⟨[.ref a],[]⟩) Q E s:=by
 rw[list_sort_plain];have W:a < s.heap.objs.size:=er z;have u:vs.length<=sizeLine:=by rw[ew];lia
 refine aI (listItems_at z rfl (aI (SL z rfl ?_ (by rw[eH];exact u) (eg _))));obtain⟨F,k⟩:∃ F,(s.heap.update a (mO λ_=>(#[]:Array Value))).get? a=some (seqObj "list" #[] F):=⟨_,get?_update_seq z λ_=>#[]⟩;refine aI (Ud k rfl (aI (wpAny_newTuple ?_ (by simpa using u))));refine aI (PX ?_ (eg _));refine jz ?_;show wpAny (model prog w) A _ Q E { s with heap:=((s.heap.update a (mO λ_=>(#[]:Array Value))).push (seqObj "tuple" vs.toArray 0)).push (seqObj "list" #[] 0) };generalize B:((s.heap.update a (mO λ_=>(#[]:Array Value))).push (seqObj "tuple" vs.toArray 0)).push (seqObj "list" #[] 0)=r;have C:∀ b o,b≠a->s.heap.get? b=some o->r.get? b=some o:=λb o J e=>by
  rw[<- B];exact bh _ (bh _ (by rw[SF _ _ _ _ J];exact e))
 have c:r.get? a=some (seqObj "list" #[] F):=by rw[<- B];exact bh _ (bh _ k)
 have fin:∀ st':SortSt,(arrOf st').toList.Perm (vs.zip vs)->Srt (lr rk) (arrOf st').toList->om st'=none->∃ out:Lv0,(arrOf st').map (·.2)=out.toArray/\out.Perm vs/\out.Pairwise (λx y=>rk (x,x)<=rk (y,y)):=λst' p d _=>by
  obtain⟨out,e,f⟩:=HJ p;refine⟨out,?_,f,?_⟩
  .apply ro.mp;rw[T2,e,iS];exact List.map_id' _
  .rw[e] at d;exact(mD.mp d).imp λh=>by have:=of_decide_eq_false h;lia
 dsimp only;have I:vs.toArray.size=vs.length:=eH;by_cases t:vs.toArray.size < 2
 .rw[if_pos t,if_pos t];refine aI (aP ?_);rw[StateT.run_pure];refine aI (aP ?_);dsimp only;obtain⟨out,e,f,d⟩:=fin (Pf general' (vs.toArray.zip vs.toArray) #[] 7 none) (by show (vs.toArray.zip vs.toArray).toList.Perm _;simp) (by
   have K:(vs.toArray.zip vs.toArray).toList.length < 2:=by simp;omega
   show Srt (lr rk) (vs.toArray.zip vs.toArray).toList;exact Bt K) rfl
  refine aI (Ud c rfl (aI (SL c rfl ?_ (eg _) ?_)))
  .simp -iota only[bne_self_eq_false,fi,if_false];refine aP ?_;have:=q out f d;unfold UI at this;rw[B,<- e] at this;exact this
  .show ((vs.toArray.zip vs.toArray).map (·.2)).size<=sizeLine + 1;simp;exact WF 176175920734 u
 .rw[if_neg t,if_neg t];obtain⟨H,P,m,g,N⟩:=ask (by exact WF 0x18ff4088e42e9de I t) r λb o e=>C b o (j b o e).1 (j b o e).2;have O:({ s0 with heap:=r }:Shared)={ s with heap:=r }:=by rw[<- D]
  rw[O] at m g;refine aI (m _ _ ?_);refine aI (tG (FH (st:=Pf H (vs.toArray.zip vs.toArray) #[] 7 none) (E:=E) (Q:=λ_ st'=>(arrOf st').toList.Perm (vs.zip vs)/\Srt (lr rk) (arrOf st').toList/\om st'=none) g rfl ?_ rfl rfl λst' U T S=>⟨by
   have e:(vs.toArray.zip vs.toArray).toList=vs.zip vs:=by simp
   exact U.trans (by show (vs.toArray.zip vs.toArray).toList.Perm _;rw[e]),T,S⟩) ?_ λ_ _ e=>e)
  .refine oW.mpr λx L=>?_;have e:(vs.toArray.zip vs.toArray).toList=vs.zip vs:=by simp
   obtain⟨out,R,f⟩:=HJ (vs:=vs) (l:=vs.zip vs) (oF _);have i:x∈vs.zip vs:=by rw[<- e];exact L
   rw[R] at i;obtain⟨v,M,rfl⟩:=jc.mp i;exact N v (f.mem_iff.mp M)
  .rintro⟨⟨⟩,st'⟩ V ⟨rfl,p,d,G⟩;dsimp only;obtain⟨out,e,f,d⟩:=fin st' p d G;refine aI (Ud c rfl (aI (SL c rfl ?_ (eg _) ?_)))
   .rw[show (match st' with | st'=>om st')=none from G];simp only[bne_self_eq_false,fi,if_false];refine aP ?_;have:=q out f d;unfold UI at this;rw[B,<- e] at this;exact this
   .show ((arrOf st').map (·.2)).size<=sizeLine + 1;rw[e,eH,f.length_eq];exact WF 176175920734 u
end
open PySem PyProof.Rows PySem.W PySem.SeqAt
end _t
namespace _2
open PySem PySem.Spec PyProof.Rows
theorem Vals.perm{out:Lv0}(p:us.Perm out):∀ {ys:List V},Vals ys us->∃ ys',Vals ys' out/\ys.Perm ys':=by
 induction p with
 | nil=>intro ys h;exact⟨ys,h,oF _⟩
 | cons x _ i=>
  intro ys h;cases h with
  | cons r h=>
   obtain⟨ys',d,c⟩:=i h;exact⟨_,.cons r d,c.cons _⟩
 | swap x y l=>
  intro ys h;cases h with
  | cons r h=>
   cases h with
   | cons f h=>exact⟨_,.cons f (.cons r h),Sk _ _ _⟩
 | trans _ _ b a=>
  intro ys h;obtain⟨j,d,g⟩:=b h;obtain⟨e,c,p2⟩:=a d;exact⟨e,c,g.trans p2⟩
end _2
namespace _3
open PySem _2 PySem.Spec
theorem Jr{a:TE3}(h:Ref K ta a):Ref K ta (fz3 a):=FT h
theorem nE{a:Pos}{c:Expr}{m:TT3}(hN:X.N.Nodup)(e:X.N[i]?=some x)(n:X.env.scope.names.lookup x=some .local)(o:X.calm=true)(j:P3I K X tg iter wi i3)(p:Blk X.N X.env.scope sc Nc fr)(k:∀ s₀ H₀ C ex b,P3G K (aT X sc Nc s₀ H₀ C ex b) tg g g3)(h:∀ s₀ H₀ C ex b,P3T K (aT X sc Nc s₀ H₀ C ex b) c tc m)(l:∀ s₀ H₀ C ex b,P3 K (aT X sc Nc s₀ H₀ C ex b) elt te e3)(f:autoParam ((fr.filterMap id).Nodup) wP)(d:autoParam (zJ (.ListComp elt [⟨tg,iter,[c],0⟩] sc pos) (some (.Name x px)) a.line X.env=pure true) wE)(hs:autoParam (∀ x,ic iter X.env x=pure x) wT) :
  P3S K X (.Assign [.Name x px] (.ListComp elt [⟨tg,iter,[c],0⟩] sc pos) a) (jo (fX fr wi g (bIf tc (kv te))) (gr i)) (Bv i (fz3 (nk fr i3 g3 (Co m (tI e3))))):=
 ⟨(xi hN e n o j p k h l f d hs).pe,rh (Jr (lT f j.rf (k X.s₀ X.H₀ 0 [] []).rf (rj (h X.s₀ X.H₀ 0 [] []).rf (kP (l X.s₀ X.H₀ 0 [] []).rf))))⟩
end _3
namespace _2
open PySem PySem.Spec PyProof.Rows
section
variable {s:Shared}
theorem B4{b:Addr}{a:String}{Q:Array Value->Shared->Prop}(e:s.heap.get? b=some { cls:=.type "list",data:=.seq new m })(h:Q new s) :
  wpAny (model prog w) A (QM (.ref b) a) Q E s:=by
 delta QM;refine aI (Pr (T:="list") ⟨_,e,rfl⟩ ?_);rw[if_pos (by decide)];delta Builtin.List.listItems;exact aI (KN e rfl (aP h))
theorem xX{c:Nat}(h:c<=n):lh none (some (c:Int)) none n=(0,(c:Int),1):=by
 have b:¬ ((c:Int) < 0):=by lia
 have a:max 0 (min (c:Int) n)=c:=by lia
 simp [lh,b,a]
theorem zu{d:Addr}{c:Nat}{Q:Value×Value×Value->Shared->Prop}(hs:s.heap.IsSliceOf d .none vu .none)(e:IsPart vu (some (c:Int)))(h:Q (SB none,SB (some (c:Int)),SB none) s):wpAny (model prog w) A (Builtin.List.listSliceParts (.ref d)) Q E s:=by
 obtain⟨o,a,_,b⟩:=hs;rw[listSliceParts_eq];refine aI (DM a b (x:=.none) rfl (aI (Sq .none ?_)));rw[if_neg (show ¬ ((SB none == rawInt 0)=true) from js)];exact aI (DM a b (x:=.none) rfl (aI (Sq .none (aI (DM a b (x:=vu) rfl (aI (Sq e (aP h))))))))
theorem Ei{b a:Addr}{items:Array Value}{c:Nat}{Q:Unit->Shared->Prop}(e:s.heap.get? l=some { cls:=.type "list",data:=.seq items n })(t:s.heap.get? b=some { cls:=.type "list",data:=.seq new m })(d:l≠b)(hs:s.heap.IsSliceOf a .none vu .none)(i:IsPart vu (some (c:Int)))(p:c<=items.size)(hz:items.size + new.size<=sizeLine)(h:Q () { s with heap:=s.heap.update l (mO λxs=>xs.extract 0 0++new++xs.extract c xs.size) }):wpAny (model prog w) A (Qh (.ref l) (.ref a) (.ref b)) Q E s:=by
 have tl:s.TypeIs (.ref l) "list":=⟨_,e,rfl⟩;have g:s.TypeIs (.ref a) "slice":=by obtain⟨o,j,f,_⟩:=hs;exact⟨o,j,f⟩
 delta Qh
 try with_reducible refine jz ?_
 first | refine aI (aP ?_) | skip
 refine aI (Ti tl (by decide) ?_);refine aI (Bk (name:=fS "__setitem__") tl TF (oy TF tl entry_list_setitem ?_ (args_list_setitem _ _ _)));show wpAny _ _ (Builtin.List.listSubscript? (.ref a) >>= _) _ _ s;refine aI (aI (OE g slice_no_index (aP ?_)));show wpAny _ _ (typeOf (.ref a) >>= _) _ _ s;refine aI (Pr g ?_);rw[if_neg (by decide)];refine aI (zu hs i ?_);have r:OC (.ref l) (.ref b)=false:=beq_eq_false_iff_ne.mpr d;dsimp only;rw[if_neg (by rw[r];exact js)];refine aI (B4 t ?_);refine aI (aI (KN e rfl (aP ?_)));have q:sliceIndices (SB none) (SB (some (c:Int))) (SB none) items.size=pure (0,(c:Int),1):=by
  rw[sliceIndices_raw none (some (c:Int)) none items.size (by simp),xX p]
 refine aI (qz q ?_);dsimp only;rw[if_pos (by decide)];refine aI (PN ?_);rw[if_neg (by rw[xI hz];exact js)];have k:(max 0 (c:Int)).toNat=c:=by rfl
 rw[k];refine aI (Qd (hz:=kj (Nat.le_add_right _ _) hz) (_hz':=?_) e rfl ?_)
 .refine aI (wpAny_letGo ?_)
  first
   | exact aI (aP (aP ⟨.none,rfl,aP h⟩))
   | exact aP ⟨.none,rfl,aP h⟩
 .simp -iota only[Array.size_append,Array.size_extract];lia
end
theorem Hc{f:Pn}{s:Shared}{b i:Addr}{xs ys:List V}{c:Nat}{Q:Unit->Shared->Prop}(I:Inv X f σ H s)(k:H l=some (.lst xs))(o:H b=some (.lst ys))(g:l≠b)(hs:s.heap.IsSliceOf i .none vu .none)(m:IsPart vu (some (c:Int)))(w:c<=xs.length)(hz:xs.length + ys.length<=sizeLine)(h:∀ s',Inv X f σ (upd H l (.lst (ys++xs.drop c))) s'->Q () s') :
  wpAny (model X.prog X.w) X.A (Qh (.ref l) (.ref i) (.ref b)) Q X.xe s:=by
 obtain⟨a,n,r,e,_⟩:=I.lst k;obtain⟨d,t,j,p,_⟩:=I.lst o;have v:=r.length;have u:=j.length;refine Ei e p g hs m (by rw[eH];lia) (by rw[eH,eH];lia) (h _ ?_);refine I.D7 (its':=d++a.drop c) (n':=if ((d++a.drop c).toArray.size == a.toArray.size)=true then n else n + 1) k e ?_ (j.append (r.drop c)) (by rw[bM,dw];exact WF 0x4cbe86e0f256b9238 hz V2) s.toks;have q:a.toArray.extract 0 0++d.toArray++a.toArray.extract c a.toArray.size=(d++a.drop c).toArray:=by
  apply ro.mp;simp;exact iA (by simp)
 delta mO;dsimp only;rw[q]
def Nd (a:TE)(d:TE):TG:=λv σ H Q=>a σ H λo H1=>d σ H1 λi H2=>∃ p b xs ys,∃ c:Nat,o=.ref p/\i=.int (c:Int)/\v=.ref b/\H2 p=some (.lst xs)/\H2 b=some (.lst ys)/\p≠b/\c<=xs.length/\xs.length + ys.length<=sizeLine/\Q σ (upd H2 p (.lst (ys++xs.drop c)))
theorem JG{i:Expr}{f g:TE}{p2:Pos}(A:PE X o f)(B:PE X i g)(E:autoParam (∀ v,assign (.Subscript o (.Slice none (some i) none p2) pos) X.env v=(do
   let O <- holding [v] (eval o X.env)
   let U <- holding [v,O] (eval (.Slice none (some i) none p2) X.env)
   ru pos
   holding [v,O,U] (Qh O U v)
   release [U,v,O] [])) wT):PG X (.Subscript o (.Slice none (some i) none p2) pos) (Nd f g):=by
 intro a s d H v u Q I r h;rw[E];refine aI (jz (thn (A a s d H _ I h) λO j Z=>?_));obtain⟨x,R,M,l,m⟩:=Z;refine aI (jz (T7 ?_));rw[SH];refine aP ?_;rw[evalPart_some];refine thn (B a j d R _ M m) λV e Z=>?_;obtain⟨y,P,L,k,p,b,T,S,c,J,G,F,z,D,n,C,w,q⟩:=Z;refine aP ?_;subst J G F;cases l;cases r;obtain⟨t,rfl⟩:=k;have K:Inv X a d P { e with heap:=e.heap.push { cls:=.type "slice",data:=.fields #[.none,.int (c:Int) t,.none] } }:=L.kept (t':=e.toks) λb Y q=>bh _ q;exact aI (Hx (aI (jz (Hc K z D n (Qt ..) (.int _ _) C w λW N=>wpAny_release ⟨d,_,N,q⟩))))
end _2
namespace _3
open PySem _2 PySem.Spec PyProof.Rows
section
variable {p2 p3:Pos}{p:Addr}{xss:NR}{k:Expr}{to:TE}
theorem NSt.put(s:NSt K H0 own i p F σ H Γ xss)(c:mh F H p qs xss)(d:Step H0 own H qs){y:Nat}(h:qs[y]?=some q)(zs:Li0):NSt K H0 own i p F σ (upd H q (.lst (zs.map V.int))) Γ (xss.set y zs):=by
 have l:y < qs.length:=(gS0 h).1;have x:y < xss.length:=by rw[<- c.len];exact l
 have g:q∈qs:=eW h;have A:F q=none:=c.no _ (.tail _ g);have u:q≠p:=λz=>(hX.mp c.nd).1 (z ▸ g);have f:aB F (upd H q (.lst (zs.map V.int))):=λb o a=>by rw[ao (a_ a A)];exact c.sub b o a
 refine⟨s.e.move (aB.refl F) f,s.at_,⟨qs,⟨f,?_,c.nd,?_,?_,c.no⟩,⟨?_,?_,d.new⟩⟩,s.po⟩
 .rw[ao (lj u)];exact c.top
 .rw[oJ];exact c.len
 .intro m n t k j;by_cases e:m=y
  .subst e;rw[h] at k;rw[aH x] at j;cases k;cases j;rw[aC]
  .rw[bP (lj e)] at j;have v:n≠q:=λz=>by
    subst z;exact e (Ie (hX.mp c.nd).2 k h)
   rw[ao v];exact c.row m n t k j
 .intro b o a r;have:b≠q:=λe=>by
   rcases d.new _ g with w | w
   .exact r (e ▸ w)
   .rw[e,w] at a;cases a
  rw[ao this];exact d.keep b o a r
 .intro b a;by_cases e:b=q
  .subst e;rw[aC] at a;cases a
  .rw[ao e] at a;exact d.dom b a
theorem NSt.row{e:TE}(s:NSt K H0 own i p F σ H Γ xss)(ns:mh F H p qs xss)(u:i≠jy)(t:Ref K e (cn ix3 (bor i) (bor jy))){y:Nat}(n:Γ[jy]?=some (some (.fz (.int y))))(f:qs[y]?=some q)(k:∀ H',aB H H'->QQ (.ref q) H'):e σ H QQ:=by
 obtain⟨z,w⟩:=s.Lw ns;have il:i < Γ.length:=(gS0 s.at_).1;have a:y < qs.length:=(gS0 f).1;refine t _ z σ H _ (λr _=>r=.fz (.adr q)) _ w ?_ λv H' ⟨B,l,r,A,x,m,c⟩=>?_
 .have j:Gat (Γ.set i (some (.fz (.lst (qs.map D.adr))))) i=some (.lst (qs.map D.adr)):=by delta Gat;rw[aH il]
  have g:Gat (Γ.set i (some (.fz (.lst (qs.map D.adr))))) jy=some (.int y):=by delta Gat;rw[bP u,n]
  refine⟨⟨_,j⟩,⟨_,g⟩,.lst (qs.map D.adr),.int y,j,g,.adr q,?_,rfl⟩;delta _2.atI;rw[lM0,AL a];show (qs.map D.adr)[y]?=_;rw[ba,f];rfl
 .subst c;have d:v=.ref q:=m;subst d;exact k H' λb o h=>x.rest b o h λ_ q=>nomatch q
noncomputable def N_ (R:Int->Prop)(_:Tag R):RV->G->Prop:=λr _=>∃ n:Int,r=.fz (.int n)/\R n
def Aj (a b:Nat)(c:TE3):TN:=λk Γ xss=>c Γ (N_ (λn=>∃ (y x:Nat) (xs:Li0),Γ[a]?=some (some (.fz (.int y)))/\Γ[b]?=some (some (.fz (.int x)))/\xss[y]?=some xs/\x < xs.length/\k Γ (xss.set y (xs.set x n))) ⟨⟩)
theorem GF{c:Nat}(W:i≠jy)(z:P3 K X o to (cn ix3 (bor i) (bor jy)))(V:P3B K X k (e9 c) (bor c))(A:P3 K X e te e3)(Y:autoParam (∀ v,assign (.Subscript o k p2) X.env v=(do
   let O <- holding [v] (eval o X.env)
   let U <- holding [v,O] (eval k X.env)
   ru p2
   holding [v,O,U] (Qh O U v)
   release [v,O,U] [])) wT)(hs:autoParam (NZ [.Subscript o k p2] e pos.line X.env=pure false) wE)(S:autoParam (Oi [.Subscript o k p2] e X.env=pure none) wE)(h1:autoParam ((pv [.Subscript o k p2] X.env).map (·.2)=[assign (.Subscript o k p2) X.env]) wE) :
  N3S K X i (.Assign [.Subscript o k p2] e pos) (jo te (Cb to (e9 c) uy)) (Aj jy c e3):=⟨(FF (bA z) V A Y hs S h1).pe,λH0 L p F m H u g DD k s P q=>by
 refine A.rf _ F m H u _ _ s.e q λv H1 Z=>?_;obtain⟨F1,B,r,sF,e1,I,n,T,y,x,C,Q,R,a,N,q⟩:=Z;subst T;have ev:v=.int n:=I;subst ev;have j:=s.up (H':=H1) λb o h=>e1.rest b o h λ_ q=>nomatch q
 obtain⟨D,ax,bx⟩:=s.e.fz c _ R;obtain⟨J,f,E⟩:=j.n;have M:y < g.length:=(gS0 a).1;obtain⟨qy,l⟩:∃ qy,J[y]?=some qy:=⟨_,gE0 (by rw[f.len];exact M)⟩;refine j.row f W z.rf Q l λH2 d=>?_;have G:=j.up d;have w:=f.grow d (f.sub.trans d) λ_ _ h=>.inl h;refine⟨D,ax,qy,_,(x:Int),x,rfl,bx,w.row y _ _ l a,by rw[lM0];exact AL N,?_⟩;have t:=G.put w (E.grow d) l (C.set x n);rw[Va] at t;exact P F m _ u _ (aB.refl F) t q⟩
def Ak (i a b:Nat)(d:TE3):TN:=λk Γ xss=>d (CU i Γ xss) (J7 (λns=>∃ (y c:Nat) (xs:Li0),Γ[a]?=some (some (.fz (.int y)))/\Γ[b]?=some (some (.fz (.int c)))/\xss[y]?=some xs/\c<=xs.length/\xs.length + ns.length<=sizeLine/\k Γ (xss.set y (ns++xs.drop c))) ⟨⟩)
theorem GG{f:Nat}(Z:i≠jy)(A:P3 K X o to (cn ix3 (bor i) (bor jy)))(Y:P3B K X k (e9 f) (bor f))(B:P3 K X e te e3)(ha:autoParam (∀ v,assign (.Subscript o (.Slice none (some k) none p3) p2) X.env v=(do
   let O <- holding [v] (eval o X.env)
   let U <- holding [v,O] (eval (.Slice none (some k) none p3) X.env)
   ru p2
   holding [v,O,U] (Qh O U v)
   release [U,v,O] [])) wT)(hs:autoParam (NZ [.Subscript o (.Slice none (some k) none p3) p2] e pos.line X.env=pure false) wE)(T:autoParam (Oi [.Subscript o (.Slice none (some k) none p3) p2] e X.env=pure none) wE)(h1:autoParam ((pv [.Subscript o (.Slice none (some k) none p3) p2] X.env).map (·.2)=[assign (.Subscript o (.Slice none (some k) none p3) p2) X.env]) wE) :
  N3S K X i (.Assign [.Subscript o (.Slice none (some k) none p3) p2] e pos) (jo te (Nd to (e9 f))) (Ak i jy f e3):=⟨vW B.pe (JG A.pe Y.pe ha) hs T h1,λH0 J p F C H D l DD k s Q q=>by
 refine s.eval B.rf q λz H1 w ⟨y,c,r,S,hc,a,P,M,q⟩ R b W=>?_;have u:=s.up b;obtain⟨E,ac,bc⟩:=s.e.fz f _ hc;obtain⟨I,g,m⟩:=s.n;have n:=g.grow b (g.sub.trans b) λ_ _ h=>.inl h;have N:y < l.length:=(gS0 a).1;obtain⟨qy,j⟩:∃ qy,I[y]?=some qy:=⟨_,gE0 (by rw[g.len];exact N)⟩;refine u.row n Z A.rf S j λH2 d=>?_;have G:=u.up d;have x:=n.grow d (n.sub.trans d) λ_ _ h=>.inl h;have L:qy≠z:=λe=>by
  have:=g.row y _ _ j a;rw[e,R] at this;cases this
 refine⟨E,ac,qy,z,r.map V.int,w.map V.int,c,rfl,bc,rfl,x.row y _ _ j a,d _ _ W,L,by rw[lM0];exact P,by rw[lM0,lM0];exact M,?_⟩;have t:=G.put x ((m.grow b).grow d) j (w++r.drop c);rw[dE,HG] at t;exact Q F C _ D _ (aB.refl F) t q⟩
noncomputable def yu:G->Prop
 | []=>True
 | none::Γ=>yu Γ
 | some (.fz _)::Γ=>yu Γ
 | _::_=>False
theorem yu.at:∀ {Γ:G} {k:Nat} {s:Sl},yu Γ->Γ[k]?=some (some s)->∃ d,s=.fz d
 | none::Γ,0,s,_,h=>by simp -iota at h
 | some (.fz d)::Γ,0,s,_,h=>by simp -iota at h;exact⟨d,h.symm⟩
 | none::Γ,k + 1,s,a,h=>yu.at (Γ:=Γ) (k:=k) a (by simpa using h)
 | some (.fz d)::Γ,k + 1,s,a,h=>yu.at (Γ:=Γ) (k:=k) a (by simpa using h)
 | some (.ow d)::Γ,_,_,a,_=>a.elim
 | some (.ln d)::Γ,_,_,a,_=>a.elim
 | [],_,_,_,h=>by simp -iota at h
def yX (i:Nat)(a:TS3):TN:=λk Γ xss=>a { nx:=λΓ'=>Γ'[i]?=Γ[i]?/\yu Γ'/\k Γ' xss,rt:=λ_ _=>False } Γ
theorem DX{t:TS}(h:P3S K X st t s3):N3S K X i st t (yX i s3):=⟨h.pe,λB u p F r H j f z k s w q=>by
 refine h.rf _ F r H j z { nx:=λc=>c[i]?=j[i]?/\yu c/\k c f,rt:=λ_ _=>False } s.e ⟨λF' g H' c l e Z=>?_,λ_ _ _ _ _ _ _ _ _ q=>q.elim,λ_ _ _ _ _ _ q=>q.elim,λ_ _ _ _ _ _ q=>q.elim⟩ q;obtain⟨a,b,q⟩:=Z;have t:=s.grow (F':=F') (H':=H') (λb o h=>e.rest b o h λ_ q=>nomatch q) l e.sub λb o h=>e.new b o h;refine w F' g H' c f l ⟨uY e.sub e.len λm A n=>?_,a.trans s.at_,t.n,s.po⟩ q;obtain⟨d,rfl⟩:=b.at n;obtain⟨v,y,x⟩:=e.fz m d n;exact⟨d,v,rfl,y,x⟩⟩
end
end _3
namespace _2
open PySem PySem.Spec PyProof.Rows
section
variable {i:Expr}{sp:Sp}
theorem EN(o i:Expr)(p:Pos)(args:List Expr)(b:List Sy)(pos:Pos)(a:Env):eval (.Call (.Subscript o i p) args b pos) a=(do
  Th pos (<- eval (.Subscript o i p) a) [] (backTo pos (ed args a)) (Qq pos (KF b a))):=rfl
def yK (te:TE)(f:Addr)(sp:Sp)(t:TA):TE:=λσ H Q=>te σ H λv H1=>v=.ref f/\t σ H1 λvs H2=>sp vs H2 Q E0
theorem DG(lk:∃ d c b,X.K.lookup f=some ⟨d,c,.func fd,b⟩)(F:aM X.prog X.w X.K X.mg X.base CX0 k f fd ps sp)(x:cz k X.A)(B:Binds X.K fd ps [])(y:PE X (.Subscript o i p) te)(C:PA X (e::es) t)(A:autoParam (ed (e::es) X.env=(false,eval e X.env)::ed es X.env) wE)(g:autoParam ((backTo pos (ed es X.env)).any (·.1)=false) wE) :
  PE X (.Call (.Subscript o i p) (e::es) [] pos) (yK te f sp t):=by
 intro a s j H Q I h;obtain⟨d,c,b,lk⟩:=lk;have l:∀ {h:Heap},X.K.In h->U8 f h:=λ{h} z=>⟨d,c,fd,b,z _ _ lk⟩;rw[EN];refine aI (thn (y a s j H _ I h) λu q Z=>?_);obtain⟨v,M,n,w,E,D⟩:=Z;subst E;obtain rfl:u=.ref f:=w;refine SZ (l n.kIn) (thn (C pos a q j _ _ n D) λJ K ⟨G,L,m,r,z⟩=>⟨l m.kIn,?_⟩) A g;exact pG (dvs:=[]) (ds:=[]) F x B .nil qg m r (by rw[jw];exact z)
end
end _2
namespace _3
open PySem _2 PySem.Spec PyProof.Rows
section
variable {i:Expr}
def jj (d:TE3)(n:Nat)(f:Addr)(S:S3)(c:dO)(Γ:G)(Q:RV->G->Prop):Prop:=d Γ λr b=>r=.fz (.adr f)/\c b λa Γ1=>a.length=n/\(du a).Nodup/\S (c6 Γ1 (a.map some)) λr Γa=>Q r (bE ((a.map some).map cM) Γ1 Γa)
theorem G4:jj e3 n f S t3 Γ Q=(e3 Γ λr b=>r=.fz (.adr f)/\t3 b λa Γ1=>a.length=n/\(du a).Nodup/\Eg S (c6 Γ1 (a.map some)) ((a.map some).map cM) Γ1 Q ⟨⟩):=rfl
theorem BB(D:Ref K te e3)(h:tV K t t3):Ref K (yK te f (sp3 K n S) t) (jj e3 n f S t3):=by
 intro B F j H p Q U e x C;refine D B F j H p _ _ e x λv J Z=>?_;obtain⟨N,d,R,u,I,g,i,z⟩:=Z;subst i;obtain rfl:v=.ref f:=g;refine⟨rfl,h B N j J d _ _ I z λP V Z=>?_⟩;obtain⟨M,o,T,s,l,k,E,A,y⟩:=Z;refine⟨by rw[k.length];exact E,M,_,_,_,l.args k A,oV,y,λr m q v L O G w=>?_⟩;obtain⟨a,b,c⟩:=l.called G w;exact C v L ⟨O,_,r,u.trans (s.trans a),b,c,q⟩
theorem nM{q:Str}(r:Fun X.K y q st f fd)(F:aM X.prog X.w X.K X.mg X.base CX0 k f fd ps (sp3 K n S))(j:cz k X.A)(m:Binds X.K fd ps [])(b:P3 K X (.Subscript o i p) te e3)(c:tW K X (e::es) t t3)(l:autoParam (ed (e::es) X.env=(false,eval e X.env)::ed es X.env) wE)(a:autoParam ((backTo pos (ed es X.env)).any (·.1)=false) wE) :
  P3 K X (.Call (.Subscript o i p) (e::es) [] pos) (yK te f (sp3 K n S) t) (jj e3 n f S t3):=⟨DG (by obtain⟨h,g,_,_,_,_,_,_,d,_,lk,_⟩:=r.ex;exact⟨h,g,d,lk⟩) F j m b.pe c.pe l a,BB b.rf c.rf⟩
end
theorem xj {H:Hp}:∀ {xss:NR} {qs:La0},dP K F H qs (eX xss)->qs.length=xss.length/\∀ (m:Nat) (q:Addr) (xs:Li0),qs[m]?=some q->xss[m]?=some xs->H q=some (.lst (xs.map V.int))
 | [],[],_=>⟨rfl,λm q xs h=>by simp -iota at h⟩
 | [],_::_,⟨_,_,_,h,_⟩=>nomatch h
 | _::_,[],h=>nomatch h
 | xs::xss,q::qs,Z=>by
  obtain⟨ys,yt,n,c,i,g,f⟩:=Z;have k:xs.map D.int=ys:=by have:=c;unfold eX at this;rw[fO] at this;injection this
  have j:eX xss=yt:=by have:=c;unfold eX at this;rw[fO] at this;injection this
  subst k;subst j;obtain⟨l,r⟩:=xj f;refine⟨by rw[eK,eK,l],λm e d a b=>?_⟩;cases m with
  | zero=>cases a;cases b;rw[i,g.n9]
  | succ m=>exact r m e d a b
noncomputable def noG (Γ:G):G:=Γ.map λ_=>none
def DW (i:Nat)(e:TE3)(d:TN):TS3:=λD Γ=>e Γ λr Γ1=>C2 r λc=>cF Γ1 i/\yw Γ1/\∃ xss:NR,c=eX xss/\∀ p,d (λa b=>D.rt (.rws (eX b)) (noG a)) (Γ1.set i (some (.fz (.adr p)))) xss
theorem pN{s:Sl}(h:(noG Γ)[j]?=some (some s)):False:=by
 delta noG at h;rw[ba] at h;cases q:Γ[j]? with
 | none=>rw[q] at h;cases h
 | some o=>rw[q] at h;cases h
theorem xw{pr T:Pos}{S:Stmt}{Q:TS}{U:TN}{x3:TS3}(i:Nat)(hs:P3S K X (.Assign [.Name x px] e pos) (jo te (gr i)) x3)(he:P3 K X e te e3)(I:N3S K X i S Q U)(hv:P3 K X (.Name y T) (e9 i) f3) :
  wZ K X [.Assign [.Name x px] e pos,S,.Return (some (.Name y T)) pr] (CJ (jo te (gr i)) (CJ Q (IY (e9 i)))) (DW i e3 U):=⟨nH hs.pe (nH I.pe (vV (Ds hv.pe))),λB F P H Y DD D3 e k q=>he.rf B F P H Y _ _ e q λv J Z=>by
  obtain⟨E,t,r,s,g,rv,q'⟩:=Z;obtain⟨a1,rfl,V,f,xss,rfl,q5⟩:=FG q';obtain⟨p,G,rfl,h1,h2,h3,W⟩:=rv;have il:=oh V;have e1:=g.set (r:=.fz (.adr p)) V rfl;have n:yw (t.set i (some (.fz (.adr p)))):=λs hs=>by
   rcases List.mem_or_eq_of_mem_set hs with h | h
   .exact f s h
   .cases h;exact⟨_,rfl⟩
  obtain⟨lq,A⟩:=xj h3;have ns:NSt K J (p::G) i p E (P.set i (some (.ref p))) J (t.set i (some (.fz (.adr p)))) xss:=⟨Nl e1 n,aH il,⟨G,⟨g.sub,h1,h2,lq,A,λz c=>(W z c).1⟩,⟨λb o h _=>h,λb h=>h,λq h=>.inl (.tail _ h)⟩⟩,.head _⟩;refine I.rf J (p::G) p E _ J _ xss _ _ ns (λF2 L H2 M N R u q2=>?_) (q5 p);obtain⟨w,a,b⟩:=u.e.fz i _ u.at_;obtain rfl:w=.ref p:=b;obtain⟨C,D,l⟩:=u.n;have O:∀ z,z∈p::G->B.H z=none:=λz c=>(W z c).2.1;have no:∀ z,z∈p::C->E z=none:=λz c=>by
   cases h:E z with
   | none=>rfl
   | some o=>have:=R _ _ h;rw[D.no z c] at this;cases this
  refine⟨.ref p,a,k.rt E L H2 (noG M) (.ref p) (.rws (eX N)) s ⟨R.trans u.e.sub,by delta noG;rw[lM0];exact u.e.len,λj d h=>(pN h).elim,λj d h=>?_,λj d q h=>(pN h).elim,λj d q h=>(pN h).elim,λj m d d' q h=>?_,λj q h=>?_,g.keep,g.new,λb o h I=>?_,λb h=>g.dom b (l.dom b h)⟩ ⟨p,C,rfl,D.top,D.nd,Ao D.len D.row,λz c=>⟨no z c,?_,λj d h=>?_⟩⟩ q2⟩
  .rcases h with h | h <;> exact(pN h).elim
  .rcases h with h | h <;> exact(pN h).elim
  .obtain⟨_,d,hd⟩:=g.par j q h;obtain⟨_,z⟩:=f.at hd;cases z
  .exact l.keep b o (g.rest b o h I) λz=>by rw[O b z] at h;cases h
  .rcases cS.mp c with e | hm
   .rw[e];exact O p (.head _)
   .rcases l.new z hm with w | w
    .exact O z w
    .exact g.dom z w
  .rcases h with h | h <;> exact(pN h).elim⟩
section
variable {c:Expr}
def O_ (Γ:G)(i:Nat):Prop:=∀ (k:Nat) (d:D),Hld Γ k d->k=i
def tfU (i:Nat)(c:TT3)(Γ:G)(Q:Bool->G->Prop):Prop:=∃ ds:List D,Γ[i]?=some (some (.ow (.lst ds)))/\O_ Γ i/\c (Γ.set i (some (.fz (.lst ds)))) λb a=>a=Γ.set i (some (.fz (.lst ds)))/\Q b Γ
theorem Gs(i:Nat)(h:P3T K X c tc A3):P3T K X c tc (tfU i A3):=⟨h.pe,by
 intro B F n H s Q M e q A;obtain⟨ds,l,y,q⟩:=q;obtain⟨J,p,v,D,w,m⟩:=e.give l;refine h.rf B J n H _ _ _ m q λb H2 ⟨N,o,j,a,f,x⟩=>A b H2 ⟨F,s,aB.refl F,?_,x⟩;subst f;have sub:aB F H2:=(v.trans j).trans a.sub;refine⟨sub,e.len,e.fz,λk d hd=>?_,e.ow,e.ln,e.dis,e.par,e.keep,e.new,a.rest,a.dom⟩;have z:=y k d hd;subst z;have I:d=.lst ds:=by
  rcases hd with hd | hd <;> rw[l] at hd <;> cases hd
  rfl
 subst I;obtain⟨r,g,G,t,E,C⟩:=e.hl k _ hd;refine⟨r,g,G,?_⟩;rw[D] at g;cases g;obtain⟨L,u,z1,z2,z3⟩:=w;cases z1;have:H p=some (.lst u):=m.sub _ _ z2;rw[E] at this;cases this;exact⟨t,a.sub _ _ (j _ _ z2),C⟩⟩
end
end _3
namespace _2
open PySem PySem.Spec PyProof.Rows
noncomputable abbrev Pb:=Qy
noncomputable def adv (m:Nat)(p:Pb):Pb:=
 if p.more > 0 then { p with j:=p.j + 1,more:=p.more - 1 } else
 let (i,perturb):=Rc m p.i p.perturb
 { p with j:=i,more:=iL m i - i,i,perturb }
noncomputable def rn (m i p:Nat):Pb:=⟨i,iL m i - i,i,p,none⟩
noncomputable def lsq (m:Nat)(h:Int):Nat->Nat×Nat
 | 0=>(oT h % (m + 1),oT h)
 | n + 1=>Rc m (lsq m h n).1 (lsq m h n).2
noncomputable def pth (m:Nat)(h:Int):Nat->Pb
 | 0=>rn m (oT h % (m + 1)) (oT h)
 | n + 1=>adv m (pth m h n)
theorem more_le(m i:Nat):iL m i - i<=9:=by delta iL;split <;> lia
theorem C5(h:i<=m):iL m i<=m:=by delta iL;split <;> omega
theorem C6(m i:Nat):i<=iL m i:=by delta iL;split <;> lia
section
variable {h:Int}
theorem nG {n i p:Nat}(e:pth m h n=rn m i p):∀ k,k<=iL m i - i->pth m h (n + k)=⟨i + k,iL m i - i - k,i,p,none⟩
 | 0,_=>e
 | k + 1,a=>by
  show adv m (pth m h (n + k))=_;rw[nG e k (by exact fq (by assumption))];delta adv;rw[if_pos (show iL m i - i - k > 0 by exact WF 0x522dc5fb04e5ed8cb a V1)];simp -iota only[Rw,true_and,and_true];lia
theorem xy{p:Nat}(e:pth m h n=rn m i p):pth m h (n + (iL m i - i) + 1)=rn m (Rc m i p).1 (Rc m i p).2:=by
 show adv m (pth m h (n + (iL m i - i)))=_;rw[nG e _ (bU _)];delta adv;rw[if_neg (show ¬ iL m i - i - (iL m i - i) > 0 by lia)]
 rfl
theorem Aq:∀ L,∃ n,n<=10 * L/\pth m h n=rn m (lsq m h L).1 (lsq m h L).2
 | 0=>⟨0,bU _,rfl⟩
 | L + 1=>by
  obtain⟨n,a,e⟩:=Aq L;have:=more_le m (lsq m h L).1;exact⟨_,by exact WF 0x4d4e0a978d33f61cd247f0b a this,xy e⟩
theorem D9:∀ L,(lsq m h L).1<=m
 | 0=>vx (QC _ (nz m))
 | L + 1=>vx (QC _ (nz m))
theorem Ij:∀ L,(lsq m h L).2=oT h / 32 ^ L
 | 0=>(Nat.div_one _).symm
 | L + 1=>by
  show (lsq m h L).2 / 32=_;rw[Ij L,Nat.div_div_eq_div_mul,Nat.pow_succ]
theorem Hj:oT h < 2 ^ 64:=by
 delta oT;have:=Pd h (show (2 ^ 64:Int)≠0 by decide);have:=GM h (show (0:Int) < 2 ^ 64 by decide);lia
noncomputable def fw (m x:Nat):Nat:=(x * 5 + 1) % (m + 1)
noncomputable def itf (m:Nat):Nat->Nat->Nat
 | 0,x=>x
 | n + 1,x=>itf m n (fw m x)
noncomputable def HB (m:Nat):Nat->Nat->Nat->Nat
 | 0,_,b=>b
 | n + 1,x,b=>HB m n (fw m x) (b ||| 1 <<< x)
theorem yy:∀ n x b j,(HB m n x b).testBit j=true->b.testBit j=true\/∃ k,k < n/\itf m k x=j
 | 0,_,_,_,q=>.inl q
 | n + 1,x,b,j,q=>by
  rcases yy n _ _ j q with q | ⟨k,a,q⟩
  .rw[LQ,RZ] at q;rcases q with q | q
   .exact .inl q
   .rw[Nat.one_shiftLeft,zC] at q;exact .inr ⟨0,nz n,of_decide_eq_true q⟩
  .exact .inr ⟨k + 1,Nat.succ_lt_succ a,q⟩
theorem n8:∀ a b x,itf m (a + b) x=itf m b (itf m a x)
 | 0,b,x=>by rw[rx];rfl
 | a + 1,b,x=>by rw[Nat.succ_add];exact n8 a b _
def Cyc (m:Nat):Prop:=HB m (m + 1) 0 0=2 ^ (m + 1) - 1/\itf m (m + 1) 0=0
theorem Cyc.all(c:Cyc m)(b:j<=m):∃ k,k<=m/\itf m k 0=j:=by
 have q:(HB m (m + 1) 0 0).testBit j=true:=by
  rw[c.1,Nat.testBit_two_pow_sub_one];exact decide_eq_true (TH b)
 rcases yy _ _ _ j q with q | ⟨k,a,q⟩
 .simp -iota at q
 .exact⟨k,vx a,q⟩
theorem Cyc.to(c:Cyc m)(e:i<=m)(d:j<=m):∃ k,k<=m/\itf m k i=j:=by
 obtain⟨a,g,rfl⟩:=c.all e;obtain⟨b,f,rfl⟩:=c.all d;by_cases h:a<=b
 .exact⟨b - a,by exact WF 0x831d407ea08b f V2,by rw[<- n8,QX h]⟩
 .refine⟨m + 1 - a + b,by exact WF 0x85f369bfff14f597b8 h (V3 (WF 176175920734 g)),?_⟩;rw[<- n8,show a + (m + 1 - a + b)=(m + 1) + b by lia,n8,c.2]
theorem AH:∀ k,(lsq m h (13 + k)).1=itf m k (lsq m h 13).1
 | 0=>rfl
 | k + 1=>by
  rw[n8 k 1,<- AH k];show ((lsq m h (13 + k)).1 * 5 + 1 + (lsq m h (13 + k)).2 / 32) % (m + 1)=_;have z:(lsq m h (13 + k)).2=0:=by
   rw[Ij];refine Rx (fC Hj ?_);exact kj (show 2 ^ 64<=32 ^ 13 by decide) (Nat.pow_le_pow_right (by decide) (by lia))
  rw[z];rfl
theorem Cyc.leap(c:Cyc m)(b:j<=m):∃ L,L < m + 15/\(lsq m h L).1=j:=by
 obtain⟨k,a,e⟩:=c.to (D9 (h:=h) 13) b;exact⟨13 + k,by exact WF 0x2d2df3886becf35e a,by rw[AH,e]⟩
theorem Cyc.cov(c:Cyc m)(b:j<=m):∃ n,n < 10 * qt m/\(pth m h n).j=j:=by
 obtain⟨L,d,e⟩:=c.leap (h:=h) b;obtain⟨n,a,en⟩:=Aq (m:=m) (h:=h) L;exact⟨n,by delta qt;exact WF 0x1bd4f47cbd06499a11eeccad08b d a,by rw[en];exact e⟩
theorem Cyc.first(c:Cyc m){occ:Nat->Prop}(o:j<=m)(p:¬ occ j):∃ e,e < 10 * qt m/\¬ occ (pth m h e).j/\∀ n,n < e->occ (pth m h n).j:=by
 obtain⟨n,g,rfl⟩:=c.cov (h:=h) o;have f:∀ n,¬ occ (pth m h n).j->∃ e,e<=n/\¬ occ (pth m h e).j/\∀ k,k < e->occ (pth m h k).j:=by
  intro n
  induction n using Ug with
  | _ n l=>
   intro g;by_cases z:∃ k,k < n/\¬ occ (pth m h k).j
   .obtain⟨k,i,q⟩:=z;obtain⟨e,a,b,d⟩:=l k i q;exact⟨e,by lia,b,d⟩
   .exact⟨n,bU _,g,λk i=>uS λq=>z ⟨k,i,q⟩⟩
 obtain⟨e,a,b,d⟩:=f n p;exact⟨e,by exact WF 0x5100c5eb902cc1b0b g a,b,d⟩
theorem uO {owner:Array (Option Nat)}{occ:Nat->Prop}(c:∀ j,(owner.getD j (some 0)).isNone=false->occ j):∀ (fuel L n:Nat),pth m h n=rn m (lsq m h L).1 (lsq m h L).2->(∃ d,L<=d/\d < L + fuel/\(owner.getD (lsq m h d).1 (some 0)).isNone=true)->
  ∃ j e,GR m owner fuel (lsq m h L).1 (lsq m h L).2=some j/\n<=e/\(pth m h e).j=j/\j<=m/\(owner.getD j (some 0)).isNone=true/\∀ k,n<=k->k < e->occ (pth m h k).j
 | 0,L,n,_,Z=>by obtain⟨d,a,b,_⟩:=Z;exact mM (WF 4517001958441310 a b)
 | fuel + 1,L,n,e,Z=>by
  obtain⟨d,a,b,q⟩:=Z;unfold GR;have s:=D9 (m:=m) (h:=h) L;have r:=C5 s;have f:=C6 m (lsq m h L).1;cases g:(cj (iL m (lsq m h L).1 + 1 - (lsq m h L).1)).find? λk=>(owner.getD ((lsq m h L).1 + k) (some 0)).isNone with
  | some k=>
   rw[List.find?_range_eq_some] at g;obtain⟨A,p,x⟩:=g;rw[iU] at p;refine⟨_,n + k,rfl,by lia,by rw[nG e k (by exact WF 0x2d119d4889557dae46c2a5 p V1 (V3 (WF 176175920734 f)))],by exact WF 0x2d38f540e83a6b28549ce5 r p (V3 (WF 176175920734 f)),A,λi l o=>?_⟩;have:=nG e (i - n) (by exact WF 0x2f8852109bf8b4e28a00ecd078ab27332c p o V1 (V3 (WF 6550533726 l)) (V3 (WF 176175920734 f)));rw[QX l] at this;rw[this];have z:=x (i - n) (by exact WF 0x527f1820c5790aef8 o (V3 (WF 6550533726 l)));exact c _ (by simpa using z)
  | none=>
   rw[List.find?_range_eq_none] at g;have C:d≠L:=λz=>by
    subst z;have:=g 0 (by exact WF 0x522dc5fb03e58c58b f V1);rw[TC,q] at this;cases this
   obtain⟨j,B,l,o,w,v,u,t⟩:=uO c fuel (L + 1) _ (xy e) ⟨d,by lia,by exact WF 0x2d2ef7dc7462e30b b,q⟩;refine⟨j,B,l,by exact WF 0x82cb8f9d370b o,w,v,u,λi a b=>?_⟩;by_cases z:i<=n + (iL m (lsq m h L).1 - (lsq m h L).1)
   .have:=nG e (i - n) (by exact WF 0x4cdb55e28ba8a12f8 z (V3 (WF 6550533726 a)));rw[QX a] at this;rw[this];have y:=g (i - n) (by exact WF 0x984a612f453f9b0008e2d0b3168dbf z V1 (V3 (WF 6550533726 a)) (V3 (WF 6550533726 f)));exact c _ (by simpa using y)
   .exact t i (by exact WF 0x19204926d69ba0b z) b
end
theorem OP:Cyc 7:=by delta Cyc;decide +kernel
theorem Nm:Cyc 31:=by delta Cyc;decide +kernel
theorem K9:Cyc 127:=by delta Cyc;decide +kernel
theorem K8:Cyc 511:=by delta Cyc;decide +kernel
theorem Hb:Cyc 2047:=by delta Cyc;decide +kernel
theorem Ic:∀ (k:Nat) (l:List Nat),l.Nodup->(∀ x∈l,x < k)->l.length<=k
 | 0,[],_,_=>bU _
 | 0,x::_,_,h=>absurd (h x (.head _)) (Nat.not_lt_zero x)
 | k + 1,l,b,h=>by
  have:=Ic k (l.erase k) (b.erase k) λx c=>by
   have d:=List.mem_of_mem_erase c;have f:x≠k:=λz=>by subst z;exact(List.Nodup.not_mem_erase b) c
   have:=h x d;lia
  have e:=List.length_erase (a:=k) (l:=l);split at e <;> lia
theorem vQ{xs:Array Nat}(h:Ris xs):xs.toList.Nodup:=h.imp λh=>hY h
theorem Bq{l:List Nat}(a:l.Nodup)(e:l.length<=m):∃ j,j<=m/\j∉l:=by
 refine uS λz=>?_;have sub:∀ j,j < m + 1->j∈l:=λj c=>uS λq=>z ⟨j,vx c,q⟩;have b:∀ (n:Nat) (l:List Nat),l.Nodup->(∀ j,j < n->j∈l)->n<=l.length:=by
  intro n
  induction n with
  | zero=>intro l _ _;exact eg _
  | succ n d=>
   intro l a h;have:=d (l.erase n) (a.erase n) λj c=>(Sr (by lia)).mpr (h j (by lia));rw[Re (h n (by exact bU _))] at this;have:=RK (h n (by exact bU _));lia
 have:=b (m + 1) l a sub;lia
def Msk (m:Nat):Prop:=m=7\/m=31\/m=127\/m=511\/m=2047
theorem Msk.cyc(h:Msk m):Cyc m:=by
 rcases h with rfl | rfl | rfl | rfl | rfl
 .exact OP
 .exact Nm
 .exact K9
 .exact K8
 .exact Hb
theorem Msk.odd(h:Msk m):(m % 2 == 0)=false:=by rcases h with rfl | rfl | rfl | rfl | rfl <;> rfl
theorem Msk.le(h:Msk m):7<=m/\m<=2047:=by rcases h with rfl | rfl | rfl | rfl | rfl <;> decide
structure TbU (t:mH) (hs:Li0):Prop where
 dum:t.dummies=#[]
 ris:Ris t.place
 len:t.place.size=hs.length
 msk:Msk t.mask
 few:hs.length<=t.mask
 emb:∀ (i:Nat) (hh:Int),hs[i]?=some hh->∃ n j,t.place[i]?=some j/\(pth t.mask hh n).j=j/\∀ k,k < n->(pth t.mask hh k).j∈t.place.toList
theorem TbU.fits{t:mH}(T:TbU t hs)(a:n=hs.length):t.fits n=true:=by
 delta UQ UT;rw[T.dum,T.len,a];have:=T.few;simpa using this
theorem uo{t:mH}(b:Ris t.place)(h:j∈t.place.toList):∃ i,t.slot j=.live i/\t.place[i]?=some j:=by
 obtain⟨i,c,e⟩:=qv h;obtain⟨o,l,k⟩:=fm b j;have a:t.place[i]?=some j:=by rw[<- dm,gE0 c,e]
 have g:hP t.place j=i:=by
  rcases Py (hP t.place j) i with z | z | z
  .have f:hP t.place j < t.place.size:=by rw[dy] at c;lia
   have d:t.place[hP t.place j]?=some t.place[hP t.place j]:=eR f;have n:=k _ _ (bU _) d;have m:=b.lt z d a;lia
  .exact z
  .have:=l i j z a;lia
 refine⟨i,?_,a⟩;delta Q9;dsimp only;rw[g,a];simp
theorem Fw{t:mH}(a:t.dummies=#[])(h:j∉t.place.toList):t.slot j=.empty:=by
 delta Q9;dsimp only;rw[if_neg,if_neg]
 .rw[a];simp -iota [Pz]
 .intro z;have z:t.place[hP t.place j]?=some j:=by simpa using z
  rw[<- dm] at z;exact h (eW z)
theorem uA {m:Nat}{h:Int}:∀ n,(pth m h n).dummy=none
 | 0=>rfl
 | n + 1=>by
  have a:=uA (m:=m) (h:=h) n;show (adv m (pth m h n)).dummy=none;delta adv;split <;> exact a
abbrev Unl (t:mH)(hs:Li0)(h:Int)(a b:Nat):Prop:=∀ k:Nat,a<=k->k < b->∀ i:Nat,t.place[i]?=some (pth t.mask h k).j->hs[i]?≠some h
theorem Dv{t:mH}(T:TbU t hs){f:Nat->Int}(D:∀ i s,hs[i]?=some s->f i=s){h:Int}{e:Nat}(E:(pth t.mask h e).j∉t.place.toList)(C:∀ n,n < e->(pth t.mask h n).j∈t.place.toList) :
  ∀ c d,d<=e->e - d < c->(∃ n i,d<=n/\n < e/\t.place[i]?=some (pth t.mask h n).j/\hs[i]?=some h/\vl t f h c (pth t.mask h d)=some (.candidate (pth t.mask h n).j i (pth t.mask h (n + 1)))/\Unl t hs h d n)\/
   (vl t f h c (pth t.mask h d)=some (.empty (pth t.mask h e).j none)/\Unl t hs h d e):=by
 intro c
 induction c with
 | zero=>intro d _ v;lia
 | succ c B=>
  intro d F v;unfold vl;by_cases z:d=e
  .subst z;rw[Fw T.dum E];exact .inr ⟨by rw[uA],λk a b=>by lia⟩
  .obtain⟨i,x,g⟩:=uo T.ris (C d (by lia));rw[x];dsimp only;have il:i < hs.length:=by rw[<- T.len];exact(ml.mp g).1
   have l:hs[i]?=some hs[i]:=gE0 il;rw[D i _ l];by_cases y:hs[i]=h
   .rw[if_pos (by rw[y];exact beq_self_eq_true h)];exact .inl ⟨d,i,bU _,by lia,g,by rw[l,y],rfl,λk a b=>by lia⟩
   .rw[if_neg (by simpa using y)];have r:∀ {b:Nat},Unl t hs h (d + 1) b->Unl t hs h d b:=λ{b} u k I p j q=>by
     by_cases w:k=d
     .subst w;have:j=i:=by
       have A:=vQ T.ris;rw[<- dm] at g q;exact(QY (gS0 q).1 A).mp (q.trans g.symm)
      subst this;rw[l];simpa using y
     .exact u k (by lia) p j q
    rcases B (d + 1) (by lia) (by exact WF 0x550a21447deb83fdbb03125 v V1 (V3 (WF 183146141726 (oq (WF 6550533726 F) z)))) with ⟨n,j,I,p,H,G,o,m⟩ | ⟨o,m⟩
    .exact .inl ⟨n,j,by exact fq (by assumption),p,H,G,o,r m⟩
    .exact .inr ⟨o,r m⟩
theorem met{t:mH}(T:TbU t hs){h:Int}{e:Nat}(a:(pth t.mask h e).j∉t.place.toList)(d:hs[i]?=some h):∃ k,k < e/\t.place[i]?=some (pth t.mask h k).j:=by
 obtain⟨n,j,b,c,f⟩:=T.emb i h d;refine⟨n,?_,by rw[c];exact b⟩;rcases Py n e with z | z | z
 .exact z
 .subst z;rw[c] at a;rw[<- dm] at b;exact absurd (eW b) a
 .exact absurd (f e z) a
theorem TbU.put{t:mH}(T:TbU t hs){h:Int}{e:Nat}(w:(pth t.mask h e).j∉t.place.toList)(v:∀ n,n < e->(pth t.mask h n).j∈t.place.toList)(u:hs.length + 1<=t.mask) :
  TbU (t.put (pth t.mask h e).j).1 (hs.take (hP t.place (pth t.mask h e).j)++h::hs.drop (hP t.place (pth t.mask h e).j)):=by
 have m:=r_ T.ris w;obtain⟨l,b2,E⟩:=fm T.ris (pth t.mask h e).j;have x:(if Pz t.dummies (pth t.mask h e).j=true then SetTable.eraseAt t.dummies (hP t.dummies (pth t.mask h e).j) else t.dummies)=#[]:=by
  rw[T.dum];simp -iota [Pz]
 generalize s:hP t.place (pth t.mask h e).j=p at *;have o:(t.put (pth t.mask h e).j).1={ t with place:=jf t.place p (pth t.mask h e).j,dummies:=#[] }:=by
  delta SetTable.put;dsimp only;rw[s,x]
 rw[o];have tl:(jf t.place p (pth t.mask h e).j).toList=t.place.toList.take p++(pth t.mask h e).j::t.place.toList.drop p:=yc ..;have b:∀ j,j∈(jf t.place p (pth t.mask h e).j).toList↔j=(pth t.mask h e).j\/j∈t.place.toList:=λj=>by
  rw[tl,eE,cS];have:j∈t.place.toList↔j∈t.place.toList.take p\/j∈t.place.toList.drop p:=by
   rw[<- eE,lH]
  rw[this];constructor <;> (intro q;rcases q with q | q | q <;> simp -iota [q])
 have r:p<=hs.length:=by rw[<- T.len];exact l
 have A:∀ (i:Nat),(jf t.place p (pth t.mask h e).j)[i]?=if i < p then t.place[i]? else if i=p then some (pth t.mask h e).j else t.place[i - 1]?:=λi=>by
  rw[<- dm,tl];have lt:(t.place.toList.take p).length=p:=by rw[dU,dy];lia
  by_cases z:i < p
  .rw[if_pos z,eQ (by exact WF 0x8d14500f15cb lt z),Ht,if_pos z,dm]
  .rw[if_neg z,hC (by exact WF 0x82cc20d0800b lt z),lt];by_cases y:i=p
   .rw[if_pos y,y,vk];rfl
   .rw[if_neg y,show i - p=(i - p - 1) + 1 by lia,nT,rp,<- dm]
    congr 1;lia
 have gh:∀ (i:Nat),(hs.take p++h::hs.drop p)[i]?=if i < p then hs[i]? else if i=p then some h else hs[i - 1]?:=λi=>by
  have lt:(hs.take p).length=p:=by rw[dU];lia
  by_cases z:i < p
  .rw[if_pos z,eQ (by exact WF 0x8d14500f15cb lt z),Ht,if_pos z]
  .rw[if_neg z,hC (by exact WF 0x82cc20d0800b lt z),lt];by_cases y:i=p
   .rw[if_pos y,y,vk];rfl
   .rw[if_neg y,show i - p=(i - p - 1) + 1 by lia,nT,rp]
    congr 1;lia
 have g:(hs.take p++h::hs.drop p).length=hs.length + 1:=by simp;lia
 refine⟨rfl,m,?_,T.msk,by rw[g];exact u,λi d q=>?_⟩
 .rw[g,<- T.len,<- dy,tl];simp;rw[<- dy] at l;lia
 .show ∃ n j,(jf t.place p (pth t.mask h e).j)[i]?=some j/\_;rw[gh] at q;rw[A];have a:∀ c,hs[c]?=some d->∃ n j,t.place[c]?=some j/\(pth t.mask d n).j=j/\∀ k,k < n->(pth t.mask d k).j∈(jf t.place p (pth t.mask h e).j).toList:=λc q=>by
   obtain⟨n,j,D,C,B⟩:=T.emb c d q;exact⟨n,j,D,C,λk f=>(b _).mpr (.inr (B k f))⟩
  split at q
  .rename_i z;rw[if_pos z];exact a _ q
  .rename_i z;rw[if_neg z];split at q
   .rename_i y;rw[if_pos y];cases q;exact⟨e,_,rfl,rfl,λk f=>(b _).mpr (.inr (v k f))⟩
   .rename_i y;rw[if_neg y];exact a _ q
abbrev Ocp (o:Array (Option Nat))(j:Nat):Prop:=(o.getD j (some 0)).isNone=false
structure LC (m:Nat) (hs:Li0) (o:Array (Option Nat)) (k:Nat):Prop where
 sz:o.size=m + 1
 own:∀ (j i:Nat),o[j]?=some (some i)->i < k/\∃ hh n,hs[i]?=some hh/\(pth m hh n).j=j/\∀ q,q < n->Ocp o (pth m hh q).j
 all:∀ i,i < k->∃ j:Nat,o[j]?=some (some i)
 inj:∀ (j j' i:Nat),o[j]?=some (some i)->o[j']?=some (some i)->j=j'
section
variable {o:Array (Option Nat)}
theorem LC.free(c:LC m hs o k)(s:k<=m):∃ j,j<=m/\o[j]?=some none:=by
 refine uS λz=>?_;have get:∀ j,j<=m->∃ i,o[j]?=some (some i):=λj d=>by
  have e:o[j]?=some (o[j]'(by rw[c.sz];lia)):=eR _;cases w:o[j]'(by rw[c.sz];lia) with
  | none=>exact absurd ⟨j,d,by rw[e,w]⟩ z
  | some i=>exact⟨i,by rw[e,w]⟩
 let g:Nat->Nat:=λj=>((o[j]?).bind id).getD 0
 have f:∀ j,j<=m->o[j]?=some (some (g j)):=λj d=>by
  obtain⟨i,e⟩:=get j d;show _=some (some (((o[j]?).bind id).getD 0));rw[e];rfl
 have:=Ic k ((cj (m + 1)).map g) (by
  show SJ _ _;rw[mD];refine yd ?_ qp;intro a b q n p e;rw[iU] at q n;have h:=f a (by lia);have r:=f b (by lia);rw[e] at h;have:=c.inj _ _ _ h r;lia) λx l=>by
   obtain⟨j,d,rfl⟩:=jc.mp l;rw[iU] at d;exact(c.own j _ (f j (by lia))).1
 simp -iota at this;lia
theorem LC.step(c:LC m hs o k)(A:Msk m)(B:k<=m){r:Int}(e:hs[k]?=some r):∃ j,GR m o (qt m) (oT r % (m + 1)) (oT r)=some j/\LC m hs (o.setIfInBounds j (some k)) (k + 1):=by
 obtain⟨P,H,O⟩:=c.free B;obtain⟨L,C,N⟩:=A.cyc.leap (h:=r) H;obtain⟨j,n,M,_,K,R,v,J⟩:=uO (m:=m) (h:=r) (owner:=o) (occ:=Ocp o) (λ_ q=>q) (qt m) 0 0 rfl ⟨L,eg _,by delta qt;exact WF 0xf1d032596e9cab8bd5e C,by rw[N,gp,O];rfl⟩;refine⟨j,M,?_⟩;have x:j < o.size:=by rw[c.sz];lia
 have d:(o.setIfInBounds j (some k))[j]?=some (some k):=by rw[Array.getElem?_setIfInBounds_self_of_lt x]
 have f:∀ b,b≠j->(o.setIfInBounds j (some k))[b]?=o[b]?:=λb g=>Array.getElem?_setIfInBounds_ne (lj g);have t:o[j]?=some none:=by
  have q:o[j]?=some o[j]:=eR x;rw[gp,q,tE] at v;rw[q];cases w:o[j] with
  | none=>rfl
  | some i=>rw[w] at v;cases v
 have l:∀ b,Ocp o b->Ocp (o.setIfInBounds j (some k)) b:=λb g=>by
  delta Ocp at g ⊢;by_cases z:b=j
  .subst z;rw[gp,d];rfl
  .rw[gp,f b z,<- gp];exact g
 refine⟨by rw[Rb];exact c.sz,λb i q=>?_,λi Q=>?_,λa b i s p=>?_⟩
 .by_cases z:b=j
  .subst z;rw[d] at q;cases q;exact⟨ox _,r,n,e,K,λq u=>l _ (J q (eg _) u)⟩
  .rw[f b z] at q;obtain⟨G,I,y,F,E,D⟩:=c.own b i q;exact⟨sr G,I,y,F,E,λq u=>l _ (D q u)⟩
 .by_cases z:i=k
  .subst z;exact⟨j,d⟩
  .obtain⟨b,g⟩:=c.all i (by lia);exact⟨b,by rw[f b (λz=>by rw[z,t] at g;cases g)];exact g⟩
 .by_cases z1:a=j
  .by_cases z2:b=j
   .lia
   .subst z1;rw[d] at s;cases s;rw[f b z2] at p;have:=(c.own b _ p).1;lia
  .rw[f a z1] at s;by_cases z2:b=j
   .subst z2;rw[d] at p;cases p;have:=(c.own a _ s).1;lia
   .rw[f b z2] at p;exact c.inj a b i s p
theorem Ed (b:Msk m):∀ (r:Li0) (k:Nat) (o:Array (Option Nat)),LC m hs o k->hs.drop k=r->hs.length<=m->∃ o',(r.foldl (init:=some (o,k)) λacc h=>(do
  let (owner,k) <- acc
  let j <- GR m owner (qt m) (oT h % (m + 1)) (oT h)
  pure (owner.setIfInBounds j (some k),k + 1)))=some (o',hs.length)/\LC m hs o' hs.length
 | [],k,o,c,e,d=>by
  have i:hs.length<=k:=by have:=congrArg QS e;simp -iota at this;exact WF 0x2bce9ca8f2528c1b this V1
  have:k=hs.length:=by
   rcases Pe i with z | z
   .obtain⟨j,p⟩:=c.all hs.length z;obtain⟨_,t,n,a,_⟩:=c.own j _ p;have:=(gS0 a).1;lia
   .exact z.symm
  subst this;exact⟨o,rfl,c⟩
 | h::r,k,o,c,e,d=>by
  have g:hs[k]?=some h:=by
   have:=congrArg (λl=>l[0]?) e;simpa using this
  have kl:=(gS0 g).1;obtain⟨j,f,s⟩:=c.step b (by lia) g;obtain⟨o',q,a⟩:=Ed b r (k + 1) _ s (by rw[<- List.drop_drop,e];rfl) d;refine⟨o',?_,a⟩;rw[Uo];simp only[Option.bind_eq_bind,MJ,f];exact q
theorem Dq {h:Int}:∀ n,∃ i p k,i<=m/\k<=iL m i - i/\pth m h n=⟨i + k,iL m i - i - k,i,p,none⟩
 | 0=>⟨_,_,0,vx (QC _ (nz m)),eg _,rfl⟩
 | n + 1=>by
  obtain⟨i,p,k,c,b,a⟩:=Dq (h:=h) n;show ∃ i p k,_/\_/\adv m (pth m h n)=_;rw[a];delta adv;by_cases z:iL m i - i - k > 0
  .rw[if_pos z];exact⟨i,p,k + 1,c,by exact WF 0x4c8cd80d21790b6bb z (V3 (WF 6550533726 b)),by simp -iota only[Rw,true_and,and_true];lia⟩
  .rw[if_neg z];exact⟨_,_,0,vx (QC _ (nz m)),eg _,rfl⟩
theorem Jw{h:Int}(n:Nat):(pth m h n).j<=m:=by
 obtain⟨i,p,k,c,b,a⟩:=Dq (m:=m) (h:=h) n;rw[a];have:=C5 c;have:=C6 m i;show i + k<=m;exact WF 0x19b4e7d5a7bea0cb70ce5 b (by assumption) (V3 (WF 6550533726 this))
theorem s_ {a c:Type}{f:a->Option c}:∀ {l:List a},(∀ x∈l,∃ y,f x=some y)->∀ i:Nat,(l.filterMap f)[i]?=(l[i]?).bind f
 | [],_,i=>by simp
 | x::r,h,i=>by
  obtain⟨y,b⟩:=h x (.head _);rw[lI,b];cases i with
  | zero=>simp [b]
  | succ i=>simpa using s_ (λz d=>h z (.tail _ d)) i
theorem hZ {a b:Type}{f:a->Option b}:∀ {l:List a},(∀ x∈l,∃ y,f x=some y)->(l.filterMap f).length=l.length
 | [],_=>rfl
 | x::r,h=>by
  obtain⟨y,d⟩:=h x (.head _);rw[lI,d,eK,eK,hZ λz c=>h z (.tail _ c)]
theorem GV(F:Msk m)(G:hs.length<=m)(z h:Nat)(led plain:Bool):∃ t s,Ra m z h led plain hs.toArray=some (t,s)/\t.mask=m/\t.led=led/\t.plain=plain/\t.moves=h/\s.toList.Perm (cj hs.length)/\TbU t (s.toList.filterMap (hs[·]?)):=by
 obtain⟨o,r,c⟩:=Ed (hs:=hs) F hs 0 (Array.replicate (m + 1) none) ⟨Array.size_replicate,λj i q=>(by rw[Rf] at q;split at q <;> cases q),λi H=>(by lia),λj U i q=>(by rw[Rf] at q;split at q <;> cases q)⟩ rfl G;have Q:QW m hs.toArray=some o:=by
  delta QW;rw[List.foldl_toArray];exact congrArg (SY (·.1)) r
 generalize v:((cj (m + 1)).filterMap λj=>(o.getD j none).map (j,·))=L;have gd:∀ j i,(o.getD j none).map (j,·)=some i↔o[j]?=some (some i.2)/\i.1=j:=λj i=>by
  rw[gp];obtain⟨a,b⟩:=i;cases w:o[j]? with
  | none=>simp
  | some x=>
   cases x with
   | none=>simp
   | some x=>simp;constructor <;> (rintro⟨rfl,rfl⟩;simp)
 have d:∀ x,x∈L↔o[x.1]?=some (some x.2):=λx=>by
  rw[<- v,tR];constructor
  .rintro⟨j,_,q⟩;obtain⟨a,b⟩:=(gd j x).mp q;rw[b];exact a
  .intro q;have:=(ml.mp q).1;rw[c.sz] at this;exact⟨x.1,iU.mpr this,(gd _ _).mpr ⟨q,rfl⟩⟩
 have B:L.Pairwise λa b=>a.1 < b.1:=by
  rw[<- v,Rp];refine Tp ?_ qp;intro a b g x f y l;rw[((gd _ _).mp f).2,((gd _ _).mp l).2];exact g
 have P:Ra m z h led plain hs.toArray=some ({ mask:=m,place:=(L.map (·.1)).toArray,dummies:=#[],finger:=z,led,moves:=h,plain },(L.map (·.2)).toArray):=by
  delta Ra;rw[Q,<- v];rfl
 have lt:∀ i,i∈L.map (·.2)↔i < hs.length:=λi=>by
  rw[jc];constructor
  .rintro⟨x,f,rfl⟩;exact(c.own _ _ ((d x).mp f)).1
  .intro H;obtain⟨j,K⟩:=c.all i H;exact⟨(j,i),(d _).mpr K,rfl⟩
 have C:(L.map (·.2)).Nodup:=by
  show SJ _ _;rw[mD];refine yd ?_ B;intro a b N M g e;have r:=(d a).mp N;have O:=(d b).mp M;rw[e] at r;have:=c.inj _ _ _ r O;lia
 have get:∀ x∈L.map (·.2),∃ y,hs[x]?=some y:=λx f=>⟨_,gE0 ((lt x).mp f)⟩;refine⟨_,_,P,rfl,rfl,rfl,rfl,?_,⟨rfl,?_,?_,F,?_,λi hh q=>?_⟩⟩
 .show (L.map (·.2)).Perm _;exact(QH C T3).mpr λa=>by rw[lt,iU]
 .show (L.map (·.1)).Pairwise _;rw[mD];exact B
 .have u:((L.map (·.2)).filterMap (hs[·]?)).length=(L.map (·.2)).length:=hZ get;show (L.map (·.1)).toArray.size=((L.map (·.2)).filterMap (hs[·]?)).length;rw[u];simp
 .have p:=(QH C (T3 (n:=hs.length))).mpr λa=>by rw[lt,iU]
  have u:((L.map (·.2)).filterMap (hs[·]?)).length<=(L.map (·.2)).length:=List.length_filterMap_le _ _;have:=p.length_eq;rw[oD] at this;show ((L.map (·.2)).filterMap (hs[·]?)).length<=m;exact WF 0x2c09a43b2f00ccb8 G u this
 .have A:((L.map (·.2)).filterMap (hs[·]?))[i]?=some hh:=q;rw[s_ get] at A;obtain⟨x,f,E⟩:=Ry.mp A;rw[ba] at f;obtain⟨y,l,rfl⟩:=oA.mp f;obtain⟨_,V,n,T,S,R⟩:=c.own _ _ ((d y).mp (eW l));rw[T] at E;cases E;refine⟨n,y.1,by show (L.map (·.1)).toArray[i]?=_;rw[List.getElem?_toArray,ba,l];rfl,S,λk J=>?_⟩;have ok:=R k J;have D:(pth m hh k).j < o.size:=by rw[c.sz];exact TH (Jw k)
  unfold Ocp at ok;rw[gp,eR D,tE] at ok;cases w:o[(pth m hh k).j] with
  | none=>rw[w] at ok;cases ok
  | some I=>exact jc.mpr ⟨((pth m hh k).j,I),(d _).mpr (by rw[eR D,w]),rfl⟩
end
section
variable {s:Shared}{a x:Addr}
noncomputable abbrev TK (prog:nI)(w:World):Heap->Li0->Addr->Prop:=IsTupleKey (Fk prog w)
noncomputable def tkh (prog:nI)(w:World)(a:Li0):Int:=tupleKeyHash (Fk prog w) a
def ElT (prog:nI)(w:World)(h:Heap)(b:List (Int×Value))(a:LL0):Prop:=
 b.length=a.length/\∀ (i:Nat) (ks:Li0),a[i]?=some ks->∃ q,b[i]?=some (tkh prog w ks,.ref q)/\TK prog w h ks q
theorem ElT.hash{a:List (Int×Value)}(T:ElT prog w h a kss):a.map (·.1)=kss.map (tkh prog w):=by
 refine ng λi=>?_;rw[ba,ba];cases e:kss[i]? with
 | none=>
  have:=qB.mp e;rw[iT (by rw[T.1];exact this)];rfl
 | some b=>
  obtain⟨q,c,_⟩:=T.2 i b e;rw[c];rfl
theorem vm{Q:Bool->Shared->Prop}(g:TK prog w s.heap ks x)(h:Q false s):wpAny (model prog w) A (QZ 8 (.ref x)) Q E s:=by
 have l:=g.typeIs;obtain⟨o,c,n,i,_,k,j⟩:=g;unfold QZ;refine aI (Pr l ?_);dsimp only;refine aI (aP ?_);simp -iota only[oM,fi,if_false];refine aI (KN i k ?_);dsimp only;refine aI ?_;rw[<- S4];refine Rz _ (λrest r b=>r.1=none/\b=s/\∀ v∈rest,carriedByValue v=true) _ ?_ ?_ _ _ ⟨rfl,rfl,j.byValue⟩
 .rintro v rest r b ⟨f,rfl,a⟩;have e:QZ 7 v=pure false:=by
   have:=a v hG;cases v <;> first | rfl | (simp -iota [carriedByValue] at this)
  rw[e];refine aI (aP ?_);simp -iota only[fi,if_false];exact aP ⟨rfl,rfl,λu d=>a u (eh _ d)⟩
 .rintro⟨p,m⟩ b ⟨f,rfl,_⟩;simp only at f;subst f;exact aP h
theorem Cn{Q:Bool->Shared->Prop}(j:TK prog w s.heap ks x)(h:Q true s):wpAny (model prog w) A (Q0 8 (.ref x)) Q E s:=by
 have q:=j.typeIs;obtain⟨o,e,n,m,_,p,i⟩:=j;unfold Q0;refine aI (OE q F.slot_tuple_hash.lookup ?_);dsimp only;refine aI (KN m p ?_);dsimp only[tE];refine aI ?_;rw[<- S4];have d:∀ {k:Li0} {b:Lv0},ItemsAre (Fk prog w) k b->∀ v∈b,Q0 7 v=pure true:=by
  intro k b i
  induction i with
  | nil=>intro v hv;cases hv
  | @cons k z ks b y _ l=>
   intro v hv;rcases cS.mp hv with rfl | hv
   .obtain⟨t,rfl⟩:=S6 (k:=k) (v:=v) y
    rfl
   .exact l v hv
 refine Rz _ (λrest r c=>r.1=none/\c=s/\∀ v∈rest,Q0 7 v=pure true) _ ?_ ?_ _ _ ⟨rfl,rfl,d i⟩
 .rintro v rest r c ⟨g,rfl,a⟩;rw[a v hG];refine aI (aP ?_);simp -iota only[oM,fi,if_false];exact aP ⟨rfl,rfl,λu f=>a u (eh _ f)⟩
 .rintro⟨C,B⟩ c ⟨g,rfl,_⟩;simp only at g;subst g;exact aP h
theorem FD{ys:Lv0}{Q:Bool->Shared->Prop}(f:TK prog w s.heap ks x)(i:∀ y∈ys,∃ q k,y=.ref q/\TK prog w s.heap k q)(h:Q false s):wpAny (model prog w) A (Q5 (.ref x) ys) Q E s:=by
 delta Q5;refine aI ?_;refine Rz _ (λrest r b=>r.1=none/\b=s/\∀ y∈rest,∃ q k,y=.ref q/\TK prog w s.heap k q) _ ?_ ?_ _ _ ⟨rfl,rfl,i⟩
 .rintro v rest r b ⟨d,rfl,a⟩;obtain⟨q,k,rfl,e⟩:=a v hG;have g:∀ y∈rest,∃ q k,y=.ref q/\TK prog w b.heap k q:=λu c=>a u (eh _ c);dsimp only;split
  .exact aP ⟨rfl,rfl,g⟩
  .refine aI (R8 f ?_);simp -iota only[oM,fi,if_false];refine aI (R8 e ?_);simp -iota only[oM,fi,if_false];refine aI (vm f ?_);simp -iota only[fi,if_false];refine aI (vm e ?_);simp -iota only[fi,if_false];exact aP ⟨rfl,rfl,g⟩
 .rintro⟨l,j⟩ b ⟨d,rfl,_⟩;simp only at d;subst d;exact aP h
theorem Bw{u:Array (Int×Value)}{t:mH}{e:Nat}{Q:SetFound->Shared->Prop}(hu:A.units < cLine)(M:s.heap.get? a=some (aV u ep t))(D:ElT prog w s.heap u.toList kss)(T:TbU t (kss.map (tkh prog w)))(L:TK prog w s.heap ks x)(O:(pth t.mask (tkh prog w ks) e).j∉t.place.toList)(N:∀ n,n < e->(pth t.mask (tkh prog w ks) n).j∈t.place.toList)(hz:e < 10 * qt t.mask)(q1:ks∈kss->Q (.there none) s)(Z:ks∉kss->Q (.free (pth t.mask (tkh prog w ks) e).j false) s) :
  ∀ (b c:Nat) (st:Option Qy),st.getD (t.probeStart (tkh prog w ks))=pth t.mask (tkh prog w ks) c->c<=e->e - c < b->(∀ k,k < c->∀ i:Nat,t.place[i]?=some (pth t.mask (tkh prog w ks) k).j->kss[i]?≠some ks)->
   wpAny (model prog w) A (setSearchFrom a (.ref x) (tkh prog w ks) true b st) Q E s:=by
 have r:t.fits u.size=true:=T.fits (by rw[lM0,<- D.1,dy]);intro b
 induction b with
 | zero=>intro c st _ _ h;lia
 | succ b ih=>
  intro c st H hn hf K;unfold setSearchFrom;refine aI (mE M rfl r ?_);dsimp only;rw[show t.gaveWay=false from T.msk.odd];simp -iota only[fi,if_false];rw[H];have hh:∀ (i:Nat) (hv:Int),(kss.map (tkh prog w))[i]?=some hv->(u[i]?.map (·.1)).getD 0=hv:=λi hv q=>by
   rw[<- D.hash,ba,dm] at q;rw[q];rfl
  rcases Dv T hh O N (10 * qt t.mask) c hn (by exact WF 0x5100c5eb902cc1b0b hz V2) with ⟨n,i,a1,W,V,U,C,J⟩ | ⟨C,J⟩
  .split
   rotate_left
   .rename_i F;exact absurd C (F _)
   rename_i mt g;cases (show some _=some mt from C.symm.trans g);dsimp only;rw[ba] at U;obtain⟨k,m,a7⟩:=oA.mp U;obtain⟨q,v,hq⟩:=D.2 i k m;rw[dm] at v;have d:∀ (B:Sem SetFound),wpAny (model prog w) A B Q E s->wpAny (model prog w) A (if (!t.led)=true then (do
     if <- Q5 (.ref x) ((u.filter (·.1 == tkh prog w ks)).toList.map (·.2)) then do
      unsupported "set:the-search-would-show-the-table"
      B
     else B) else B) Q E s:=λB p=>by
    split
    .refine aI (FD L (λy hy=>?_) ?_)
     .obtain⟨z,hz,rfl⟩:=jc.mp hy;rw[Array.toList_filter] at hz;obtain⟨i',o,ez⟩:=qv (qA.mp hz).1;have:i' < kss.length:=by rw[<- D.1];exact o
      obtain⟨f,S,I⟩:=D.2 i' _ (gE0 this);rw[gE0 o,ez] at S;cases S;exact⟨f,_,rfl,I⟩
     .simp -iota only[fi,if_false];exact p
    .exact p
   refine d _ ?_;rw[v];dsimp only;refine aI (jz (wpAny_eqBool_tuple hu hq L ?_));refine aI (mE M rfl r ?_);dsimp only;by_cases z:k=ks
   .rw[decide_eq_true z];simp -iota only[Bool.and_self,if_true];exact aP (q1 (z ▸ eW m))
   .rw[decide_eq_false z];simp -iota only[Sh,fi,if_false];rw[show t.sameMemory t.moves t.mask=some true by delta SetTable.sameMemory;rw[if_pos (beq_self_eq_true _)]];dsimp only;obtain⟨i',Y,j⟩:=uo T.ris (N n W);have:i'=i:=by
     have G:=vQ T.ris;rw[<- dm] at j V;exact(QY (gS0 j).1 G).mp (j.trans V.symm)
    subst this;simp -iota only[if_true];rw[Y];dsimp only;rw[v];dsimp only;refine aI (wpAny_isSame_ref_self ?_);simp -iota only[if_true];refine aI (aP ?_);dsimp only;refine ih (n + 1) (some _) rfl (by assumption) (by exact WF 0x1c8ddc1a1872a4a9bac7c827052 hf a1 V1 (V3 (WF 183146141726 W))) λl a0 i2 f=>?_;by_cases y:l < c
    .exact K l y i2 f
    .by_cases X:l < n
     .intro w;exact J l (by exact WF 6567239198 y) X i2 f (by rw[ba,w];rfl)
     .have:l=n:=by lia
      subst this;have:i2=i':=by
       have G:=vQ T.ris;rw[<- dm] at j f;exact(QY (gS0 f).1 G).mp (f.trans j.symm)
      subst this;rw[m];simpa using z
  .split
   rotate_left
   .rename_i F;exact absurd C (F _)
   rename_i mt g;cases (show some _=some mt from C.symm.trans g);dsimp only;refine aP (Z λhm=>?_);obtain⟨i,hi,v⟩:=qv hm;have R:kss[i]?=some ks:=by rw[gE0 hi,v]
   have P:(kss.map (tkh prog w))[i]?=some (tkh prog w ks):=by rw[ba,R];rfl
   obtain⟨k,m,pk⟩:=met T O P;by_cases y:k < c
   .exact K k y i pk R
   .exact J k (by lia) m i pk P
def Ct (prog:nI)(w:World)(h:Heap)(a:Addr)(c:Array (Int×Value))(b:LL0):Prop:=
 ∃ ep t,h.get? a=some (aV c ep t)/\ElT prog w h c.toList b/\b.Nodup/\TbU t (b.map (tkh prog w))/\t.led=(!eV w)/\b.length * 5 < t.mask * 3
theorem Eo{a:Type}(l:List a):(cj l.length).filterMap (l[·]?)=l:=by
 have g:∀ x∈cj l.length,∃ y,l[x]?=some y:=λx b=>⟨_,gE0 (iU.mp b)⟩;refine ng λi=>?_;rw[s_ g];by_cases h:i < l.length
 .rw[mK h];rfl
 .rw[iT (by simp;exact WF 6567239198 h),iT (by lia)];rfl
theorem G9{b:Type}{l:List b}{a:List Nat}(p:a.Perm (cj l.length)):(a.filterMap (l[·]?)).Perm l:=by
 have:=p.filterMap (l[·]?);rw[Eo] at this;exact this
theorem ElT.order{c:Array (Int×Value)}(T:ElT prog w h c.toList kss){a:Array Nat}(p:a.toList.Perm (cj kss.length)):ElT prog w h (a.filterMap (c[·]?)).toList (a.toList.filterMap (kss[·]?))/\(a.filterMap (c[·]?)).size=c.size:=by
 have lt:∀ x∈a.toList,x < kss.length:=λx d=>iU.mp (p.mem_iff.mp d);have k:∀ x∈a.toList,∃ y,kss[x]?=some y:=λx d=>⟨_,gE0 (lt x d)⟩;have f:∀ x∈a.toList,∃ y,c[x]?=some y:=λx d=>⟨_,eR (by have:=lt x d;rw[<- T.1,dy] at this;exact this)⟩;have e:(a.filterMap (c[·]?)).toList=a.toList.filterMap (c[·]?):=RM;refine⟨⟨by rw[e,hZ f,hZ k],λi l q=>?_⟩,?_⟩
 .rw[s_ k] at q;obtain⟨j,n,m⟩:=Ry.mp q;obtain⟨b,g,o⟩:=T.2 j l m;rw[dm] at g;exact⟨b,by rw[e,s_ f,n];exact g,o⟩
 .rw[<- dy,e,hZ f,p.length_eq,oD,<- T.1,dy]
theorem BQ(b:Msk m)(e:n * 5 < m * 3)(d:(n + 1) * 5≥m * 3)(c:n<=1000):∃ a,Qz (qq (n + 1)) - 1=a/\Qz (qq (n + 1))<=2048/\Msk a/\(n + 1) * 5 < a * 3:=by
 rcases b with rfl | rfl | rfl | rfl | rfl
 .obtain rfl:n=4:=by lia
  exact⟨31,by decide +kernel,by decide +kernel,.inr (.inl rfl),by decide⟩
 .obtain rfl:n=18:=by lia
  exact⟨127,by decide +kernel,by decide +kernel,.inr (.inr (.inl rfl)),by decide⟩
 .obtain rfl:n=76:=by lia
  exact⟨511,by decide +kernel,by decide +kernel,.inr (.inr (.inr (.inl rfl))),by decide⟩
 .obtain rfl:n=306:=by lia
  exact⟨2047,by decide +kernel,by decide +kernel,.inr (.inr (.inr (.inr rfl))),by decide⟩
 .lia
theorem De{d:Array (Int×Value)}{t:mH}{Q:Unit->Shared->Prop}(v:s.heap.get? a=some (aV d ep t))(g:ElT prog w s.heap d.toList kss)(T:TbU t (kss.map (tkh prog w)))(h:kss.length=n + 1)(D:n * 5 < t.mask * 3)(C:(n + 1) * 5≥t.mask * 3)(B:n<=1000)(q:∀ c t' b,(∀ e∈c.toList,e∈d.toList)->b.Perm kss->ElT prog w s.heap c.toList b->TbU t' (b.map (tkh prog w))->t'.led=t.led->b.length * 5 < t'.mask * 3->Q () { s with heap:=s.heap.update a (FS c t') }) :
  wpAny (model prog w) A (setRelay a (qq (n + 1))) Q E s:=by
 have l:t.fits d.size=true:=T.fits (by rw[lM0,<- g.1,dy]);obtain⟨r,L,O,j,z⟩:=BQ T.msk D C B;delta setRelay;refine aI (mE v rfl l ?_);dsimp only;rw[if_neg (by rw[ew];lia)];obtain⟨t',f,I,H,G,N,M,k,F⟩:=GV (m:=r) (hs:=kss.map (tkh prog w)) j (by rw[lM0,h];exact WF 0x8184bca484d623e6ae z) t.finger (t.movedTo r) t.led t.plain;rw[lM0] at k;obtain⟨o,p⟩:=g.order k;have K:d.map (·.1)=(kss.map (tkh prog w)).toArray:=by
  rw[<- g.hash,<- T2]
 have J:t.relaid (d.map (·.1)) (qq (n + 1))=some (t',f):=by
  delta Ui;rw[L,K];exact I
 rw[J];have u:(f.toList.filterMap (kss[·]?)).Perm kss:=G9 k;refine aI (qz (a:=(f.filterMap (d[·]?),t')) ?_ ?_)
 .refine(if_neg ?_).trans ?_
  .rw[p];simp
  .rfl
 dsimp only;refine PC v rfl (q _ t' _ (λe y=>by rw[RM] at y;obtain⟨i,_,x⟩:=tR.mp y;rw[<- dm] at x;exact eW x) u o ?_ G (by rw[u.length_eq,h,H];exact z)) (by rw[p];have:=g.1;rw[h,dy] at this;rw[ew];lia);have:(f.toList.filterMap (kss[·]?)).map (tkh prog w)=f.toList.filterMap ((kss.map (tkh prog w))[·]?):=by
  rw[S5]
  congr 1
  funext i
  rw[ba]
 rw[this];exact F
theorem TK.same(T:TK prog w h ks q)(b:∃ es ep t,h.get? a=some (aV es ep t))(e:ov a h h'):TK prog w h' ks q:=by
 obtain⟨o,f,n,c,d,g⟩:=T;obtain⟨es,ep,t,b⟩:=b;exact⟨o,f,n,e.extBut _ _ (λz=>by subst z;rw[b] at c;cases c;simp -iota at d) c,d,g⟩
theorem ElT.same{b:List (Int×Value)}(T:ElT prog w h b kss)(f:∃ b ep t,h.get? a=some (aV b ep t))(c:ov a h h'):ElT prog w h' b kss:=
 ⟨T.1,λi d e=>by
  obtain⟨q,j,g⟩:=T.2 i d e;exact⟨q,j,TK.same g f c⟩⟩
theorem ElT.insert{a:Array (Int×Value)}(T:ElT prog w h a.toList kss)(e:TK prog w h ks x){p:Nat}(j:p<=kss.length) :
  ElT prog w h (jf a p (tkh prog w ks,.ref x)).toList (kss.take p++ks::kss.drop p):=by
 rw[yc];have l:a.size=kss.length:=by rw[<- T.1,dy]
 refine⟨by simp;lia,λi k q=>?_⟩;have d:(kss.take p).length=p:=by rw[dU];lia
 have c:(a.toList.take p).length=p:=by rw[dU,dy];lia
 by_cases z:i < p
 .rw[eQ (by exact WF 0x8d14500f15cb d z),Ht,if_pos z] at q;obtain⟨b,g,f⟩:=T.2 i k q;exact⟨b,by rw[eQ (by exact WF 0x8d14500f15cb c z),Ht,if_pos z];exact g,f⟩
 .rw[hC (by exact WF 0x82cc20d0800b d z),d] at q;rw[hC (by exact WF 0x82cc20d0800b c z),c];by_cases y:i=p
  .subst y;rw[vk] at q ⊢;cases q;exact⟨x,rfl,e⟩
  .rw[show i - p=(i - p - 1) + 1 by lia,nT,rp] at q ⊢;exact T.2 _ k q
theorem HA{f:Array (Int×Value)}{Q:Bool->Shared->Prop}(hu:A.units < cLine)(S:Ct prog w s.heap a f kss)(N:TK prog w s.heap ks x)(hr:kss.length<=1000)(h:∀ b h' i c t',ov a s.heap h'->Ct prog w h' a i c->(∀ e∈i.toList,e∈f.toList\/e=(tkh prog w ks,.ref x))->(∀ m,m∈c↔m∈kss\/m=ks)->c.length<=kss.length + 1->Q b { s with heap:=h',toks:=t' }) :
  wpAny (model prog w) A (setAdd a (.ref x)) Q E s:=by
 obtain⟨ep,t,r,R,nd,T,y,I⟩:=id S;delta setAdd;refine jz (aI (wpAny_pyHash_tuple hu N ?_));unfold setAddHashed setAddHashedIn;have H:t.fits f.size=true:=T.fits (by rw[lM0,<- R.1,dy]);refine jz (aI (mE (s:={ s with toks:=s.toks + (ks.length + 1) }) r rfl H ?_));dsimp only;rw[show byScan (.ref x) f=false from rfl];simp -iota only[fi,if_false];have tz:t.place.size<=t.mask:=by rw[T.len];exact T.few
 obtain⟨j0,Z,V⟩:=Bq (vQ T.ris) (by rw[dy];exact tz);obtain⟨e,G,F,D⟩:=T.msk.cyc.first (h:=tkh prog w ks) (occ:=(·∈t.place.toList)) Z V
 have X:=T.msk.le;delta setSearch;refine aI (Bw (s:={ s with toks:=s.toks + (ks.length + 1) }) hu r R T N F D G (λY=>?_) (λY=>?_) 100000 0 none rfl (eg _) (by delta qt at G;lia) λk hk=>by lia)
 .dsimp only;exact aP (h false s.heap f kss _ (Tr a s.heap) S (λ_ z=>.inl z) (λm=>⟨.inl,λq=>q.elim id λe=>e ▸ Y⟩) (KB _))
 .dsimp only;refine aI (mE (s:={ s with toks:=s.toks + (ks.length + 1) }) r rfl H ?_);dsimp only;have K:=T.put (h:=tkh prog w ks) F D (by rw[lM0];exact WF 0x8595e705b92dfec9a2da49ee I X.1);obtain⟨b1,_,_⟩:=fm T.ris (pth t.mask (tkh prog w ks) e).j;have e2:(t.put (pth t.mask (tkh prog w ks) e).j).2=hP t.place (pth t.mask (tkh prog w ks) e).j:=rfl;have J:(t.put (pth t.mask (tkh prog w ks) e).j).1.mask=t.mask:=rfl;have e4:(t.put (pth t.mask (tkh prog w ks) e).j).1.led=t.led:=rfl;rw[e2];generalize hp:hP t.place (pth t.mask (tkh prog w ks) e).j=p at *;generalize ht:(t.put (pth t.mask (tkh prog w ks) e).j).1=j at *;have pl:p<=kss.length:=by have:=T.len;rw[lM0] at this;lia
  have M:=R.insert N pl;have ek:(kss.map (tkh prog w)).take p++tkh prog w ks::(kss.map (tkh prog w)).drop p=(kss.take p++ks::kss.drop p).map (tkh prog w):=by
   rw[dE,fO,ze,HG]
  rw[ek] at K;have U:(kss.take p++ks::kss.drop p).Perm (ks::kss):=by
   have:=PP (a:=ks) (l₁:=kss.take p) (l₂:=kss.drop p);rw[lH] at this;exact this
  have v:(kss.take p++ks::kss.drop p).Nodup:=U.nodup_iff.mpr (hX.mpr ⟨Y,nd⟩);have ln1:(kss.take p++ks::kss.drop p).length=kss.length + 1:=by rw[U.length_eq,eK]
  generalize a5:kss.take p++ks::kss.drop p=n at *;have l:∀ m,m∈n↔m∈kss\/m=ks:=λm=>by rw[U.mem_iff,cS,or_comm]
  have C:∀ e∈(jf f p (tkh prog w ks,ou x)).toList,e∈f.toList\/e=(tkh prog w ks,.ref x):=λe O=>by
   rw[yc,eE,cS] at O;rcases O with z | z | z
   .exact .inl (rD z)
   .exact .inr z
   .exact .inl (Lr z)
  have a2:∀ (B:Bool->Sem Bool),wpAny (model prog w) A (B true) Q E { s with toks:=s.toks + (ks.length + 1) }->wpAny (model prog w) A (if j.plain=true then Q0 8 (.ref x) >>= B else pure true >>= B) Q E { s with toks:=s.toks + (ks.length + 1) }:=λB q=>by
   split
   .exact aI (Cn (s:={ s with toks:=s.toks + (ks.length + 1) }) N q)
   .exact aI (aP q)
  refine a2 _ ?_;simp -iota only[if_true];have fz:(jf f p (tkh prog w ks,.ref x)).size<=sizeLine:=by
   have:=M.1;rw[dy,ln1] at this;rw[ew];lia
  refine aI (PC (s:={ s with toks:=s.toks + (ks.length + 1) }) r rfl ?_ fz);have P:(s.heap.update a (FS (jf f p (tkh prog w ks,.ref x)) j)).get? a=some (aV (jf f p (tkh prog w ks,.ref x)) (ep + 1) j):=vU r;have o:=zl s.heap a (FS (jf f p (tkh prog w ks,.ref x)) j);have L:=M.same ⟨_,_,_,r⟩ o;have a1:f.size=kss.length:=by rw[<- R.1,dy]
  have fl:j.fill=kss.length + 1:=by delta UT;rw[K.dum,K.len,lM0,ln1];rfl
  split
  .rename_i g;have d:(kss.length + 1) * 5≥t.mask * 3:=by
    have:j.tooFull=true:=by simpa using g
    delta T4 at this;rw[fl,J] at this;simpa using this
   rw[a1];refine aI (De (s:={ s with heap:=s.heap.update a (FS (jf f p (tkh prog w ks,.ref x)) j),toks:=s.toks + (ks.length + 1) }) P L K ln1 (by rw[J];exact I) (by rw[J];exact d) hr λi t' c sub W a4 T' l' f'=>aP ?_);have u:=zl (s.heap.update a (FS (jf f p (tkh prog w ks,.ref x)) j)) a (FS i t');exact h true _ i c _ (o.trans u) ⟨_,t',vU P,a4.same ⟨_,_,_,P⟩ u,W.nodup_iff.mpr v,T',by rw[l',e4];exact y,f'⟩ (λe O=>C e (sub e O)) (λm=>by rw[W.mem_iff,l]) (by rw[W.length_eq,ln1];exact bU _)
  .rename_i g;have d:(kss.length + 1) * 5 < t.mask * 3:=by
    have:¬ j.tooFull=true:=by simpa using g
    delta T4 at this;rw[fl,J] at this;simpa using this
   exact aP (h true _ _ n _ o ⟨_,j,P,L,v,K,by rw[e4];exact y,by rw[ln1,J];exact d⟩ C l (by rw[ln1];exact bU _))
end
end _2
namespace _t
open PySem PyProof.Rows PySem.W PySem.SeqAt _2
structure B2 (y z:Int):Prop where
 y0:0<=y
 y1:y < 1048576
 z0:0<=z
 z1:z < 1048576
def Two (rk:Keyed->Int)(h:Heap)(v:Value):Prop:=∃ a y z c b,v=.ref a/\h.IsTuple a #[.int y c,.int z b]/\B2 y z/\rk (v,v)=y * 1048576 + z
section
variable {s:Shared}{rk:Keyed->Int}
theorem Two.keep(k:∀ b o,h.get? b=some o->h'.get? b=some o){v:Value}(t:Two rk h v):Two rk h' v:=
 let ⟨a,y,z,d,c,e,⟨o,g,r⟩,f⟩:=t;⟨a,y,z,d,c,e,⟨o,k _ _ g,r⟩,f⟩
theorem Ki{x y:Value}(h:Two rk s.heap x)(g:Two rk s.heap y){Q:Bool->Shared->Prop}(q:Q (decide (rk (x,x) < rk (y,y))) s):wpAny (model prog w) A (keyLt' (tuples' true) x y) Q E s:=by
 obtain⟨a,c,z1,z,v,rfl,j,⟨N,M,L,K⟩,n⟩:=h;obtain⟨b,d,z2,u,t,rfl,i,⟨J,b2,I,H⟩,m⟩:=g;obtain⟨o,l,G,D,r⟩:=id j;obtain⟨B,k,F,C,p⟩:=id i;rw[n,m] at q;refine kat_lt l r k p (kat_cons (Sg _ _ _ _ prog w _ _ ?_));by_cases f:c=d
 .subst f;rw[beq_self_eq_true];refine kat_yes (kat_cons (Sg _ _ _ _ prog w _ _ ?_));by_cases e:z1=z2
  .subst e;rw[beq_self_eq_true];refine kat_yes (kat_nil ?_);rw[decide_eq_false (Int.lt_irrefl _)] at q;exact q
  .rw[beq_eq_false_iff_ne.mpr e];refine kat_no (kat_one _ _ (PyProof.Rows.lt_int ?_));rw[show decide (c * 1048576 + z1 < c * 1048576 + z2)=decide (z1 < z2) by rw[decide_eq_decide];lia] at q;exact q
 .rw[beq_eq_false_iff_ne.mpr f];refine kat_no (oneLt_int ?_);rw[show decide (c * 1048576 + z1 < d * 1048576 + z2)=decide (c < d) by rw[decide_eq_decide];omega] at q;exact q
theorem zZ:∀ {vs:Lv0},(∀ v∈vs,Two rk s.heap v)->∃ fs,KatTups s.heap vs fs/\fs.length=vs.length/\∀ v∈fs,∃ i t,v=Me i t
 | [],_=>⟨[],.nil,rfl,λv hv=>by cases hv⟩
 | v::vs,h=>by
  obtain⟨fs,j,g,f⟩:=zZ (vs:=vs) λv hv=>h v (.tail _ hv);obtain⟨a,y,z,b,k,rfl,⟨o,e,c,n,d⟩,_⟩:=h _ (.head _);refine⟨.int y b::fs,.cons e c d rfl j,by rw[eK,eK,g],λv hv=>?_⟩;rcases cS.mp hv with rfl | hv
  .exact⟨_,_,rfl⟩
  .exact f v hv
theorem yr(g:∀ v∈vs,Two rk s.heap v)(n:2<=vs.length):NW prog w A s rk vs:=λc k=>by
 have a:∀ v∈vs,Two rk ({ s with heap:=c }:Shared).heap v:=λv m=>(g v m).keep k;refine⟨tuples' true,λk=>∃ v,k=(v,v)/\Two rk ({ s with heap:=c }:Shared).heap v,λE Q q=>?_,⟨?_,?_,?_⟩,λv m=>⟨v,rfl,a v m⟩⟩
 .obtain⟨o,b,d,l⟩:=zZ (s:={ s with heap:=c }) a;refine kat_kind (T:=.type "int") b (by lia) (λv m=>?_) (by decide) ?_
  .obtain⟨i,t,rfl⟩:=l v m;exact .now
  .rw[show (xt "int" != xt "tuple")=true by decide];exact q
 .rintro E st _ _ Q j ⟨v,rfl,e⟩ ⟨u,rfl,f⟩ q;rw[lt'_eq];refine dV (PY ?_);rw[j];exact dV (wpS_lift (SK (Ki e f ⟨rfl,eL q⟩)))
 .intro x y h;have:=of_decide_eq_true h;exact decide_eq_false (by lia)
 .intro x y z b d;have:=of_decide_eq_false b;have:=of_decide_eq_false d;exact decide_eq_false (by lia)
abbrev NO (s:Shared)(rk:Keyed->Int)(vs:Lv0)(P:VS):Prop:=∀ (h':Heap) (d':Drawn) (L:Addr) (c:Nat) (out:Lv0),s.heap.objs.size<=L->(∀ b o,s.heap.get? b=some o->h'.get? b=some o)->h'.get? L=some (seqObj "list" out.toArray c)->out.Perm vs->out.Pairwise (λx y=>rk (x,x)<=rk (y,y))->P (.ref L) { s with heap:=h',drawn:=d' }
theorem yL{Q:VS}(t:s.heap.IsList l vs.toArray)(hz:vs.length<=100000)(p:∀ v∈vs,Two rk s.heap v)(q:NO s rk vs Q):wpAny (model prog w) A (call (.builtin "sorted") [.ref l]) Q E s:=by
 have i:vs.length<=sizeLine:=by rw[ew];lia
 refine NQ Uc Tv Tw (Tx _) ?_;delta zq.«sorted»;refine aI (m:=UG "sorted" 1 1 _) (aP (aI (collect_list t ?_ i)));refine aI (PX ?_ i);generalize h:(s.heap.push (seqObj "list" #[] 0)).update s.heap.objs.size (mO (·++vs.toArray))=c;have d:c.objs.size=s.heap.objs.size + 1:=by rw[<- h,Heap.size_update,size_push']
 show wpAny _ _ _ _ _ { s with heap:=c.push (seqObj "list" vs.toArray 0) };have f:(c.push (seqObj "list" vs.toArray 0)).get? c.objs.size=some (seqObj "list" vs.toArray 0):=ey _ rfl;have n:∀ b o,s.heap.get? b=some o->b≠c.objs.size/\(c.push (seqObj "list" vs.toArray 0)).get? b=some o:=λb o e=>by
  have lt:b < s.heap.objs.size:=er e;refine⟨hY (by rw[d];exact sr lt),bh _ ?_⟩;rw[<- h,SF _ _ _ _ (hY lt)];exact bh _ e
 refine aI (jz (oy Sn ⟨_,f,rfl⟩ RY (uH (s0:=s) (rk:=rk) f n rfl hz (λr=>yr p r) λa k j=>⟨_,rfl,?_⟩) (So _)));refine aP ⟨_,rfl,?_⟩;obtain⟨e,u⟩:=sortedAll_at s.heap vs a.toArray;have g:=q (sortedAll s.heap vs a.toArray) s.drawn (s.heap.objs.size + 1) e a (KB _) (λb o e=>sortedAll_old e) u k j;unfold sortedAll at g;rw[h,<- d] at g;exact g
theorem w_{a:Addr}{g:Array (Int×Value)}{Q:VS}(H:A.handled=none)(S:Ct prog w s.heap a g kss)(hz:kss.length<=1000)(C:∀ v∈g.toList.map (·.2),Two rk s.heap v)(q:NO s rk (g.toList.map (·.2)) Q) :
  wpAny (model prog w) A (call (.builtin "sorted") [.ref a]) Q E s:=by
 obtain⟨N,t,D,L,M,T,k,J⟩:=id S;have n:g.size=kss.length:=by rw[<- L.1,dy]
 refine NQ Uc Tv Tw (Tx _) ?_;delta zq.«sorted»;refine aI (m:=UG "sorted" 1 1 _) (aP ?_);refine aI ?_;show wpAny _ _ (collect (.ref a)) _ _ _;delta collect;refine aI (qc (A:=A.in1) (by simp -iota [H]) D ⟨T.fits (by rw[lM0,n]),k,T.dum,T.ris⟩ (by rw[ew];lia) λc i d O r u j=>?_);show wpAny (model prog w) _ (load s.heap.objs.size >>= λo=>_) _ _ _;refine aI (Uv u (aP ?_));have G:d.length<=100000:=by rw[j.length_eq];simp;lia
 refine aI (PX ?_ (by simp;rw[ew];lia));have l:(c.push (seqObj "list" d.toArray 0)).get? c.objs.size=some (seqObj "list" d.toArray 0):=ey _ rfl;have f:s.heap.objs.size < c.objs.size:=er u;have B:∀ b o,s.heap.get? b=some o->b≠c.objs.size/\(c.push (seqObj "list" d.toArray 0)).get? b=some o:=λb o e=>
  ⟨hY (Pv (er e) f),bh _ (r b o e)⟩
 refine aI (jz (oy Sn ⟨_,l,rfl⟩ RY (uH (s0:={ s with drawn:=i }) (s:={ s with heap:=c.push (seqObj "list" d.toArray 0),drawn:=i }) (rk:=rk) l B rfl G (λF=>yr (s:={ s with drawn:=i }) (λv m=>C v (j.mem_iff.mp m)) F) λout z y=>⟨_,rfl,?_⟩) (So _)));obtain⟨e,I⟩:=sortedHeap_at (h:=c.push (seqObj "list" d.toArray 0)) (vs:=d) (out:=out.toArray) l;refine aP ⟨_,rfl,q _ i _ e out (fq f) (λb o x=>?_) I (z.trans j) y⟩;have K:c.get? b=some o:=r b o x;have p:b < c.objs.size:=Pv (er x) f;rw[sortedHeap_old (hY p) (by rw[mG];exact sr p)];exact bh _ K
end
end _t
namespace _2
open PySem PySem.Spec PyProof.Rows
section
variable {s:Shared}{a x:Addr}
theorem Cm{g:Array (Int×Value)}{Q:VS}(k:A.units + 10 < cLine)(S:Ct prog w s.heap a g kss)(j:TK prog w s.heap ks x)(l:kss.length<=1000)(h:∀ h' d c t',ov a s.heap h'->Ct prog w h' a d c->(∀ e∈d.toList,e∈g.toList\/e=(tkh prog w ks,.ref x))->(∀ m,m∈c↔m∈kss\/m=ks)->Q .none { s with heap:=h',toks:=t' }) :
  wpAny (model prog w) A (call (.builtin "set.add") [.ref a,.ref x]) Q E s:=by
 have o:s.TypeIs (.ref a) "set":=let ⟨_,_,n,_⟩:=S;⟨_,n,rfl⟩
 refine oy F.slot_set_add o F.entry_set_add ?_ (F.args_set_add_2 _ _);delta zq.«set.add» UJ;simp only[List.isEmpty_nil,bind_assoc];delta UU;refine aI (aP ?_)
 try dsimp only
 refine aI (aP ?_)
 try dsimp only
 refine aI (HA (by show A.units + 1 < cLine;exact WF 0xf55f19cf7517e k) S j l λb h' d c t' i p sub f _=>?_);show wpAny _ _ (ret xb) _ _ _;exact aP ⟨_,rfl,h h' d c t' i p sub f⟩
end
noncomputable abbrev VKy:=V×Li0
def Fl (H:Hp)(z:VKy):Prop:=∃ q,z.1=.ref q/\H q=some (.tup (z.2.map V.int))
theorem xV {prog:nI}{w:World}:∀ {ks:Li0} {us:Lv0},Vals (ks.map V.int) us->ItemsAre (Fk prog w) ks us
 | [],_,.nil=>.nil
 | k::ks,_,.cons r a=>by
  obtain⟨t,e⟩:=r;subst e;exact .cons (RG prog w k t) (xV a)
theorem CI{a:Pn}{s:Shared}(I:Inv X a σ H s)(h:H q=some (.tup (ks.map V.int))):TK X.prog X.w s.heap ks q:=by
 obtain⟨b,r,o,e,c,n,d⟩:=_3.wC I h;exact⟨o,_,n,e,c,d,xV r⟩
def RS (prog:nI)(w:World)(ys:List VKy)(o:Obj):Prop:=∃ (es:Array (Int×Value)) (ep:Nat) (t:mH) (kss:LL0),o=aV es ep t/\es.size=kss.length/\(∀ (i:Nat) (ks:Li0),kss[i]?=some ks->∃ q,es[i]?=some (tkh prog w ks,.ref q)/\(V.ref q,ks)∈ys)/\kss.Nodup/\
 TbU t (kss.map (tkh prog w))/\t.led=(!eV w)/\kss.length * 5 < t.mask * 3/\∀ k,k∈kss↔∃ v,(v,k)∈ys
theorem RS.set{a:Pn}{s:Shared}{D:Addr}{ys:List VKy}{o:Obj}(R:RS X.prog X.w ys o)(I:Inv X a σ H s)(n:s.heap.get? D=some o)(p:∀ z∈ys,Fl H z) :
  ∃ es kss,Ct X.prog X.w s.heap D es kss/\(∀ e∈es.toList,∃ q k,e=(tkh X.prog X.w k,.ref q)/\(V.ref q,k)∈ys)/\(∀ k,k∈kss↔∃ v,(v,k)∈ys)/\∀ (i:Nat) (ks:Li0),kss[i]?=some ks->∃ q,es[i]?=some (tkh X.prog X.w ks,.ref q)/\(V.ref q,ks)∈ys:=by
 obtain⟨es,w,t,kss,rfl,j,en,m,T,d,g,c⟩:=R;refine⟨es,kss,⟨w,t,n,⟨by rw[dy];exact j,λi ks e=>?_⟩,m,T,d,g⟩,λe r=>?_,c,en⟩
 .obtain⟨q,b,f⟩:=en i ks e;obtain⟨x,h,u⟩:=p _ f;cases h;exact⟨q,by rw[dm];exact b,CI I u⟩
 .obtain⟨i,l,h⟩:=qv r;have il:i < kss.length:=by rw[<- j,<- dy];exact l
  obtain⟨q,b,f⟩:=en i _ (gE0 il);rw[<- dm,gE0 l,h] at b;exact⟨q,_,hF b,f⟩
theorem sub_len {a:Type}[DecidableEq a]:∀ {l d:List a},l.Nodup->(∀ x∈l,x∈d)->l.length<=d.length
 | [],_,_,_=>eg _
 | x::l,d,c,h=>by
  obtain⟨f,e⟩:=hX.mp c;have:=sub_len (d:=d.erase x) e λy b=>(Sr (λz:y=x=>f (z ▸ b))).mpr (h y (.tail _ b));rw[Re (h x (.head _))] at this;have:=RK (h x (.head _));rw[eK];lia
def Lp (H:Hp)(ys:List VKy):Prop:=∃ a:LL0,a.length<=1000/\∀ z∈ys,Fl H z/\z.2∈a
noncomputable def zN (te:TE):TBg VKy:=λys σ H Q=>te σ H λy H'=>∃ k,Lp H' (ys++[(y,k)])/\Q (ys++[(y,k)]) σ H'
noncomputable abbrev IE (elt:Expr)(D:Addr)(a:Env)(k:Sem Fin):Sem Fin:=(eval elt a >>= λx=>ru elt.pos >>= λ_=>call (.builtin "set.add") [.ref D,x] >>= λ_=>pure ()) >>= λ_=>k
theorem DK{Y:Cx}{D:Addr}(hr:cz n Y.A)(hx:Y.xe=λ_ _=>False)(he:PE Y elt te):PB (RS Y.prog Y.w) Y D (IE elt D Y.env) (zN te):=by
 intro k pl s M K H Q R a q hk;obtain⟨o,I,rs⟩:=a.us;have A:=he _ s K H _ I q;rw[hx] at A;refine aI (aI (thn A λy s7 ⟨yv,L,g,r7,t,⟨a2,hd,d⟩,q7⟩=>aI (Hx (aI ?_))));obtain⟨pD,pH,pL,pF,pc⟩:=g.pin (D,o) (el _ hG);obtain⟨es,P,S,sub,l,_⟩:=rs.set g pD λz u=>(d z (ji _ u)).1;obtain⟨q0,Z,h0⟩:=(d (yv,t) (el _ (.head _))).1;have Z:yv=.ref q0:=Z;subst Z;cases r7;have kl:P.length<=1000:=by
  obtain⟨_,_,_,_,nd,_⟩:=S;refine kj (sub_len nd λf U=>?_) hd;obtain⟨v,w⟩:=(l f).mp U;exact(d _ (ji _ w)).2
 refine Cm (by have:=hr.un;exact WF 0xfbadc49c18be3be700cd0b this) S (CI g h0) kl λh8 E r t8 N S8 h j=>aP ?_;have a1:Inv Y pl K L s7:=g.jV λp z=>g.pin p (el _ (eh _ z));have I8:Inv Y pl K L { s7 with heap:=h8,toks:=t8 }:=a1.turned (t':=t8) (it:=D) (λb o W e=>(N.2 b W).trans e) pH pL (.inl a.exD) (λx c e=>(g.ok.exf D a.exD).2 x c e) a.nd;obtain⟨F,t',T,J,O,T',m,C⟩:=S8;have G:∀ z∈M++[(V.ref q0,t)],Fl L z:=λz u=>(d z u).1;refine hk (M++[(V.ref q0,t)]) K L _ ⟨⟨aV E F t',I8.jV λp z=>?_,E,F,t',r,rfl,by rw[<- dy];exact J.1,λi ks e=>?_,O,T',m,C,λf=>?_⟩,a.exD,a.nd⟩ q7
 .rcases cS.mp z with e | z
  .subst e;exact⟨T,pH,pL,pF,λv z=>by cases z⟩
  .exact I8.pin p (el _ z)
 .obtain⟨b,h1,h2⟩:=J.2 i ks e;refine⟨b,by rw[<- dm];exact h1,?_⟩;have B:∀ f,(V.ref b,f)∈M++[(V.ref q0,t)]->f=ks:=λf u=>by
   obtain⟨b',eb,W⟩:=G _ u;cases eb;exact(CI I8 W).inj h2
  rcases h _ (eW h1) with z | z
  .obtain⟨b',f,e1,e2⟩:=sub _ z;obtain⟨_,X⟩:=Vn e1;cases X;have:=B f (ji _ e2);subst this;exact ji _ e2
  .obtain⟨_,X⟩:=Vn z;cases X;have:=B t (el _ (.head _));subst this;exact el _ (.head _)
 .rw[j,l];constructor
  .rintro(⟨v,w⟩ | rfl)
   .exact⟨v,ji _ w⟩
   .exact⟨_,el _ (.head _)⟩
  .rintro⟨v,w⟩;rcases eE.mp w with z | z
   .exact .inl ⟨v,z⟩
   .cases fP.mp z;exact .inr rfl
noncomputable def kl:Li0->Int
 | [y,z]=>y * 1048576 + z
 | _=>0
def PrB (k:Li0):Prop:=∃ y z,k=[y,z]/\_t.B2 y z
noncomputable def Mo:V->Int
 | .int i=>i
 | _=>0
noncomputable def pT (H:Hp):Value->Li0
 | .ref q=>match H q with
  | some (.tup vs)=>vs.map Mo
  | _=>[]
 | _=>[]
noncomputable def rk2 (H:Hp)(k:Keyed):Int:=kl (pT H k.1)
noncomputable def vOf:Value->V
 | .ref q=>.ref q
 | _=>.non
theorem AA:∀ (k:Li0),(k.map V.int).map Mo=k
 | []=>rfl
 | x::k=>by rw[fO,fO,AA k];rfl
theorem j5{k:Li0}(h:H q=some (.tup (k.map V.int))):pT H (.ref q)=k:=by
 delta pT;simp only[h];exact AA k
theorem PrB.inj{k m:Li0}(a:PrB k)(b:PrB m)(h:kl k=kl m):k=m:=by
 obtain⟨y,z,rfl,j,i,g,f⟩:=a;obtain⟨y',z',rfl,e,b2,d,c⟩:=b;have h:y * 1048576 + z=y' * 1048576 + z':=h;have:y=y':=by lia
 have:z=z':=by lia
 subst_vars;rfl
theorem w4:∀ {out:Lv0},(∀ v∈out,∃ q,v=.ref q)->Vals (out.map vOf) out
 | [],_=>.nil
 | v::out,h=>by
  obtain⟨q,rfl⟩:=h v (.head _);exact .cons rfl (w4 λv a=>h v (.tail _ a))
theorem CD{a:Pn}{s:Shared}(I:Inv X a σ H s){k:Li0}(h:H q=some (.tup (k.map V.int)))(p:PrB k):_t.Two (rk2 H) s.heap (.ref q):=by
 have e:=j5 h;obtain⟨y,z,rfl,b⟩:=p;obtain⟨i,r,t⟩:=_3.wC I h;cases r with
 | cons g r=>
 cases r with
 | cons f r=>
 cases r;obtain⟨d,rfl⟩:=g;obtain⟨c,rfl⟩:=f;exact⟨q,y,z,d,c,rfl,t,b,by delta rk2;rw[e];rfl⟩
def IX (e:On)(d:TI)(g:TG)(t:TBg VKy):TE:=λσ H Q=>d σ H λJ H1=>qJ J g t [] (mS e σ) H1 λys _ H'=>Lp H' ys/\(∀ z∈ys,PrB z.2)/\
 ∀ (l:Addr) (zs:List VKy),H' l=none->(∀ z∈zs,z∈ys)->(∀ z∈ys,∃ c∈zs,c.2=z.2)->zs.Pairwise (λa b=>kl a.2 < kl b.2)->Q (.ref l) (upd H' l (.lst (zs.map (·.1))))
theorem JJ{rest:List mJ}{m:Addr->Env->Sem Fin->Sem Fin}{t:TBg VKy}(hc:X.calm=true)(a':Gl X "sorted")(a7:X.mg "sorted"=none)(hi:PI X tg iter wi)(B:Blk X.N X.env.scope sc Nc fr)(hg:∀ s₀ H₀ C ex W,PG (aT X sc Nc s₀ H₀ C ex W) tg g)(hm:∀ s₀ H₀ C ex W D,PB (RS X.prog X.w) (aT X sc Nc s₀ H₀ C ex W) D (m D (aT X sc Nc s₀ H₀ C ex W).env) t)(A:∀ (it D:Addr) (env:Env),Qv (.SetComp elt (⟨tg,iter,ifs,0⟩::rest) sc pos2) 0 (.ref it) (.ref D) env=(ru p0 >>= λ_=>pyNext (.ref it) >>= λr=>match r with
   | none=>pure (.done .next)
   | some v=>oG tg (.ref it) v >>= λ_=>assign tg env v >>= λ_=>m D env (again (.compLoop (.SetComp elt (⟨tg,iter,ifs,0⟩::rest) sc pos2) 0 (.ref it) (.ref D) env))))(hs:autoParam (∀ x,ic iter X.env x=pure x) wT)(M:autoParam (ed [Vb elt (⟨tg,iter,ifs,0⟩::rest) sc pos2] X.env=[(false,eval (.SetComp elt (⟨tg,iter,ifs,0⟩::rest) sc pos2) X.env)]) wE) :
  PE X (.Call (.Name "sorted" p) [.SetComp elt (⟨tg,iter,ifs,0⟩::rest) sc pos2] [] pos) (IX fr wi g t):=by
 intro l s σ H Q I h;refine oi (ff I a' a7 (by decide +kernel:mP "sorted"=some (.builtin "sorted")) ?_);refine AX ?_ (by rw[M];rfl) rfl;rw[M];show wpAny _ _ (spliced ((false,eval (.SetComp elt (⟨tg,iter,ifs,0⟩::rest) sc pos2) X.env)::backTo pos [])) _ _ s;refine Fv ?_;rw[arm_eval_SetComp];dsimp only;refine Oz (use:=none) rfl hs (wI B I) B.kind B.locs (thn (hi l s σ H _ I h) λv s1 O=>thn O λb5 s2 N=>?_);obtain⟨it,fp,tn,J,H2,e,I2,T,a1,f2,cw⟩:=N;subst e;refine qF (b:=true) (elt:=elt) (pos:=pos2) (RO:=RS X.prog X.w) (o0:=aV #[] 0 (.fresh 0 0 (!eV X.w))) (RR:=λb1 C=>compPost (model X.prog X.w) X.A X.xe none _ b1 C) rfl (λh=>?_) rfl
  ⟨#[],0,_,[],rfl,rfl,λi ks e=>by simp -iota at e,KM,⟨rfl,oC,rfl,.inl rfl,eg _,λi hh e=>by simp -iota at e⟩,rfl,(show 0 * 5 < 7 * 3 by decide),λk=>by simp⟩ (λys o ⟨_,_,_,_,e,_⟩ v z=>by subst e;cases z) B hc hg hm A I2 T a1 f2 cw λD C y d ys o b4 I' hn ne P fD pD rs ⟨⟨b6,hd,u⟩,E,qf⟩=>?_
 .delta newSet RH;refine aI (aI (rd (aP ?_)));dsimp only;simp only[newObj];exact aI (T9 (aP h))
 .obtain⟨mm,hn⟩:=hn;refine⟨mm,hn,λh' sb=>?_⟩;have U:Inv X l σ d { y with heap:=h',toks:=y.toks }:=I'.turned (t':=y.toks) (λb o hb e=>(sb.2 b hb).trans e) P.1 P.2.1 P.2.2.2.1 P.2.2.2.2.1 P.2.2.2.2.2;have a2:h'.get? D=some o:=(sb.2 D (lj ne)).trans pD;obtain⟨es,kss,S,sub,F,en⟩:=rs.set U a2 λz K=>(u z K).1;have Z:kss.Nodup:=let ⟨_,_,_,_,Z,_⟩:=S;Z
  have R:es.size=kss.length:=let ⟨_,_,_,El,_⟩:=S;by rw[<- El.1,dy]
  have a4:kss.length<=1000:=kj (sub_len Z λk' a0=>by obtain⟨v,j⟩:=(F k').mp a0;exact(u _ j).2) hd;have evs:∀ v∈es.toList.map (·.2),∃ q k,v=.ref q/\(V.ref q,k)∈ys/\d q=some (.tup (k.map V.int)):=λv j=>by
   obtain⟨e,he,rfl⟩:=jc.mp j;obtain⟨q,k,rfl,w⟩:=sub e he;obtain⟨q',e',n⟩:=(u _ w).1;cases e';exact⟨q,k,rfl,w,n⟩
  refine IV ?_;refine _t.w_ (rk:=rk2 d) (s:={ y with heap:=h' }) (I.ok.hd hc) S a4 (λv j=>?_) λh3 d3 L c f hL k3 gL po so=>?_
  .obtain⟨q,k,rfl,w,n⟩:=evs v j;exact CD U n (E _ w)
  have I4:Inv X l σ d { y with heap:=h3,toks:=y.toks,drawn:=d3 }:=(U.kept (t':=y.toks) k3).draw;have fL:d L=none:=U.hok.fresh hL;have Y:∀ v∈f,∃ q k,v=.ref q/\(V.ref q,k)∈ys/\d q=some (.tup (k.map V.int)):=λv j=>evs v (po.mem_iff.mp j);have kp:(f.map (pT d)).Perm kss:=by
   refine(po.map (pT d)).trans (Uk (ng λi=>?_));rw[iS,ba,dm];cases e:kss[i]? with
   | none=>rw[tq (by rw[R];exact qB.mp e)];rfl
   | some ks=>
    obtain⟨q,O,N⟩:=en i ks e;obtain⟨q',e',n⟩:=(u _ N).1;cases e';rw[O];exact congrArg some (j5 n)
  have G:=qf L (f.map λv=>(vOf v,pT d v)) fL (λz K=>?_) (λz K=>?_) ?_
  .rw[iS] at G;exact⟨.ref L,_,I4.adopt (c:=c) (us:=f) ((U.qX hL fL).heap fL) (by rw[gL]) (w4 λv j=>let ⟨q,_,e,_⟩:=Y v j;⟨q,e⟩) (by rw[lM0,po.length_eq,lM0,dy,R,ew];lia),rfl,G⟩
  .obtain⟨v,j,rfl⟩:=jc.mp K;obtain⟨q,k,rfl,w,n⟩:=Y v j;rw[j5 n];exact w
  .have:z.2∈f.map (pT d):=kp.mem_iff.mpr ((F z.2).mpr ⟨z.1,K⟩);obtain⟨v,j,e⟩:=jc.mp this;exact⟨_,jc.mpr ⟨v,j,rfl⟩,e⟩
  .rw[mD];have n2:f.Pairwise λa b=>pT d a≠pT d b:=mD.mp (kp.nodup_iff.mpr Z);refine yd ?_ (so.and n2);rintro a b ha hb ⟨O,N⟩;obtain⟨q,k,rfl,w,n⟩:=Y a ha;obtain⟨q',k',rfl,a5,a6⟩:=Y b hb;rcases Int.lt_or_eq_of_le O with z | z
   .exact z
   .refine absurd ?_ N;have z:kl (pT d (.ref q))=kl (pT d (.ref q')):=z;rw[j5 n,j5 a6] at z ⊢;exact(E _ w).inj (E _ a5) z
end _2
namespace _3
open PySem _2 PySem.Spec PyProof.Rows
noncomputable abbrev P2:=Int×Int
noncomputable abbrev p2D (p:P2):D:=.tup [.int p.1,.int p.2]
noncomputable def p2K (p:P2):Li0:=[p.1,p.2]
def tX (a:List P2):Prop:=∃ h w:Nat,h * w<=1000/\h<=1000/\w<=1000/\∀ p∈a,0<=p.1/\p.1 < h/\0<=p.2/\p.2 < w
def p2L (p q:P2):Prop:=p.1 < q.1\/p.1=q.1/\p.2 < q.2
theorem wg{p:P2}(h:Rep K F (p2D p) v):∃ a,v=.ref a/\F a=some (.tup ((p2K p).map V.int)):=by
 obtain⟨a,i,rfl,g,k,c,rfl,f,j,b,rfl,e,d⟩:=h;cases d;cases f;cases e;exact⟨a,rfl,g⟩
noncomputable def EC (h w:Nat):LL0:=(cj (h * w)).map λi=>[((i / w:Nat):Int),((i % w:Nat):Int)]
theorem yi{h w:Nat}{p:P2}(f:0<=p.1)(e:p.1 < h)(d:0<=p.2)(c:p.2 < w):p2K p∈EC h w:=by
 obtain⟨y,x⟩:=p;obtain⟨y,rfl⟩:=mx f;obtain⟨x,rfl⟩:=mx d;have b:y < h:=by simpa using e
 have a:x < w:=by simpa using c
 have i:(x + y * w) / w=y:=by rw[R9 _ _ (by exact WF 196612640030 a),Rx a,rx]
 have g:(x + y * w) % w=x:=by rw[QJ,T5 a]
 refine jc.mpr ⟨x + y * w,iU.mpr ?_,by rw[i,g];rfl⟩
 calc x + y * w < w + y * w:=by exact WF 0xec128781ee04b a
  _=(y + 1) * w:=by rw[Vc,Vd]
  _<=h * w:=Ss _ b
def oZ (K:Fg0)(F:Hp)(a:List P2)(ys:List VKy):Prop:=ys.map (·.2)=a.map p2K/\aA K F (a.map p2D) (ys.map (·.1))
theorem oZ.at {a:List P2}{ys:List VKy}(r:oZ K F a ys){z:VKy}(hz:z∈ys):∃ p∈a,z.2=p2K p/\Rep K F (p2D p) z.1:=by
 obtain⟨i,f⟩:=rC hz;have e:(ys.map (·.2))[i]?=some z.2:=by rw[ba,f];rfl
 rw[r.1,ba] at e;obtain⟨p,c,e⟩:=oA.mp e;obtain⟨v,b,g⟩:=r.2.get (i:=i) (d:=p2D p) (by rw[ba,c];rfl);rw[ba,f] at b;cases b;exact⟨p,eW c,e.symm,g⟩
theorem oZ.has{a:List P2}{ys:List VKy}(r:oZ K F a ys){p:P2}(c:p∈a):∃ z∈ys,z.2=p2K p:=by
 have:p2K p∈ys.map (·.2):=by rw[r.1];exact jc.mpr ⟨p,c,rfl⟩
 obtain⟨z,b,e⟩:=jc.mp this;exact⟨z,b,e⟩
theorem oZ.ok{j:List P2}{ys:List VKy}(r:oZ K F j ys)(e:En K B F σ H Γ)(d:tX j):Lp H ys/\∀ z∈ys,PrB z.2:=by
 obtain⟨h,w,o,u,t,k⟩:=d;refine⟨⟨EC h w,by delta EC;rw[lM0,oD];exact o,λz c=>?_⟩,λz c=>?_⟩
 .obtain⟨p,f,b,n⟩:=r.at c;obtain⟨a,s,q⟩:=wg n;obtain⟨i,m,g,l⟩:=k p f;rw[b];exact⟨⟨a,s,by rw[b];exact e.sub _ _ q⟩,yi i m g l⟩
 .obtain⟨p,f,b,_⟩:=r.at c;obtain⟨i,m,g,l⟩:=k p f;exact⟨p.1,p.2,b,i,by lia,g,by lia⟩
noncomputable abbrev p9:=List P2->G->(List P2->G->Prop)->Prop
noncomputable def PoS (K:Fg0)(B:Bs)(F:Hp)(Q:List P2->G->Prop):List VKy->_2.St->Hp->Prop:=λb σ' H'=>∃ F' Γ' a,aB F F'/\En K B F' σ' H' Γ'/\oZ K F' a b/\Q a Γ'
def yB (K:Fg0)(t:TBg VKy)(b:p9):Prop:=∀ (B:Bs) (F:Hp) (σ:_2.St) (H:Hp) (Γ:G) (ys:List VKy) (ps:List P2) (Q:List P2->G->Prop) (QQ:List VKy->_2.St->Hp->Prop),En K B F σ H Γ->oZ K F ps ys->b ps Γ Q->(∀ a σ' H',PoS K B F Q a σ' H'->QQ a σ' H')->t ys σ H QQ
def zF (b:TE3)(a:List P2)(Γ:G)(Q:List P2->G->Prop):Prop:=b Γ λr Γ1=>∃ p,r.d=p2D p/\tX (a++[p])/\Q (a++[p]) Γ1
def sM (xs:List D)(c:TG3)(e:p9)(a:List P2)(Γ:G)(Q:List P2->G->Prop):Prop:=∃ b:Nat->List P2->G->Prop,b 0 a Γ/\(∀ k d a Γ,xs[k]?=some d->b k a Γ->c d Γ λΓ'=>e a Γ' (b (k + 1)))/\∀ a Γ,b xs.length a Γ->Q a Γ
def yT (b:TI3)(c:TG3)(d:p9)(a:List P2)(Γ:G)(Q:List P2->G->Prop):Prop:=b Γ λxs Γ1=>sM xs c d a Γ1 Q
def Jc (b:On)(c:TI3)(d:TG3)(e:p9)(Γ:G)(Q:RV->G->Prop):Prop:=c Γ λxs Γ1=>sM xs d e [] (c6 Γ1 (dA b)) λps a=>tX ps/\∀ qs:List P2,(∀ p,p∈qs↔p∈ps)->qs.Pairwise p2L->Q (.fr (.lst (qs.map p2D))) (bE b Γ1 a)
theorem oZ.mono{a:List P2}{ys:List VKy}(r:oZ K F a ys)(s:aB F F'):oZ K F' a ys:=⟨r.1,r.2.mono s⟩
theorem Bz(h:Ref K te e3):yB K (zN te) (zF e3):=by
 intro B F l H m ys g Q y e r q k;refine h B F l H m _ _ e q λv z Z=>?_;obtain⟨A,a,x,s,w,n,p,t,u,o⟩:=Z;obtain⟨j,b,i,d⟩:=w.frozen n;rw[t] at d;have c:oZ K j (g++[p]) (ys++[(v,p2K p)]):=by
  have f:=r.mono (s.trans b);refine⟨by rw[dE,dE,f.1];rfl,?_⟩;rw[dE,dE];exact f.2.append (ys:=[p2D p]) ⟨v,[],rfl,d,rfl⟩
 exact⟨p2K p,(c.ok i u).1,k _ _ _ ⟨j,a,g++[p],s.trans b,i,c,o⟩⟩
theorem uu{t:TBg VKy}{D:p9}(V:wY K g g3)(h:yB K t D){ys:List VKy}{ds:List P2}{Q:List P2->G->Prop}{QQ:List VKy->_2.St->Hp->Prop}(R:ItR K F J xs)(e:En K B F σ H Γ)(r:oZ K F ds ys)(q:sM xs g3 D ds Γ Q)(k:∀ d σ' H',PoS K B F Q d σ' H'->QQ d σ' H'):qJ J g t ys σ H QQ:=by
 obtain⟨Iv,U,S,T⟩:=q;refine⟨λi m ys σ H=>m=xs.length - i/\i<=xs.length/\∃ s b ds,aB F s/\En K B s σ H b/\oZ K s ds ys/\Iv i ds b,⟨_,rfl,eg _,F,Γ,ds,aB.refl F,e,r,U⟩,?_⟩;rintro i m o l I ⟨rfl,hi,F2,a,c,f,j,w,A⟩;by_cases lt:i < xs.length
 .refine .inr ⟨R.go i I (f.trans j.sub) lt,λx E y=>?_⟩;have C:xs[i]?=some xs[i]:=gE0 lt;obtain⟨L,v,Y,O⟩:=R.turn f j C y;refine V B L l E a x _ _ _ Y O (S i _ c a C A) λσ' b X P=>?_;exact h B L σ' E b o c _ _ X (w.mono v) P λd u H4 ⟨F4,n,Z,M,W,N,p⟩=>⟨xs.length - (i + 1),by lia,rfl,lt,F4,n,Z,(f.trans v).trans M,W,N,p⟩
 .have z:i=xs.length:=by lia
  subst z;exact .inl ⟨R.stop _ I (f.trans j.sub) rfl,k _ _ _ ⟨F2,a,c,f,j,w,T c a A⟩⟩
theorem By{t:TBg VKy}{c:p9}(o:zR K wi i3)(p:wY K g g3)(h:yB K t c):yB K (yp wi g t) (yT i3 g3 c):=by
 intro B F f H j w y Q z e r q k;refine o B F f H j _ _ e q λJ C D i x b s R n=>?_;exact uu p h R s (r.mono b) n λl d A ⟨v,a,u,m,rest⟩=>k _ _ _ ⟨v,a,u,b.trans m,rest⟩
noncomputable def toP (k:Li0):P2:=(k.getD 0 0,k.getD 1 0)
theorem rJ(p:P2):toP (p2K p)=p:=rfl
theorem Ap:∀ {zs:List VKy},(∀ z∈zs,Rep K F (p2D (toP z.2)) z.1)->aA K F ((zs.map λz=>toP z.2).map p2D) (zs.map (·.1))
 | [],_=>rfl
 | z::zs,h=>⟨z.1,_,rfl,h z (.head _),Ap λy a=>h y (.tail _ a)⟩
theorem FQ{t:TBg VKy}{A:p9}(O:(fr.filterMap id).Nodup)(T:zR K wi i3)(U:wY K g g3)(h:yB K t A):Ref K (IX fr wi g t) (Jc fr i3 g3 A):=by
 intro B F σ H Γ Q QQ e q k;refine T B F σ H Γ _ _ e q λJ H1 F1 j xs I c R N=>?_;refine uu U h R (c.blk O) (ds:=[]) ⟨rfl,rfl⟩ N λys C X Z=>?_;obtain⟨Y,r,ps,G,f,i,y,M⟩:=Z;obtain⟨u,s⟩:=i.ok f y;refine⟨u,s,λl D x z1 z2 z3=>k _ _ ?_⟩;have W:En K B Y σ X (bE fr j r):=c.back (ls:=fr) f (by have:=kS (Γ:=j) (σ:=σ) (bs:=dA fr);rw[nY] at this;exact this);refine Po.mono (I.trans G) (iK W x (Ap λz m=>?_) (M (D.map λz=>toP z.2) (λp=>?_) ?_))
 .obtain⟨p,_,c,L⟩:=i.at (z1 z m);rw[c,rJ];exact L
 .constructor
  .intro n;obtain⟨z,m,rfl⟩:=jc.mp n;obtain⟨p,S,c,_⟩:=i.at (z1 z m);rw[c,rJ];exact S
  .intro n;obtain⟨z,m,c⟩:=i.has n;obtain⟨E,v,f⟩:=z2 z m;exact jc.mpr ⟨E,v,by rw[f,c,rJ]⟩
 .rw[mD];refine yd ?_ z3;intro a b V o d;obtain⟨p,n,c,_⟩:=i.at (z1 a V);obtain⟨q,P,f,_⟩:=i.at (z1 b o);rw[c,f,rJ,rJ];rw[c,f] at d;obtain⟨h,w,_,_,_,o⟩:=y;have:=o p n;have:=o q P;have d:p.1 * 1048576 + p.2 < q.1 * 1048576 + q.2:=d;delta p2L;lia
theorem JO{k j h i:Expr}{l:TI}{u:TI3}{F:TG}{E:TG3}(H:cz n X.A)(B:X.calm=true)(s:Gl X "sorted")(r:X.mg "sorted"=none)(w:P3I K X j k wi i3)(I:Blk X.N X.env.scope sc Nc fr)(z:∀ s₀ H₀ C ex f,P3G K (aT X sc Nc s₀ H₀ C ex f) j g g3)(v:∀ s₀ H₀ C ex f,P3I K (aT X sc Nc s₀ H₀ C ex f) i h l u)(y:∀ s₀ H₀ C ex f,P3G K (aT X sc Nc s₀ H₀ C ex f) i F E)(A:∀ s₀ H₀ C ex f,P3 K (aT X sc Nc s₀ H₀ C ex f) elt te e3)(q:autoParam (∀ s₀ H₀ C ex f x,ic h (aT X sc Nc s₀ H₀ C ex f).env x=pure x) wq3)(G:autoParam ((fr.filterMap id).Nodup) wP)(hs:autoParam (∀ x,ic k X.env x=pure x) wT)(o:autoParam (ed [Vb elt [⟨j,k,[],0⟩,⟨i,h,[],0⟩] sc pos2] X.env=[(false,eval (.SetComp elt [⟨j,k,[],0⟩,⟨i,h,[],0⟩] sc pos2) X.env)]) wE) :
  P3 K X (.Call (.Name "sorted" p) [.SetComp elt [⟨j,k,[],0⟩,⟨i,h,[],0⟩] sc pos2] [] pos) (IX fr wi g (yp l F (zN te))) (Jc fr i3 g3 (yT u E (zF e3))):=
 ⟨JJ (m:=λD t=>Dd true elt [⟨j,k,[],0⟩,⟨i,h,[],0⟩] sc pos2 1 h D t) B s r w.pe I (λa b c d e=>(z a b c d e).pe)
  (λa b c d e D=>Aw (b:=true) (m:=IE elt D _) rfl B (by rfl) (v a b c d e).pe (y a b c d e).pe (DK (Y:=aT X sc Nc a b c d e) H rfl (A a b c d e).pe) (λ_=>rfl) (q a b c d e)) (λ_ _ _=>rfl) hs o,
  FQ G w.rf (z X.s₀ X.H₀ 0 [] []).rf (By (v X.s₀ X.H₀ 0 [] []).rf (y X.s₀ X.H₀ 0 [] []).rf (Bz (A X.s₀ X.H₀ 0 [] []).rf))⟩
def p2B (p:P2):Prop:=_t.B2 p.1 p.2
def p2E (p q:P2):Prop:=p.1 < q.1\/p.1=q.1/\p.2<=q.2
def Jd (ds:List D)(Γ:G)(Q:RV->G->Prop):Prop:=∃ ps:List P2,ds=[.lst (ps.map p2D)]/\ps.length<=100000/\(∀ p∈ps,p2B p)/\∀ qs,ps.Perm qs->qs.Pairwise p2E->Q (.fr (.lst (qs.map p2D))) Γ
def HZ (xs:List V)(H:Hp)(Q:VK):Prop:=∃ p ys,xs=[.ref p]/\H p=some (.lst ys)/\ys.length<=100000/\(∀ x∈ys,∃ q k,x=.ref q/\H q=some (.tup (k.map V.int))/\PrB k)/\∀ l a,H l=none->ys.Perm a->a.Pairwise (λx y=>rk2 H (vv x,vv x)<=rk2 H (vv y,vv y))->Q (.ref l) (upd H l (.lst a))
theorem o8:∀ {ys:List V} {us:Lv0},Vals ys us->(∀ x∈ys,∃ q,x=.ref q)->us=ys.map vv
 | _,_,.nil,_=>rfl
 | x::ys,u::us,.cons r h,a=>by
  obtain⟨q,rfl⟩:=a x (.head _);cases r;rw[o8 h λx b=>a x (.tail _ b)];rfl
theorem Cf:dG X (.builtin "sorted") HZ:=by
 intro b s o H T U Q I r h;obtain⟨p,S,rfl,E,C,g,q⟩:=h;cases r with
 | cons u t=>
 cases t;cases u;obtain⟨B,m,F⟩:=zp I E;have O:=o8 m λx d=>let ⟨q,_,e,_⟩:=g x d;⟨q,e⟩
 subst O;refine _t.yL (rk:=rk2 H) F (by rw[lM0];exact C) (λv D=>?_) λK P L c y n A M w l=>?_
 .obtain⟨x,d,rfl⟩:=jc.mp D;obtain⟨q,k,rfl,J,G⟩:=g x d;exact CD I J G
 .obtain⟨a,j,f⟩:=Vals.perm w.symm m;have i:H L=none:=I.hok.fresh n;have R:Inv X b o H { s with heap:=K,toks:=s.toks,drawn:=P }:=(I.kept (t':=s.toks) A).draw;have N:=o8 j λx d=>let ⟨q,_,e,_⟩:=g x (f.mem_iff.mpr d);⟨q,e⟩
  subst N;have z:a.length<=sizeLine:=by rw[<- f.length_eq,ew];lia
  exact⟨.ref L,_,R.adopt (c:=c) ((I.qX n i).heap i) M j z,rfl,q L a i f (by rw[mD] at l;exact l)⟩
theorem aA.ND:∀ {ps:List P2} {vs ws:List V},aA K F (ps.map p2D) vs->vs.Perm ws->∃ a,ps.Perm a/\aA K F (a.map p2D) ws:=by
 intro ps vs ws h p
 induction p generalizing ps with
 | nil=>exact⟨ps,oF _,h⟩
 | cons x _ k=>
  match ps,h with
  | p::ps,⟨v,ws,e,c,b⟩=>
   cases e;obtain⟨a,i,g⟩:=k b;exact⟨p::a,i.cons _,⟨_,_,rfl,c,g⟩⟩
 | swap x y l=>
  match ps,h with
  | p::p2::ps,⟨v,ws,e,c,r,j,m,b,g⟩=>
   cases e;cases m;exact⟨p2::p::ps,Sk _ _ _,⟨_,_,rfl,b,_,_,rfl,c,g⟩⟩
  | [p],⟨v,ws,e,c,b⟩=>cases b;cases e
  | [],h=>cases h
 | trans _ _ f d=>
  obtain⟨i,q,n⟩:=f h;obtain⟨p2,o,b2⟩:=d n;exact⟨p2,q.trans o,b2⟩
theorem Az {H:Hp}(b:aB F H):∀ {ps:List P2} {vs:List V},(∀ p∈ps,p2B p)->aA K F (ps.map p2D) vs->vs.Pairwise (λx y=>rk2 H (vv x,vv x)<=rk2 H (vv y,vv y))->ps.Pairwise p2E
 | [],_,_,_,_=>oC
 | p::ps,vs,f,⟨v,w,e,o,h⟩,c=>by
  subst e;obtain⟨l,k⟩:=kq.mp c;refine kq.mpr ⟨λq g=>?_,Az b (λp c=>f p (.tail _ c)) h k⟩;obtain⟨i,n⟩:=rC g;obtain⟨u,m,j⟩:=h.get (i:=i) (d:=p2D q) (by rw[ba,n];rfl);have:=l u (eW m);obtain⟨a,rfl,s⟩:=wg o;obtain⟨t,rfl,r⟩:=wg j;have this:kl (pT H (.ref a))<=kl (pT H (.ref t)):=this;rw[j5 (b _ _ s),j5 (b _ _ r)] at this;obtain⟨G,E,D,C⟩:=f p (.head _);obtain⟨B,b2,A,z⟩:=f q (.tail _ g);have this:p.1 * 1048576 + p.2<=q.1 * 1048576 + q.2:=this;delta p2E;lia
theorem EV:B3 K X (.builtin "sorted") HZ Jd:=⟨Cf,by
 intro B F I H J L O Q P e r q k;obtain⟨w,rfl,M,n,q⟩:=q;obtain⟨v,rfl,p,g,rfl,E,f⟩:=r.one;have N:g.length=w.length:=by rw[f.length,lM0]
 refine⟨p,g,rfl,E,by lia,λx y=>?_,λl o D u s=>?_⟩
 .obtain⟨i,C⟩:=rC y;obtain⟨d,m,t⟩:=f.G5 C;rw[ba] at m;obtain⟨c,A,rfl⟩:=oA.mp m;obtain⟨a,rfl,G⟩:=wg t;exact⟨a,_,rfl,e.sub _ _ G,c.1,c.2,rfl,n c (eW A)⟩
 .obtain⟨b,j,h⟩:=aA.ND f u;exact k _ _ (iK e D h (q b j (Az e.sub (λp z=>n p (j.mem_iff.mpr z)) h s)))⟩
end _3
namespace _2
open PySem PySem.Spec PyProof.Rows
def Iu (ta:TA):TI:=λσ H R=>ta σ H λvs H1=>∃ j:Int,vs=[.int 0,.int j]/\0<=j/\j < 2 ^ 62/\R (HF (j - 1) (-1) j.toNat) H1
theorem Gg{b:Expr}{ta:TA}{D:Pos}(m:Gl X "reversed")(l:X.mg "reversed"=none)(F:Gl X "range")(E:X.mg "range"=none)(J:PA X [a,b] ta)(hs:autoParam (ed [a,b] X.env=[(false,eval a X.env),(false,eval b X.env)]) wE)(f:autoParam (ed [b] X.env=[(false,eval b X.env)]) wE)(g:autoParam (ed [.Call (.Name "range" p) [a,b] [] pos] X.env=[(false,eval (.Call (.Name "range" p) [a,b] [] pos) X.env)]) wE) :
  PI X tg (.Call (.Name "reversed" D) [.Call (.Name "range" p) [a,b] [] pos] [] pos') (Iu ta):=by
 intro d s u H R I h;refine Call_ (ff I m l (by decide +kernel:mP "reversed"=some (.type "reversed")) (jl ?_ g rfl));rw[g];show wpAny _ _ (spliced ((false,eval (.Call (.Name "range" p) [a,b] [] pos) X.env)::backTo pos' [])) _ _ s;refine Fv (Call_ (ff I F E SR (jl (thn (J pos d s u H _ I h) λN c ⟨M,w,L,y,B⟩=>?_) (by rw[hs,f]) (by rw[f];rfl))));obtain⟨j,e,C,A,q⟩:=B;subst e;cases y with
 | cons r k=>
 cases k with
 | cons z k=>
 cases k;obtain⟨v,rfl⟩:=r;obtain⟨t,rfl⟩:=z;refine call_range_2 (IV ?_);have n:Inv X d u w { c with heap:=c.heap.push { cls:=.type "range",data:=.fields #[.int 0 v,.int j t,.int 1 c.toks] },toks:=c.toks + 1 }:=L.kept λb o e=>bh _ e;refine gx (T6 ..) C A ?_;refine Fn (x:=j - 1) (left:=j) (step:=-1) (ey _ rfl) ?_;refine⟨_,_,_,_,w,rfl,n.kept (t':=c.toks + 1) λb o e=>bh _ e,qa _ (j - 1) (-1) j.toNat,?_,λb G=>?_,q⟩
 .show QR _ _ (j - 1 + ((0:Nat):Int) * (-1)) (((j.toNat:Nat):Int) - ((0:Nat):Int)) (-1);rw[show j - 1 + ((0:Nat):Int) * (-1)=j - 1 by simp,show ((j.toNat:Nat):Int) - ((0:Nat):Int)=j by simp;lia];exact ey _ rfl
 .have K:b=c.heap.objs.size + 1:=by simpa using G
  have i:(c.heap.push { cls:=.type "range",data:=.fields #[.int 0 v,.int j t,.int 1 c.toks] }).objs.size<=b:=by rw[mG,K];exact bU _
  exact n.qX i (n.hok.fresh i)
end _2
namespace _3
open PySem _2
def Ip (a:TA3)(Γ:G)(Q:List D->G->Prop):Prop:=a Γ λds Γ1=>∃ j:Int,ds=[.int 0,.int j]/\(0<=j/\j < 2 ^ 62)/\Q (pI (j - 1) (-1) j.toNat) Γ1
theorem GY{b:Expr}{ta:TA}{l:TA3}{y:Pos}(h:Gl X "reversed")(g:X.mg "reversed"=none)(A:Gl X "range")(z:X.mg "range"=none)(i:P3A K X [a,b] ta l)(hs:autoParam (ed [a,b] X.env=[(false,eval a X.env),(false,eval b X.env)]) wE)(d:autoParam (ed [b] X.env=[(false,eval b X.env)]) wE)(f:autoParam (ed [.Call (.Name "range" p) [a,b] [] pos] X.env=[(false,eval (.Call (.Name "range" p) [a,b] [] pos) X.env)]) wE) :
  P3I K X tg (.Call (.Name "reversed" y) [.Call (.Name "range" p) [a,b] [] pos] [] pos') (Iu ta) (Ip l):=⟨Gg h g A z i.pe hs d f,λB F m H n Q R e q k=>
 i.rf B F m H n _ _ e q λM I Z=>by
  obtain⟨J,c,O,s,G,r,j,E,⟨D,C⟩,x⟩:=Z;subst E;obtain⟨v,L,rfl,w,N,o,rfl,u,t⟩:=r;cases w;cases u;cases t;exact⟨j,rfl,D,C,k _ I J c _ s G C9 x⟩⟩
def emH (d:D)(b:List P2)(a:G)(Q:List P2->G->Prop)(_:Tag Q):Prop:=∃ p,d=p2D p/\tX (b++[p])/\Q (b++[p]) a
theorem G1{a:List P2}{Q:List P2->G->Prop}:zF e3 a Γ Q=(e3 Γ λr Γ1=>emH r.d a Γ1 Q ⟨⟩):=rfl
def lsH (xs:List D)(a:TG3)(b:p9)(c:List P2)(Γ:G)(Q:List P2->G->Prop)(_:Tag (a,b,Q)):Prop:=sM xs a b c Γ Q
theorem G0{b:p9}{a:List P2}{Q:List P2->G->Prop}:yT i3 g3 b a Γ Q=(i3 Γ λxs Γ1=>lsH xs g3 b a Γ1 Q ⟨⟩):=rfl
theorem Kk{b3:p9}{a:List P2}{Q:List P2->G->Prop}{t:Tag (g3,b3,Q)}(b:Nat->List P2->G->Prop)(f:b 0 a Γ)(e:∀ k d a Γ,xs[k]?=some d->b k a Γ->g3 d Γ λΓ'=>b3 a Γ' (b (k + 1)))(c:∀ a Γ,b xs.length a Γ->Q a Γ):lsH xs g3 b3 a Γ Q t:=⟨b,f,e,c⟩
def LJ (xs:List D)(a:G)(c:On)(d:TG3)(e:p9)(Q:RV->G->Prop)(_:Tag (c,d,e,Q)):Prop:=sM xs d e [] (c6 a (dA c)) λps b=>tX ps/\∀ qs:List P2,(∀ p,p∈qs↔p∈ps)->qs.Pairwise p2L->Q (.fr (.lst (qs.map p2D))) (bE c a b)
theorem M3{a:p9}:Jc fr i3 g3 a Γ Q=(i3 Γ λxs Γ1=>LJ xs Γ1 fr g3 a Q ⟨⟩):=rfl
theorem Fu{b3:p9}{t:Tag (fr,g3,b3,Q)}(b:Nat->List P2->G->Prop)(f:b 0 [] (c6 Γ1 (dA fr)))(e:∀ k d ps Γ,xs[k]?=some d->b k ps Γ->g3 d Γ λΓ'=>b3 ps Γ' (b (k + 1)))(c:∀ ps a,b xs.length ps a->tX ps/\∀ qs:List P2,(∀ p,p∈qs↔p∈ps)->qs.Pairwise p2L->Q (.fr (.lst (qs.map p2D))) (bE fr Γ1 a)):LJ xs Γ1 fr g3 b3 Q t:=⟨b,f,e,c⟩
def LK (ds:List D)(Γ:G)(Q:RV->G->Prop)(_:Tag Q):Prop:=Jd ds Γ Q
theorem KD{ds:List D}:Jd ds Γ Q=LK ds Γ Q ⟨⟩:=rfl
theorem Ae{a:List P2}{t:Tag Q}(d:a.length<=100000)(c:∀ p∈a,p2B p)(b:∀ qs,a.Perm qs->qs.Pairwise p2E->Q (.fr (.lst (qs.map p2D))) Γ):LK [.lst (a.map p2D)] Γ Q t:=⟨a,rfl,d,c,b⟩
end _3
set_option maxHeartbeats 4000000
namespace _k
open PySem _2 _3
noncomputable def fw (b:Option D):Option Sl:=b.map Sl.ow
theorem KY{s:Option D}:cF (fw s::Γ) 0=True:=by cases s <;> rfl
theorem OW{n:Option D}:fV n none=none:=rfl
theorem OS{n:Option D}{d:D}:fV n (some (.fz d))=some (.fz d):=rfl
theorem OT{n:Option D}{d:D}:fV n (some (.ow d))=some (.ow (n.getD d)):=rfl
theorem OX{n:Option D}{d:D}:fV n (some (.ln d))=some (.ln (n.getD d)):=rfl
theorem OV{n:Option D}{s:Option D}:fV n (fo s)=fo s:=by cases s <;> rfl
theorem OU{n:Option D}{s:Option D}:fV n (fw s)=fw (s.map λd=>n.getD d):=by cases s <;> rfl
noncomputable def m8:G->Bool
 | []=>true
 | some (.ln _)::_=>false
 | _::Γ=>m8 Γ
theorem J6:m8 []=true:=rfl
theorem Of:m8 (none::Γ)=m8 Γ:=rfl
theorem Oc{d:D}:m8 (some (.fz d)::Γ)=m8 Γ:=rfl
theorem Od{d:D}:m8 (some (.ow d)::Γ)=m8 Γ:=rfl
theorem Oe{s:Option D}:m8 (fo s::Γ)=m8 Γ:=by cases s <;> rfl
theorem wu:∀ {cs:G} {k:Nat} {d:D},m8 cs=true->cs[k]?≠some (some (Sl.ln d))
 | [],_,_,_,h=>by simp -iota at h
 | s::cs,0,d,a,h=>by
  simp -iota at h;subst h;cases a
 | s::cs,k + 1,d,a,h=>by
  have b:m8 cs=true:=by
   cases s with
   | none=>exact a
   | some s=>cases s with
    | fz _=>exact a
    | ow _=>exact a
    | ln _=>cases a
  exact wu (cs:=cs) (k:=k) b (by simpa using h)
theorem zM{ls:On}{cs:G}(h:m8 cs=true):bE ls Γ cs=Γ:=by
 apply ng;intro j;rw[cT];have:newD ls cs j=none:=by
  cases q:newD ls cs j with
  | none=>rfl
  | some d=>
   obtain⟨k,_,b⟩:=dR q;exact absurd b (wu h)
 rw[this];cases Γ[j]? with
 | none=>rfl
 | some s=>cases s with
  | none=>rfl
  | some s=>cases s <;> rfl
inductive Lt where
 | r | p | b
deriving DecidableEq
noncomputable def Lt.c:Lt->Nat
 | .r=>114 | .p=>112 | .b=>98
noncomputable def Lt.s (l:Lt):Str:=sgn l.c
theorem Lt.sp:Lt.s .p=("p":Str):=by decide +kernel
theorem Lt.sb:Lt.s .b=("b":Str):=by decide +kernel
noncomputable def wy (ls:List Lt):Str:=⟨(ls.map Lt.c).toArray⟩
theorem nB(ls:List Lt):signs (wy ls)=ls.map λl=>D.str l.s:=by
 delta signs wy;rw[iS]
 rfl
theorem Cw(ls:List Lt):asc (wy ls)=true:=by
 delta asc wy;rw[Array.all_eq_true_iff_forall_mem];intro x a;simp -iota only[List.mem_toArray,jc] at a;obtain⟨l,_,rfl⟩:=a;cases l <;> decide
theorem bD(ls:List Lt):(wy ls).length=ls.length:=by simp -iota [Str.length,wy]
noncomputable def nh (l:Lt)(h:Int):Int:=if l=.r then h else (h + 1) / 2
noncomputable def nw (l:Lt)(w:Int):Int:=if l=.p then w else (w + 1) / 2
noncomputable def jh (h w:Int):List Lt->List (Int×Int)
 | []=>[(h,w)]
 | l::ls=>(h,w)::jh (nh l h) (nw l w) ls
theorem jA (h w:Int):∀ ls:List Lt,(jh h w ls).length=ls.length + 1
 | []=>rfl
 | l::ls=>by rw[jh,eK,jA];rfl
noncomputable def cD (c:Int×Int):D:=.tup [.int c.1,.int c.2]
def Can (l:Lt)(h w:Int):Prop:=(l≠.p->2<=w)/\(l≠.r->2<=h)
noncomputable def Good (h w:Int):List Lt->Prop
 | []=>True
 | l::ls=>Can l h w/\Good (nh l h) (nw l w) ls
structure j_ (h w:Int):Prop where
 h1:1<=h
 w1:1<=w
 h2:h<=64
 w2:w<=64
 m:h * w<=512
noncomputable def cat (h w:Int)(ls:List Lt)(k:Nat):Int×Int:=(jh h w ls).getD k (0,0)
theorem A9{h w:Int}{ls:List Lt}(a:k<=ls.length):(jh h w ls)[k]?=some (cat h w ls k):=by
 delta cat
 have:k < (jh h w ls).length:=by rw[jA];lia
 rw[dq,gE0 this];rfl
theorem Nr{h w:Int}{ls:List Lt}(a:k<=ls.length):((jh h w ls).map cD)[k]?=some (cD (cat h w ls k)):=by rw[ba,A9 a];rfl
theorem mQ(h w:Int)(ls:List Lt):cat h w ls 0=(h,w):=by cases ls <;> rfl
theorem ym{h w:Int}{l:Lt}{ls:List Lt}:cat h w (l::ls) (k + 1)=cat (nh l h) (nw l w) ls k:=rfl
theorem tM:∀ {ls:List Lt} {h w:Int} {k:Nat} {l:Lt},ls[k]?=some l->cat h w ls (k + 1)=(nh l (cat h w ls k).1,nw l (cat h w ls k).2)
 | [],_,_,k,l,e=>by simp -iota at e
 | l0::ls,h,w,0,l,e=>by
  have:l0=l:=by simpa using e
  subst this;rw[ym,mQ,mQ]
 | l0::ls,h,w,k + 1,l,e=>by
  rw[ym,ym];exact tM (by simpa using e)
theorem wF:∀ {ls:List Lt} {h w:Int} {k:Nat} {l:Lt},Good h w ls->ls[k]?=some l->Can l (cat h w ls k).1 (cat h w ls k).2
 | [],_,_,k,l,_,e=>by simp -iota at e
 | l0::ls,h,w,0,l,g,e=>by
  have:l0=l:=by simpa using e
  subst this;rw[mQ];exact g.1
 | l0::ls,h,w,k + 1,l,g,e=>by
  rw[ym];exact wF g.2 (by simpa using e)
theorem Hg{l:Lt}{h w:Int}(c:Can l h w)(b:1<=h)(a:1<=w):1<=nh l h/\1<=nw l w/\nh l h<=h/\nw l w<=w:=by
 cases l <;> simp -iota [nh,nw] <;> lia
theorem wK:∀ {ls:List Lt} {h w:Int} {k:Nat},Good h w ls->1<=h->1<=w->k<=ls.length->1<=(cat h w ls k).1/\1<=(cat h w ls k).2/\(cat h w ls k).1<=h/\(cat h w ls k).2<=w
 | ls,h,w,0,_,i,e,_=>by rw[mQ];exact⟨i,e,LP _,LP _⟩
 | [],_,_,k + 1,_,_,_,f=>by simp -iota at f
 | l::ls,h,w,k + 1,g,i,e,f=>by
  rw[ym];obtain⟨a,b,c,d⟩:=Hg g.1 i e;obtain⟨o,n,m,j⟩:=wK (k:=k) g.2 a b (by simpa using f);exact⟨o,n,TJ m c,TJ j d⟩
theorem Bc{h w:Int}{ls:List Lt}(a:k<=ls.length):atI ((jh h w ls).map cD) (k:Int)=some (cD (cat h w ls k)):=dF (by lia) (by rw[et];exact Nr a)
theorem MT{l:Lt}:inV (V.str l.s) [V.str "r",V.str "b"]=!(l == .p):=by cases l <;> decide +kernel
theorem MU{l:Lt}:inV (V.str l.s) [V.str "p",V.str "b"]=!(l == .r):=by cases l <;> decide +kernel
theorem MQ{l:Lt}:in3 false (.str l.s) (kt ["r","b"]) Γ Q=Q (.fz (.bl (!(l == .p)))) Γ:=by
 refine propext ⟨λ⟨a,b,_,_,q⟩=>?_,λq=>⟨_,rfl,rfl,rfl,?_⟩⟩
 .have e:a=[D.str "r",D.str "b"]:=(hF b).symm;subst e;have q:Q (.fz (.bl (inV (V.str l.s) [V.str "r",V.str "b"]))) Γ:=q;rw[MT] at q;exact q
 .show Q (.fz (.bl (inV (V.str l.s) [V.str "r",V.str "b"]))) Γ;rw[MT];exact q
theorem MR{l:Lt}:in3 false (.str l.s) (kt ["p","b"]) Γ Q=Q (.fz (.bl (!(l == .r)))) Γ:=by
 refine propext ⟨λ⟨a,b,_,_,q⟩=>?_,λq=>⟨_,rfl,rfl,rfl,?_⟩⟩
 .have e:a=[D.str "p",D.str "b"]:=(hF b).symm;subst e;have q:Q (.fz (.bl (inV (V.str l.s) [V.str "p",V.str "b"]))) Γ:=q;rw[MU] at q;exact q
 .show Q (.fz (.bl (inV (V.str l.s) [V.str "p",V.str "b"]))) Γ;rw[MU];exact q
theorem Fg{b a:Type}{f:b->a}{xs:List b}{i:Int}{c:a}(e:atI (xs.map f) i=some c):∃ l,atI xs i=some l/\c=f l:=by
 delta _2.atI at e ⊢;rw[lM0] at e;cases q:ixN xs.length i with
 | none=>rw[q] at e;cases e
 | some j=>
  rw[q] at e;have e:(xs.map f)[j]?=some c:=e;rw[ba] at e;cases z:xs[j]? with
  | none=>rw[z] at e;cases e
  | some l=>rw[z] at e;cases e;exact⟨l,z,rfl⟩
def IQ (ls:List Lt)(i:Int)(k:Lt->Prop)(_:Tag k):Prop:=(wy ls).length<=sizeLine/\∃ l,atI ls i=some l/\k l
theorem ML{ls:List Lt}{i:Int}:ix3 (.str (wy ls)) (.int i) Γ Q=IQ ls i (λl=>Q (.fz (.str l.s)) Γ) ⟨⟩:=by
 refine propext ⟨λ⟨b,c,a,q⟩=>⟨b,?_⟩,λ⟨b,l,a,q⟩=>⟨b,l.c,?_,q⟩⟩
 .obtain⟨l,d,rfl⟩:=Fg (f:=Lt.c) (xs:=ls) (by simpa [wy] using a);exact⟨l,d,q⟩
 .have:=Bb (f:=Lt.c) a;simpa [wy] using this
theorem atL{ls:List Lt}{l:Lt}(h:ls[k]?=some l):atI ls (k:Int)=some l:=dF (by lia) (by rw[et];exact h)
theorem sEr{l:Lt}:(l.s == ("r":Str))=(l == .r):=by cases l <;> decide +kernel
theorem sEp{l:Lt}:(l.s == ("p":Str))=(l == .p):=by cases l <;> decide +kernel
theorem OR{a b c d e f:D}:cut [a,b,c,d,e,f] (some 2) none=[c,d,e,f]:=rfl
theorem Oq:(("corners":Str) == ("chosen":Str))=false:=by decide +kernel
theorem Om:(("letters":Str) == ("chosen":Str))=false:=by decide +kernel
theorem Oj:(("letters":Str) == ("corners":Str))=false:=by decide +kernel
theorem Mv:(Lt.r == Lt.r)=true:=rfl
theorem Mw:(Lt.r == Lt.p)=false:=rfl
theorem My:(Lt.p == Lt.r)=false:=rfl
theorem Mz:(Lt.p == Lt.p)=true:=rfl
theorem MB:(Lt.b == Lt.r)=false:=rfl
theorem MC:(Lt.b == Lt.p)=false:=rfl
theorem Mx:(Lt.r == Lt.b)=false:=rfl
theorem MA:(Lt.p == Lt.b)=false:=rfl
theorem MD:(Lt.b == Lt.b)=true:=rfl
theorem NF{c:Bool}{x y:D}:atI [x,y] (if c=true then 1 else 0)=some (if c=true then y else x):=by cases c <;> rfl
noncomputable def xM:On->G->Nat->Option D
 | some a::ls,s::cs,j=>cond (a == j) (match s with
   | some (.ln d)=>some d
   | _=>xM ls cs j) (xM ls cs j)
 | none::ls,_::cs,j=>xM ls cs j
 | _,_,_=>none
theorem wz:∀ {ls:On} {cs:G} {j:Nat},xM ls cs j=newD ls cs j
 | some a::ls,s::cs,j=>by
  unfold xM newD;rw[wz (ls:=ls)];by_cases h:a=j
  .subst h;rw[if_pos rfl,beq_self_eq_true];rfl
  .rw[if_neg h,beq_false_of_ne h];rfl
 | none::ls,_::cs,j=>wz (ls:=ls)
 | [],_,_=>rfl
 | some _::_,[],_=>rfl
 | none::_,[],_=>rfl
noncomputable def vi (ls:On)(cs:G):Nat->G->G
 | _,[]=>[]
 | k,s::r=>fV (xM ls cs k) s::vi ls cs (k + 1) r
theorem tP {ls:On}{cs:G}:∀ {k:Nat} {Γ:G},vi ls cs k Γ=tQ k ls Γ cs
 | _,[]=>rfl
 | k,s::r=>by unfold vi;rw[zK,wz,tP]
theorem Hk{ls:On}{cs:G}:bE ls Γ cs=vi ls cs 0 Γ:=Hl.trans tP.symm
theorem mpc{b c:Type}{f:b->c}{a:b}{l:List b}:(a::l).map f=f a::l.map f:=rfl
theorem mpn{b a:Type}{f:b->a}:[].map f=[]:=rfl
set_option bootstrap.genMatcherCode true in
def mkL(s:String):Lean.MacroM (Array (Lean.TSyntax [`Lean.Parser.Tactic.simpStar,`Lean.Parser.Tactic.simpErase,`Lean.Parser.Tactic.simpLemma])):=do
 let mut xs:=#[]
 for w in s.splitOn " " do
  let n:=(w.dropWhile (·=='↓')).toString.toName
  let i:=match (<-Lean.Macro.resolveGlobalName n) with
   |(c,[])::_=>Lean.mkCIdent c
   |_=>Lean.mkIdent n
  let t<-if w.startsWith "↓" then `(Lean.Parser.Tactic.simpLemma|↓$i:ident) else `(Lean.Parser.Tactic.simpLemma|$i:ident)
  xs:=xs.push ⟨t.raw⟩
 return xs
set_option bootstrap.genMatcherCode true in
local macro_rules | `(tactic| walk_at "q2")=>do `(tactic| try simp -dsimp only [$(<-mkL "kC List.length_cons List.length_nil Nat.reduceAdd Nat.reduceSub Nat.zero_add List.replicate List.cons_append List.nil_append List.append_nil ↓sQ ↓sS ↓sP ↓M5 ↓KO ↓xZ ↓Fe ↓Ff ↓Fb ↓Fd ↓KH ↓rN ↓Ja q9 ↓x6 ↓x8 ↓oP ↓n_ ↓sR ↓Iz ↓OI ↓OH ↓KP ↓M7 ↓h_c dQ Fp ↓xY ↓Na ↓OF ↓M6 vj Mg ↓M8 ↓M1 Gat Bo.at ats RV.d RV.sl yx i2 i2' wH ↓MO ↓MM nU nS GN GO zh GU mx3 zt J8 sY KZ KU KW sZ sl3 LM ↓KL ↓KG sN yH is3 knD dB dI dL dT ↓M_ qi beq_self_eq_true kf Ep List.zip_cons_cons List.lookup_cons List.lookup_nil ↓FC DU sO ↓Ke G7 ↓MX GC dS RV.fz.injEq ↓FA cY putD tgN tgT gives frees iL3 iR1 iE3 ↓oO ↓Hf ↓EL ↓K3 List.isEmpty_nil List.isEmpty_cons ↓KQ ↓G3 K5 K6 ↓M9 ↓Kd c6 p7 gz du cM mpc mpn Option.bind_some Option.bind_none List.nodup_nil List.nodup_cons List.getElem?_cons_zero List.getElem?_cons_succ List.getElem?_nil List.set_cons_zero List.set_cons_succ exists_eq_left' exists_eq_left exists_eq' exists_eq exists_and_left exists_and_right Option.some.injEq D.int.injEq D.lst.injEq D.str.injEq D.tup.injEq D.bl.injEq D.ins.injEq D.ty.injEq List.cons.injEq and_true true_and and_false false_and true_or false_or or_false or_true and_assoc List.not_mem_nil not_false_eq_true zL tI Co qY Ni yf Nj yg Bool.false_xor Bool.not_true Bool.not_false Bool.true_xor nO List.mapIdx_cons List.mapIdx_nil Hk vi cond_true cond_false Nat.reduceBEq Nat.reduceLT decide_true E4 E5 E6 ite_self xM Option.getD_some Option.getD_none NJ NI NH NG Kz Ky Kx if_pos if_true if_false List.all_cons List.all_nil Option.isNone_none Bool.and_true Bool.true_and decide_eq_true_eq not_true not_false_iff reduceCtorEq eq_self Bool.false_eq_true reduceIte Int.reduceEq OW OS OT OX OV OU KY frL Nat.reduceEqDiff ↓fz3 D.adr.injEq Jl ↓He ↓G2 ↓KJ Lk Ji N0 ↓KR ↓ML sEr sEp OR ↓MQ ↓MR Oq Om Oj Mv Mw My Mz MB MC Mx MA MD NF LL iR2 MY ext3 ↓OG kf ↓zM J6 Of Oc Od Oe ↓M4 Ip ↓G1 ↓G0 ↓M3 ↓KD ↓G4 p2D"),*])
noncomputable def top (i:Nat):Stmt:=Qg.main.body.getD i (.Pass ⟨0,0,0,0⟩)
noncomputable abbrev mW:Stmt:=top 14
noncomputable abbrev pE:Stmt:=top 18
noncomputable abbrev eN:Stmt:=top 19
noncomputable abbrev i6:Stmt:=top 21
noncomputable abbrev kM:Stmt:=inClass (top 25) 0
noncomputable abbrev i9:Stmt:=inClass (top 26) 0
noncomputable abbrev gZ:Stmt:=inClass (top 33) 0
noncomputable abbrev gY:Stmt:=inClass (top 34) 0
noncomputable abbrev kH:Stmt:=top 35
noncomputable abbrev pz:Stmt:=top 36
noncomputable abbrev kG:Stmt:=top 40
noncomputable abbrev jO:Stmt:=top 41
noncomputable abbrev gb:Stmt:=inClass (top 43) 0
noncomputable abbrev kN:Stmt:=inClass (top 43) 3
noncomputable abbrev mY:Stmt:=inClass (top 43) 4
noncomputable abbrev jT:Stmt:=inClass (top 43) 5
noncomputable abbrev i8:Stmt:=inClass (top 43) 6
noncomputable abbrev kF:Stmt:=top 45
noncomputable abbrev q_:Stmt:=top 46
noncomputable abbrev pC:Stmt:=top 47
noncomputable abbrev jM:Stmt:=top 48
noncomputable abbrev kE:Stmt:=top 49
noncomputable abbrev f_:Stmt:=top 50
noncomputable abbrev dh:Stmt:=top 51
noncomputable abbrev dj:Stmt:=top 52
noncomputable abbrev bW:Stmt:=top 53
noncomputable abbrev i5:Stmt:=top 54
noncomputable abbrev gT:Stmt:=top 55
noncomputable abbrev jN:Stmt:=top 56
noncomputable abbrev gW:Stmt:=top 57
noncomputable abbrev gU:Stmt:=top 60
noncomputable abbrev dz:Stmt:=top 61
noncomputable abbrev lQ:Stmt:=top 63
noncomputable abbrev gK:Stmt:=top 64
noncomputable abbrev jL:Stmt:=top 65
noncomputable abbrev vM:Stmt:=top 66
noncomputable abbrev vL:Stmt:=top 67
noncomputable abbrev r8:Stmt:=top 68
noncomputable abbrev kL:Stmt:=top 70
noncomputable abbrev i7:Stmt:=top 71
noncomputable abbrev kI:Stmt:=top 72
noncomputable abbrev kJ:Stmt:=top 73
noncomputable abbrev mX:Stmt:=top 74
noncomputable abbrev kK:Stmt:=top 75
noncomputable abbrev gX:Stmt:=top 76
noncomputable abbrev a8:Stmt:=top 77
noncomputable abbrev a9:Stmt:=top 78
noncomputable abbrev jR:Stmt:=top 79
noncomputable abbrev c8:Stmt:=top 80
noncomputable abbrev dk:Stmt:=top 81
noncomputable abbrev jS:Stmt:=top 82
noncomputable abbrev jQ:Stmt:=top 83
noncomputable abbrev fF:Stmt:=top 84
noncomputable abbrev jP:Stmt:=top 85
noncomputable abbrev C1:Stmt:=top 86
theorem xf:ar ["thing","low","high"] ["thing","low","high"] (ah mW):=⟨rfl,rfl,rfl,by decide +kernel,rfl,by decide +kernel,by decide +kernel⟩
theorem yR:ar ["height","width"] ["height","width"] (ah pE):=⟨rfl,rfl,rfl,by decide +kernel,rfl,by decide +kernel,by decide +kernel⟩
theorem mU:ar ["thing","height","width"] ["thing","height","width"] (ah eN):=⟨rfl,rfl,rfl,by decide +kernel,rfl,by decide +kernel,by decide +kernel⟩
theorem gR:ar ["plan","step","thing","height","width"] ["plan","step","thing"] (ah i6):=⟨rfl,rfl,rfl,by decide +kernel,rfl,by decide +kernel,by decide +kernel⟩
theorem vI:ar ["self"] ["self"] (ah kM):=⟨rfl,rfl,rfl,by decide +kernel,rfl,by decide +kernel,by decide +kernel⟩
theorem rZ:ar ["self"] ["self"] (ah i9):=⟨rfl,rfl,rfl,by decide +kernel,rfl,by decide +kernel,by decide +kernel⟩
theorem qQ:ar ["self"] ["self"] (ah gZ):=⟨rfl,rfl,rfl,by decide +kernel,rfl,by decide +kernel,by decide +kernel⟩
theorem qP:ar ["self"] ["self"] (ah gY):=⟨rfl,rfl,rfl,by decide +kernel,rfl,by decide +kernel,by decide +kernel⟩
theorem vG:ar [] [] (ah kH):=⟨rfl,rfl,rfl,by decide +kernel,rfl,by decide +kernel,by decide +kernel⟩
theorem rV:ar ["word","rule"] ["word"] (ah pz):=⟨rfl,rfl,rfl,by decide +kernel,rfl,by decide +kernel,by decide +kernel⟩
theorem vF:ar ["letter","height","width"] ["letter","height","width"] (ah kG):=⟨rfl,rfl,rfl,by decide +kernel,rfl,by decide +kernel,by decide +kernel⟩
theorem dC:ar ["height","width","way","corners","letter"] ["height","width","way"] (ah jO):=⟨rfl,rfl,rfl,by decide +kernel,rfl,by decide +kernel,by decide +kernel⟩
theorem pq:ar ["self","height","width","word","way"] ["self","height","width","word","way"] (ah gb):=⟨rfl,rfl,rfl,by decide +kernel,rfl,by decide +kernel,by decide +kernel⟩
theorem vJ:ar ["self"] ["self"] (ah kN):=⟨rfl,rfl,rfl,by decide +kernel,rfl,by decide +kernel,by decide +kernel⟩
theorem xg:ar ["self"] ["self"] (ah mY):=⟨rfl,rfl,rfl,by decide +kernel,rfl,by decide +kernel,by decide +kernel⟩
theorem t9:ar ["self"] ["self"] (ah jT):=⟨rfl,rfl,rfl,by decide +kernel,rfl,by decide +kernel,by decide +kernel⟩
theorem rY:ar ["self","step"] ["self","step"] (ah i8):=⟨rfl,rfl,rfl,by decide +kernel,rfl,by decide +kernel,by decide +kernel⟩
theorem vE:ar ["many"] ["many"] (ah kF):=⟨rfl,rfl,rfl,by decide +kernel,rfl,by decide +kernel,by decide +kernel⟩
theorem CW:ar ["numbers","many"] ["numbers","many"] (ah q_):=⟨rfl,rfl,rfl,by decide +kernel,rfl,by decide +kernel,by decide +kernel⟩
noncomputable def tN:Scope:={ kind:=.function,names:=[(".0",.local),("number",.local),("many",.free)],isGenerator:=false,isCoroutine:=false,more:=[] }
theorem qI:Blk ["numbers","many"] (ah q_) tN ["number","many"] [none,some 1]:=⟨rfl,by decide +kernel,by decide +kernel,by decide +kernel,by decide +kernel,rfl,by decide +kernel⟩
theorem yQ:ar ["many","at"] ["many","at"] (ah pC):=⟨rfl,rfl,rfl,by decide +kernel,rfl,by decide +kernel,by decide +kernel⟩
theorem t6:ar ["many","at"] ["many","at"] (ah jM):=⟨rfl,rfl,rfl,by decide +kernel,rfl,by decide +kernel,by decide +kernel⟩
theorem vD:ar ["many","place"] ["many","place"] (ah kE):=⟨rfl,rfl,rfl,by decide +kernel,rfl,by decide +kernel,by decide +kernel⟩
theorem pj:ar ["many","place"] ["many","place"] (ah f_):=⟨rfl,rfl,rfl,by decide +kernel,rfl,by decide +kernel,by decide +kernel⟩
theorem eJ:ar ["many","place","at","sums"] ["many","place"] (ah dh):=⟨rfl,rfl,rfl,by decide +kernel,rfl,by decide +kernel,by decide +kernel⟩
noncomputable def jC:Scope:={ kind:=.function,names:=[(".0",.local),("one",.local),("hung",.local),("pair_at",.globalImplicit),("many",.free)],isGenerator:=false,isCoroutine:=false,more:=[] }
theorem c_:Blk ["many","place","at","sums"] (ah dh) jC ["one","hung","many"] [none,none,some 0]:=⟨rfl,by decide +kernel,by decide +kernel,by decide +kernel,by decide +kernel,rfl,by decide +kernel⟩
theorem eM:ar ["many","place","at","differences"] ["many","place"] (ah dj):=⟨rfl,rfl,rfl,by decide +kernel,rfl,by decide +kernel,by decide +kernel⟩
noncomputable def jD:Scope:={ kind:=.function,names:=[(".0",.local),("one",.local),("hung",.local),("guessed_at",.globalImplicit),("many",.free)],isGenerator:=false,isCoroutine:=false,more:=[] }
theorem dd:Blk ["many","place","at","differences"] (ah dj) jD ["one","hung","many"] [none,none,some 0]:=⟨rfl,by decide +kernel,by decide +kernel,by decide +kernel,by decide +kernel,rfl,by decide +kernel⟩
theorem iY:ar ["many","numbers"] ["many","numbers"] (ah bW):=⟨rfl,rfl,rfl,by decide +kernel,rfl,by decide +kernel,by decide +kernel⟩
noncomputable def fj:Scope:={ kind:=.function,names:=[(".0",.local),("number",.local),("many_sums",.globalImplicit),("many",.free)],isGenerator:=false,isCoroutine:=false,more:=[] }
theorem cZ:Blk ["many","numbers"] (ah bW) fj ["number","many"] [none,some 0]:=⟨rfl,by decide +kernel,by decide +kernel,by decide +kernel,by decide +kernel,rfl,by decide +kernel⟩
theorem kD:ar ["many","place","at"] ["many","place"] (ah i5):=⟨rfl,rfl,rfl,by decide +kernel,rfl,by decide +kernel,by decide +kernel⟩
theorem kd:ar ["many","place","at"] ["many","place"] (ah gT):=⟨rfl,rfl,rfl,by decide +kernel,rfl,by decide +kernel,by decide +kernel⟩
theorem t7:ar ["many","at"] ["many","at"] (ah jN):=⟨rfl,rfl,rfl,by decide +kernel,rfl,by decide +kernel,by decide +kernel⟩
theorem fZ:ar ["many","place","at","places"] ["many","place"] (ah gW):=⟨rfl,rfl,rfl,by decide +kernel,rfl,by decide +kernel,by decide +kernel⟩
theorem ke:ar ["word","many","place","deed"] ["word","many","place"] (ah gU):=⟨rfl,rfl,rfl,by decide +kernel,rfl,by decide +kernel,by decide +kernel⟩
theorem fI:ar ["word","many","place","deed"] ["word","many","place"] (ah dz):=⟨rfl,rfl,rfl,by decide +kernel,rfl,by decide +kernel,by decide +kernel⟩
theorem yP:ar ["places"] ["places"] (ah lQ):=⟨rfl,rfl,rfl,by decide +kernel,rfl,by decide +kernel,by decide +kernel⟩
noncomputable def pZ:Scope:={ kind:=.function,names:=[(".0",.local),("y",.local),("x",.local)],isGenerator:=false,isCoroutine:=false,more:=[] }
theorem jk:Blk ["places"] (ah lQ) pZ ["y","x"] [none,none]:=⟨rfl,by decide +kernel,by decide +kernel,by decide +kernel,by decide +kernel,rfl,by decide +kernel⟩
theorem mV:ar ["told","word","places","height","width","inside","outside"] ["told","word","places","height","width"] (ah gK):=⟨rfl,rfl,rfl,by decide +kernel,rfl,by decide +kernel,by decide +kernel⟩
noncomputable def p6:Scope:={ kind:=.function,names:=[(".0",.local),("y",.local),("x",.local),("other",.local),("told",.free),("width",.free),("word",.free)],isGenerator:=false,isCoroutine:=false,more:=[] }
theorem fH:Blk ["told","word","places","height","width","inside","outside"] (ah gK) p6 ["y","x","other","told","width","word"] [none,none,none,some 0,some 4,some 1]:=⟨rfl,by decide +kernel,by decide +kernel,by decide +kernel,by decide +kernel,rfl,by decide +kernel⟩
noncomputable def p5:Scope:={ kind:=.function,names:=[(".0",.local),("y",.local),("x",.local),("height",.free),("width",.free)],isGenerator:=false,isCoroutine:=false,more:=[] }
theorem jn:Blk ["told","word","places","height","width","inside","outside"] (ah gK) p5 ["y","x","height","width"] [none,none,some 3,some 4]:=⟨rfl,by decide +kernel,by decide +kernel,by decide +kernel,by decide +kernel,rfl,by decide +kernel⟩
noncomputable def p4:Scope:={ kind:=.function,names:=[(".0",.local),("y",.local),("x",.local),("height",.free),("width",.free)],isGenerator:=false,isCoroutine:=false,more:=[] }
theorem jm:Blk ["told","word","places","height","width","inside","outside"] (ah gK) p4 ["y","x","height","width"] [none,none,some 3,some 4]:=⟨rfl,by decide +kernel,by decide +kernel,by decide +kernel,by decide +kernel,rfl,by decide +kernel⟩
theorem t5:ar ["told","word","places","height","width"] ["told","word","places","height","width"] (ah jL):=⟨rfl,rfl,rfl,by decide +kernel,rfl,by decide +kernel,by decide +kernel⟩
theorem fJ:ar ["plan","place","word","places","step","height","width"] ["plan","place"] (ah vM):=⟨rfl,rfl,rfl,by decide +kernel,rfl,by decide +kernel,by decide +kernel⟩
theorem CV:ar ["plan","place"] ["plan","place"] (ah vL):=⟨rfl,rfl,rfl,by decide +kernel,rfl,by decide +kernel,by decide +kernel⟩
theorem e_:ar ["plan","step","places","word","later","height","width"] ["plan","step","places"] (ah r8):=⟨rfl,rfl,rfl,by decide +kernel,rfl,by decide +kernel,by decide +kernel⟩
theorem vH:ar ["_law_script","_law_k"] ["_law_script","_law_k"] (ah kL):=⟨rfl,rfl,rfl,by decide +kernel,rfl,by decide +kernel,by decide +kernel⟩
theorem rW:ar ["_law_cell_here"] ["_law_cell_here"] (ah i7):=⟨rfl,rfl,rfl,by decide +kernel,rfl,by decide +kernel,by decide +kernel⟩
theorem gF:ar ["_law_stream_here","_law_many","_law_digit","_law_number"] ["_law_stream_here","_law_many"] (ah kI):=⟨rfl,rfl,rfl,by decide +kernel,rfl,by decide +kernel,by decide +kernel⟩
theorem gG:ar ["_law_stream_here","_law_far","_law_way_here","_law_great","_law_height"] ["_law_stream_here","_law_far"] (ah kJ):=⟨rfl,rfl,rfl,by decide +kernel,rfl,by decide +kernel,by decide +kernel⟩
theorem cC:ar ["_law_stream_here","_law_height","_law_width","_law_most","_law_way_here","_law_k","_law_some","_law_letter"] ["_law_stream_here","_law_height","_law_width","_law_most"] (ah mX):=⟨rfl,rfl,rfl,by decide +kernel,rfl,by decide +kernel,by decide +kernel⟩
theorem gH:ar ["_law_stream_here","_law_far","_law_word","_law_height","_law_width"] ["_law_stream_here","_law_far"] (ah kK):=⟨rfl,rfl,rfl,by decide +kernel,rfl,by decide +kernel,by decide +kernel⟩
theorem bY:ar ["_law_told","_law_height","_law_width","_law_found","_law_letter"] ["_law_told"] (ah gX):=⟨rfl,rfl,rfl,by decide +kernel,rfl,by decide +kernel,by decide +kernel⟩
theorem aD:ar ["_law_word","_law_row","_law_many","_law_both","_law_sums","_law_firsts","_law_later","_law_fine","_law_ahead","_law_behind"] ["_law_word","_law_row"] (ah a8):=⟨rfl,rfl,rfl,by decide +kernel,rfl,by decide +kernel,by decide +kernel⟩
noncomputable def iu:Scope:={ kind:=.function,names:=[(".0",.local),("_law_k",.local),("_law_ahead",.free),("_law_behind",.free),("_law_both",.free)],isGenerator:=false,isCoroutine:=false,more:=[] }
theorem d_:Blk ["_law_word","_law_row","_law_many","_law_both","_law_sums","_law_firsts","_law_later","_law_fine","_law_ahead","_law_behind"] (ah a8) iu ["_law_k","_law_ahead","_law_behind","_law_both"] [none,some 8,some 9,some 3]:=⟨rfl,by decide +kernel,by decide +kernel,by decide +kernel,by decide +kernel,rfl,by decide +kernel⟩
noncomputable def iq:Scope:={ kind:=.function,names:=[(".0",.local),("_law_k",.local),("_law_ahead",.free),("_law_behind",.free),("_law_firsts",.free)],isGenerator:=false,isCoroutine:=false,more:=[] }
theorem dZ:Blk ["_law_word","_law_row","_law_many","_law_both","_law_sums","_law_firsts","_law_later","_law_fine","_law_ahead","_law_behind"] (ah a8) iq ["_law_k","_law_ahead","_law_behind","_law_firsts"] [none,some 8,some 9,some 5]:=⟨rfl,by decide +kernel,by decide +kernel,by decide +kernel,by decide +kernel,rfl,by decide +kernel⟩
noncomputable def ip:Scope:={ kind:=.function,names:=[(".0",.local),("_law_k",.local),("_law_both",.free),("_law_later",.free)],isGenerator:=false,isCoroutine:=false,more:=[] }
theorem dY:Blk ["_law_word","_law_row","_law_many","_law_both","_law_sums","_law_firsts","_law_later","_law_fine","_law_ahead","_law_behind"] (ah a8) ip ["_law_k","_law_both","_law_later"] [none,some 3,some 6]:=⟨rfl,by decide +kernel,by decide +kernel,by decide +kernel,by decide +kernel,rfl,by decide +kernel⟩
noncomputable def ik:Scope:={ kind:=.function,names:=[(".0",.local),("_law_k",.local),("_law_row",.free)],isGenerator:=false,isCoroutine:=false,more:=[] }
theorem dX:Blk ["_law_word","_law_row","_law_many","_law_both","_law_sums","_law_firsts","_law_later","_law_fine","_law_ahead","_law_behind"] (ah a8) ik ["_law_k","_law_row"] [none,some 1]:=⟨rfl,by decide +kernel,by decide +kernel,by decide +kernel,by decide +kernel,rfl,by decide +kernel⟩
theorem aE:ar ["_law_word","_law_row","_law_many","_law_sums","_law_fine","_law_ahead","_law_behind","_law_firsts","_law_later","_law_both"] ["_law_word","_law_row"] (ah a9):=⟨rfl,rfl,rfl,by decide +kernel,rfl,by decide +kernel,by decide +kernel⟩
noncomputable def iz:Scope:={ kind:=.function,names:=[(".0",.local),("_law_k",.local),("_law_ahead",.free),("_law_behind",.free),("_law_both",.free)],isGenerator:=false,isCoroutine:=false,more:=[] }
theorem eB:Blk ["_law_word","_law_row","_law_many","_law_sums","_law_fine","_law_ahead","_law_behind","_law_firsts","_law_later","_law_both"] (ah a9) iz ["_law_k","_law_ahead","_law_behind","_law_both"] [none,some 5,some 6,some 9]:=⟨rfl,by decide +kernel,by decide +kernel,by decide +kernel,by decide +kernel,rfl,by decide +kernel⟩
noncomputable def iy:Scope:={ kind:=.function,names:=[(".0",.local),("_law_k",.local),("_law_fine",.free),("_law_sums",.free)],isGenerator:=false,isCoroutine:=false,more:=[] }
theorem eA:Blk ["_law_word","_law_row","_law_many","_law_sums","_law_fine","_law_ahead","_law_behind","_law_firsts","_law_later","_law_both"] (ah a9) iy ["_law_k","_law_fine","_law_sums"] [none,some 4,some 3]:=⟨rfl,by decide +kernel,by decide +kernel,by decide +kernel,by decide +kernel,rfl,by decide +kernel⟩
noncomputable def ix:Scope:={ kind:=.function,names:=[(".0",.local),("_law_k",.local),("_law_fine",.free),("_law_firsts",.free),("_law_later",.free)],isGenerator:=false,isCoroutine:=false,more:=[] }
theorem eu:Blk ["_law_word","_law_row","_law_many","_law_sums","_law_fine","_law_ahead","_law_behind","_law_firsts","_law_later","_law_both"] (ah a9) ix ["_law_k","_law_fine","_law_firsts","_law_later"] [none,some 4,some 7,some 8]:=⟨rfl,by decide +kernel,by decide +kernel,by decide +kernel,by decide +kernel,rfl,by decide +kernel⟩
noncomputable def iw:Scope:={ kind:=.function,names:=[(".0",.local),("_law_k",.local),("_law_ahead",.free),("_law_behind",.free),("_law_sums",.free)],isGenerator:=false,isCoroutine:=false,more:=[] }
theorem ej:Blk ["_law_word","_law_row","_law_many","_law_sums","_law_fine","_law_ahead","_law_behind","_law_firsts","_law_later","_law_both"] (ah a9) iw ["_law_k","_law_ahead","_law_behind","_law_sums"] [none,some 5,some 6,some 3]:=⟨rfl,by decide +kernel,by decide +kernel,by decide +kernel,by decide +kernel,rfl,by decide +kernel⟩
theorem fE:ar ["_law_firsts","_law_seconds","_law_found","_law_k","_law_one"] ["_law_firsts","_law_seconds"] (ah jR):=⟨rfl,rfl,rfl,by decide +kernel,rfl,by decide +kernel,by decide +kernel⟩
theorem bN:ar ["_law_told","_law_rows","_law_step","_law_change","_law_height","_law_width","_law_turn","_law_y","_law_x","_law_pillar"] ["_law_told","_law_rows","_law_step","_law_change"] (ah c8):=⟨rfl,rfl,rfl,by decide +kernel,rfl,by decide +kernel,by decide +kernel⟩
noncomputable def kA:Scope:={ kind:=.function,names:=[(".0",.local),("_law_y",.local),("_law_rows",.free),("_law_x",.free)],isGenerator:=false,isCoroutine:=false,more:=[] }
theorem ij:Blk ["_law_told","_law_rows","_law_step","_law_change","_law_height","_law_width","_law_turn","_law_y","_law_x","_law_pillar"] (ah c8) kA ["_law_y","_law_rows","_law_x"] [none,some 1,some 8]:=⟨rfl,by decide +kernel,by decide +kernel,by decide +kernel,by decide +kernel,rfl,by decide +kernel⟩
noncomputable def kx:Scope:={ kind:=.function,names:=[(".0",.local),("_law_y",.local),("_law_rows",.free),("_law_x",.free)],isGenerator:=false,isCoroutine:=false,more:=[] }
theorem ig:Blk ["_law_told","_law_rows","_law_step","_law_change","_law_height","_law_width","_law_turn","_law_y","_law_x","_law_pillar"] (ah c8) kx ["_law_y","_law_rows","_law_x"] [none,some 1,some 8]:=⟨rfl,by decide +kernel,by decide +kernel,by decide +kernel,by decide +kernel,rfl,by decide +kernel⟩
theorem nD:ar ["_law_told"] ["_law_told"] (ah dk):=⟨rfl,rfl,rfl,by decide +kernel,rfl,by decide +kernel,by decide +kernel⟩
noncomputable def jG:Scope:={ kind:=.function,names:=[(".0",.local),("_law_y",.cell),("range",.globalImplicit),("_law_told",.free)],isGenerator:=false,isCoroutine:=false,more:=[] }
theorem fU:Blk ["_law_told"] (ah dk) jG ["_law_y","_law_told"] [none,some 0]:=⟨rfl,by decide +kernel,by decide +kernel,by decide +kernel,by decide +kernel,rfl,by decide +kernel⟩
noncomputable def jF:Scope:={ kind:=.function,names:=[(".0",.local),("_law_y",.cell),("range",.globalImplicit),("_law_told",.cell)],isGenerator:=false,isCoroutine:=false,more:=[] }
noncomputable def jE:Scope:={ kind:=.function,names:=[(".0",.local),("_law_x",.local),("_law_told",.free),("_law_y",.free)],isGenerator:=false,isCoroutine:=false,more:=[] }
theorem fR:Blk ["_law_y","_law_told"] (jF) jE ["_law_x","_law_told","_law_y"] [none,some 1,some 0]:=⟨rfl,by decide +kernel,by decide +kernel,by decide +kernel,by decide +kernel,rfl,by decide +kernel⟩
theorem i4:ar ["_law_told","_law_found","_law_step"] ["_law_told"] (ah jS):=⟨rfl,rfl,rfl,by decide +kernel,rfl,by decide +kernel,by decide +kernel⟩
theorem iZ:ar ["_law_told","_law_first","_law_found","_law_step"] ["_law_told","_law_first"] (ah jQ):=⟨rfl,rfl,rfl,by decide +kernel,rfl,by decide +kernel,by decide +kernel⟩
theorem rX:ar ["_law_told","_law_mask"] ["_law_told","_law_mask"] (ah fF):=⟨rfl,rfl,rfl,by decide +kernel,rfl,by decide +kernel,by decide +kernel⟩
noncomputable def lJ:Scope:={ kind:=.function,names:=[(".0",.local),("_law_k",.local),("_law_mask",.free),("_law_told",.free)],isGenerator:=false,isCoroutine:=false,more:=[] }
theorem iW:Blk ["_law_told","_law_mask"] (ah fF) lJ ["_law_k","_law_mask","_law_told"] [none,some 1,some 0]:=⟨rfl,by decide +kernel,by decide +kernel,by decide +kernel,by decide +kernel,rfl,by decide +kernel⟩
theorem mi:ar ["_law_door","_law_plan_here","_law_place","_law_due","_law_found"] ["_law_door","_law_plan_here","_law_place","_law_due"] (ah jP):=⟨rfl,rfl,rfl,by decide +kernel,rfl,by decide +kernel,by decide +kernel⟩
theorem fY:ar ["_law_script","_law_k","_law_stream_here","_law_told","_law_plan_here","_law_places_here","_law_turn","_law_ahead","_law_behind","_law_place","_law_y","_law_x"] ["_law_script"] (ah C1):=⟨rfl,rfl,rfl,by decide +kernel,rfl,by decide +kernel,by decide +kernel⟩
set_option genInjectivity false in
set_option genSizeOf false in
structure Ad where
 x:Nat->Addr
 y:Nat->tj
structure Txt (w:World) (K:Fg0) (mg:SV) (a:Ad):Prop where
 nu:Cls K (a.x 4)
 zd:mg "Guessed"=some (.ref (a.x 4))
 mk_Guessed:Mk0 K (a.x 4)
 pY:Cls K (a.x 5)
 BX:mg "Halves"=some (.ref (a.x 5))
 mk_Halves:Mk0 K (a.x 5)
 nq:Cls K (a.x 6)
 zc:mg "Leaning"=some (.ref (a.x 6))
 mk_Leaning:Mk0 K (a.x 6)
 bw:Cls K (a.x 7)
 GQ:mg "Plan"=some (.ref (a.x 7))
 wJ:Cls K (a.x 8)
 GP:mg "Sums"=some (.ref (a.x 8))
 mk_Sums:Mk0 K (a.x 8)
 kX:ft K (a.x 7) "chosen"
 ki:ft K (a.x 7) "corners"
 gk:ft K (a.x 7) "letters"
 cO:Lq K mg "ALONG_PILLARS" (a.x 0) ["p","b"]
 eU:Lq K mg "ALONG_ROWS" (a.x 1) ["r","b"]
 Cd:HE K w.params mg "SPREADS" (a.x 2) [("sum",(a.x 31)),("half",(a.x 31)),("guess",(a.x 33)),("lean",(a.x 32))]
 tL:HE K w.params mg "BACK_SPREADS" (a.x 3) [("sum",(a.x 35)),("half",(a.x 35)),("guess",(a.x 38)),("lean",(a.x 36))]
 tys:TyS K
 aZ:FX K mg "is_whole" "is_whole" mW (a.x 9) (a.y 0) ["thing","low","high"]
 lN:FX K mg "is_size" "is_size" pE (a.x 10) (a.y 1) ["height","width"]
 cU:FX K mg "is_place_within" "is_place_within" eN (a.x 11) (a.y 2) ["thing","height","width"]
 cx:FX K mg "check_place" "check_place" i6 (a.x 12) (a.y 3) ["plan","step","thing"]
 iH:FY K "word" "Sums.word" kM (a.x 13) (a.y 4) ["self"]
 fA:FY K "word" "Halves.word" i9 (a.x 14) (a.y 5) ["self"]
 eI:FY K "word" "Guessed.word" gZ (a.x 15) (a.y 6) ["self"]
 eF:FY K "word" "Leaning.word" gY (a.x 16) (a.y 7) ["self"]
 iD:FX K mg "all_rules" "all_rules" kH (a.x 17) (a.y 8) []
 lL:FX K mg "rule_of" "rule_of" pz (a.x 18) (a.y 9) ["word"]
 iC:FX K mg "can_halve" "can_halve" kG (a.x 19) (a.y 10) ["letter","height","width"]
 gA:FX K mg "corners_of" "corners_of" jO (a.x 20) (a.y 11) ["height","width","way"]
 kb:FY K "__init__" "Plan.__init__" gb (a.x 21) (a.y 12) ["self","height","width","word","way"]
 ck:FY K "rule" "Plan.rule" kN (a.x 22) (a.y 13) ["self"]
 gQ:FY K "way" "Plan.way" mY (a.x 23) (a.y 14) ["self"]
 gE:FY K "steps" "Plan.steps" jT (a.x 24) (a.y 15) ["self"]
 fv:FY K "corner" "Plan.corner" i8 (a.x 25) (a.y 16) ["self","step"]
 aG:FX K mg "many_sums" "many_sums" kF (a.x 26) (a.y 17) ["many"]
 b8:FX K mg "among" "among" q_ (a.x 27) (a.y 18) ["numbers","many"]
 cP:FX K mg "pair_at" "pair_at" pC (a.x 28) (a.y 19) ["many","at"]
 cH:FX K mg "guessed_at" "guessed_at" jM (a.x 29) (a.y 20) ["many","at"]
 cb:FX K mg "number_at" "number_at" kE (a.x 30) (a.y 21) ["many","place"]
 fW:FX K mg "paired_spread" "paired_spread" f_ (a.x 31) (a.y 22) ["many","place"]
 eZ:FX K mg "leaning_spread" "leaning_spread" dh (a.x 32) (a.y 23) ["many","place"]
 e7:FX K mg "guessed_spread" "guessed_spread" dj (a.x 33) (a.y 24) ["many","place"]
 au:FX K mg "places_of_differences" "places_of_differences" bW (a.x 34) (a.y 25) ["many","numbers"]
 iX:FX K mg "paired_back" "paired_back" i5 (a.x 35) (a.y 26) ["many","place"]
 gO:FX K mg "leaning_back" "leaning_back" gT (a.x 36) (a.y 27) ["many","place"]
 bQ:FX K mg "first_back" "first_back" jN (a.x 37) (a.y 28) ["many","at"]
 gP:FX K mg "guessed_back" "guessed_back" gW (a.x 38) (a.y 29) ["many","place"]
 c7:FX K mg "known_spread" "known_spread" gU (a.x 39) (a.y 30) ["word","many","place"]
 bZ:FX K mg "known_back_spread" "known_back_spread" dz (a.x 40) (a.y 31) ["word","many","place"]
 eY:FX K mg "swapped" "swapped" lQ (a.x 41) (a.y 32) ["places"]
 cQ:FX K mg "in_rows" "in_rows" gK (a.x 42) (a.y 33) ["told","word","places","height","width"]
 cG:FX K mg "in_pillars" "in_pillars" jL (a.x 43) (a.y 34) ["told","word","places","height","width"]
 lO:FX K mg "hangs" "hangs" vM (a.x 44) (a.y 35) ["plan","place"]
 lM:FX K mg "needs" "needs" vL (a.x 45) (a.y 36) ["plan","place"]
 nA:FX K mg "needed" "needed" r8 (a.x 46) (a.y 37) ["plan","step","places"]
 iG:FX K mg "_law_cell" "_law_cell" kL (a.x 47) (a.y 38) ["_law_script","_law_k"]
 fu:FX K mg "_law_stream" "_law_stream" i7 (a.x 48) (a.y 39) ["_law_cell_here"]
 aq:FX K mg "_law_take" "_law_take" kI (a.x 49) (a.y 40) ["_law_stream_here","_law_many"]
 iE:FX K mg "_law_size" "_law_size" kJ (a.x 50) (a.y 41) ["_law_stream_here","_law_far"]
 jK:FX K mg "_law_way" "_law_way" mX (a.x 51) (a.y 42) ["_law_stream_here","_law_height","_law_width","_law_most"]
 iF:FX K mg "_law_plan" "_law_plan" kK (a.x 52) (a.y 43) ["_law_stream_here","_law_far"]
 eD:FX K mg "_law_corners" "_law_corners" gX (a.x 53) (a.y 44) ["_law_told"]
 bJ:FX K mg "_law_masks_parted" "_law_masks_parted" a8 (a.x 54) (a.y 45) ["_law_word","_law_row"]
 bK:FX K mg "_law_masks_joined" "_law_masks_joined" a9 (a.x 55) (a.y 46) ["_law_word","_law_row"]
 cJ:FX K mg "_law_mixed" "_law_mixed" jR (a.x 56) (a.y 47) ["_law_firsts","_law_seconds"]
 cc:FX K mg "_law_stepped" "_law_stepped" c8 (a.x 57) (a.y 48) ["_law_told","_law_rows","_law_step","_law_change"]
 aJ:FX K mg "_law_mask_rows" "_law_mask_rows" dk (a.x 58) (a.y 49) ["_law_told"]
 gD:FX K mg "_law_hangs" "_law_hangs" jS (a.x 59) (a.y 50) ["_law_told"]
 gC:FX K mg "_law_needs" "_law_needs" jQ (a.x 60) (a.y 51) ["_law_told","_law_first"]
 cy:FX K mg "_law_places" "_law_places" fF (a.x 61) (a.y 52) ["_law_told","_law_mask"]
 cI:FX K mg "_law_right" "_law_right" jP (a.x 62) (a.y 53) ["_law_door","_law_plan_here","_law_place","_law_due"]
 Ls:FX K mg "law" "law" C1 (a.x 63) (a.y 54) ["_law_script"]
 mk_Plan:Mk K (a.x 7) (a.x 21)
 gn:Meth K (a.x 4) "word" (a.x 15)
 hU:Meth K (a.x 5) "word" (a.x 14)
 gm:Meth K (a.x 6) "word" (a.x 16)
 cq:Meth K (a.x 7) "rule" (a.x 22)
 iP:Meth K (a.x 7) "way" (a.x 23)
 je:Meth K (a.x 7) "steps" (a.x 24)
 g_:Meth K (a.x 7) "corner" (a.x 25)
 j4:Meth K (a.x 8) "word" (a.x 13)
 uf:∃ t,mg "MOST_PLACES"=some (.int 512 t)
 qH:∃ t,mg "MOST_SIDE"=some (.int 64 t)
 z_bool:mg "bool"=none
 z_enumerate:mg "enumerate"=none
 z_int:mg "int"=none
 z_isinstance:mg "isinstance"=none
 z_len:mg "len"=none
 z_list:mg "list"=none
 z_max:mg "max"=none
 z_min:mg "min"=none
 z_range:mg "range"=none
 z_reversed:mg "reversed"=none
 z_set:mg "set"=none
 z_sorted:mg "sorted"=none
 z_str:mg "str"=none
 z_tuple:mg "tuple"=none
 ty:gJ K
theorem snoc{f:Nat->D}{d:D}(h:d=f k):(cj k).map f++[d]=(cj (k + 1)).map f:=by
 rw[R0,dE,h];rfl
theorem AG{f:Nat->D}{d:D}(h:((cj n).map f)[k]?=some d):k < n/\d=f k:=by
 have lt:k < n:=by have:=(gS0 h).1;simpa using this
 rw[ba,mK lt] at h;cases h;exact⟨lt,rfl⟩
theorem small(h:n<=1000):n < sizeLine:=by rw[ew];lia
theorem Dx{a c:Type}(f:a->c)(xs:List a)(lo b st:Option Int):pk (xs.map f) lo b st=(pk xs lo b st).map f:=by
 delta pk;rw[lM0,S5]
 congr 1
 funext x
 rw[ba]
section
variable {a:Ad}
noncomputable def whD (d:D)(lo a:Int):Bool:=match d with
 | .int i=>decide (lo<=i) && decide (i<=a)
 | _=>false
def Fo:S3:=λΓ Q=>∃ (d:D) (lo hi:Int),Γ=[some (.fz d),some (.fz (.int lo)),some (.fz (.int hi))]/\knD d=true/\Q (.fz (.bl (whD d lo hi))) Γ
theorem fK(T:Txt w K mg a):aM P w K mg base CX0 1 (a.x 9) (a.y 0) ["thing","low","high"] (sp3 K 3 Fo):=by
 refine ok3 T.aZ.F xf (hbody:=λf A b s H E g=>⟨_,_,(ag (bX (P3W.pt (sk (cV (aS (Nz T.ty) (by rfl) T.z_isinstance (by decide +kernel) (aa (bv 0) (aa (P3.opd (xC (n:="bool") (by rfl) T.z_bool (by decide +kernel))) af)))) (nL (dJ (cV (aS (Ny T.ty) (by rfl) T.z_isinstance (by decide +kernel) (aa (bv 0) (aa (P3.opd (xC (n:="int") (by rfl) T.z_int (by decide +kernel))) af)))))))) (ak (ay kg)) aY)
   (ak (ay (DP A_ A_ (bv 1) (bv 0) (bv 2))))),λc Q h j=>?_⟩)
 obtain⟨d,lo,k,rfl,e,q⟩:=h;cases d <;> (try cases e) <;> walk_at "q2" <;> (try exact q)
 rename_i i;by_cases h:lo<=i
 .simp only[zD,h,decide_true];simpa only[whD,h,decide_true,Bool.true_and] using q
 .simp only[zD,h,decide_false];simpa only[whD,h,decide_false,Sb] using q
inductive Rl where
 | sum | half | guess | lean
noncomputable def Rl.cls (a:Ad):Rl->Addr
 | .sum=>(a.x 8) | .half=>(a.x 5) | .guess=>(a.x 4) | .lean=>(a.x 6)
noncomputable abbrev Rl.ob (a:Ad)(R:Rl):D:=.ins (R.cls a) [] []
noncomputable def Rl.num:Rl->Nat
 | .sum=>0 | .half=>1 | .guess=>2 | .lean=>3
noncomputable def Rl.word:Rl->Str
 | .sum=>"sum" | .half=>"half" | .guess=>"guess" | .lean=>"lean"
theorem bg(i:Int)(n:Nat):(rng i n).length=n:=by delta rng;simp
theorem cA{d:D}(h:(rng 0 n)[k]?=some d):k < n/\d=.int (k:Int):=by
 delta rng at h;obtain⟨b,a⟩:=AG h;exact⟨b,by rw[a];simp⟩
def rG (x:Str):S3:=λΓ Q=>∃ d,Γ=[some (.fz d)]/\Q (.fz (.str x)) Γ
theorem jX(T:Txt w K mg a):aM P w K mg base CX0 1 (a.x 13) (a.y 4) ["self"] (sp3 K 1 (rG "sum")):=by
 refine ok3 T.iH.F vI (hbody:=λe A b s H E f=>⟨_,_,(ak (ay cf)),λc Q h g=>?_⟩);obtain⟨d,rfl,q⟩:=h;walk_at "q2";exact q
theorem g9(T:Txt w K mg a):aM P w K mg base CX0 1 (a.x 14) (a.y 5) ["self"] (sp3 K 1 (rG "half")):=by
 refine ok3 T.fA.F rZ (hbody:=λe A b s H E f=>⟨_,_,(ak (ay cf)),λc Q h g=>?_⟩);obtain⟨d,rfl,q⟩:=h;walk_at "q2";exact q
theorem gi(T:Txt w K mg a):aM P w K mg base CX0 1 (a.x 15) (a.y 6) ["self"] (sp3 K 1 (rG "guess")):=by
 refine ok3 T.eI.F qQ (hbody:=λe A b s H E f=>⟨_,_,(ak (ay cf)),λc Q h g=>?_⟩);obtain⟨d,rfl,q⟩:=h;walk_at "q2";exact q
theorem gg(T:Txt w K mg a):aM P w K mg base CX0 1 (a.x 16) (a.y 7) ["self"] (sp3 K 1 (rG "lean")):=by
 refine ok3 T.eF.F qP (hbody:=λe A b s H E f=>⟨_,_,(ak (ay cf)),λc Q h g=>?_⟩);obtain⟨d,rfl,q⟩:=h;walk_at "q2";exact q
def FJ (a:Ad):S3:=λΓ Q=>Γ=[]/\Q (.fr (.lst [Rl.sum.ob a,Rl.half.ob a,Rl.guess.ob a,Rl.lean.ob a])) Γ
theorem wk(T:Txt w K mg a):aM P w K mg base CX0 1 (a.x 17) (a.y 8) [] (sp3 K 0 (FJ a)):=by
 refine ok3 T.iD.F vG (hbody:=λd A b s H E e=>⟨_,_,(ak (ay (br (ab (lV T.mk_Sums (by rfl) T.GP) (ab (lV T.mk_Halves (by rfl) T.BX) (ab (lV T.mk_Guessed (by rfl) T.zd) (ab (lV T.mk_Leaning (by rfl) T.zc) ai))))))),λc Q h f=>?_⟩);obtain⟨rfl,q⟩:=h;walk_at "q2";exact⟨by rw[ew];decide,q⟩
def Jj (a:Ad):S3:=λΓ Q=>∃ (R:Rl),Γ=[some (.fz (.str R.word))]/\Q (.fz (R.ob a)) Γ
theorem y6(T:Txt w K mg a):aM P w K mg base CX0 2 (a.x 18) (a.y 9) ["word"] (sp3 K 1 (Jj a)):=by
 refine ok3 T.lL.F rV (hbody:=λm A j s H E c=>⟨_,_,(ag (i_ kr rfl (cX (by rfl) (DQ (by rfl) (wk T) c.dn (by rfl) T.iD.m T.iD.F.kp T.iD.b)) (aL (i:=1) rV.nd rfl (ei rfl))
   (ak (bX (aK (fh (by rfl) c) (P3.opd (P3.or (aN (by rfl) (bv 1) T.wJ T.j4 (jX T) c.dn T.iH.b) (P3.or (aN (by rfl) (bv 1) T.pY T.hU (g9 T) c.dn T.fA.b) (P3.or (aN (by rfl) (bv 1) T.nu T.gn (gi T) c.dn T.eI.b) (aN (by rfl) (bv 1) T.nq T.gm (gg T) c.dn T.eF.b))))) (bv 0) (aO _)) (ak (ay (DL 1))) aY)))
   (ak jq)),λl Q h n=>?_⟩)
 obtain⟨R,rfl,q⟩:=h;walk_at "q2";refine⟨rfl,?_⟩;walk_at "q2";refine dD (λk g=>k<=R.num/\∃ s,g=[some (.fz (.str R.word)),fo s]) ⟨eg _,none,rfl⟩ ?_ ?_
 .rintro k d g b ⟨f,s,rfl⟩
  match k,b with
  | 0,b=>
   cases b;walk_at "q2";refine .inl ⟨rfl,_,rfl,?_⟩;walk_at "q2";refine gy (λe=>?_) (λe=>?_)
   .have hR:R=.sum:=by cases R <;> first | rfl | exact absurd e (by decide +kernel)
    subst hR;walk_at "q2";exact q
   .walk_at "q2";exact⟨by cases R <;> first | decide | exact absurd f (by decide) | exact absurd e (by decide +kernel),some _,rfl⟩
  | 1,b=>
   cases b;walk_at "q2";refine .inr (.inl ⟨rfl,_,rfl,?_⟩);walk_at "q2";refine gy (λe=>?_) (λe=>?_)
   .have hR:R=.half:=by cases R <;> first | rfl | exact absurd e (by decide +kernel)
    subst hR;walk_at "q2";exact q
   .walk_at "q2";exact⟨by cases R <;> first | decide | exact absurd f (by decide) | exact absurd e (by decide +kernel),some _,rfl⟩
  | 2,b=>
   cases b;walk_at "q2";refine .inr (.inr (.inl ⟨rfl,_,rfl,?_⟩));walk_at "q2";refine gy (λe=>?_) (λe=>?_)
   .have hR:R=.guess:=by cases R <;> first | rfl | exact absurd e (by decide +kernel)
    subst hR;walk_at "q2";exact q
   .walk_at "q2";exact⟨by cases R <;> first | decide | exact absurd f (by decide) | exact absurd e (by decide +kernel),some _,rfl⟩
  | 3,b=>
   cases b;walk_at "q2";refine .inr (.inr (.inr ⟨rfl,_,rfl,?_⟩));walk_at "q2";refine gy (λe=>?_) (λe=>?_)
   .have hR:R=.lean:=by cases R <;> first | rfl | exact absurd e (by decide +kernel)
    subst hR;walk_at "q2";exact q
   .walk_at "q2";exact⟨by cases R <;> first | decide | exact absurd f (by decide) | exact absurd e (by decide +kernel),some _,rfl⟩
 .rintro g ⟨f,_⟩;cases R <;> exact absurd (show 4<=_ from f) (by decide)
noncomputable abbrev plD (a:Ad)(R:Rl)(h w:Int)(ls:List Lt):D:=.ins (a.x 7) ["chosen","corners","letters"] [R.ob a,.tup ((jh h w ls).map cD),.str (wy ls)]
def Nt:S3:=λΓ Q=>∃ (l:Lt) (h w:Int),Γ=[some (.fz (.str l.s)),some (.fz (.int h)),some (.fz (.int w))]/\Can l h w/\Q (.fz (.bl true)) Γ
def Jf:S3:=λΓ Q=>∃ h w:Int,Γ=[some (.fz (.int h)),some (.fz (.int w))]/\j_ h w/\Q (.fz (.bl true)) Γ
theorem y7(T:Txt w K mg a):aM P w K mg base CX0 2 (a.x 10) (a.y 1) ["height","width"] (sp3 K 2 Jf):=by
 refine ok3 T.lN.F yR (hbody:=λe A b s H E c=>⟨_,_,(ag (bX (P3W.pt (sk (dJ (cV (aj (by rfl) (fK T) c.dn (by rfl) T.aZ.m T.aZ.F.kp T.aZ.b (aa (P3.opd (p3v 0)) (aa (P3.opd ae) (aa (P3.opd (we (i:=64) (by rfl) T.qH)) af)))))) (nL (dJ (cV (aj (by rfl) (fK T) c.dn (by rfl) T.aZ.m T.aZ.F.kp T.aZ.b (aa (P3.opd (p3v 1)) (aa (P3.opd ae) (aa (P3.opd (we (i:=64) (by rfl) T.qH)) af))))))))) (ak (ay kg)) aY)
   (ak (ay (gf A_ (P3.opd (cK (bv 0) (bv 1))) (P3.opd (we (i:=512) (by rfl) T.uf)) (aO _))))),λd Q h g=>?_⟩)
 obtain⟨h,w,rfl,⟨m,l,k,j,f⟩,q⟩:=h;walk_at "q2";refine⟨_,_,_,rfl,rfl,?_⟩;rw[show whD (.int h) 1 64=true by simp only[whD,kn,decide_eq_true_eq];lia];walk_at "q2";refine⟨_,_,_,rfl,rfl,?_⟩;rw[show whD (.int w) 1 64=true by simp only[whD,kn,decide_eq_true_eq];lia];walk_at "q2";refine⟨.inl ⟨by lia,by lia⟩,?_⟩;rw[show zD (h * w) 512=true by simp -iota only[zD,decide_eq_true_eq];exact f];exact q
theorem wj(T:Txt w K mg a):aM P w K mg base CX0 1 (a.x 19) (a.y 10) ["letter","height","width"] (sp3 K 3 Nt):=by
 refine ok3 T.iC.F vF (hbody:=λf A b s H E j=>⟨_,_,(ag (bX (P3W.pt (lU (aK (mR (by rfl)) (bv 0) (P3.opd (fG (p:=(a.x 1)) (zs:=["r","b"]) (by rfl) T.eU)) (by with_unfolding_all rfl)) (jr (aK oR (bv 2) (P3.opd ae) (aO _))))) (ak (ay kg)) aY)
   (ag (bX (P3W.pt (lU (aK (mR (by rfl)) (bv 0) (P3.opd (fG (p:=(a.x 0)) (zs:=["p","b"]) (by rfl) T.cO)) (by with_unfolding_all rfl)) (jr (aK oR (bv 1) (P3.opd ae) (aO _))))) (ak (ay kg)) aY)
   (ak (ay (Mf (gf (mR (by rfl)) (bv 0) (P3.opd (fG (p:=(a.x 1)) (zs:=["r","b"]) (by rfl) T.eU)) (by with_unfolding_all rfl)) (y3 (gf (mR (by rfl)) (bv 0) (P3.opd (fG (p:=(a.x 0)) (zs:=["p","b"]) (by rfl) T.cO)) (by with_unfolding_all rfl)))))))),λe Q h k=>?_⟩)
 obtain⟨l,h,w,rfl,⟨i,g⟩,q⟩:=h;have d:l≠.p->lA w 2=false:=λz=>by have:=i z;simp -iota only[lA,decide_eq_false_iff_not];lia
 have c:l≠.r->lA h 2=false:=λz=>by have:=g z;simp -iota only[lA,decide_eq_false_iff_not];lia
 cases l
 .walk_at "q2";rw[d (by decide)];walk_at "q2";exact q
 .walk_at "q2";rw[c (by decide)];walk_at "q2";exact q
 .walk_at "q2";rw[d (by decide)];walk_at "q2";rw[c (by decide)];walk_at "q2";exact q
def Lb:S3:=λΓ Q=>∃ (h w:Int) (ls:List Lt),Γ=[some (.fz (.int h)),some (.fz (.int w)),some (.fz (.str (wy ls)))]/\Good h w ls/\ls.length<=10/\Q (.fz (.tup ((jh h w ls).map cD))) Γ
theorem l_{h w:Int}{ls:List Lt}(a:k < ls.length):((jh h w ls).take (k + 1)).map cD++[cD (cat h w ls (k + 1))]=((jh h w ls).take (k + 2)).map cD:=by
 have e:(jh h w ls).take (k + 1 + 1)=(jh h w ls).take (k + 1)++[cat h w ls (k + 1)]:=by
  conv=>lhs;rw[BS]
  rw[A9 (by assumption)];rfl
 show _=((jh h w ls).take (k + 1 + 1)).map cD;rw[e,dE];rfl
theorem AJ{ls:List Lt}{d:D}(h:(ls.map λl=>D.str l.s)[k]?=some d):∃ l,ls[k]?=some l/\d=.str l.s:=by
 rw[ba] at h;cases q:ls[k]? with
 | none=>rw[q] at h;cases h
 | some l=>rw[q] at h;cases h;exact⟨l,rfl,rfl⟩
theorem dN{b:Type}{l:List b}{a:b}(h:l[k]?=some a):k < l.length:=(gS0 h).1
theorem t_(T:Txt w K mg a):aM P w K mg base CX0 2 (a.x 20) (a.y 11) ["height","width","way"] (sp3 K 3 Lb):=by
 refine ok3 T.gA.F dC (hbody:=λv A j s H E r=>⟨_,_,(ag (bX (dJ (cV (aS (Nw T.tys) (by rfl) T.z_isinstance (by decide +kernel) (aa (bv 2) (aa (P3.opd (xC (n:="str") (by rfl) T.z_str (by decide +kernel))) af))))) (ak jq) aY)
   (ag (aw (i:=3) dC.nd rfl (ei rfl) (br (ab (bO (ab (p3v 0) (ab (p3v 1) ai))) ai)))
   (ag (i_ kr rfl (Ef (p3v 2)) (aL (i:=4) dC.nd rfl (ei rfl))
   (ag (bX (dJ (cV (aj (by rfl) (wj T) r.dn (by rfl) T.iC.m T.iC.F.kp T.iC.b (aa (P3.opd (p3v 4)) (aa (P3.opd (p3v 0)) (aa (P3.opd (p3v 1)) af)))))) (ak jq) aY)
   (ag (bX (aK (mR (by rfl)) (bv 4) (P3.opd (fG (p:=(a.x 1)) (zs:=["r","b"]) (by rfl) T.eU)) (by with_unfolding_all rfl)) (ak (aw (i:=1) dC.nd rfl (ei rfl) (b9 (P3.opd (aF (bv 1) (P3.opd ae))) (P3.opd ae)))) aY)
   (ag (bX (aK (mR (by rfl)) (bv 4) (P3.opd (fG (p:=(a.x 0)) (zs:=["p","b"]) (by rfl) T.cO)) (by with_unfolding_all rfl)) (ak (aw (i:=0) dC.nd rfl (ei rfl) (b9 (P3.opd (aF (bv 0) (P3.opd ae))) (P3.opd ae)))) aY)
   (ak (iJ (lW 3 (by rfl) (bv 3) (bO (ab (p3v 0) (ab (p3v 1) ai))))))))))
   (ak (ay (cR (Hh (by rfl)) (by rfl) T.z_tuple (by decide +kernel) (aa (bv 3) af))))))),λo Q h e=>?_⟩)
 obtain⟨h,w,b,rfl,g,t,q⟩:=h;walk_at "q2";refine⟨by rw[ew];decide,by rw[ew];exact nz _,?_⟩;refine⟨Cw b,dD (λk f=>k<=b.length/\∃ s,f=[some (.fz (.int (cat h w b k).1)),some (.fz (.int (cat h w b k).2)),some (.fz (.str (wy b))),some (.ow (.lst (((jh h w b).take (k + 1)).map cD))),fo s]) ⟨eg _,none,by rw[mQ];cases b <;> rfl⟩ ?_ ?_⟩
 .rintro k d f m ⟨u,s,rfl⟩;rw[nB] at m;obtain⟨l,e,rfl⟩:=AJ m;have lt:=dN e;walk_at "q2";refine⟨l,_,_,rfl,wF g e,?_⟩;walk_at "q2";have st:=tM (h:=h) (w:=w) e;have x:((jh h w b).take (k + 1)).length<=11:=by rw[dU,jA];lia
  have z1:(2:Nat)<=sizeLine:=by rw[ew];decide
  have z2:(((jh h w b).take (k + 1)).map cD).length < sizeLine:=by rw[lM0,ew];lia
  cases l
  .have c:cat h w b (k + 1)=((cat h w b k).1,((cat h w b k).2 + 1) / 2):=st;walk_at "q2";refine⟨⟨by decide,by decide⟩,?_⟩;walk_at "q2";refine⟨z1,z2,lt,some (.str Lt.r.s),?_⟩;rw[<- l_ lt,c]
   rfl
  .have c:cat h w b (k + 1)=(((cat h w b k).1 + 1) / 2,(cat h w b k).2):=st;walk_at "q2";refine⟨⟨by decide,by decide⟩,?_⟩;walk_at "q2";refine⟨z1,z2,lt,some (.str Lt.p.s),?_⟩;rw[<- l_ lt,c]
   rfl
  .have c:cat h w b (k + 1)=(((cat h w b k).1 + 1) / 2,((cat h w b k).2 + 1) / 2):=st;walk_at "q2";refine⟨⟨by decide,by decide⟩,?_⟩;walk_at "q2";refine⟨⟨by decide,by decide⟩,?_⟩;walk_at "q2";refine⟨z1,z2,lt,some (.str Lt.b.s),?_⟩;rw[<- l_ lt,c]
   rfl
 .rintro f ⟨u,s,rfl⟩;walk_at "q2";rw[nB,lM0,iA (by rw[jA];exact bU _)];exact q
def JC (a:Ad):S3:=λΓ Q=>∃ (R:Rl) (h w:Int) (ls:List Lt),Γ=[some (.ln (.ins (a.x 7) [] [])),some (.fz (.int h)),some (.fz (.int w)),some (.fz (.str R.word)),some (.fz (.str (wy ls)))]/\j_ h w/\Good h w ls/\ls.length<=10/\
 Q (.fz .non) [some (.ln (plD a R h w ls)),some (.fz (.int h)),some (.fz (.int w)),some (.fz (.str R.word)),some (.fz (.str (wy ls)))]
theorem pM(T:Txt w K mg a):aM P w K mg base CX0 3 (a.x 21) (a.y 12) ["self","height","width","word","way"] (sp3 K 5 (JC a)):=by
 refine ok3 T.kb.F pq (hbody:=λj A b s H E c=>⟨_,_,(ag (bX (dJ (cV (aj (by rfl) (y7 T) c.dn (by rfl) T.lN.m T.lN.F.kp T.lN.b (aa (P3.opd (p3v 1)) (aa (P3.opd (p3v 2)) af))))) (ak jq) aY)
   (ag (vN (C0:=(a.x 7)) 0 (by rfl) T.bw T.kX (bv 0) (aj (by rfl) (y6 T) c.dn (by rfl) T.lL.m T.lL.F.kp T.lL.b (aa (P3.opd (p3v 3)) af)))
   (ag (vN (C0:=(a.x 7)) 0 (by rfl) T.bw T.ki (bv 0) (aj (by rfl) (t_ T) c.dn (by rfl) T.gA.m T.gA.F.kp T.gA.b (aa (P3.opd (p3v 1)) (aa (P3.opd (p3v 2)) (aa (P3.opd (p3v 4)) af)))))
   (ak (vN (C0:=(a.x 7)) 0 (by rfl) T.bw T.gk (bv 0) (p3v 4)))))),λe Q h k=>?_⟩)
 obtain⟨R,h,w,i,rfl,f,g,d,q⟩:=h;walk_at "q2";refine⟨h,w,rfl,f,?_⟩;walk_at "q2";refine⟨R,rfl,?_⟩;walk_at "q2";refine⟨h,w,i,rfl,g,d,?_⟩;walk_at "q2";exact⟨by decide +kernel,by decide +kernel,q⟩
def vC (a:Ad)(f:Rl->Int->Int->List Lt->D):S3:=λΓ Q=>∃ (R:Rl) (h w:Int) (ls:List Lt),Γ=[some (.fz (plD a R h w ls))]/\ls.length<=10/\Q (.fz (f R h w ls)) Γ
theorem iO(T:Txt w K mg a):aM P w K mg base CX0 1 (a.x 23) (a.y 14) ["self"] (sp3 K 1 (vC a λ_ _ _ ls=>.str (wy ls))):=by
 refine ok3 T.gQ.F xg (hbody:=λe A b s H E g=>⟨_,_,(ak (ay (rz (f:="letters") (by rfl) (bv 0) T.bw T.gk))),λc Q h i=>?_⟩);obtain⟨R,h,w,ls,rfl,d,q⟩:=h;walk_at "q2";exact q
theorem jd(T:Txt w K mg a):aM P w K mg base CX0 1 (a.x 24) (a.y 15) ["self"] (sp3 K 1 (vC a λ_ _ _ ls=>.int ls.length)):=by
 refine ok3 T.gE.F t9 (hbody:=λe A b s H E g=>⟨_,_,(ak (ay (aS (jB (by rfl)) (by rfl) T.z_len (by decide +kernel) (aa (P3.opd (rz (f:="letters") (by rfl) (bv 0) T.bw T.gk)) af)))),λc Q h i=>?_⟩);obtain⟨R,h,w,ls,rfl,d,q⟩:=h;walk_at "q2";refine⟨by rw[bD,ew];lia,?_⟩;rw[bD];exact q
def EF (a:Ad):S3:=λΓ Q=>∃ (R:Rl) (h w:Int) (ls:List Lt) (k:Nat),Γ=[some (.fz (plD a R h w ls)),some (.fz (.int k))]/\ls.length<=10/\k<=ls.length/\Q (.fz (cD (cat h w ls k))) Γ
theorem g8(T:Txt w K mg a):aM P w K mg base CX0 2 (a.x 25) (a.y 16) ["self","step"] (sp3 K 2 (EF a)):=by
 refine ok3 T.fv.F rY (hbody:=λj A b s H E e=>⟨_,_,(ag (bX (dJ (cV (aj (by rfl) (fK T) e.dn (by rfl) T.aZ.m T.aZ.F.kp T.aZ.b (aa (P3.opd (p3v 1)) (aa (P3.opd ae) (aa (P3.opd (aN (by rfl) (bv 0) T.bw T.je (jd T) e.dn T.gE.b)) af)))))) (ak jq) aY)
   (ak (ay (az (by rfl) (P3.opd (rz (f:="corners") (by rfl) (bv 0) T.bw T.ki)) (bv 1) (λ_ _=>rfl))))),λg Q h l=>?_⟩)
 obtain⟨R,h,w,d,k,rfl,c,i,q⟩:=h;walk_at "q2";refine⟨by decide +kernel,R,h,w,d,rfl,c,?_⟩;walk_at "q2";refine⟨_,_,_,rfl,rfl,?_⟩;rw[show whD (.int k) 0 (d.length:Int)=true by simp only[whD,kn,decide_eq_true_eq];lia];walk_at "q2";exact cu.mpr ⟨_,Bc i,q⟩
theorem cp(T:Txt w K mg a):aM P w K mg base CX0 1 (a.x 22) (a.y 13) ["self"] (sp3 K 1 (vC a λR _ _ _=>R.ob a)):=by
 refine ok3 T.ck.F vJ (hbody:=λe A b s H E i=>⟨_,_,(ak (ay (rz (f:="chosen") (by rfl) (bv 0) T.bw T.kX))),λc Q h j=>?_⟩);obtain⟨R,h,w,g,rfl,d,q⟩:=h;walk_at "q2";exact q
noncomputable abbrev pD (y x:Int):D:=.tup [.int y,.int x]
def Cy:S3:=λΓ Q=>∃ (y x h w:Int),Γ=[some (.fz (pD y x)),some (.fz (.int h)),some (.fz (.int w))]/\0<=y/\y < h/\0<=x/\x < w/\Q (.fz (.bl true)) Γ
theorem Lu{i lo a:Int}(c:lo<=i)(b:i<=a):whD (.int i) lo a=true:=by
 show (decide (lo<=i) && decide (i<=a))=true;rw[decide_eq_true c,decide_eq_true b];rfl
theorem m6(T:Txt w K mg a):aM P w K mg base CX0 2 (a.x 11) (a.y 2) ["thing","height","width"] (sp3 K 3 Cy):=by
 refine ok3 T.cU.F mU (hbody:=λg A b s H E c=>⟨_,_,(ag (bX (P3W.pt (sk (dJ (cV (aS (Nv T.ty) (by rfl) T.z_isinstance (by decide +kernel) (aa (bv 0) (aa (P3.opd (xC (n:="tuple") (by rfl) T.z_tuple (by decide +kernel))) af))))) (nL (aK (j8 (by rfl) c) (P3.opd (aS (jB (by rfl)) (by rfl) T.z_len (by decide +kernel) (aa (bv 0) af))) (P3.opd ae) (aO _))))) (ak (ay kg)) aY)
   (ak (ay (DR (aj (by rfl) (fK T) c.dn (by rfl) T.aZ.m T.aZ.F.kp T.aZ.b (aa (P3.opd (az (by rfl) (bv 0) (P3.opd ae) (λ_ _=>rfl))) (aa (P3.opd ae) (aa (P3.opd (gc (bv 1) (P3.opd ae))) af)))) (y3 (aj (by rfl) (fK T) c.dn (by rfl) T.aZ.m T.aZ.F.kp T.aZ.b (aa (P3.opd (az (by rfl) (bv 0) (P3.opd ae) (λ_ _=>rfl))) (aa (P3.opd ae) (aa (P3.opd (gc (bv 2) (P3.opd ae))) af))))))))),λd Q h i=>?_⟩)
 obtain⟨y,x,h,w,rfl,f,k,e,j,q⟩:=h;walk_at "q2";rw[show (!(((2:Nat):Int) == 2))=false from rfl];walk_at "q2";refine⟨_,_,_,rfl,rfl,?_⟩;rw[Lu f (by lia)];walk_at "q2";refine⟨_,_,_,rfl,rfl,?_⟩;rw[Lu e (by lia)];exact q
def EE (a:Ad):S3:=λΓ Q=>∃ (R:Rl) (h w:Int) (ls:List Lt) (k:Nat) (y x:Int),Γ=[some (.fz (plD a R h w ls)),some (.fz (.int (k:Int))),some (.fz (pD y x))]/\ls.length<=10/\k<=ls.length/\0<=y/\y < (cat h w ls k).1/\0<=x/\x < (cat h w ls k).2/\Q (.fz .non) Γ
theorem kU(T:Txt w K mg a):aM P w K mg base CX0 3 (a.x 12) (a.y 3) ["plan","step","thing"] (sp3 K 3 (EE a)):=by
 refine ok3 T.cx.F gR (hbody:=λo A b s H E d=>⟨_,_,(ag (jU (is:=[3,4]) (by rfl) (wc (by rfl) (bv 0) T.bw T.g_ (g8 T) d.dn T.fv.b (aa (P3.opd (p3v 1)) af)) (aQ (bu (i:=3) gR.nd rfl (ei rfl)) (aQ (bu (i:=4) gR.nd rfl (ei rfl)) dH)) rfl)
   (ak (bX (dJ (cV (aj (by rfl) (m6 T) d.dn (by rfl) T.cU.m T.cU.F.kp T.cU.b (aa (P3.opd (p3v 2)) (aa (P3.opd (p3v 3)) (aa (P3.opd (p3v 4)) af)))))) (ak jq) aY))),λe Q h p=>?_⟩)
 obtain⟨R,h,w,f,k,y,x,rfl,c,g,n,m,l,j,q⟩:=h;walk_at "q2";refine⟨by decide +kernel,R,h,w,f,k,rfl,c,g,?_⟩;delta cD;walk_at "q2";refine⟨y,x,_,_,rfl,n,m,l,j,?_⟩;walk_at "q2";exact q
theorem sl2(h:n<=1000):n<=sizeLine:=fq (small h)
def Box (c:Int)(d:D):Prop:=∃ x m k:Int,d=.lst [.int x,.int m,.int k]/\0<=x/\0<=m/\m < 2147483647/\0<=k/\k<=c
theorem Box.up{c a:Int}{d:D}(b:Box c d)(h:c<=a):Box a d:=by
 obtain⟨x,m,k,e,l,j,i,g,f⟩:=b;exact⟨x,m,k,e,l,j,i,g,TJ f h⟩
def Le:S3:=λΓ Q=>∃ (ns:Li0) (k:Int),Γ=[some (.fz (.scr ns)),some (.fz (.int k))]/\0<=k/\∀ r,Q (.fz (.int r)) Γ
theorem wq(T:Txt w K mg a):aM P w K mg base CX0 1 (a.x 47) (a.y 38) ["_law_script","_law_k"] (sp3 K 2 Le):=by
 refine ok3 T.iG.F vH (hbody:=λe A b s H E g=>⟨_,_,(ag (bX (aK oR (bv 1) (P3.opd (aS (jB (by rfl)) (by rfl) T.z_len (by decide +kernel) (aa (bv 0) af))) (aO _)) (ak (ay (az (by rfl) (bv 0) (bv 1) (λ_ _=>rfl)))) aY)
   (ak (ay (aF (P3.opd (cK (P3.opd ae) (bv 1))) (P3.opd ae))))),λc Q h i=>?_⟩)
 obtain⟨f,k,rfl,d,q⟩:=h;walk_at "q2";refine gy (λh=>?_) (λh=>?_)
 .walk_at "q2";exact⟨_,Hn d (of_decide_eq_true h),q _⟩
 .walk_at "q2";exact⟨.inl ⟨by decide,by decide⟩,q _⟩
def NA:S3:=λΓ Q=>∃ (x:Int),Γ=[some (.fz (.int x))]/\∀ d,Box 0 d->Q (.fr d) Γ
theorem sC(T:Txt w K mg a):aM P w K mg base CX0 1 (a.x 48) (a.y 39) ["_law_cell_here"] (sp3 K 1 NA):=by
 refine ok3 T.fu.F rW (hbody:=λd A b s H E e=>⟨_,_,(ak (ay (br (ab (aS (IK rfl) (by rfl) T.z_max (by decide +kernel) (aa (P3.opd ae) (aa (P3.opd (gc (bv 0) (P3.opd (JR (v:=1000000000000000000) (by decide +kernel) ⟨by decide,by decide,by decide⟩)))) af))) (ab (mZ (bv 0) (P3.opd ae)) (ab ae ai)))))),λc Q h f=>?_⟩);obtain⟨x,rfl,q⟩:=h;walk_at "q2";exact⟨by decide,by rw[ew];decide,q _ ⟨_,_,_,rfl,by delta fmax;split <;> lia,Pd _ (by decide),GM _ (by decide),by decide,by decide⟩⟩
theorem EM{i j m:Int}(h:0 < m)(a:m < 2 ^ 64):ug (i % m) j:=.inl ⟨by have:=Pd i (show m≠0 by lia);omega,by have:=GM i h;lia⟩
def IW:S3:=λΓ Q=>∃ (d:D) (c n:Int),Γ=[some (.ln d),some (.fz (.int n))]/\Box c d/\c<=1000000/\0 < n/\n<=1000000000/\∀ r d',0<=r->r < n->Box (c + 1) d'->Q (.fz (.int r)) [some (.ln d'),some (.fz (.int n))]
theorem bH(T:Txt w K mg a):aM P w K mg base CX0 1 (a.x 49) (a.y 40) ["_law_stream_here","_law_many"] (sp3 K 2 IW):=by
 refine ok3 T.aq.F gF (hbody:=λr A f s H E t=>⟨_,_,(ag (xh 0 (bv 0) (P3.opd ae) (aF (P3.opd (az (by rfl) (bv 0) (P3.opd ae) (λ_ _=>rfl))) (P3.opd ae)))
   (ag (bX (aK yo (P3.opd (az (by rfl) (bv 0) (P3.opd ae) (λ_ _=>rfl))) (P3.opd ae) (aO _)) (ag (aw (i:=2) gF.nd rfl (ei rfl) (mZ (P3.opd (az (by rfl) (bv 0) (P3.opd ae) (λ_ _=>rfl))) (bv 1)))
   (ag (xh 0 (bv 0) (P3.opd ae) (b9 (P3.opd (az (by rfl) (bv 0) (P3.opd ae) (λ_ _=>rfl))) (bv 1)))
   (ak (ay (DL 2))))) aY)
   (ag (aw (i:=3) gF.nd rfl (ei rfl) (mZ (P3.opd (cK (P3.opd (aF (P3.opd (az (by rfl) (bv 0) (P3.opd ae) (λ_ _=>rfl))) (P3.opd (cK (P3.opd ae) (P3.opd (az (by rfl) (bv 0) (P3.opd ae) (λ_ _=>rfl))))))) (P3.opd ae))) (P3.opd ae)))
   (ag (aw (i:=3) gF.nd rfl (ei rfl) (mZ (P3.opd (cK (bv 3) (bv 3))) (P3.opd ae)))
   (ak (ay (mZ (P3.opd (b9 (P3.opd (mZ (P3.opd (aF (P3.opd (cK (bv 3) (P3.opd (aF (bv 3) (P3.opd ae))))) (P3.opd (cK (P3.opd ae) (P3.opd (az (by rfl) (bv 0) (P3.opd ae) (λ_ _=>rfl))))))) (P3.opd ae))) (P3.opd ae))) (bv 1)))))))),λl Q h u=>?_⟩)
 obtain⟨_,c,n,rfl,⟨x,m,k,rfl,g,j,d,v,p⟩,y,b,o,q⟩:=h;walk_at "q2";refine gy (λe=>?_) (λe=>?_)
 .walk_at "q2";exact⟨b,⟨b,by lia⟩,q _ _ (Pd _ (by lia)) (GM _ b) ⟨_,_,_,rfl,Int.ediv_nonneg g (by lia),j,d,by lia,by lia⟩⟩
 .walk_at "q2";exact⟨.inl ⟨by decide,by decide⟩,.inr ⟨by decide,by decide⟩,by decide,EM (by decide) (by decide),by decide,EM (by decide) (by decide),.inl ⟨by decide,by decide⟩,by decide,⟨by decide,by decide⟩,b,q _ _ (Pd _ (by lia)) (GM _ b) ⟨_,_,_,rfl,g,j,d,by lia,by lia⟩⟩
theorem pick{p:D->Prop}{r:Int}{k:D->Prop}{t:Tag k}(f:0<=r)(e:r < (xs.length:Int))(a:∀ x∈xs,p x)(q:∀ v,p v->k v):m1 (atI xs r) k t:=by
 obtain⟨d,c,b⟩:=Hq f e;exact cu.mpr ⟨d,c,q d (a d b)⟩
theorem Fm{ls:List Lt}{i:Int}{l:Lt}{k:Lt->Prop}{t:Tag k}(z:(wy ls).length<=sizeLine)(h:atI ls i=some l)(q:k l):IQ ls i k t:=⟨z,l,h,q⟩
theorem z1:1<=sizeLine:=by rw[ew];decide
theorem z2:2<=sizeLine:=by rw[ew];decide
theorem z3:3<=sizeLine:=by rw[ew];decide
theorem z0:0 < sizeLine:=by rw[ew];decide
theorem z4:4<=sizeLine:=by rw[ew];decide
theorem z6:6<=sizeLine:=by rw[ew];decide
theorem size_of{x y:Int}(d:0<=x)(c:x < 64)(b:0<=y)(a:y < fmin 64 (512 / (1 + x))):j_ (1 + x) (1 + y):=by
 have e:fmin 64 (512 / (1 + x))<=64/\fmin 64 (512 / (1 + x))<=512 / (1 + x):=by delta fmin;split <;> lia
 have g:(1 + x) * (1 + y)<=(1 + x) * (512 / (1 + x)):=Int.mul_le_mul_of_nonneg_left (by omega) (by lia);have f:(1 + x) * (512 / (1 + x))<=512:=Int.mul_ediv_self_le (by lia);exact⟨by lia,by lia,by lia,by omega,by omega⟩
theorem LN{x y:Int}(d:0<=x)(c:x < 9)(b:0<=y)(a:y < 9):j_ (1 + x) (1 + y):=by
 have e:(1 + x) * (1 + y)<=9 * 9:=Int.mul_le_mul (by lia) (by lia) (by lia) (by decide);exact⟨by lia,by lia,by lia,by lia,by omega⟩
theorem nine{r:Int}{v:D}(h:v∈[D.tup [.int 1,.int 2],.tup [.int 2,.int 2],.tup [.int 3,.int 3],.tup [.int 2,.int 1],.tup [.int 64,.int 8],.tup [.int 8,.int 64],.tup [.int 1,.int 64],.tup [.int 64,.int 1],.tup [.int 22,.int 23]]):∃ h w,v=pD h w/\j_ h w:=by
 simp -iota only[cS,lz,or_false] at h;rcases h with rfl | rfl | rfl | rfl | rfl | rfl | rfl | rfl | rfl <;> exact⟨_,_,rfl,by decide,by decide,by decide,by decide,by decide⟩
def Fy:S3:=λΓ Q=>∃ (d:D),Γ=[some (.ln d),some (.fz (.bl true))]/\Box 510 d/\∀ h w d',j_ h w->Box 520 d'->Q (.fz (pD h w)) [some (.ln d'),some (.fz (.bl true))]
theorem wm(T:Txt w K mg a):aM P w K mg base CX0 2 (a.x 50) (a.y 41) ["_law_stream_here","_law_far"] (sp3 K 2 Fy):=by
 refine ok3 T.iE.F gG (hbody:=λB A j s H E b=>⟨_,_,(ag (aw (i:=2) gG.nd rfl (ei rfl) (aj (by rfl) (bH T) b.dn (by rfl) T.aq.m T.aq.F.kp T.aq.b (aa (bv 0) (aa (P3.opd ae) af))))
   (ag (bX (aK (fh (by rfl) b) (bv 2) (P3.opd ae) (aO _)) (ag (aw (i:=3) gG.nd rfl (ei rfl) (br (ab (bO (ab ae (ab ae ai))) (ab (bO (ab ae (ab ae ai))) (ab (bO (ab ae (ab ae ai))) (ab (bO (ab ae (ab ae ai))) (ab (bO (ab ae (ab ae ai))) (ab (bO (ab ae (ab ae ai))) (ab (bO (ab ae (ab ae ai))) (ab (bO (ab ae (ab ae ai))) (ab (bO (ab ae (ab ae ai))) ai)))))))))))
   (ak (ay (az (by rfl) (bv 3) (P3.opd (aj (by rfl) (bH T) b.dn (by rfl) T.aq.m T.aq.F.kp T.aq.b (aa (bv 0) (aa (P3.opd (az (by rfl) (P3.opd (br (ab ae (ab ae ai)))) (P3.opd (cR oQ (by rfl) T.z_int (by decide +kernel) (aa (bv 1) af))) (λ_ _=>rfl))) af)))) (λ_ _=>rfl))))) aY)
   (ag (bX (P3W.pt (lU (aK (fh (by rfl) b) (bv 2) (P3.opd ae) (aO _)) (jr (cV (p3v 1))))) (ag (aw (i:=4) gG.nd rfl (ei rfl) (aF (P3.opd ae) (P3.opd (aj (by rfl) (bH T) b.dn (by rfl) T.aq.m T.aq.F.kp T.aq.b (aa (bv 0) (aa (P3.opd ae) af))))))
   (ak (ay (bO (ab (p3v 4) (ab (aF (P3.opd ae) (P3.opd (aj (by rfl) (bH T) b.dn (by rfl) T.aq.m T.aq.F.kp T.aq.b (aa (bv 0) (aa (P3.opd (aS (IJ rfl) (by rfl) T.z_min (by decide +kernel) (aa (P3.opd ae) (aa (P3.opd (b9 (P3.opd ae) (bv 4))) af)))) af))))) ai)))))) aY)
   (ak (ay (bO (ab (aF (P3.opd ae) (P3.opd (aj (by rfl) (bH T) b.dn (by rfl) T.aq.m T.aq.F.kp T.aq.b (aa (bv 0) (aa (P3.opd ae) af))))) (ab (aF (P3.opd ae) (P3.opd (aj (by rfl) (bH T) b.dn (by rfl) T.aq.m T.aq.F.kp T.aq.b (aa (bv 0) (aa (P3.opd ae) af))))) ai)))))))),λt Q h G=>?_⟩)
 obtain⟨d,rfl,y,q⟩:=h;walk_at "q2";refine⟨_,_,10,rfl,y,by decide,by decide,by decide,λD I F C n=>?_⟩;walk_at "q2";refine gy (λh=>?_) (λh=>?_)
 .walk_at "q2";refine⟨z2,z2,z2,z2,z2,z2,z2,z2,z2,sl2 (by decide),z2,_,_,9,rfl,n,by decide,by decide,by decide,λg o e c b2=>?_⟩;walk_at "q2";refine pick (p:=λv=>∃ h w,v=pD h w/\j_ h w) e c (λv l=>nine (r:=0) l) (λv l=>?_);obtain⟨h,w,rfl,u⟩:=l;walk_at "q2";exact q _ _ _ u (b2.up (by decide))
 .walk_at "q2";refine Fc (λh=>?_) (λh=>?_)
  .walk_at "q2";refine⟨_,_,64,rfl,n,by decide,by decide,by decide,λg o e c b2=>?_⟩;walk_at "q2";have p:1<=512 / (1 + g):=Int.le_ediv_of_mul_le (by lia) (by lia);refine⟨⟨by lia,by lia⟩,_,_,_,rfl,b2,by decide,by delta fmin;split <;> lia,by delta fmin;split <;> lia,λx z k f m=>?_⟩;walk_at "q2";exact⟨z2,q _ _ _ (size_of e c k f) (m.up (by decide))⟩
  .walk_at "q2";refine⟨_,_,9,rfl,n,by decide,by decide,by decide,λg o e c b2=>?_⟩;walk_at "q2";refine⟨_,_,9,rfl,b2,by decide,by decide,by decide,λx z k f m=>?_⟩;walk_at "q2";exact⟨z2,q _ _ _ (LN e c k f) (m.up (by decide))⟩
theorem C_{i:Int}{d:D}(h:(rng i n)[k]?=some d):k < n/\d=.int (i + k):=by
 delta rng at h;exact AG h
theorem Bg:fS "r"++fS "p"++fS "b"=wy [.r,.p,.b]:=by decide +kernel
theorem S_r:fS "r"++rb++rb=wy [.r]:=by decide +kernel
theorem S_p:rb++fS "p"++rb=wy [.p]:=by decide +kernel
theorem S_0:rb++rb++rb=wy []:=by decide +kernel
theorem Bf:(wy [.r,.p,.b] == fS "")=false:=by decide +kernel
theorem V_r:(wy [.r] == fS "")=false:=by decide +kernel
theorem V_p:(wy [.p] == fS "")=false:=by decide +kernel
theorem V_0:(wy [] == fS "")=true:=by decide +kernel
def Lv:S3:=λΓ Q=>∃ (d:D) (h w:Int),Γ=[some (.ln d),some (.fz (.int h)),some (.fz (.int w)),some (.fz (.int 10))]/\j_ h w/\Box 520 d/\∀ ls d',ls.length<=10->Good h w ls->Box 540 d'->Q (.fz (.str (wy ls))) [some (.ln d'),some (.fz (.int h)),some (.fz (.int w)),some (.fz (.int 10))]
theorem Dz{ls:List Lt}{r:Int}{k:Lt->Prop}{t:Tag k}(a:0<=r)(b:r < (ls.length:Int))(z:ls.length<=sizeLine)(q:∀ l∈ls,k l):IQ ls r k t:=by
 refine Fm (l:=ls[r.toNat]) (by rw[bD];exact z) (dF a (gE0 (by omega))) (q _ (Rn _))
theorem vn(ls:List Lt)(l:Lt):wy ls++l.s=wy (ls++[l]):=by
 show (⟨(wy ls).cps++l.s.cps⟩:Str)=_;delta wy
 congr 1
 rw[dE];cases l <;> simp -iota [Lt.s,sgn]
theorem uM:∀ {ls:List Lt} {h w:Int} {l:Lt},Good h w ls->Can l (cat h w ls ls.length).1 (cat h w ls ls.length).2->Good h w (ls++[l])/\cat h w (ls++[l]) (ls++[l]).length=(nh l (cat h w ls ls.length).1,nw l (cat h w ls ls.length).2)
 | [],h,w,l,_,c=>⟨⟨c,trivial⟩,rfl⟩
 | m::ls,h,w,l,g,c=>by
  obtain⟨a,i2⟩:=uM (ls:=ls) (h:=nh m h) (w:=nw m w) (l:=l) g.2 c;exact⟨⟨g.1,a⟩,i2⟩
theorem xH(T:Txt w K mg a):aM P w K mg base CX0 2 (a.x 51) (a.y 42) ["_law_stream_here","_law_height","_law_width","_law_most"] (sp3 K 4 Lv):=by
 refine ok3 T.jK.F cC (hbody:=λS A F s H E t=>⟨_,_,(ag (aw (i:=4) cC.nd rfl (ei rfl) cf)
   (ag (i_ kr rfl (aU (by rfl) T.z_range (ab (aj (by rfl) (bH T) t.dn (by rfl) T.aq.m T.aq.F.kp T.aq.b (aa (bv 0) (aa (P3.opd (aF (bv 3) (P3.opd ae))) af))) ai)) (aL (i:=5) cC.nd rfl (ei rfl))
   (ag (aw (i:=6) cC.nd rfl (ei rfl) (aF (P3.opd (aF (P3.opd (wb (P3.opd cf) (P3.opd (cR oQ (by rfl) T.z_int (by decide +kernel) (aa (P3.opd (gf yo (bv 2) (P3.opd ae) (aO _))) af))))) (P3.opd (wb (P3.opd cf) (P3.opd (cR oQ (by rfl) T.z_int (by decide +kernel) (aa (P3.opd (gf yo (bv 1) (P3.opd ae) (aO _))) af))))))) (P3.opd (wb (P3.opd cf) (P3.opd (cR oQ (by rfl) T.z_int (by decide +kernel) (aa (P3.opd (DR (gf yo (bv 2) (P3.opd ae) (aO _)) (y3 (gf yo (bv 1) (P3.opd ae) (aO _))))) af)))))))
   (ak (bX (aK (j8 (by rfl) t) (bv 6) (P3.opd cf) (aO _)) (ag (aw (i:=7) cC.nd rfl (ei rfl) (az (by rfl) (bv 6) (P3.opd (aj (by rfl) (bH T) t.dn (by rfl) T.aq.m T.aq.F.kp T.aq.b (aa (bv 0) (aa (P3.opd (aS (jB (by rfl)) (by rfl) T.z_len (by decide +kernel) (aa (bv 6) af))) af)))) (λ_ _=>rfl)))
   (ag (aw (i:=4) cC.nd rfl (ei rfl) (aF (bv 4) (bv 7)))
   (ag (aw (i:=2) cC.nd rfl (ei rfl) (az (by rfl) (P3.opd (br (ab (p3v 2) (ab (b9 (P3.opd (aF (bv 2) (P3.opd ae))) (P3.opd ae)) ai)))) (P3.opd (cR oQ (by rfl) T.z_int (by decide +kernel) (aa (P3.opd (gf (j8 (by rfl) t) (bv 7) (P3.opd cf) (aO _))) af))) (λ_ _=>rfl)))
   (ak (aw (i:=1) cC.nd rfl (ei rfl) (az (by rfl) (P3.opd (br (ab (p3v 1) (ab (b9 (P3.opd (aF (bv 1) (P3.opd ae))) (P3.opd ae)) ai)))) (P3.opd (cR oQ (by rfl) T.z_int (by decide +kernel) (aa (P3.opd (gf (j8 (by rfl) t) (bv 7) (P3.opd cf) (aO _))) af))) (λ_ _=>rfl))))))) aY))))
   (ak (ay (DL 4))))),λM Q h u=>?_⟩)
 obtain⟨d,h,w,rfl,I,j,q⟩:=h;walk_at "q2";refine⟨_,_,11,rfl,j,by decide,by decide,by decide,λX R Y V U=>?_⟩;walk_at "q2";refine⟨by lia,by lia,dD (λk B=>∃ b d D C z,b.length<=k/\Good h w b/\Box (521 + k) d/\B=[some (.ln d),some (.fz (.int (cat h w b b.length).1)),some (.fz (.int (cat h w b b.length).2)),some (.fz (.int 10)),some (.fz (.str (wy b))),fo D,fo C,fo z]) ⟨[],R,none,none,none,bU _,trivial,U.up (by decide),rfl⟩ ?_ ?_⟩
 .rintro k d B N ⟨b,d,D,C,z,G,g,j,rfl⟩;obtain⟨lk,rfl⟩:=C_ N;obtain⟨L,p2,_,_⟩:=wK (k:=b.length) g I.h1 I.w1 (bU _);have f:∀ l,Can l (cat h w b b.length).1 (cat h w b b.length).2->Good h w (b++[l])/\cat h w (b++[l]) (b++[l]).length=(nh l (cat h w b b.length).1,nw l (cat h w b b.length).2):=λl c=>uM g c;generalize O:cat h w b b.length=c at L p2 f ⊢;obtain⟨H,W⟩:=c;dsimp only at L p2 f ⊢;cases p:G_ W 1
  .cases o:G_ H 1
   .simp -dsimp only[tgN,sY,sZ,↓sQ,↓sP,↓rN,↓x8,↓h_c,↓oP,↓n_,↓x6,Gat,Pg,GD,nT,CH,mC,exists_eq',Bo.at,nU,RV.d,wH,i2',↓sR,ats,p,nS,zt,if_pos,qi,RN,or_true,o,fi,if_false,or_false,yx,vj,↓xZ,↓Fe,↓Ff,↓xY,RV.sl,S_0,S_r,S_p,Bg,qY,Rg,yf,V_0,V_r,V_p,Bf,Rh,exists_eq_left',QK,oM,↓Fb,↓Fd,↓sS,↓oO,zh,eK,sL,rx,du,hX,lz,not_false_eq_true,KM,and_true,c6,fO,Pt,MJ,p7,gz,true_and];exact⟨by rw[ew];decide +kernel,by rw[ew];decide +kernel,by rw[ew];decide +kernel,by rw[ew];decide +kernel,by rw[ew];decide +kernel,b,d,some _,some _,z,by exact WF 176175920734 G,g,j.up (by lia),by rw[O];rfl⟩
   .simp -dsimp only[tgN,sY,sZ,↓sQ,↓sP,↓rN,↓x8,↓h_c,↓oP,↓n_,↓x6,Gat,Pg,GD,nT,CH,mC,exists_eq',Bo.at,nU,RV.d,wH,i2',↓sR,ats,p,nS,zt,if_pos,qi,RN,or_true,o,fi,if_false,or_false,yx,vj,↓xZ,↓Fe,↓Ff,↓xY,RV.sl,S_0,S_r,S_p,Bg,qY,Rg,yf,V_0,V_r,V_p,Bf,Rh,exists_eq_left',QK,oM,↓Fb,↓Fd,↓sS,↓oO,zh,eK,sL,rx,du,hX,lz,not_false_eq_true,KM,and_true,c6,fO,Pt,MJ,p7,gz,true_and];refine⟨by rw[ew];decide +kernel,by rw[ew];decide +kernel,by rw[ew];decide +kernel,by rw[ew];decide +kernel,by rw[ew];decide +kernel,by rw[bD,ew];decide,_,_,_,rfl,j,by lia,by rw[bD];decide,by rw[bD];decide,λJ x r m b2=>?_⟩;rw[bD] at m;walk_at "q2";refine Dz r m (by rw[ew];decide) (λl u=>?_);obtain⟨v,y⟩:=f l (by have e:=of_decide_eq_true o;rw[fP.mp u];exact⟨λn=>absurd rfl n,λ_=>by assumption⟩);walk_at "q2";exact⟨by rw[bD,show l.s.length=1 by cases l <;> decide +kernel,ew];lia,⟨by decide,by decide⟩,z2,⟨by decide,by decide⟩,z2,b++[l],x,some _,some _,some (.str l.s),by rw[bM];simp -iota only[eK,sL];lia,v,b2.up (by lia),by rw[y,vn];cases l <;> rfl⟩
  .cases o:G_ H 1
   .simp -dsimp only[tgN,sY,sZ,↓sQ,↓sP,↓rN,↓x8,↓h_c,↓oP,↓n_,↓x6,Gat,Pg,GD,nT,CH,mC,exists_eq',Bo.at,nU,RV.d,wH,i2',↓sR,ats,p,nS,zt,if_pos,qi,RN,or_true,o,fi,if_false,or_false,yx,vj,↓xZ,↓Fe,↓Ff,↓xY,RV.sl,S_0,S_r,S_p,Bg,qY,Rg,yf,V_0,V_r,V_p,Bf,Rh,exists_eq_left',QK,oM,↓Fb,↓Fd,↓sS,↓oO,zh,eK,sL,rx,du,hX,lz,not_false_eq_true,KM,and_true,c6,fO,Pt,MJ,p7,gz,true_and];refine⟨by rw[ew];decide +kernel,by rw[ew];decide +kernel,by rw[ew];decide +kernel,by rw[ew];decide +kernel,by rw[ew];decide +kernel,by rw[bD,ew];decide,_,_,_,rfl,j,by lia,by rw[bD];decide,by rw[bD];decide,λJ x r m b2=>?_⟩;rw[bD] at m;walk_at "q2";refine Dz r m (by rw[ew];decide) (λl u=>?_);obtain⟨v,y⟩:=f l (by have e:=of_decide_eq_true p;rw[fP.mp u];exact⟨λ_=>by assumption,λn=>absurd rfl n⟩);walk_at "q2";exact⟨by rw[bD,show l.s.length=1 by cases l <;> decide +kernel,ew];lia,⟨by decide,by decide⟩,z2,⟨by decide,by decide⟩,z2,b++[l],x,some _,some _,some (.str l.s),by rw[bM];simp -iota only[eK,sL];lia,v,b2.up (by lia),by rw[y,vn];cases l <;> rfl⟩
   .simp -dsimp only[tgN,sY,sZ,↓sQ,↓sP,↓rN,↓x8,↓h_c,↓oP,↓n_,↓x6,Gat,Pg,GD,nT,CH,mC,exists_eq',Bo.at,nU,RV.d,wH,i2',↓sR,ats,p,nS,zt,if_pos,qi,RN,or_true,o,fi,if_false,or_false,yx,vj,↓xZ,↓Fe,↓Ff,↓xY,RV.sl,S_0,S_r,S_p,Bg,qY,Rg,yf,V_0,V_r,V_p,Bf,Rh,exists_eq_left',QK,oM,↓Fb,↓Fd,↓sS,↓oO,zh,eK,sL,rx,du,hX,lz,not_false_eq_true,KM,and_true,c6,fO,Pt,MJ,p7,gz,true_and];refine⟨by rw[ew];decide +kernel,by rw[ew];decide +kernel,by rw[ew];decide +kernel,by rw[ew];decide +kernel,by rw[ew];decide +kernel,by rw[bD,ew];decide,_,_,_,rfl,j,by lia,by rw[bD];decide,by rw[bD];decide,λJ x r m b2=>?_⟩;rw[bD] at m;walk_at "q2";refine Dz r m (by rw[ew];decide) (λl u=>?_);obtain⟨v,y⟩:=f l (by have e:=of_decide_eq_true p;have Z:=of_decide_eq_true o;exact⟨λ_=>by assumption,λ_=>by assumption⟩);walk_at "q2";exact⟨by rw[bD,show l.s.length=1 by cases l <;> decide +kernel,ew];lia,⟨by decide,by decide⟩,z2,⟨by decide,by decide⟩,z2,b++[l],x,some _,some _,some (.str l.s),by rw[bM];simp -iota only[eK,sL];lia,v,b2.up (by lia),by rw[y,vn];cases l <;> rfl⟩
 .rintro B ⟨b,d,D,C,z,G,g,j,rfl⟩;rw[bg] at G j;walk_at "q2";exact q _ _ (by lia) g (j.up (by lia))
noncomputable def o_ (R:Rl)(h w:Int)(ls:List Lt):D:=.tup [.int h,.int w,.str R.word,.str (wy ls)]
def Ge:S3:=λΓ Q=>∃ (d:D),Γ=[some (.ln d),some (.fz (.bl true))]/\Box 500 d/\∀ R h w ls d',j_ h w->Good h w ls->ls.length<=10->Box 560 d'->Q (.fz (o_ R h w ls)) [some (.ln d'),some (.fz (.bl true))]
theorem four{v:D}(h:v∈[D.str (fS "sum"),.str (fS "half"),.str (fS "guess"),.str (fS "lean")]):∃ R:Rl,v=.str R.word:=by
 simp -iota only[cS,lz,or_false] at h;rcases h with rfl | rfl | rfl | rfl
 .exact⟨.sum,rfl⟩
 .exact⟨.half,rfl⟩
 .exact⟨.guess,rfl⟩
 .exact⟨.lean,rfl⟩
theorem wo(T:Txt w K mg a):aM P w K mg base CX0 3 (a.x 52) (a.y 43) ["_law_stream_here","_law_far"] (sp3 K 2 Ge):=by
 refine ok3 T.iF.F gH (hbody:=λr A b s H E e=>⟨_,_,(ag (aw (i:=2) gH.nd rfl (ei rfl) (az (by rfl) (P3.opd (br (ab cf (ab cf (ab cf (ab cf ai)))))) (P3.opd (aj (by rfl) (bH T) e.dn (by rfl) T.aq.m T.aq.F.kp T.aq.b (aa (bv 0) (aa (P3.opd ae) af)))) (λ_ _=>rfl)))
   (ag (jU (is:=[3,4]) (by rfl) (aj (by rfl) (wm T) e.dn (by rfl) T.iE.m T.iE.F.kp T.iE.b (aa (bv 0) (aa (P3.opd (p3v 1)) af))) (aQ (bu (i:=3) gH.nd rfl (ei rfl)) (aQ (bu (i:=4) gH.nd rfl (ei rfl)) dH)) rfl)
   (ak (ay (bO (ab (p3v 3) (ab (p3v 4) (ab (p3v 2) (ab (aj (by rfl) (xH T) e.dn (by rfl) T.jK.m T.jK.F.kp T.jK.b (aa (bv 0) (aa (P3.opd (p3v 3)) (aa (P3.opd (p3v 4)) (aa (P3.opd ae) af))))) ai))))))))),λk Q h y=>?_⟩)
 obtain⟨d,rfl,o,q⟩:=h;walk_at "q2";refine⟨sl2 (by decide),_,_,4,rfl,o,by decide,by decide,by decide,λx C n l u=>?_⟩;walk_at "q2";refine pick (p:=λv=>∃ R:Rl,v=.str R.word) n l (λv c=>four c) (λv c=>?_);obtain⟨R,rfl⟩:=c;walk_at "q2";refine⟨_,rfl,u.up (by decide),λh w B j b2=>?_⟩;walk_at "q2";refine⟨_,h,w,rfl,j,b2,λm z f g t=>?_⟩;walk_at "q2";exact⟨sl2 (by decide),q R h w m _ j g f (t.up (by decide))⟩
theorem Nn{a b c d:D}:cut [a,b,c,d] none (some 2)=[a,b]:=rfl
def Kl:S3:=λΓ Q=>∃ (R:Rl) (h w:Int) (ls:List Lt),Γ=[some (.fz (o_ R h w ls))]/\ls.length<=10/\Q (.fr (.lst ((jh h w ls).map cD))) Γ
theorem qV(T:Txt w K mg a):aM P w K mg base CX0 1 (a.x 53) (a.y 44) ["_law_told"] (sp3 K 1 Kl):=by
 refine ok3 T.eD.F bY (hbody:=λr A e s H E g=>⟨_,_,(ag (jU (is:=[1,2]) (by rfl) (BL (by rfl) (bv 0) aW (aR (P3.opd ae))) (aQ (bu (i:=1) bY.nd rfl (ei rfl)) (aQ (bu (i:=2) bY.nd rfl (ei rfl)) dH)) rfl)
   (ag (aw (i:=3) bY.nd rfl (ei rfl) (br (ab (bO (ab (p3v 1) (ab (p3v 2) ai))) ai)))
   (ag (i_ kr rfl (Ef (az (by rfl) (bv 0) (P3.opd ae) (λ_ _=>rfl))) (aL (i:=4) bY.nd rfl (ei rfl))
   (ag (aw (i:=2) bY.nd rfl (ei rfl) (az (by rfl) (P3.opd (br (ab (p3v 2) (ab (b9 (P3.opd (aF (bv 2) (P3.opd ae))) (P3.opd ae)) ai)))) (P3.opd (cR oQ (by rfl) T.z_int (by decide +kernel) (aa (P3.opd (gf (j8 (by rfl) g) (bv 4) (P3.opd cf) (aO _))) af))) (λ_ _=>rfl)))
   (ag (aw (i:=1) bY.nd rfl (ei rfl) (az (by rfl) (P3.opd (br (ab (p3v 1) (ab (b9 (P3.opd (aF (bv 1) (P3.opd ae))) (P3.opd ae)) ai)))) (P3.opd (cR oQ (by rfl) T.z_int (by decide +kernel) (aa (P3.opd (gf (j8 (by rfl) g) (bv 4) (P3.opd cf) (aO _))) af))) (λ_ _=>rfl)))
   (ak (iJ (lW 3 (by rfl) (bv 3) (bO (ab (p3v 1) (ab (p3v 2) ai)))))))))
   (ak (ay (DL 3)))))),λn Q h f=>?_⟩)
 obtain⟨R,h,w,b,rfl,o,q⟩:=h;delta o_ at q ⊢;walk_at "q2";rw[Nn];walk_at "q2";refine⟨by decide,sl2 (by decide),sl2 (by decide),Cw b,dD (λk c=>k<=b.length/\∃ s,c=[some (.fz (.tup [.int h,.int w,.str R.word,.str (wy b)])),some (.fz (.int (cat h w b k).1)),some (.fz (.int (cat h w b k).2)),some (.ow (.lst (((jh h w b).take (k + 1)).map cD))),fo s]) ⟨eg _,none,by rw[mQ];cases b <;> rfl⟩ ?_ ?_⟩
 .rintro k d c j ⟨p,s,rfl⟩;rw[nB] at j;obtain⟨l,f,rfl⟩:=AJ j;have lt:=dN f;have st:=tM (h:=h) (w:=w) f;have t:((jh h w b).take (k + 1)).length<=11:=by rw[dU,jA];lia
  have m:=l_ (h:=h) (w:=w) lt;rw[st] at m;walk_at "q2";refine⟨⟨by decide,by decide⟩,sl2 (by decide),⟨by decide,by decide⟩,sl2 (by decide),sl2 (by decide),small (by rw[lM0];lia),lt,some (.str l.s),?_⟩;rw[<- m,st];cases l <;> rfl
 .rintro c ⟨p,s,rfl⟩;walk_at "q2";rw[nB,lM0,iA (by rw[jA];exact bU _)];exact q
noncomputable abbrev il (ns:Li0):D:=.lst (ns.map .int)
theorem j6{d:D}(h:(ns.map D.int)[k]?=some d):∃ n,ns[k]?=some n/\d=.int n:=by
 rw[ba] at h;cases q:ns[k]? with
 | none=>rw[q] at h;cases h
 | some n=>rw[q] at h;cases h;exact⟨n,rfl,rfl⟩
theorem take_snoc{a:Type}{xs:List a}{x:a}(h:xs[k]?=some x):xs.take (k + 1)=xs.take k++[x]:=by rw[BS,h];rfl
noncomputable def ms (m:Int):Int:=(m + 1) / 2
def Ou:S3:=λΓ Q=>∃ m:Int,Γ=[some (.fz (.int m))]/\Q (.fz (.int (ms m))) Γ
theorem cL(T:Txt w K mg a):aM P w K mg base CX0 1 (a.x 26) (a.y 17) ["many"] (sp3 K 1 Ou):=by
 refine ok3 T.aG.F vE (hbody:=λd A b s H E e=>⟨_,_,(ak (ay (b9 (P3.opd (aF (bv 0) (P3.opd ae))) (P3.opd ae)))),λc Q h f=>?_⟩);obtain⟨m,rfl,q⟩:=h;walk_at "q2";exact⟨by delta p_;decide,q⟩
noncomputable def inM (m n:Int):Bool:=decide (0<=n) && decide (n < m)
noncomputable def am (ns:Li0)(m:Int):Li0:=ns.filter (inM m)
def O2:S3:=λΓ Q=>∃ (ns:Li0) (m:Int),Γ=[some (.fz (il ns)),some (.fz (.int m))]/\ns.length<=200/\Q (.fr (il (am ns m))) Γ
theorem jt(T:Txt w K mg a):aM P w K mg base CX0 1 (a.x 27) (a.y 18) ["numbers","many"] (sp3 K 2 O2):=by
 refine ok3 T.b8.F CW (hbody:=λu A o s H E v=>⟨_,_,(ak (ay (xD rfl (cX (by rfl) (p3v 0)) qI (λ_ _ _ _ _=>(aL (i:=0) qI.nd rfl (ei rfl))) (λ_ _ _ _ _=>(BK A_ oR (P3.opd ae) (bv 0) (bv 1))) (λ_ _ _ _ _=>(p3v 0))))),λp Q h y=>?_⟩);obtain⟨f,m,rfl,x,q⟩:=h;walk_at "q2";refine gM (λk l c=>k<=f.length/\l=((f.take k).filter (inM m)).map D.int/\∃ s,c=[fo s,some (.fz (.int m))]) ⟨eg _,rfl,none,rfl⟩ ?_ ?_
 .rintro k d l c t ⟨r,rfl,s,rfl⟩;obtain⟨n,b,rfl⟩:=j6 t;have lt:=dN b;walk_at "q2";by_cases j:0<=n
  .simp only[zD,j,decide_true];by_cases g:n < m
   .have e:inM m n=true:=by simp -iota [inM,j,g]
    simp only[lA,g,decide_true];exact⟨small (by rw[lM0];exact kj (ra _ _) (by rw[dU];lia)),lt,by rw[take_snoc b,rr,Pl e,dE];simp,some _,rfl⟩
   .have e:inM m n=false:=by simp -iota [inM,g]
    simp only[lA,g,decide_false];exact⟨lt,by rw[take_snoc b,rr,CQ (by rw[e];decide)];simp,some _,rfl⟩
  .have e:inM m n=false:=by simp -iota [inM,j]
   simp only[zD,j,decide_false];exact⟨lt,by rw[take_snoc b,rr,CQ (by rw[e];decide)];simp,some _,rfl⟩
 .rintro l c ⟨r,rfl,s,rfl⟩;rw[show f.take (uP D.int f).length=f by rw[lM0,lD]];refine⟨small (by rw[lM0];exact kj (ra _ _) (by lia)),?_⟩;exact q
noncomputable def pr (m k:Int):Li0:=am [2 * k,2 * k + 1] m
noncomputable def gu (m k:Int):Li0:=am [2 * k,2 * k + 1,2 * k + 2] m
noncomputable def na (m p:Int):Int:=if p < ms m then p else p - ms m
def vX (f:Int->Int->Li0):S3:=λΓ Q=>∃ (m k:Int),Γ=[some (.fz (.int m)),some (.fz (.int k))]/\Q (.fr (il (f m k))) Γ
theorem cm2{k:Int}:ug 2 k:=by delta ug;omega
theorem m5(T:Txt w K mg a):aM P w K mg base CX0 2 (a.x 28) (a.y 19) ["many","at"] (sp3 K 2 (vX pr)):=by
 refine ok3 T.cP.F yQ (hbody:=λe A b s H E d=>⟨_,_,(ak (ay (aj (by rfl) (jt T) d.dn (by rfl) T.b8.m T.b8.F.kp T.b8.b (aa (P3.opd (br (ab (cK (P3.opd ae) (bv 1)) (ab (aF (P3.opd (cK (P3.opd ae) (bv 1))) (P3.opd ae)) ai)))) (aa (P3.opd (p3v 0)) af))))),λc Q h f=>?_⟩);obtain⟨m,k,rfl,q⟩:=h;walk_at "q2";refine⟨cm2,cm2,sl2 (by decide),?_⟩;exact⟨[2 * k,2 * k + 1],m,rfl,by simp,q⟩
theorem mq(T:Txt w K mg a):aM P w K mg base CX0 2 (a.x 29) (a.y 20) ["many","at"] (sp3 K 2 (vX gu)):=by
 refine ok3 T.cH.F t6 (hbody:=λe A b s H E d=>⟨_,_,(ak (ay (aj (by rfl) (jt T) d.dn (by rfl) T.b8.m T.b8.F.kp T.b8.b (aa (P3.opd (br (ab (cK (P3.opd ae) (bv 1)) (ab (aF (P3.opd (cK (P3.opd ae) (bv 1))) (P3.opd ae)) (ab (aF (P3.opd (cK (P3.opd ae) (bv 1))) (P3.opd ae)) ai))))) (aa (P3.opd (p3v 0)) af))))),λc Q h f=>?_⟩);obtain⟨m,k,rfl,q⟩:=h;walk_at "q2";refine⟨cm2,cm2,cm2,sl2 (by decide),?_⟩;exact⟨[2 * k,2 * k + 1,2 * k + 2],m,rfl,by simp,q⟩
def Oh:S3:=λΓ Q=>∃ (m p:Int),Γ=[some (.fz (.int m)),some (.fz (.int p))]/\Q (.fz (.int (na m p))) Γ
theorem jW(T:Txt w K mg a):aM P w K mg base CX0 2 (a.x 30) (a.y 21) ["many","place"] (sp3 K 2 Oh):=by
 refine ok3 T.cb.F vD (hbody:=λe A b s H E c=>⟨_,_,(ak (ay (DN (aK oR (bv 1) (P3.opd (aj (by rfl) (cL T) c.dn (by rfl) T.aG.m T.aG.F.kp T.aG.b (aa (P3.opd (p3v 0)) af))) (aO _)) (p3v 1) (gc (bv 1) (P3.opd (aj (by rfl) (cL T) c.dn (by rfl) T.aG.m T.aG.F.kp T.aG.b (aa (P3.opd (p3v 0)) af))))))),λd Q h f=>?_⟩);obtain⟨m,p,rfl,q⟩:=h;walk_at "q2";walk_at "q2";refine⟨m,rfl,?_⟩;walk_at "q2";by_cases h:p < ms m
 .simp -iota only[lA,h,decide_true];walk_at "q2";simpa only[na,h,if_true] using q
 .simp -iota only[lA,h,decide_false];walk_at "q2";refine⟨m,rfl,?_⟩;walk_at "q2";simpa only[na,h,if_false] using q
noncomputable def pS (m p:Int):Li0:=pr m (na m p)
theorem pK(T:Txt w K mg a):aM P w K mg base CX0 3 (a.x 31) (a.y 22) ["many","place"] (sp3 K 2 (vX pS)):=by
 refine ok3 T.fW.F pj (hbody:=λe A b s H E c=>⟨_,_,(ak (ay (aj (by rfl) (m5 T) c.dn (by rfl) T.cP.m T.cP.F.kp T.cP.b (aa (P3.opd (p3v 0)) (aa (P3.opd (aj (by rfl) (jW T) c.dn (by rfl) T.cb.m T.cb.F.kp T.cb.b (aa (P3.opd (p3v 0)) (aa (P3.opd (p3v 1)) af)))) af))))),λd Q h f=>?_⟩);obtain⟨m,p,rfl,q⟩:=h;walk_at "q2";refine⟨m,p,rfl,?_⟩;walk_at "q2";exact⟨m,na m p,rfl,q⟩
noncomputable def lS (m p:Int):Li0:=if p < ms m then pr m (na m p) else (am [na m p - 1,na m p,na m p + 1] (ms m)).flatMap (pr m)
theorem ny{m:Int}:(am ns m).length<=ns.length:=ra _ _
theorem hZ {f:Int->Li0}{c:Nat}(h:∀ x,(f x).length<=c):∀ xs:Li0,(xs.flatMap f).length<=xs.length * c
 | []=>by simp
 | x::r=>by
  rw[List.flatMap_cons,bM,eK,Nat.add_mul,Nat.one_mul];have:=h x;have:=hZ h r;exact WF 0x497310b1e55480cb8 (by assumption) this
theorem AW{f:Int->Li0}{xs:Li0}{n:Int}(h:xs[k]?=some n):(xs.take (k + 1)).flatMap f=(xs.take k).flatMap f++f n:=by rw[take_snoc h,List.flatMap_append];simp
theorem yV{m k:Int}:(pr m k).length<=2:=ny
theorem zv{m k:Int}:(gu m k).length<=3:=ny
theorem nP(T:Txt w K mg a):aM P w K mg base CX0 3 (a.x 32) (a.y 23) ["many","place"] (sp3 K 2 (vX lS)):=by
 refine ok3 T.eZ.F eJ (hbody:=λI A u s H E r=>⟨_,_,(ag (aw (i:=2) eJ.nd rfl (ei rfl) (aj (by rfl) (jW T) r.dn (by rfl) T.cb.m T.cb.F.kp T.cb.b (aa (P3.opd (p3v 0)) (aa (P3.opd (p3v 1)) af))))
   (ag (bX (aK oR (bv 1) (P3.opd (aj (by rfl) (cL T) r.dn (by rfl) T.aG.m T.aG.F.kp T.aG.b (aa (P3.opd (p3v 0)) af))) (aO _)) (ak (ay (aj (by rfl) (m5 T) r.dn (by rfl) T.cP.m T.cP.F.kp T.cP.b (aa (P3.opd (p3v 0)) (aa (P3.opd (p3v 2)) af))))) aY)
   (ag (aw (i:=3) eJ.nd rfl (ei rfl) (aj (by rfl) (jt T) r.dn (by rfl) T.b8.m T.b8.F.kp T.b8.b (aa (P3.opd (br (ab (gc (bv 2) (P3.opd ae)) (ab (p3v 2) (ab (aF (bv 2) (P3.opd ae)) ai))))) (aa (P3.opd (aj (by rfl) (cL T) r.dn (by rfl) T.aG.m T.aG.F.kp T.aG.b (aa (P3.opd (p3v 0)) af))) af))))
   (ak (ay (xE rfl (cX (by rfl) (p3v 3)) c_ (λ_ _ _ _ _=>(aL (i:=0) c_.nd rfl (ei rfl))) (λ_ _ _ _ _=>(cX (by rfl) (aj (by rfl) (m5 T) r.dn (by rfl) T.cP.m T.cP.F.kp T.cP.b (aa (P3.opd (p3v 2)) (aa (P3.opd (p3v 0)) af))))) (λ_ _ _ _ _=>(aL (i:=1) c_.nd rfl (ei rfl))) (λ_ _ _ _ _=>(p3v 1)))))))),λC Q h M=>?_⟩)
 obtain⟨m,p,rfl,q⟩:=h;walk_at "q2";refine⟨m,p,rfl,?_⟩;walk_at "q2";refine⟨m,rfl,?_⟩;walk_at "q2";refine gy (λe=>?_) (λe=>?_)
 .have h:p < ms m:=by simpa [lA] using e
  walk_at "q2";refine⟨m,na m p,rfl,?_⟩;walk_at "q2";simpa only[lS,h,if_true] using q
 .have h:¬ p < ms m:=by simpa [lA] using e
  walk_at "q2";refine⟨sl2 (by decide),⟨m,rfl,?_⟩⟩;walk_at "q2";refine⟨[na m p - 1,na m p,na m p + 1],ms m,rfl,by simp,?_⟩;walk_at "q2";have v:(am [na m p - 1,na m p,na m p + 1] (ms m)).length<=3:=ny;have y:Q (RV.fr (il ((am [na m p - 1,na m p,na m p + 1] (ms m)).flatMap (pr m)))) [some (Sl.fz (D.int m)),some (Sl.fz (D.int p))]:=by simpa only[lS,h,if_false] using q
  generalize am [na m p - 1,na m p,na m p + 1] (ms m)=l at v y;refine gM (λk o b=>k<=l.length/\o=((l.take k).flatMap (pr m)).map D.int/\∃ s g,b=[fo s,fo g,some (.fz (.int m))]) ⟨eg _,rfl,none,none,rfl⟩ ?_ ?_
  .rintro k d o b x ⟨F,rfl,s,g,rfl⟩;obtain⟨n,B,rfl⟩:=j6 x;have lt:=dN B;have z:=hZ (f:=pr m) (c:=2) (λ_=>yV) (l.take k);have L:=yV (m:=m) (k:=n);rw[dU] at z;walk_at "q2";refine⟨m,n,rfl,?_⟩;walk_at "q2";refine⟨λj o b=>o=((l.take k).flatMap (pr m)++(pr m n).take j).map D.int/\j<=(pr m n).length/\∃ g,b=[some (.fz (.int n)),fo g,some (.fz (.int m))],⟨by simp,by exact eg _,g,rfl⟩,?_,?_⟩
   .rintro j d o b x ⟨rfl,G,g,rfl⟩;obtain⟨J,t,rfl⟩:=j6 x;have lt':=dN t;walk_at "q2";refine⟨small (by rw[lM0,bM,dU];lia),?_,by assumption,some _,rfl⟩;rw[take_snoc t,<- hQ,dE (l₁:=_++_)];rfl
   .rintro o b ⟨rfl,G,g,rfl⟩;refine⟨lt,?_,some _,g,rfl⟩;rw[lM0,lD,AW B]
  .rintro o b ⟨F,rfl,s,g,rfl⟩;have z:=hZ (f:=pr m) (c:=2) (λ_=>yV) l;rw[show l.take (uP D.int l).length=l by rw[lM0,lD]];refine⟨small (by rw[lM0];lia),?_⟩;exact y
noncomputable def gS (m p:Int):Li0:=if ms m<=p then gu m (na m p) else sset ([2 * na m p]++(am [na m p - 1,na m p] (m / 2)).flatMap (gu m))
theorem nQ(T:Txt w K mg a):aM P w K mg base CX0 3 (a.x 33) (a.y 24) ["many","place"] (sp3 K 2 (vX gS)):=by
 refine ok3 T.e7.F eM (hbody:=λI A v s H E t=>⟨_,_,(ag (aw (i:=2) eM.nd rfl (ei rfl) (aj (by rfl) (jW T) t.dn (by rfl) T.cb.m T.cb.F.kp T.cb.b (aa (P3.opd (p3v 0)) (aa (P3.opd (p3v 1)) af))))
   (ag (bX (aK EX (bv 1) (P3.opd (aj (by rfl) (cL T) t.dn (by rfl) T.aG.m T.aG.F.kp T.aG.b (aa (P3.opd (p3v 0)) af))) (aO _)) (ak (ay (aj (by rfl) (mq T) t.dn (by rfl) T.cH.m T.cH.F.kp T.cH.b (aa (P3.opd (p3v 0)) (aa (P3.opd (p3v 2)) af))))) aY)
   (ag (aw (i:=3) eM.nd rfl (ei rfl) (aj (by rfl) (jt T) t.dn (by rfl) T.b8.m T.b8.F.kp T.b8.b (aa (P3.opd (br (ab (gc (bv 2) (P3.opd ae)) (ab (p3v 2) ai)))) (aa (P3.opd (b9 (bv 0) (P3.opd ae))) af))))
   (ak (ay (Ax rfl (by rfl) T.z_sorted (by rfl) T.z_set (aa (P3.opd (aF (P3.opd (br (ab (cK (P3.opd ae) (bv 2)) ai))) (P3.opd (xE rfl (cX (by rfl) (p3v 3)) dd (λ_ _ _ _ _=>(aL (i:=0) dd.nd rfl (ei rfl))) (λ_ _ _ _ _=>(cX (by rfl) (aj (by rfl) (mq T) t.dn (by rfl) T.cH.m T.cH.F.kp T.cH.b (aa (P3.opd (p3v 2)) (aa (P3.opd (p3v 0)) af))))) (λ_ _ _ _ _=>(aL (i:=1) dd.nd rfl (ei rfl))) (λ_ _ _ _ _=>(p3v 1)))))) af))))))),λC Q h M=>?_⟩)
 obtain⟨m,p,rfl,q⟩:=h;walk_at "q2";refine⟨m,p,rfl,?_⟩;walk_at "q2";refine⟨m,rfl,?_⟩;walk_at "q2";refine gy (λe=>?_) (λe=>?_)
 .have h:ms m<=p:=by simpa [zE] using e
  walk_at "q2";refine⟨m,na m p,rfl,?_⟩;walk_at "q2";simpa only[gS,h,if_true] using q
 .have h:¬ ms m<=p:=by simpa [zE] using e
  walk_at "q2";refine⟨sl2 (by decide),by delta p_;decide,⟨[na m p - 1,na m p],m / 2,rfl,by simp,?_⟩⟩;walk_at "q2";have r:(am [na m p - 1,na m p] (m / 2)).length<=2:=ny;have z:Q (RV.fr (il (sset ([2 * na m p]++(am [na m p - 1,na m p] (m / 2)).flatMap (gu m))))) [some (Sl.fz (D.int m)),some (Sl.fz (D.int p))]:=by simpa only[gS,h,if_false] using q
  generalize am [na m p - 1,na m p] (m / 2)=g at r z;refine⟨cm2,sl2 (by decide),gM (λk o b=>k<=g.length/\o=((g.take k).flatMap (gu m)).map D.int/\∃ s l,b=[fo s,fo l,some (.fz (.int m))]) ⟨eg _,rfl,none,none,rfl⟩ ?_ ?_⟩
  .rintro k d o b y ⟨F,rfl,s,l,rfl⟩;obtain⟨n,B,rfl⟩:=j6 y;have lt:=dN B;have x:=hZ (f:=gu m) (c:=3) (λ_=>zv) (g.take k);have L:=zv (m:=m) (k:=n);rw[dU] at x;walk_at "q2";refine⟨m,n,rfl,?_⟩;walk_at "q2";refine⟨λj o b=>o=((g.take k).flatMap (gu m)++(gu m n).take j).map D.int/\j<=(gu m n).length/\∃ l,b=[some (.fz (.int n)),fo l,some (.fz (.int m))],⟨by simp,by exact eg _,l,rfl⟩,?_,?_⟩
   .rintro j d o b y ⟨rfl,G,l,rfl⟩;obtain⟨J,u,rfl⟩:=j6 y;have lt':=dN u;walk_at "q2";refine⟨small (by rw[lM0,bM,dU];lia),?_,by assumption,some _,rfl⟩;rw[take_snoc u,<- hQ,dE (l₁:=_++_)];rfl
   .rintro o b ⟨rfl,G,l,rfl⟩;refine⟨lt,?_,some _,l,rfl⟩;rw[lM0,lD,AW B]
  .rintro o b ⟨F,rfl,s,l,rfl⟩;have x:=hZ (f:=gu m) (c:=3) (λ_=>zv) g;rw[show g.take (uP D.int g).length=g by rw[lM0,lD]];refine⟨small (by rw[lM0];lia),?_⟩;walk_at "q2";exact⟨sl2 (by rw[lM0];lia),2 * na m p::g.flatMap (gu m),rfl,by rw[eK];exact WF 0xf2125c61a2724013c4737e r x,z⟩
noncomputable def pd (m:Int)(ns:Li0):Li0:=(am ns (m / 2)).map λn=>ms m + n
def N7:S3:=λΓ Q=>∃ (m:Int) (ns:Li0),Γ=[some (.fz (.int m)),some (.fz (il ns))]/\ns.length<=100/\Q (.fr (il (pd m ns))) Γ
theorem bS(T:Txt w K mg a):aM P w K mg base CX0 2 (a.x 34) (a.y 25) ["many","numbers"] (sp3 K 2 N7):=by
 refine ok3 T.au.F iY (hbody:=λu A f s H E j=>⟨_,_,(ak (ay (dM rfl (cX (by rfl) (aj (by rfl) (jt T) j.dn (by rfl) T.b8.m T.b8.F.kp T.b8.b (aa (P3.opd (p3v 1)) (aa (P3.opd (b9 (bv 0) (P3.opd ae))) af)))) cZ (λ_ _ _ _ _=>(aL (i:=0) cZ.nd rfl (ei rfl))) (λ_ _ _ _ _=>(aF (P3.opd (aj (by rfl) (cL T) j.dn (by rfl) T.aG.m T.aG.F.kp T.aG.b (aa (P3.opd (p3v 1)) af))) (bv 0)))))),λl Q h v=>?_⟩);obtain⟨m,ns,rfl,g,q⟩:=h;walk_at "q2";refine⟨by delta p_;decide,⟨ns,m / 2,rfl,by lia,?_⟩⟩;walk_at "q2";have p:=ny (ns:=ns) (m:=m / 2);delta pd at q;generalize am ns (m / 2)=c at p q;refine⟨small (by rw[lM0];lia),eS (λk e b=>k<=c.length/\e=((c.take k).map λn=>ms m + n).map D.int/\∃ s,b=[fo s,some (.fz (.int m))]) ⟨eg _,rfl,none,rfl⟩ ?_ ?_⟩
 .rintro k d e b t o ⟨r,rfl,s,rfl⟩;obtain⟨n,g,rfl⟩:=j6 t;have lt:=dN g;walk_at "q2";refine⟨m,rfl,?_⟩;walk_at "q2";exact⟨lt,by rw[take_snoc g,dE,dE];rfl,some _,rfl⟩
 .rintro e b o ⟨r,rfl,s,rfl⟩;rw[show c.take (uP D.int c).length=c by rw[lM0,lD]];exact q
theorem sj{m:Int}:(pd m ns).length<=ns.length:=by delta pd;rw[lM0];exact ny
noncomputable def pB (m p:Int):Li0:=[p / 2]++pd m [p / 2]
theorem sA(T:Txt w K mg a):aM P w K mg base CX0 3 (a.x 35) (a.y 26) ["many","place"] (sp3 K 2 (vX pB)):=by
 refine ok3 T.iX.F kD (hbody:=λe A b s H E d=>⟨_,_,(ag (aw (i:=2) kD.nd rfl (ei rfl) (b9 (bv 1) (P3.opd ae)))
   (ak (ay (aF (P3.opd (br (ab (p3v 2) ai))) (P3.opd (aj (by rfl) (bS T) d.dn (by rfl) T.au.m T.au.F.kp T.au.b (aa (P3.opd (p3v 0)) (aa (P3.opd (br (ab (p3v 2) ai))) af)))))))),λc Q h f=>?_⟩)
 obtain⟨m,p,rfl,q⟩:=h;walk_at "q2";refine⟨by delta p_;decide,sl2 (by decide),sl2 (by decide),⟨m,[p / 2],rfl,by simp,?_⟩⟩;walk_at "q2";have l:=sj (m:=m) (ns:=[p / 2]);exact⟨sl2 (by rw[lM0];simp -iota at l;lia),q⟩
noncomputable def fB (m k:Int):Li0:=[k]++pd m [k - 1,k]
theorem jb(T:Txt w K mg a):aM P w K mg base CX0 3 (a.x 37) (a.y 28) ["many","at"] (sp3 K 2 (vX fB)):=by
 refine ok3 T.bQ.F t7 (hbody:=λe A b s H E d=>⟨_,_,(ak (ay (aF (P3.opd (br (ab (p3v 1) ai))) (P3.opd (aj (by rfl) (bS T) d.dn (by rfl) T.au.m T.au.F.kp T.au.b (aa (P3.opd (p3v 0)) (aa (P3.opd (br (ab (gc (bv 1) (P3.opd ae)) (ab (p3v 1) ai)))) af))))))),λc Q h f=>?_⟩);obtain⟨m,p,rfl,q⟩:=h;walk_at "q2";refine⟨sl2 (by decide),sl2 (by decide),⟨m,[p - 1,p],rfl,by simp,?_⟩⟩;walk_at "q2";have l:=sj (m:=m) (ns:=[p - 1,p]);exact⟨sl2 (by rw[lM0];simp -iota at l;exact WF 0xdefd68b030af4161 l),q⟩
theorem Et{m k:Int}:(fB m k).length<=3:=by
 delta fB;have l:=sj (m:=m) (ns:=[k - 1,k]);simp -iota at l ⊢;omega
noncomputable def lB (m p:Int):Li0:=if p / 2=m / 2 then [p / 2] else am [p / 2 - 1,p / 2,p / 2 + 1] (ms m)++pd m [p / 2]
theorem qS(T:Txt w K mg a):aM P w K mg base CX0 3 (a.x 36) (a.y 27) ["many","place"] (sp3 K 2 (vX lB)):=by
 refine ok3 T.gO.F kd (hbody:=λg A c s H E b=>⟨_,_,(ag (aw (i:=2) kd.nd rfl (ei rfl) (b9 (bv 1) (P3.opd ae)))
   (ag (bX (aK (fh (by rfl) b) (bv 2) (P3.opd (b9 (bv 0) (P3.opd ae))) (aO _)) (ak (ay (br (ab (p3v 2) ai)))) aY)
   (ak (ay (aF (P3.opd (aj (by rfl) (jt T) b.dn (by rfl) T.b8.m T.b8.F.kp T.b8.b (aa (P3.opd (br (ab (gc (bv 2) (P3.opd ae)) (ab (p3v 2) (ab (aF (bv 2) (P3.opd ae)) ai))))) (aa (P3.opd (aj (by rfl) (cL T) b.dn (by rfl) T.aG.m T.aG.F.kp T.aG.b (aa (P3.opd (p3v 0)) af))) af)))) (P3.opd (aj (by rfl) (bS T) b.dn (by rfl) T.au.m T.au.F.kp T.au.b (aa (P3.opd (p3v 0)) (aa (P3.opd (br (ab (p3v 2) ai))) af))))))))),λf Q h j=>?_⟩)
 obtain⟨m,p,rfl,q⟩:=h;walk_at "q2";refine⟨by delta p_;decide,by delta p_;decide,gy (λe=>?_) (λe=>?_)⟩
 .have h:p / 2=m / 2:=by simpa using e
  walk_at "q2";refine⟨sl2 (by decide),?_⟩;delta lB at q;rw[if_pos h] at q;exact q
 .have h:¬ p / 2=m / 2:=by simpa using e
  walk_at "q2";refine⟨sl2 (by decide),⟨m,rfl,?_⟩⟩;walk_at "q2";refine⟨[p / 2 - 1,p / 2,p / 2 + 1],ms m,rfl,by simp,?_⟩;walk_at "q2";refine⟨sl2 (by decide),⟨m,[p / 2],rfl,by simp,?_⟩⟩;walk_at "q2";have l:=sj (m:=m) (ns:=[p / 2]);have d:=ny (ns:=[p / 2 - 1,p / 2,p / 2 + 1]) (m:=ms m);delta lB at q;rw[if_neg h,il,dE] at q;refine⟨sl2 (by rw[lM0,lM0];simp -iota at l d;exact WF 0x4ab161d2a359b423c3be l d),q⟩
noncomputable def gB (m p:Int):Li0:=if p=2 * (p / 2) then fB m (p / 2) else sset ((pd m [p / 2]++fB m (p / 2))++(if p + 1 < m then fB m (p / 2 + 1) else []))
theorem qU(T:Txt w K mg a):aM P w K mg base CX0 4 (a.x 38) (a.y 29) ["many","place"] (sp3 K 2 (vX gB)):=by
 refine ok3 T.gP.F fZ (hbody:=λr A c s H E b=>⟨_,_,(ag (aw (i:=2) fZ.nd rfl (ei rfl) (b9 (bv 1) (P3.opd ae)))
   (ag (bX (aK (fh (by rfl) b) (bv 1) (P3.opd (cK (P3.opd ae) (bv 2))) (aO _)) (ak (ay (aj (by rfl) (jb T) b.dn (by rfl) T.bQ.m T.bQ.F.kp T.bQ.b (aa (P3.opd (p3v 0)) (aa (P3.opd (p3v 2)) af))))) aY)
   (ag (aw (i:=3) fZ.nd rfl (ei rfl) (aF (P3.opd (aj (by rfl) (bS T) b.dn (by rfl) T.au.m T.au.F.kp T.au.b (aa (P3.opd (p3v 0)) (aa (P3.opd (br (ab (p3v 2) ai))) af)))) (P3.opd (aj (by rfl) (jb T) b.dn (by rfl) T.bQ.m T.bQ.F.kp T.bQ.b (aa (P3.opd (p3v 0)) (aa (P3.opd (p3v 2)) af))))))
   (ag (bX (aK oR (P3.opd (aF (bv 1) (P3.opd ae))) (bv 0) (aO _)) (ak (iJ (uC 3 (by rfl) (bv 3) (P3.opd (aj (by rfl) (jb T) b.dn (by rfl) T.bQ.m T.bQ.F.kp T.bQ.b (aa (P3.opd (p3v 0)) (aa (P3.opd (aF (bv 2) (P3.opd ae))) af))))))) aY)
   (ak (ay (Ax rfl (by rfl) T.z_sorted (by rfl) T.z_set (aa (bv 3) af)))))))),λn Q h t=>?_⟩)
 obtain⟨m,p,rfl,q⟩:=h;walk_at "q2";refine⟨by delta p_;decide,cm2,gy (λe=>?_) (λe=>?_)⟩
 .have h:p=2 * (p / 2):=by simpa using e
  walk_at "q2";refine⟨m,p / 2,rfl,?_⟩;delta gB at q;rw[if_pos h] at q;exact q
 .have h:¬ p=2 * (p / 2):=by simpa using e
  delta gB at q;rw[if_neg h] at q;walk_at "q2";refine⟨sl2 (by decide),⟨m,[p / 2],rfl,by simp,?_⟩⟩;walk_at "q2";refine⟨m,p / 2,rfl,?_⟩;walk_at "q2";have l:=sj (m:=m) (ns:=[p / 2]);have g:=Et (m:=m) (k:=p / 2);have j:(pd m [p / 2]).length<=1:=by simpa using l
  refine⟨sl2 (by rw[lM0,lM0];lia),gy (λf=>?_) (λf=>?_)⟩
  .have d:p + 1 < m:=by simpa [lA] using f
   rw[if_pos d] at q;have o:=Et (m:=m) (k:=p / 2 + 1);walk_at "q2";refine⟨m,p / 2 + 1,rfl,?_⟩;walk_at "q2";exact⟨sl2 (by rw[bM,lM0,lM0,lM0];lia),pd m [p / 2]++fB m (p / 2)++fB m (p / 2 + 1),by rw[dE,dE],by rw[bM,bM];exact WF 0x8de5e311b84946486a91aff8b5b g j o,q⟩
  .have d:¬ p + 1 < m:=by simpa [lA] using f
   rw[if_neg d,jw] at q;walk_at "q2";exact⟨pd m [p / 2]++fB m (p / 2),by rw[dE],by rw[bM];exact WF 0x4f0b382da4e10ba8ef3e g j,q⟩
theorem iQ{a c b:Addr}(R:Rl):([("sum",a),("half",a),("guess",c),("lean",b)]:List (Str×Addr)).lookup R.word=some (match R with | .sum=>a | .half=>a | .guess=>c | .lean=>b):=by
 simp -iota only[fg];cases R with
 | sum=>rw[show (Rl.sum.word == fS "sum")=true by decide +kernel]
 | half=>rw[show (Rl.half.word == fS "sum")=false by decide +kernel,show (Rl.half.word == fS "half")=true by decide +kernel]
 | guess=>rw[show (Rl.guess.word == fS "sum")=false by decide +kernel,show (Rl.guess.word == fS "half")=false by decide +kernel,show (Rl.guess.word == fS "guess")=true by decide +kernel]
 | lean=>rw[show (Rl.lean.word == fS "sum")=false by decide +kernel,show (Rl.lean.word == fS "half")=false by decide +kernel,show (Rl.lean.word == fS "guess")=false by decide +kernel,show (Rl.lean.word == fS "lean")=true by decide +kernel]
noncomputable def Rl.sp:Rl->Int->Int->Li0
 | .sum=>pS | .half=>pS | .guess=>gS | .lean=>lS
noncomputable def Rl.bk:Rl->Int->Int->Li0
 | .sum=>pB | .half=>pB | .guess=>gB | .lean=>lB
def GW (f:Rl->Int->Int->Li0):S3:=λΓ Q=>∃ (R:Rl) (m p:Int),Γ=[some (.fz (.str R.word)),some (.fz (.int m)),some (.fz (.int p))]/\Q (.fr (il (f R m p))) Γ
theorem qT(T:Txt w K mg a):aM P w K mg base CX0 4 (a.x 39) (a.y 30) ["word","many","place"] (sp3 K 3 (GW Rl.sp)):=by
 refine ok3 T.c7.F ke (hbody:=λe A b s H E c=>⟨_,_,(ag (aw (i:=3) ke.nd rfl (ei rfl) (Ay (by rfl) T.Cd (bv 0)))
   (ak (ay (P3.or (cN (j:=3) T.fW.F (pK T) c.dn T.fW.b (by rfl) (by first | exact ei rfl | exact jg (ei rfl) | exact jg (jg rfl)) (aa (P3.opd (p3v 1)) (aa (P3.opd (p3v 2)) af))) (P3.or (cN (j:=3) T.e7.F (nQ T) c.dn T.e7.b (by rfl) (by first | exact ei rfl | exact jg (ei rfl) | exact jg (jg rfl)) (aa (P3.opd (p3v 1)) (aa (P3.opd (p3v 2)) af))) (cN (j:=3) T.eZ.F (nP T) c.dn T.eZ.b (by rfl) (by first | exact ei rfl | exact jg (ei rfl) | exact jg (jg rfl)) (aa (P3.opd (p3v 1)) (aa (P3.opd (p3v 2)) af)))))))),λd Q h f=>?_⟩)
 obtain⟨R,m,p,rfl,q⟩:=h;walk_at "q2";cases R with
 | sum=>
  refine⟨_,(a.x 31),rfl,iQ .sum,?_⟩;walk_at "q2";refine .inl ⟨rfl,?_⟩;walk_at "q2";exact⟨m,p,rfl,q⟩
 | half=>
  refine⟨_,(a.x 31),rfl,iQ .half,?_⟩;walk_at "q2";refine .inl ⟨rfl,?_⟩;walk_at "q2";exact⟨m,p,rfl,q⟩
 | guess=>
  refine⟨_,(a.x 33),rfl,iQ .guess,?_⟩;walk_at "q2";refine .inr (.inl ⟨rfl,?_⟩);walk_at "q2";exact⟨m,p,rfl,q⟩
 | lean=>
  refine⟨_,(a.x 32),rfl,iQ .lean,?_⟩;walk_at "q2";refine .inr (.inr ⟨rfl,?_⟩);walk_at "q2";exact⟨m,p,rfl,q⟩
theorem kT(T:Txt w K mg a):aM P w K mg base CX0 5 (a.x 40) (a.y 31) ["word","many","place"] (sp3 K 3 (GW Rl.bk)):=by
 refine ok3 T.bZ.F fI (hbody:=λe A b s H E c=>⟨_,_,(ag (aw (i:=3) fI.nd rfl (ei rfl) (Ay (by rfl) T.tL (bv 0)))
   (ak (ay (P3.or (cN (j:=3) T.iX.F (sA T) c.dn T.iX.b (by rfl) (by first | exact ei rfl | exact jg (ei rfl) | exact jg (jg rfl)) (aa (P3.opd (p3v 1)) (aa (P3.opd (p3v 2)) af))) (P3.or (cN (j:=3) T.gP.F (qU T) c.dn T.gP.b (by rfl) (by first | exact ei rfl | exact jg (ei rfl) | exact jg (jg rfl)) (aa (P3.opd (p3v 1)) (aa (P3.opd (p3v 2)) af))) (cN (j:=3) T.gO.F (qS T) c.dn T.gO.b (by rfl) (by first | exact ei rfl | exact jg (ei rfl) | exact jg (jg rfl)) (aa (P3.opd (p3v 1)) (aa (P3.opd (p3v 2)) af)))))))),λd Q h f=>?_⟩)
 obtain⟨R,m,p,rfl,q⟩:=h;walk_at "q2";cases R with
 | sum=>
  refine⟨_,(a.x 35),rfl,iQ .sum,?_⟩;walk_at "q2";refine .inl ⟨rfl,?_⟩;walk_at "q2";exact⟨m,p,rfl,q⟩
 | half=>
  refine⟨_,(a.x 35),rfl,iQ .half,?_⟩;walk_at "q2";refine .inl ⟨rfl,?_⟩;walk_at "q2";exact⟨m,p,rfl,q⟩
 | guess=>
  refine⟨_,(a.x 38),rfl,iQ .guess,?_⟩;walk_at "q2";refine .inr (.inl ⟨rfl,?_⟩);walk_at "q2";exact⟨m,p,rfl,q⟩
 | lean=>
  refine⟨_,(a.x 36),rfl,iQ .lean,?_⟩;walk_at "q2";refine .inr (.inr ⟨rfl,?_⟩);walk_at "q2";exact⟨m,p,rfl,q⟩
noncomputable abbrev nl (ns:List Nat):D:=.lst (ns.map λn:Nat=>D.int (n:Int))
theorem j9(x y:Nat):HD (x:Int) (y:Int)=((x ||| y:Nat):Int):=by
 have a:∀ z:Int,PH (PH z)=z:=λz=>by delta PH;lia
 have b2:∀ z:Nat,decide (PH (z:Int)≥0)=false:=λz=>by delta PH;simp;lia
 delta HD AC;rw[b2,b2];simp only[a,et]
theorem E7(x:Nat):AC (x:Int) 1=((x % 2:Nat):Int):=by
 delta AC;rw[show decide ((x:Int)≥0)=true by simp,show decide ((1:Int)≥0)=true by decide];simp only[et];rw[show (1:Int).toNat=1 from rfl,Nat.and_one_is_mod]
theorem Hd{a:Type}(f:a->D)(F:List a)(k:Nat):cut (F.map f) (some (k:Int)) (some ((k:Int) + 1))=((F.drop k).take 1).map f:=by
 have c:_h.sIx F.length 0 (some (k:Int))=min k F.length:=_h.iI _ _ _;have b:_h.sIx F.length F.length (some ((k:Int) + 1))=min (k + 1) F.length:=_h.iI _ _ (k + 1);delta cut;rw[lM0,c,b,<- HG,<- ze];by_cases h:k < F.length
 .rw[lE (by assumption),lE (by exact fq (by assumption)),mv]
 .rw[oz (by lia),oz (by lia),UV,UV]
noncomputable def m9 (f g:List Nat):Nat->List Nat
 | 0=>[]
 | k + 1=>m9 f g k++(f.getD k 0::(g.drop k).take 1)
theorem xP {f g:List Nat}:∀ k,(m9 f g k).length<=2 * k
 | 0=>by simp -iota [m9]
 | k + 1=>by
  have:=xP (f:=f) (g:=g) k;rw[m9,bM,eK,dU];exact WF 0x4ba6e38bd0249269bd1770b this (lC _ _)
def Ms:S3:=λΓ Q=>∃ (f g:List Nat),Γ=[some (.fz (nl f)),some (.fz (nl g))]/\f.length<=100/\g.length<=100/\Q (.fr (nl (m9 f g f.length))) Γ
theorem mw(T:Txt w K mg a):aM P w K mg base CX0 1 (a.x 56) (a.y 47) ["_law_firsts","_law_seconds"] (sp3 K 2 Ms):=by
 refine ok3 T.cJ.F fE (hbody:=λt A l s H E y=>⟨_,_,(ag (aw (i:=2) fE.nd rfl (ei rfl) (br ai))
   (ag (i_ kr rfl (GZ (by rfl) T.z_enumerate (ab (p3v 0) ai)) (sX (is:=[3,4]) (by rfl) (aQ (bu (i:=3) fE.nd rfl (ei rfl)) (aQ (bu (i:=4) fE.nd rfl (ei rfl)) dH)) rfl)
   (ak (iJ (uC 2 (by rfl) (bv 2) (P3.opd (aF (P3.opd (br (ab (p3v 4) ai))) (P3.opd (bj (by rfl) (bv 1) (aR (bv 3)) (aR (P3.opd (aF (bv 3) (P3.opd ae))))))))))))
   (ak (ay (DL 2))))),λm Q h B=>?_⟩)
 obtain⟨f,g,rfl,F,C,q⟩:=h;walk_at "q2";refine⟨sl2 (by decide),dD (λk c=>k<=f.length/\∃ s j,c=[some (.fz (nl f)),some (.fz (nl g)),some (.ow (nl (m9 f g k))),fo s,fo j]) ⟨eg _,none,none,rfl⟩ ?_ ?_⟩
 .rintro k d c p ⟨o,s,j,rfl⟩;obtain⟨x,b,rfl⟩:=pX p;rw[ba] at b;have lt:k < f.length:=by
   cases z:f[k]? with
   | none=>rw[z] at b;cases b
   | some _=>exact dN z
  have e:x=.int ((f.getD k 0:Nat):Int):=by rw[gE0 lt] at b;cases b;rw[dq,gE0 lt];rfl
  subst e;have v:=xP (f:=f) (g:=g) k;walk_at "q2";rw[Hd (λn:Nat=>D.int (n:Int)) g k];have u:(((g.drop k).take 1).map λn:Nat=>D.int (n:Int)).length<=1:=by rw[lM0,dU];lia
  refine⟨sl2 (by decide),sl2 (by lia),sl2 (by rw[lM0];lia),lt,some (.int (k:Int)),some (.int ((f.getD k 0:Nat):Int)),?_⟩;have r:nl (m9 f g (k + 1))=D.lst (uP (λn:Nat=>D.int (n:Int)) (m9 f g k)++D.int ((f.getD k 0:Nat):Int)::uP (λn:Nat=>D.int (n:Int)) ((g.drop k).take 1)):=by rw[nl,m9,dE,fO]
  rw[r]
  rfl
 .rintro c ⟨o,s,j,rfl⟩;walk_at "q2";rw[show (uX (uP (λn:Nat=>D.int (n:Int)) f)).length=f.length by delta uX;simp];exact q
noncomputable def gd (r:List Nat)(k:Nat):Nat:=r.getD k 0
noncomputable def bo (r:List Nat):List Nat:=(cj (r.length / 2)).map λk=>gd r (2 * k) ||| gd r (2 * k + 1)
noncomputable def su (r:List Nat):List Nat:=bo r++r.drop (2 * (r.length / 2))
noncomputable def b_ (r:List Nat):List Nat:=r.drop (r.length - 1)
noncomputable def evs (r:List Nat):List Nat:=(cj ((r.length + 1) / 2)).map λk=>gd r (2 * k)
noncomputable def tri (f g h:List Nat)(n:Nat):List Nat:=(cj n).map λk=>gd f k ||| gd g k ||| gd h k
noncomputable def mpG (r:List Nat):List Nat:=
 let b:=evs r
 let c:=b.drop 1++b_ b
 let a:=(cj (r.length / 2)).map λk=>gd (bo r) k ||| gd c k
 tri b (a.take 1++a) (a++b_ a) b.length++a
noncomputable def mpL (r:List Nat):List Nat:=
 let s:=su r
 s++tri (bo r) (s.take 1++s) (s.drop 1++b_ s) (r.length / 2)
noncomputable def mp:Rl->List Nat->List Nat
 | .guess=>mpG | .lean=>mpL | _=>λr=>su r++bo r
noncomputable def mjG (r:List Nat):List Nat:=
 let n:=r.length / 2
 let s:=r.take (r.length - n)
 let a:=r.drop (r.length - n)
 let b:=tri s (a.take 1++a) (a++b_ a) s.length
 let c:=b.drop 1++b_ b
 m9 b (tri a b c n) b.length
noncomputable def mjO (l:Bool)(r:List Nat):List Nat:=
 let n:=r.length / 2
 let s:=r.take (r.length - n)
 let c:=r.drop (r.length - n)
 let a:=(cj n).map λk=>gd s k ||| gd c k
 let b:=if l then tri a (s.take 1++s) (s.drop 1++b_ s) n else a
 m9 (b++s.drop n) b (b++s.drop n).length
noncomputable def mj:Rl->List Nat->List Nat
 | .guess=>mjG | .lean=>mjO true | _=>mjO false
noncomputable def sE (m:Nat):List Nat:=(cj m).map λk=>2 ^ k
noncomputable def msk (xs:Li0):Nat:=xs.foldr (λx acc=>2 ^ x.toNat ||| acc) 0
noncomputable def rise (m:Int):Int->Li0->Bool
 | _,[]=>true
 | p,x::r=>decide (p < x) && decide (x < m) && rise m x r
noncomputable def Np (R:Rl)(m:Nat):Bool:=let M:=mp R (sE m);M.length == m && (cj m).all λp=>rise m (-1) (R.sp m p) && msk (R.sp m p) == gd M p
noncomputable def Nq (R:Rl)(m:Nat):Bool:=let M:=mj R (sE m);M.length == m && (cj m).all λp=>rise m (-1) (R.bk m p) && msk (R.bk m p) == gd M p
theorem nF {m:Int}:∀ {xs:Li0} {p:Int},rise m p xs=true->(∀ x∈xs,p < x/\x < m)/\xs.Pairwise (· < ·)
 | [],p,_=>⟨λx hx=>by simp -iota at hx,oC⟩
 | y::r,p,h=>by
  simp -iota only[rise,kn,decide_eq_true_eq] at h;obtain⟨⟨b,e⟩,d⟩:=h;obtain⟨a,f⟩:=nF d;refine⟨λx hx=>?_,kq.mpr ⟨λz c=>(a z c).1,f⟩⟩;rcases cS.mp hx with rfl | hx
  .exact⟨b,e⟩
  .exact⟨U9 b (a x hx).1,(a x hx).2⟩
theorem oU:∀ (xs:Li0),(∀ x∈xs,0<=x)->∀ k:Nat,(msk xs).testBit k=decide ((k:Int)∈xs)
 | [],_,k=>by simp -iota [msk]
 | x::r,h,k=>by
  have a:=oU r (λy b=>h y (eh _ b)) k;have c:=h x (by simp);show (2 ^ x.toNat ||| msk r).testBit k=_;rw[LQ,zC,a,<- Bool.decide_or,decide_eq_decide,cS];constructor
  .rintro(e | e)
   .exact .inl (by lia)
   .exact .inr e
  .rintro(e | e)
   .exact .inl (by lia)
   .exact .inr e
theorem zg{xs:Li0}(h:rise m (-1) xs=true):((cj m).filter λk=>msk xs / 2 ^ k % 2 == 1).map (λk:Nat=>(k:Int))=xs:=by
 obtain⟨b,d⟩:=nF h;refine vP ?_ d λx=>?_
 .rw[mD];exact(qp.filter _).imp λh=>by lia
 .rw[jc];constructor
  .rintro⟨k,c,rfl⟩;have e:=(qA.mp c).2;have:=oU xs (λx a=>by have:=(b x a).1;assumption) k;rw[wh] at this;exact of_decide_eq_true (this.symm.trans (by simpa using e))
  .intro a;have f:=b x a;refine⟨x.toNat,qA.mpr ⟨iU.mpr (by lia),?_⟩,by lia⟩;have:=oU xs (λx a=>by have:=(b x a).1;assumption) x.toNat
   rw[wh,oB (by lia),decide_eq_true a] at this;simpa using this
theorem gj{ns:List Nat}(h:k < ns.length):atI (ns.map λn:Nat=>D.int (n:Int)) (k:Int)=some (.int ((gd ns k:Nat):Int)):=dF (by lia) (by
 rw[et,ba,gE0 h,gd,dq,gE0 h];rfl)
theorem A5{a:Type}(f:a->D)(F:List a):cut (F.map f) none (some 1)=(F.take 1).map f:=by
 have b:_h.sIx F.length F.length (some (1:Int))=min 1 F.length:=_h.iI _ _ 1;delta cut;rw[lM0,_h.g0,b,PF,RI,<- ze];cases F <;> rfl
theorem A6{a:Type}(f:a->D)(F:List a):cut (F.map f) (some 1) none=(F.drop 1).map f:=by
 have b:_h.sIx F.length 0 (some (1:Int))=min 1 F.length:=_h.iI _ _ 1;delta cut;rw[lM0,_h.g0,b,<- HG,<- ze,iA (by rw[dw];exact bU _)];cases F with
 | nil=>rfl
 | cons x r=>rw[lE (by rw[eK];exact nz _)]
theorem u_(f:Nat->D)(F:List Nat)(h:1<=F.length):cut (F.map f) (some (-1)) none=(b_ F).map f:=by
 have a:_h.sIx F.length 0 (some (-1:Int))=F.length - 1:=by
  show (if (-1:Int) < 0 then (-1 + (F.length:Int)).toNat else min (-1:Int).toNat F.length)=_;rw[if_pos (by decide)];lia
 delta cut b_;rw[lM0,_h.g0,a,<- HG,<- ze,iA (by rw[dw];exact bU _)]
theorem pk0(ns:Li0):pk (ns.map D.int) (some 0) none (some 2)=(cj ((ns.length + 1) / 2)).map λk=>D.int (ns.getD (2 * k) 0):=by
 have h:=L9 ns;have e:qe (ns.map V.int) (some 0) none (some 2)=(pk ns (some 0) none (some 2)).map V.int:=Dx V.int ns _ _ _;rw[e,show (cj ((ns.length + 1) / 2)).map (λk=>V.int (ns.getD (2 * k) 0))=((cj ((ns.length + 1) / 2)).map λk=>ns.getD (2 * k) 0).map V.int by rw[iS];rfl] at h;have c:∀ {a b:Li0},a.map V.int=b.map V.int->a=b:=λ{a b} h=>List.map_inj_right (λ_ _ q=>by cases q;rfl) |>.mp h;rw[Dx,c h,iS];rfl
theorem G6(r:List Nat)(k:Nat):(r.map λn:Nat=>(n:Int)).getD k 0=((gd r k:Nat):Int):=by
 rw[dq,ba,gd,dq];cases r[k]? <;> rfl
theorem ON(r:List Nat):pk (r.map λn:Nat=>D.int (n:Int)) none none (some 2)=(evs r).map λn:Nat=>D.int (n:Int):=by
 have e:(r.map λn:Nat=>D.int (n:Int))=(r.map λn:Nat=>(n:Int)).map D.int:=by rw[iS];rfl
 have b:∀ a:List D,pk a none none (some 2)=pk a (some 0) none (some 2):=λa=>by delta pk lh;simp;rw[show max 0 (min 0 (a.length:Int))=0 by rfl]
 rw[e,b,pk0,lM0];delta evs;rw[iS];refine jx λk _=>?_;rw[G6];rfl
theorem z8{l:Nat}{A B C:List Nat}{t}(g:c6 Γ1 (dA [none,some i,some j,some l])=[none,some (.ln (nl B)),some (.ln (nl C)),some (.ln (nl A))])(m:n<=A.length)(p:n<=B.length)(o:n<=C.length)(q:∀ s c,c=tri A B C n->c.length=n->Q (.fr (nl c)) (bE [none,some i,some j,some l] Γ1 [fo s,some (.ln (nl B)),some (.ln (nl C)),some (.ln (nl A))])) :
  EI (rng 0 n) Γ1 [none,some i,some j,some l] (tgN 0) (cn (i2' λi j=>D.int (HD i j)) (bof (cn (i2' λi j=>D.int (HD i j)) (bof (cn ix3 (bor 3) (bor 0))) (bof (cn ix3 (bor 1) (bor 0))))) (bof (cn ix3 (bor 2) (bor 0)))) Q t:=by
 refine eS (λk b a=>k<=n/\b=((cj k).map λk=>D.int ((gd A k ||| gd B k ||| gd C k:Nat):Int))/\∃ s,a=[fo s,some (.ln (nl B)),some (.ln (nl C)),some (.ln (nl A))]) ⟨eg _,rfl,none,g⟩ ?_ ?_
 .rintro k d b a h e ⟨f,rfl,s,rfl⟩;obtain⟨lt,rfl⟩:=cA h;walk_at "q2";refine cu.mpr ⟨_,gj (by exact WF 0x8cbc5a53b08b m lt),?_⟩;walk_at "q2";refine cu.mpr ⟨_,gj (by lia),?_⟩;walk_at "q2";refine cu.mpr ⟨_,gj (by lia),?_⟩;walk_at "q2";rw[j9,j9];exact⟨lt,snoc rfl,some _,rfl⟩
 .rintro b a e ⟨f,rfl,s,rfl⟩;rw[bg];have:=q s _ rfl (by delta tri;simp);unfold nl tri at this;rw[iS] at this;exact this
def GK:S3:=λΓ Q=>∃ (R:Rl) (r:List Nat),Γ=[some (.fz (.str R.word)),some (.fz (nl r))]/\2<=r.length/\r.length<=64/\Q (.fr (nl (mp R r))) Γ
theorem fM(T:Txt w K mg a):aM P w K mg base CX0 1 (a.x 54) (a.y 45) ["_law_word","_law_row"] (sp3 K 2 GK):=by
 refine ok3 T.bJ.F aD (hbody:=λa1 A t s H E I=>⟨_,_,(ag (aw (i:=2) aD.nd rfl (ei rfl) (b9 (P3.opd (aS (jB (by rfl)) (by rfl) T.z_len (by decide +kernel) (aa (bv 1) af))) (P3.opd ae)))
   (ag (aw (i:=3) aD.nd rfl (jg rfl) (dM rfl (aU (by rfl) T.z_range (ab (p3v 2) ai)) dX (λ_ _ _ _ _=>(aL (i:=0) dX.nd rfl (ei rfl))) (λ_ _ _ _ _=>(fe (P3.opd (az (by rfl) (bv 1) (P3.opd (cK (P3.opd ae) (bv 0))) (λ_ _=>rfl))) (P3.opd (az (by rfl) (bv 1) (P3.opd (aF (P3.opd (cK (P3.opd ae) (bv 0))) (P3.opd ae))) (λ_ _=>rfl)))))))
   (ag (aw (i:=4) aD.nd rfl (ei rfl) (aF (bv 3) (P3.opd (bj (by rfl) (bv 1) (aR (P3.opd (cK (P3.opd ae) (bv 2)))) aW))))
   (ag (bX (aK (fh (by rfl) I) (bv 0) (P3.opd cf) (aO _)) (ag (aw (i:=5) aD.nd rfl (jg rfl) (BM (by rfl) (bv 1) aW aW (aR (P3.opd ae))))
   (ag (aw (i:=6) aD.nd rfl (jg rfl) (aF (P3.opd (bj (by rfl) (bv 5) (aR (P3.opd ae)) aW)) (P3.opd (bj (by rfl) (bv 5) (aR (P3.opd (pJ (P3.opd ae)))) aW))))
   (ag (yS (i:=7) aD.nd rfl rfl rfl (aU (by rfl) T.z_range (ab (p3v 2) ai)) dY (λ_ _ _ _ _=>(aL (i:=0) dY.nd rfl (ei rfl))) (λ_ _ _ _ _=>(fe (P3.opd (az (by rfl) (bv 1) (bv 0) (λ_ _=>rfl))) (P3.opd (az (by rfl) (bv 2) (bv 0) (λ_ _=>rfl))))))
   (ag (aw (i:=8) aD.nd rfl (jg rfl) (aF (P3.opd (bj (by rfl) (bv 7) aW (aR (P3.opd ae)))) (bv 7)))
   (ag (aw (i:=9) aD.nd rfl (jg rfl) (aF (bv 7) (P3.opd (bj (by rfl) (bv 7) (aR (P3.opd (pJ (P3.opd ae)))) aW))))
   (ak (ay (aF (P3.opd (dM rfl (aU (by rfl) T.z_range (ab (aS (jB (by rfl)) (by rfl) T.z_len (by decide +kernel) (aa (bv 5) af)) ai)) dZ (λ_ _ _ _ _=>(aL (i:=0) dZ.nd rfl (ei rfl))) (λ_ _ _ _ _=>(fe (P3.opd (fe (P3.opd (az (by rfl) (bv 3) (bv 0) (λ_ _=>rfl))) (P3.opd (az (by rfl) (bv 1) (bv 0) (λ_ _=>rfl))))) (P3.opd (az (by rfl) (bv 2) (bv 0) (λ_ _=>rfl))))))) (bv 7))))))))) aY)
   (ag (bX (aK (fh (by rfl) I) (bv 0) (P3.opd cf) (aO _)) (ag (aw (i:=8) aD.nd rfl (jg rfl) (aF (P3.opd (bj (by rfl) (bv 4) aW (aR (P3.opd ae)))) (bv 4)))
   (ag (aw (i:=9) aD.nd rfl (jg rfl) (aF (P3.opd (bj (by rfl) (bv 4) (aR (P3.opd ae)) aW)) (P3.opd (bj (by rfl) (bv 4) (aR (P3.opd (pJ (P3.opd ae)))) aW))))
   (ak (aw (i:=3) aD.nd rfl (jg rfl) (dM rfl (aU (by rfl) T.z_range (ab (p3v 2) ai)) d_ (λ_ _ _ _ _=>(aL (i:=0) d_.nd rfl (ei rfl))) (λ_ _ _ _ _=>(fe (P3.opd (fe (P3.opd (az (by rfl) (bv 3) (bv 0) (λ_ _=>rfl))) (P3.opd (az (by rfl) (bv 1) (bv 0) (λ_ _=>rfl))))) (P3.opd (az (by rfl) (bv 2) (bv 0) (λ_ _=>rfl)))))))))) aY)
   (ak (ay (aF (bv 4) (bv 3))))))))),λM Q h hl=>?_⟩)
 obtain⟨R,r,rfl,J,f,q⟩:=h;walk_at "q2";have en:((r.length:Int) / 2)=((r.length / 2:Nat):Int):=by rfl
 rw[lM0,en,et];refine⟨by delta p_;decide,by lia,by lia,small (by rw[bg];lia),eS (λk g b=>k<=r.length / 2/\g=((cj k).map λk=>D.int ((gd r (2 * k) ||| gd r (2 * k + 1):Nat):Int))/\∃ s,b=[fo s,some (.fz (nl r))]) ⟨eg _,rfl,none,rfl⟩ ?_ ?_⟩
 .rintro k d g b y v ⟨x,rfl,s,rfl⟩;obtain⟨lt,rfl⟩:=cA y;have L:(2 * (k:Int))=((2 * k:Nat):Int):=by rfl
  have Y:(((2 * k:Nat):Int) + 1)=((2 * k + 1:Nat):Int):=by rfl
  walk_at "q2";rw[L];refine⟨cm2,cu.mpr ⟨_,gj (by lia),?_⟩⟩;walk_at "q2";rw[L,Y];refine⟨cm2,cu.mpr ⟨_,gj (by exact WF 0x1b8772b34eefef1e6110b lt (ea _ _)),?_⟩⟩;walk_at "q2";rw[j9];exact⟨lt,snoc rfl,some _,rfl⟩
 .rintro g b v ⟨x,rfl,s,rfl⟩;rw[bg];have X:((cj (r.length / 2)).map λk=>D.int ((gd r (2 * k) ||| gd r (2 * k + 1):Nat):Int))=(bo r).map λn:Nat=>D.int (n:Int):=by delta bo;rw[iS];rfl
  rw[X];have B:(2 * ((r.length / 2:Nat):Int))=((2 * (r.length / 2):Nat):Int):=by rfl
  have Z:cut (r.map λn:Nat=>D.int (n:Int)) (some ((2 * (r.length / 2):Nat):Int)) none=(r.drop (2 * (r.length / 2))).map λn:Nat=>D.int (n:Int):=by
   delta cut;rw[_h.g0,_h.iI,lM0,lE (by lia),iA (by rw[dw,lM0];exact bU _),HG]
  have u:(bo r).length=r.length / 2:=by delta bo;simp
  walk_at "q2";rw[B,Z,<- dE];refine⟨cm2,sl2 (by rw[lM0,lM0,dw];exact WF 0x2d86e97ac68c2b97d603ee881d7f285e8b157b48 f u (ea _ _) V2),?_⟩;have o:(su r).length=(r.length + 1) / 2:=by delta su;rw[bM,u,dw];exact ly (WF 0x51bb6beb2f76d03be54ce9d956f72b14b71befff8 (V5 (by decide)) (V5 (by decide)) (V3 (WF 0xe48be231184ae (ea _ _)))) (WF 0xe7dd2d5b33960b3604eaf0ae8 (ea _ _) V1)
  rw[show bo r++r.drop (2 * (r.length / 2))=su r from rfl];refine gy (λe=>?_) (λe=>?_)
  .have hR:R=.guess:=by cases R <;> first | rfl | exact absurd e (by decide +kernel)
   subst hR;walk_at "q2";have j:(evs r).length=(r.length + 1) / 2:=by delta evs;simp
   rw[ON,A6,u_ _ _ (by exact WF 0x87ec13347e3661163914239482afdb J j (V5 (by decide))),et,<- dE];have c:Q (RV.fr (nl (mpG r))) [some (Sl.fz (D.str Rl.guess.word)),some (Sl.fz (nl r))]:=q;delta mpG at c;dsimp only at c;have m:((evs r).drop 1++b_ (evs r)).length=(r.length + 1) / 2:=by delta b_;rw[bM,dw,dw,j];exact ly (WF 0xe483a30ef7e0b (V3 (WF 6550533726 V2))) (WF 0xdb41b95ad5a0b V1)
   have ld:((evs r).drop 1).length<=64/\(b_ (evs r)).length<=64:=by delta b_;rw[dw,dw,j];exact ⟨WF 0x847e5d50fc31ba26ac547b520d7b2b f (ea _ _) V2,WF 0x847e5d50fc31ba26ac547b520d7b2b f (ea _ _) V2⟩
   generalize (evs r).drop 1++b_ (evs r)=l at m c ⊢;refine⟨by decide,sl2 (by rw[lM0,lM0];lia),by lia,by lia,small (by rw[bg];lia),eS (λk g b=>k<=r.length / 2/\g=((cj k).map λk=>D.int ((gd (bo r) k ||| gd l k:Nat):Int))/\∃ s,b=[fo s,some (.ln (nl (bo r))),some (.ln (nl l))]) ⟨eg _,rfl,none,rfl⟩ ?_ ?_⟩
   .rintro k d g b y v ⟨x,rfl,s,rfl⟩;obtain⟨lt,rfl⟩:=cA y;walk_at "q2";refine cu.mpr ⟨_,gj (by exact WF 0x8d14500f15cb u lt),?_⟩;walk_at "q2";refine cu.mpr ⟨_,gj (by exact WF 0x96164032bbf1020d1a24a68e2897a9e35f65 m lt (ea _ _) (V5 (by decide))),?_⟩;walk_at "q2";rw[j9];exact⟨lt,snoc rfl,some _,rfl⟩
   .rintro g b v ⟨x,rfl,s,rfl⟩;rw[bg];have W:((cj (r.length / 2)).map λk=>D.int ((gd (bo r) k ||| gd l k:Nat):Int))=((cj (r.length / 2)).map λk=>gd (bo r) k ||| gd l k).map λn:Nat=>D.int (n:Int):=by rw[iS];rfl
    rw[W];have p:((cj (r.length / 2)).map λk=>gd (bo r) k ||| gd l k).length=r.length / 2:=by simp
    generalize ((cj (r.length / 2)).map λk=>gd (bo r) k ||| gd l k)=FN at p c ⊢;walk_at "q2";rw[A5,u_ _ _ (by lia),<- dE,<- dE];have U:(FN.take 1++FN).length=r.length / 2 + 1:=by rw[bM,dU,p];lia
    have S:(FN++b_ FN).length=r.length / 2 + 1:=by delta b_;rw[bM,dw,p];lia
    have l3:(FN.take 1).length<=1/\(b_ FN).length<=64:=by delta b_;rw[dU,dw,p];exact ⟨WF 4926161765281 (lC _ _),WF 0x4bb5ec2e46f7d8164cf4e220d7b2b f (ea _ _) V2⟩
    generalize FN.take 1++FN=A1 at U c ⊢;generalize FN++b_ FN=A2 at S c ⊢;rw[lM0 (as:=evs r),et];refine⟨sl2 (by rw[lM0,lM0];lia),sl2 (by rw[lM0,lM0];lia),by lia,by lia,small (by rw[bg];lia),z8 rfl (by exact bU _) (by lia) (by lia) λs TR z O=>?_⟩
    .rw[<- z] at c;walk_at "q2";rw[<- dE];exact⟨sl2 (by rw[lM0,lM0];lia),c⟩
  .walk_at "q2";refine gy (λC=>?_) (λC=>?_)
   .have hR:R=.lean:=by cases R <;> first | rfl | exact absurd C (by decide +kernel)
    subst hR;walk_at "q2";rw[A5,A6,u_ _ _ (by exact WF 0x87ec13347e3661163914239482afdb J o (V5 (by decide))),et,<- dE,<- dE];have c:Q (RV.fr (nl (su r++tri (bo r) ((su r).take 1++su r) ((su r).drop 1++b_ (su r)) (r.length / 2)))) [some (Sl.fz (D.str Rl.lean.word)),some (Sl.fz (nl r))]:=q;have G:((su r).take 1++su r).length=(r.length + 1) / 2 + 1:=by rw[bM,dU,o];lia
    have F:((su r).drop 1++b_ (su r)).length=(r.length + 1) / 2:=by delta b_;rw[bM,dw,dw,o];lia
    have ld:((su r).drop 1).length<=64/\(b_ (su r)).length<=64:=by delta b_;rw[dw,dw,o];lia
    have N:((su r).take 1).length<=1:=by rw[dU];exact WF 4926161765281 (lC _ _)
    generalize (su r).take 1++su r=A1 at G c ⊢;generalize (su r).drop 1++b_ (su r)=A2 at F c ⊢;refine⟨sl2 (by rw[lM0,lM0];lia),sl2 (by rw[lM0,lM0];lia),by lia,by lia,small (by rw[bg];lia),z8 rfl (by lia) (by exact WF 0xedddad766ded2b6b67afaf19896a2f8 G (ea _ _) (V5 (by decide))) (by exact WF 0x87ec631f1a3e61f43b3fd1c5734c38 F (ea _ _) (V5 (by decide))) λs TR z O=>?_⟩
    .rw[<- z] at c;walk_at "q2";rw[<- dE];exact⟨sl2 (by rw[lM0,lM0];lia),c⟩
   .have V:mp R r=su r++bo r:=by cases R <;> first | rfl | exact absurd e (by decide +kernel) | exact absurd C (by decide +kernel)
    rw[V] at q;walk_at "q2";rw[<- dE];exact⟨sl2 (by rw[lM0,lM0];lia),q⟩
noncomputable def Rl.zo:Rl->Bool
 | .lean=>true | _=>false
def GL:S3:=λΓ Q=>∃ (R:Rl) (r:List Nat),Γ=[some (.fz (.str R.word)),some (.fz (nl r))]/\2<=r.length/\r.length<=64/\Q (.fr (nl (mj R r))) Γ
theorem OQ(f:Nat->D)(F:List Nat)(h:n<=F.length):cut (F.map f) none (some (n:Int))=(F.take n).map f:=by
 delta cut;rw[_h.g0,_h.iI,lM0,PF,RI,lE h,ze]
theorem La(f:Nat->D)(F:List Nat)(h:n<=F.length):cut (F.map f) (some (n:Int)) none=(F.drop n).map f:=by
 delta cut;rw[_h.g0,_h.iI,lM0,lE h,iA (by rw[dw,lM0];exact bU _),HG]
theorem fN(T:Txt w K mg a):aM P w K mg base CX0 2 (a.x 55) (a.y 46) ["_law_word","_law_row"] (sp3 K 2 GL):=by
 refine ok3 T.bK.F aE (hbody:=λa1 A x s H E v=>⟨_,_,(ag (aw (i:=2) aE.nd rfl (ei rfl) (b9 (P3.opd (aS (jB (by rfl)) (by rfl) T.z_len (by decide +kernel) (aa (bv 1) af))) (P3.opd ae)))
   (ag (aw (i:=3) aE.nd rfl (jg rfl) (bj (by rfl) (bv 1) aW (aR (P3.opd (gc (P3.opd (aS (jB (by rfl)) (by rfl) T.z_len (by decide +kernel) (aa (bv 1) af))) (bv 2))))))
   (ag (aw (i:=4) aE.nd rfl (jg rfl) (bj (by rfl) (bv 1) (aR (P3.opd (gc (P3.opd (aS (jB (by rfl)) (by rfl) T.z_len (by decide +kernel) (aa (bv 1) af))) (bv 2)))) aW))
   (ag (bX (aK (fh (by rfl) v) (bv 0) (P3.opd cf) (aO _)) (ag (aw (i:=5) aE.nd rfl (jg rfl) (aF (P3.opd (bj (by rfl) (bv 4) aW (aR (P3.opd ae)))) (bv 4)))
   (ag (aw (i:=6) aE.nd rfl (jg rfl) (aF (bv 4) (P3.opd (bj (by rfl) (bv 4) (aR (P3.opd (pJ (P3.opd ae)))) aW))))
   (ag (aw (i:=7) aE.nd rfl (jg rfl) (dM rfl (aU (by rfl) T.z_range (ab (aS (jB (by rfl)) (by rfl) T.z_len (by decide +kernel) (aa (bv 3) af)) ai)) ej (λ_ _ _ _ _=>(aL (i:=0) ej.nd rfl (ei rfl))) (λ_ _ _ _ _=>(fe (P3.opd (fe (P3.opd (az (by rfl) (bv 3) (bv 0) (λ_ _=>rfl))) (P3.opd (az (by rfl) (bv 1) (bv 0) (λ_ _=>rfl))))) (P3.opd (az (by rfl) (bv 2) (bv 0) (λ_ _=>rfl)))))))
   (ag (aw (i:=8) aE.nd rfl (jg rfl) (aF (P3.opd (bj (by rfl) (bv 7) (aR (P3.opd ae)) aW)) (P3.opd (bj (by rfl) (bv 7) (aR (P3.opd (pJ (P3.opd ae)))) aW))))
   (ak (ay (aj (by rfl) (mw T) v.dn (by rfl) T.cJ.m T.cJ.F.kp T.cJ.b (aa (P3.opd (p3v 7)) (aa (P3.opd (dM rfl (aU (by rfl) T.z_range (ab (p3v 2) ai)) eu (λ_ _ _ _ _=>(aL (i:=0) eu.nd rfl (ei rfl))) (λ_ _ _ _ _=>(fe (P3.opd (fe (P3.opd (az (by rfl) (bv 1) (bv 0) (λ_ _=>rfl))) (P3.opd (az (by rfl) (bv 2) (bv 0) (λ_ _=>rfl))))) (P3.opd (az (by rfl) (bv 3) (bv 0) (λ_ _=>rfl))))))) af))))))))) aY)
   (ag (aw (i:=9) aE.nd rfl (jg rfl) (dM rfl (aU (by rfl) T.z_range (ab (p3v 2) ai)) eA (λ_ _ _ _ _=>(aL (i:=0) eA.nd rfl (ei rfl))) (λ_ _ _ _ _=>(fe (P3.opd (az (by rfl) (bv 2) (bv 0) (λ_ _=>rfl))) (P3.opd (az (by rfl) (bv 1) (bv 0) (λ_ _=>rfl)))))))
   (ag (bX (aK (fh (by rfl) v) (bv 0) (P3.opd cf) (aO _)) (ag (aw (i:=5) aE.nd rfl (jg rfl) (aF (P3.opd (bj (by rfl) (bv 3) aW (aR (P3.opd ae)))) (bv 3)))
   (ag (aw (i:=6) aE.nd rfl (jg rfl) (aF (P3.opd (bj (by rfl) (bv 3) (aR (P3.opd ae)) aW)) (P3.opd (bj (by rfl) (bv 3) (aR (P3.opd (pJ (P3.opd ae)))) aW))))
   (ak (aw (i:=9) aE.nd rfl (jg rfl) (dM rfl (aU (by rfl) T.z_range (ab (p3v 2) ai)) eB (λ_ _ _ _ _=>(aL (i:=0) eB.nd rfl (ei rfl))) (λ_ _ _ _ _=>(fe (P3.opd (fe (P3.opd (az (by rfl) (bv 3) (bv 0) (λ_ _=>rfl))) (P3.opd (az (by rfl) (bv 1) (bv 0) (λ_ _=>rfl))))) (P3.opd (az (by rfl) (bv 2) (bv 0) (λ_ _=>rfl)))))))))) aY)
   (ak (ay (aj (by rfl) (mw T) v.dn (by rfl) T.cJ.m T.cJ.F.kp T.cJ.b (aa (P3.opd (aF (bv 9) (P3.opd (bj (by rfl) (bv 3) (aR (bv 2)) aW)))) (aa (P3.opd (p3v 9)) af))))))))))),λM Q h hl=>?_⟩)
 obtain⟨R,r,rfl,X,c,q⟩:=h;have en:((r.length:Int) / 2)=((r.length / 2:Nat):Int):=by rfl
 have Z:((r.length:Int) - ((r.length / 2:Nat):Int))=((r.length - r.length / 2:Nat):Int):=by lia
 walk_at "q2";rw[lM0,en,Z,OQ _ _ (by exact WF 6550533726 V2),La _ _ (by lia)];have lS:(r.take (r.length - r.length / 2)).length=r.length - r.length / 2:=by rw[dU];lia
 have p:(r.drop (r.length - r.length / 2)).length=r.length / 2:=by rw[dw];lia
 have o:R=.guess->Q (RV.fr (nl (mjG r))) [some (Sl.fz (D.str R.word)),some (Sl.fz (nl r))]:=λh=>by subst h;exact q
 have m:R≠.guess->Q (RV.fr (nl (mjO R.zo r))) [some (Sl.fz (D.str R.word)),some (Sl.fz (nl r))]:=λh=>by cases R <;> first | exact q | exact absurd rfl h
 delta mjG at o;delta mjO at m;dsimp only at o m;generalize r.take (r.length - r.length / 2)=S at lS o m ⊢;generalize r.drop (r.length - r.length / 2)=FN at p o m ⊢;refine⟨by delta p_;decide,gy (λe=>?_) (λe=>?_)⟩
 .have hR:R=.guess:=by cases R <;> first | rfl | exact absurd e (by decide +kernel)
  have b:=o hR;walk_at "q2";rw[A5,u_ _ _ (by lia),<- dE,<- dE];have W:(FN.take 1++FN).length=r.length / 2 + 1:=by rw[bM,dU,p];lia
  have V:(FN++b_ FN).length=r.length / 2 + 1:=by delta b_;rw[bM,dw,p];lia
  have l3:(FN.take 1).length<=1/\(b_ FN).length<=64:=by delta b_;rw[dU,dw,p];lia
  generalize FN.take 1++FN=A1 at W b ⊢;generalize FN++b_ FN=A2 at V b ⊢;rw[lM0 (as:=S),et];refine⟨sl2 (by rw[lM0,lM0];lia),sl2 (by rw[lM0,lM0];lia),by omega,by lia,small (by rw[bg];exact WF 0x2aae82225017c39b4d7b2b c lS V2),z8 rfl (by exact bU _) (by lia) (by lia) λs g F u=>?_⟩
  .rw[<- F] at b;walk_at "q2";rw[A6,u_ _ _ (by lia),<- dE];have U:(g.drop 1++b_ g).length=S.length:=by delta b_;rw[bM,dw,dw,u];exact ly (WF 0xe483a30ef7e0b (V3 (WF 6550533726 V2))) (WF 0xdb41b95ad5a0b V1)
   have l6:(g.drop 1).length<=64/\(b_ g).length<=64:=by delta b_;rw[dw,dw,u];exact ⟨WF 0xe0ccdeadeb72eca749b1d7b48 c lS V2 V2,WF 0xe0ccdeadeb72eca749b1d7b48 c lS V2 V2⟩
   generalize g.drop 1++b_ g=l at U b ⊢;rw[et];refine⟨sl2 (by rw[lM0,lM0];lia),by lia,by lia,small (by rw[bg];lia),eS (λk j f=>k<=r.length / 2/\j=((cj k).map λk=>D.int ((gd FN k ||| gd g k ||| gd l k:Nat):Int))/\∃ s,f=[fo s,some (.ln (nl FN)),some (.fz (nl g)),some (.ln (nl l))]) ⟨eg _,rfl,none,rfl⟩ ?_ ?_⟩
   .rintro k d j f C z ⟨B,rfl,s,rfl⟩;obtain⟨lt,rfl⟩:=cA C;walk_at "q2";refine cu.mpr ⟨_,gj (by exact WF 0x8d14500f15cb p lt),?_⟩;walk_at "q2";refine cu.mpr ⟨_,gj (by exact WF 0x31db70cdc5daa2a51100b27e5252 lS u lt (ea _ _) V1),?_⟩;walk_at "q2";refine cu.mpr ⟨_,gj (by lia),?_⟩;walk_at "q2";rw[j9,j9];exact⟨lt,snoc rfl,some _,rfl⟩
   .rintro j f z ⟨B,rfl,s,rfl⟩;rw[bg];have Y:((cj (r.length / 2)).map λk=>D.int ((gd FN k ||| gd g k ||| gd l k:Nat):Int))=(tri FN g l (r.length / 2)).map λn:Nat=>D.int (n:Int):=by delta tri;rw[iS];rfl
    rw[Y];have y:(tri FN g l (r.length / 2)).length=r.length / 2:=by delta tri;simp
    generalize tri FN g l (r.length / 2)=t at y b ⊢;walk_at "q2";exact⟨g,t,rfl,by exact WF 0xe0f3bb14604c19a181b1d7b48 c lS u V2,by lia,b⟩
 .have hR:R≠.guess:=λh=>by subst h;exact absurd e (by decide +kernel)
  have b:=m hR;walk_at "q2";rw[et];refine⟨by lia,by lia,small (by rw[bg];lia),eS (λk j f=>k<=r.length / 2/\j=((cj k).map λk=>D.int ((gd S k ||| gd FN k:Nat):Int))/\∃ s,f=[fo s,some (.ln (nl FN)),some (.ln (nl S))]) ⟨eg _,rfl,none,rfl⟩ ?_ ?_⟩
  .rintro k d j f C z ⟨B,rfl,s,rfl⟩;obtain⟨lt,rfl⟩:=cA C;walk_at "q2";refine cu.mpr ⟨_,gj (by exact WF 0x9534d49d3eddc32c96c29e25 lS lt (ea _ _) V1),?_⟩;walk_at "q2";refine cu.mpr ⟨_,gj (by lia),?_⟩;walk_at "q2";rw[j9];exact⟨lt,snoc rfl,some _,rfl⟩
  .rintro j f z ⟨B,rfl,s,rfl⟩;rw[bg];have ef:((cj (r.length / 2)).map λk=>D.int ((gd S k ||| gd FN k:Nat):Int))=((cj (r.length / 2)).map λk=>gd S k ||| gd FN k).map λn:Nat=>D.int (n:Int):=by rw[iS];rfl
   rw[ef];have N:((cj (r.length / 2)).map λk=>gd S k ||| gd FN k).length=r.length / 2:=by simp
   generalize ((cj (r.length / 2)).map λk=>gd S k ||| gd FN k)=I at N b ⊢;walk_at "q2";refine gy (λG=>?_) (λG=>?_)
   .have hR:R=.lean:=by cases R <;> first | rfl | exact absurd G (by decide +kernel)
    subst hR;rw[show Rl.lean.zo=true from rfl] at b;simp -iota only[if_true] at b;walk_at "q2";rw[A5,A6,u_ _ _ (by exact WF 0x2d875dd17223dd4c9f98d0cc56a522b19c X lS (ea _ _) V1),et,<- dE,<- dE];have L:(S.take 1++S).length=S.length + 1:=by rw[bM,dU];lia
    have J:(S.drop 1++b_ S).length=S.length:=by delta b_;rw[bM,dw,dw];lia
    have ld:(S.take 1).length<=1/\(S.drop 1).length<=64/\(b_ S).length<=64:=by delta b_;rw[dU,dw,dw];exact ⟨WF 4926161765281 (lC _ _),⟨WF 0xe0ccdeadeb72eca749b1d7b48 c lS V2 V2,WF 0xe0ccdeadeb72eca749b1d7b48 c lS V2 V2⟩⟩
    generalize S.take 1++S=A1 at L b ⊢;generalize S.drop 1++b_ S=A2 at J b ⊢;refine⟨sl2 (by rw[lM0,lM0];exact WF 0x4c9f0e364416c645fe5d7db1d7b48 c lS ld.1 V2),sl2 (by rw[lM0,lM0];lia),by lia,by lia,small (by rw[bg];lia),z8 rfl (by lia) (by exact WF 0xf21b06de3d3c63154fc921225 lS L (ea _ _) V1) (by exact WF 0x8a589635d9d95d30d3489225 lS J (ea _ _) V1) λs t F y=>?_⟩
    .rw[<- F] at b;walk_at "q2";rw[La _ _ (by exact WF 0x19e19d3f3b0abe637d9f8 lS (ea _ _) V1),<- dE];have O:(t++S.drop (r.length / 2)).length<=64:=by rw[bM,dw];lia
     exact⟨sl2 (by rw[lM0,lM0,dw];exact WF 0x2fe87da45f25976a176781ba905d65af8a943e2a441965157b82 c lS y (ea _ _) V2 V2),⟨t++S.drop (r.length / 2),t,rfl,by lia,by lia,b⟩⟩
   .have hR:R.zo=false:=by cases R <;> first | rfl | exact absurd G (by decide +kernel)
    rw[hR] at b;simp -iota only[fi,if_false] at b;walk_at "q2";rw[La _ _ (by lia),<- dE];have O:(I++S.drop (r.length / 2)).length<=64:=by rw[bM,dw];lia
    exact⟨sl2 (by rw[lM0,lM0,dw];lia),⟨I++S.drop (r.length / 2),I,rfl,by lia,by lia,b⟩⟩
theorem O3:(cj 63).all (λk=>[Rl.sum,.half,.guess,.lean].all λR=>Np R (k + 2))=true:=by decide +kernel
theorem O4:(cj 63).all (λk=>[Rl.sum,.half,.guess,.lean].all λR=>Nq R (k + 2))=true:=by decide +kernel
theorem Mt(R:Rl):R∈[Rl.sum,.half,.guess,.lean]:=by cases R <;> simp
theorem Jm(R:Rl)(b:2<=m)(a:m<=64):(mp R (sE m)).length=m/\∀ p:Nat,p < m->rise m (-1) (Rl.sp R m p)=true/\msk (Rl.sp R m p)=gd (mp R (sE m)) p:=by
 have h:=tx.mp (tx.mp O3 (m - 2) (iU.mpr (by exact WF 0x2d2ac8fe8220ed06bd7b0e a (V3 (WF 5128315076697 b))))) R (Mt R);rw[show m - 2 + 2=m by lia] at h;simp -iota only[Np,kn,beq_iff_eq,tx,iU] at h;exact h
theorem Jn(R:Rl)(b:2<=m)(a:m<=64):(mj R (sE m)).length=m/\∀ p:Nat,p < m->rise m (-1) (Rl.bk R m p)=true/\msk (Rl.bk R m p)=gd (mj R (sE m)) p:=by
 have h:=tx.mp (tx.mp O4 (m - 2) (iU.mpr (by omega))) R (Mt R);rw[show m - 2 + 2=m by lia] at h;simp -iota only[Nq,kn,beq_iff_eq,tx,iU] at h;exact h
def PW (Z:Nat->Nat->Prop)(r s:List Nat):Prop:=r.length=s.length/\∀ k,Z (gd r k) (gd s k)
def OrS (Z:Nat->Nat->Prop):Prop:=Z 0 0/\∀ x y u v,Z x y->Z u v->Z (x ||| u) (y ||| v)
section
variable {Z:Nat->Nat->Prop}
theorem sV{f:Nat->Nat}:gd ((cj n).map f) k=if k < n then f k else 0:=by
 delta gd;by_cases h:k < n <;> simp -iota [Rm,h]
theorem Ek{r s:List Nat}:gd (r++s) k=if k < r.length then gd r k else gd s (k - r.length):=by
 delta gd;simp -iota only[dq,List.getElem?_append];split <;> rfl
theorem sd(O:OrS Z){f g:Nat->Nat}(h:∀ k,Z (f k) (g k)):PW Z ((cj n).map f) ((cj n).map g):=
 ⟨by simp,λk=>by rw[sV,sV];split;exact h k;exact O.1⟩
theorem PW.app{r s t u:List Nat}(h:PW Z r s)(g:PW Z t u):PW Z (r++t) (s++u):=
 ⟨by rw[bM,bM,h.1,g.1],λk=>by rw[Ek,Ek,h.1];split;exact h.2 k;exact g.2 _⟩
theorem PW.drop{r s:List Nat}(h:PW Z r s)(n:Nat):PW Z (r.drop n) (s.drop n):=
 ⟨by rw[dw,dw,h.1],λk=>by have:=h.2 (n + k);unfold gd at this ⊢;simpa [dq] using this⟩
theorem PW.take(O:OrS Z){r s:List Nat}(h:PW Z r s)(n:Nat):PW Z (r.take n) (s.take n):=
 ⟨by rw[dU,dU,h.1],λk=>by
  have:=h.2 k;unfold gd at this ⊢;simp -iota only[dq,Ht] at this ⊢;split
  .exact this
  .exact O.1⟩
theorem PW.cons {r s:List Nat}{x y:Nat}(h:PW Z r s)(g:Z x y):PW Z (x::r) (y::s):=
 ⟨by rw[eK,eK,h.1],λk=>by cases k;exact g;exact h.2 _⟩
theorem PW.b_ {r s:List Nat}(h:PW Z r s):PW Z (b_ r) (b_ s):=by delta _k.b_;rw[h.1];exact h.drop _
theorem PW.tri (O:OrS Z){r s t u v x:List Nat}(h:PW Z r s)(g:PW Z t u)(j:PW Z v x){n m:Nat}(e:n=m):PW Z (tri r t v n) (tri s u x m):=by
 subst e;exact sd O λk=>O.2 _ _ _ _ (O.2 _ _ _ _ (h.2 k) (g.2 k)) (j.2 k)
theorem PW.bo (O:OrS Z){r s:List Nat}(h:PW Z r s):PW Z (bo r) (bo s):=by
 delta _k.bo;rw[h.1];exact sd O λk=>O.2 _ _ _ _ (h.2 _) (h.2 _)
theorem PW.su (O:OrS Z){r s:List Nat}(h:PW Z r s):PW Z (su r) (su s):=by
 delta _k.su;rw[h.1];exact(h.bo O).app (h.drop _)
theorem PW.evs (O:OrS Z){r s:List Nat}(h:PW Z r s):PW Z (evs r) (evs s):=by
 delta _k.evs;rw[h.1];exact sd O λk=>h.2 _
theorem PW.mix(O:OrS Z){r s t u:List Nat}(h:PW Z r s)(g:PW Z t u):∀ n,PW Z (m9 r t n) (m9 s u n)
 | 0=>⟨rfl,λk=>O.1⟩
 | n + 1=>(PW.mix O h g n).app (((g.drop n).take O 1).cons (h.2 n))
theorem PW.Kc(O:OrS Z){r s t u:List Nat}(h:PW Z r s)(g:PW Z t u):PW Z (m9 r t r.length) (m9 s u s.length):=by rw[h.1];exact h.mix O g _
theorem PW.mp (O:OrS Z)(R:Rl){r s:List Nat}(h:PW Z r s):PW Z (mp R r) (mp R s):=by
 cases R
 case guess=>
  have b:=((h.evs O).drop 1).app (h.evs O).b_;show PW Z (mpG r) (mpG s);delta mpG;rw[h.1];have a:=sd O (n:=s.length / 2) λk=>O.2 _ _ _ _ ((h.bo O).2 k) (b.2 k);exact((h.evs O).tri O ((a.take O 1).app a) (a.app a.b_) (h.evs O).1).app a
 case lean=>
  show PW Z (mpL r) (mpL s);delta mpL;rw[h.1];exact(h.su O).app ((h.bo O).tri O (((h.su O).take O 1).app (h.su O)) (((h.su O).drop 1).app (h.su O).b_) rfl)
 all_goals exact(h.su O).app (h.bo O)
theorem PW.mjO (O:OrS Z)(l:Bool){r s:List Nat}(h:PW Z r s):PW Z (mjO l r) (mjO l s):=by
 delta _k.mjO;rw[h.1];have S:=h.take O (s.length - s.length / 2);have a:=sd O (n:=s.length / 2) λk=>O.2 _ _ _ _ (S.2 k) ((h.drop (s.length - s.length / 2)).2 k);cases l
 .exact(a.app (S.drop (s.length / 2))).Kc O a
 .have b:=a.tri O ((S.take O 1).app S) ((S.drop 1).app S.b_) (n:=s.length / 2) rfl;exact(b.app (S.drop (s.length / 2))).Kc O b
theorem PW.mj (O:OrS Z)(R:Rl){r s:List Nat}(h:PW Z r s):PW Z (mj R r) (mj R s):=by
 cases R
 case guess=>
  show PW Z (mjG r) (mjG s);delta mjG;rw[h.1];have S:=h.take O (s.length - s.length / 2);have a:=h.drop (s.length - s.length / 2);have b:=S.tri O ((a.take O 1).app a) (a.app a.b_) S.1;exact b.Kc O (a.tri O b ((b.drop 1).app b.b_) rfl)
 case lean=>exact h.mjO O true
 all_goals exact h.mjO O false
end
def Zb (r:List Nat)(m b:Nat)(x y:Nat):Prop:=y.testBit b=true↔∃ j,j < m/\x.testBit j=true/\(gd r j).testBit b=true
theorem HH{r:List Nat}{b:Nat}:OrS (Zb r m b):=by
 refine⟨by simp -iota [Zb],λx y u v h g=>?_⟩;unfold Zb at *;rw[LQ,RZ,h,g];constructor
 .rintro(⟨j,c,a2,a⟩ | ⟨j,c,a2,a⟩)
  .exact⟨j,c,by rw[LQ,a2];rfl,a⟩
  .exact⟨j,c,by rw[LQ,a2,Bool.or_true],a⟩
 .rintro⟨j,c,a2,a⟩;rw[LQ,RZ] at a2;rcases a2 with a2 | a2
  .exact .inl ⟨j,c,a2,a⟩
  .exact .inr ⟨j,c,a2,a⟩
theorem zV{r:List Nat}{b:Nat}(h:r.length=m):PW (Zb r m b) (sE m) r:=by
 refine⟨by delta sE;simp -iota [h],λk=>?_⟩;delta sE Zb;rw[sV];split
 .constructor
  .exact λe=>⟨k,by assumption,by rw[zC];simp,e⟩
  .rintro⟨j,_,a,c⟩;rw[zC] at a;rw[of_decide_eq_true a];exact c
 .have:gd r k=0:=by delta gd;simp -iota [Rm,show r.length<=k by lia]
  simp -iota [this]
def Fj (t:Int->Int->Li0)(f:List Nat->List Nat):Prop:=∀ r:List Nat,2<=r.length->r.length<=64->(f r).length=r.length/\∀ p,p < r.length->∀ b,(gd (f r) p).testBit b=true↔∃ j:Nat,(j:Int)∈t r.length p/\(gd r j).testBit b=true
def Cr (t:Int->Int->Li0):Prop:=∀ m p:Nat,2<=m->m<=64->p < m->(∀ x∈t m p,0<=x/\x < m)/\(t m p).length<=64
theorem Dc{xs:Li0}(h:rise m (-1) xs=true):xs.length<=m:=by
 rw[<- zg h,lM0];exact kj (ra _ _) (by simp)
theorem Al{t:Int->Int->Li0}{f:List Nat->List Nat}(h:∀ m:Nat,2<=m->m<=64->(f (sE m)).length=m/\∀ p:Nat,p < m->rise m (-1) (t m p)=true/\msk (t m p)=gd (f (sE m)) p)(g:∀ Z,OrS Z->∀ r s,PW Z r s->PW Z (f r) (f s)):Fj t f/\Cr t:=by
 refine⟨λr i e=>?_,λm p i e n=>?_⟩
 .obtain⟨u,q⟩:=h r.length i e;refine⟨?_,λp l b=>?_⟩
  .rw[<- (g _ (HH (r:=r) (m:=r.length) (b:=0)) _ _ (zV rfl)).1,u]
  .obtain⟨d,o⟩:=q p l;have:=(g _ (HH (r:=r) (m:=r.length) (b:=b)) _ _ (zV rfl)).2 p;obtain⟨a,_⟩:=nF d;unfold Zb at this;rw[this,<- o];constructor
   .rintro⟨j,_,b2,k⟩;rw[oU _ (λx c=>by have:=(a x c).1;assumption)] at b2;exact⟨j,of_decide_eq_true b2,k⟩
   .rintro⟨j,b2,k⟩;refine⟨j,by have:=(a _ b2).2;lia,?_,k⟩;rw[oU _ (λx c=>by have:=(a x c).1;assumption)];exact decide_eq_true b2
 .obtain⟨d,_⟩:=(h m i e).2 p n;obtain⟨a,_⟩:=nF d;exact⟨λx c=>by have:=a x c;assumption,by have:=Dc d;lia⟩
theorem CY(R:Rl):Fj R.sp (mp R)/\Cr R.sp:=Al (λ_ b a=>Jm R b a) λ_ O _ _ h=>h.mp O R
theorem CZ(R:Rl):Fj R.bk (mj R)/\Cr R.bk:=Al (λ_ b a=>Jn R b a) λ_ O _ _ h=>h.mj O R
noncomputable abbrev pL (a:List P2):D:=.lst (a.map p2D)
noncomputable def sw (p:P2):P2:=(p.2,p.1)
def RR (t:Int->Int->Li0)(h w:Nat)(p q:P2):Prop:=if p.1 < h/\p.2 < w then q.1=p.1/\q.2∈t w p.2 else q=p
def Bxp (H W:Nat)(p:P2):Prop:=0<=p.1/\p.1 < H/\0<=p.2/\p.2 < W
def cB (H W:Nat)(a:List P2):Prop:=H<=64/\W<=64/\H * W<=512/\(∀ p∈a,Bxp H W p)/\a.Nodup
theorem cB.dom{H W:Nat}{a qs:List P2}(b:cB H W a)(h:∀ q∈qs,Bxp H W q):tX qs:=⟨H,W,by have:=b.2.2.1;lia,by have:=b.1;lia,by have:=b.2.1;lia,h⟩
theorem cB.len{H W:Nat}{c:List P2}(b:cB H W c):c.length<=512:=by
 obtain⟨s,r,q,k,g⟩:=b;have f:(c.map p2K).Nodup:=TL p2K (λa b h=>λe=>h (by rw[<- rJ a,<- rJ b,e])) g;have:=sub_len (d:=EC H W) f λx i=>by
  obtain⟨p,j,rfl⟩:=jc.mp i;obtain⟨o,n,m,l⟩:=k p j;exact yi o n m l
 rw[lM0] at this;delta EC at this;rw[lM0,oD] at this;lia
theorem Ab(p:P2):sw (sw p)=p:=rfl
theorem vp{ps:List P2}{q:P2}:q∈ps.map sw↔sw q∈ps:=by
 rw[jc];exact⟨λZ=>by obtain⟨p,a,e⟩:=Z;rw[<- e,Ab];exact a,λh=>⟨sw q,h,Ab q⟩⟩
theorem LH{c:List P2}(h:c.Nodup):(c.map sw).Nodup:=TL sw (λa b h=>λe=>h (by rw[<- Ab a,<- Ab b,e])) h
theorem cB.sw {H W:Nat}{a:List P2}(b:cB H W a):cB W H (a.map sw):=
 ⟨b.2.1,b.1,by rw[Nat.mul_comm];exact b.2.2.1,λp c=>by obtain⟨g,f,e,d⟩:=b.2.2.2.1 _ (vp.mp c);exact⟨e,d,g,f⟩,LH b.2.2.2.2⟩
theorem sf{a:List P2}{d:D}(h:(a.map p2D)[k]?=some d):∃ p,a[k]?=some p/\d=p2D p/\k < a.length:=by
 rw[ba] at h;obtain⟨p,b,e⟩:=oA.mp h;exact⟨p,b,e.symm,dN b⟩
def N2:S3:=λΓ Q=>∃ ps:List P2,Γ=[some (.fz (pL ps))]/\ps.length<=1000/\Q (.fr (pL (ps.map sw))) Γ
theorem sv(T:Txt w K mg a):aM P w K mg base CX0 1 (a.x 41) (a.y 32) ["places"] (sp3 K 1 N2):=by
 refine ok3 T.eY.F yP (hbody:=λt A g s H E u=>⟨_,_,(ak (ay (dM rfl (cX (by rfl) (p3v 0)) jk (λ_ _ _ _ _=>(sX (is:=[0,1]) (by rfl) (aQ (bu (i:=0) jk.nd rfl (ei rfl)) (aQ (bu (i:=1) jk.nd rfl (ei rfl)) dH)) rfl)) (λ_ _ _ _ _=>(bO (ab (p3v 1) (ab (p3v 0) ai))))))),λl Q h x=>?_⟩);obtain⟨j,rfl,v,q⟩:=h;walk_at "q2";refine⟨small (by rw[lM0];omega),eS (λk c b=>k<=j.length/\c=((j.take k).map sw).map p2D/\∃ f e,b=[fo f,fo e]) ⟨eg _,by simp,none,none,rfl⟩ ?_ ?_⟩
 .rintro k d c b r m ⟨o,rfl,f,e,rfl⟩;obtain⟨p,n,rfl,lt⟩:=sf r;walk_at "q2";exact⟨sl2 (by decide),lt,by rw[take_snoc n,dE,dE];rfl,some _,some _,rfl⟩
 .rintro c b m ⟨o,rfl,f,e,rfl⟩;walk_at "q2";rw[lM0,lD];exact q
def Told (a:Ad)(R:Rl)(b:Addr)(t:Int->Int->Li0):Prop:=(b=(a.x 39)/\t=R.sp)\/(b=(a.x 40)/\t=R.bk)
theorem Told.tidy{R:Rl}{b:Addr}{t:Int->Int->Li0}(h:Told a R b t):Cr t:=by
 rcases h with ⟨_,rfl⟩ | ⟨_,rfl⟩
 .exact(CY R).2
 .exact(CZ R).2
def OA (a:Ad):S3:=λΓ Q=>∃ (R:Rl) (t:Int->Int->Li0) (b:Addr) (ps:List P2) (h w H W:Nat),Γ=[some (.fz (.adr b)),some (.fz (.str R.word)),some (.fz (pL ps)),some (.fz (.int h)),some (.fz (.int w))]/\Told a R b t/\2<=w/\h<=H/\w<=W/\cB H W ps/\∀ qs,cB H W qs->(∀ q,q∈qs↔∃ p∈ps,RR t h w p q)->Q (.fr (pL qs)) Γ
theorem Told.or{R:Rl}{b:Addr}{t:Int->Int->Li0}(tl:Told a R b t){y x m:Int}{c:Option D}(q:Q (.fr (il (t m x))) [some (.fz (.int y)),some (.fz (.int x)),fo c,some (.fz (.adr b)),some (.fz (.int m)),some (.fz (.str R.word))]) :
  nv 3 3 (a.x 39) (GW Rl.sp) (dW (bof (dQ 5)) (dW (bof (dQ 4)) (dW (bof (dQ 1)) nR))) [some (.fz (.int y)),some (.fz (.int x)),fo c,some (.fz (.adr b)),some (.fz (.int m)),some (.fz (.str R.word))] Q\/nv 3 3 (a.x 40) (GW Rl.bk) (dW (bof (dQ 5)) (dW (bof (dQ 4)) (dW (bof (dQ 1)) nR))) [some (.fz (.int y)),some (.fz (.int x)),fo c,some (.fz (.adr b)),some (.fz (.int m)),some (.fz (.str R.word))] Q:=by
 rcases tl with ⟨rfl,rfl⟩ | ⟨rfl,rfl⟩
 .refine .inl ⟨rfl,?_⟩;walk_at "q2";exact⟨R,m,x,rfl,q⟩
 .refine .inr ⟨rfl,?_⟩;walk_at "q2";exact⟨R,m,x,rfl,q⟩
noncomputable def inB (h w:Nat)(p:P2):Bool:=decide (p.1 < h) && decide (p.2 < w)
theorem m7(T:Txt w K mg a):aM P w K mg base CX0 6 (a.x 42) (a.y 33) ["told","word","places","height","width"] (sp3 K 5 (OA a)):=by
 refine ok3 T.cQ.F mV (hbody:=λa6 A X s H E u=>⟨_,_,(ag (nE (i:=5) mV.nd rfl rfl rfl (cX (by rfl) (p3v 2)) jm (λ_ _ _ _ _=>(sX (is:=[0,1]) (by rfl) (aQ (bu (i:=0) jm.nd rfl (ei rfl)) (aQ (bu (i:=1) jm.nd rfl (ei rfl)) dH)) rfl)) (λ_ _ _ _ _=>(P3W.pt (lU (aK oR (bv 0) (bv 2) (aO _)) (jr (aK oR (bv 1) (bv 3) (aO _)))))) (λ_ _ _ _ _=>(bO (ab (p3v 0) (ab (p3v 1) ai)))))
   (ag (nE (i:=6) mV.nd rfl rfl rfl (cX (by rfl) (p3v 2)) jn (λ_ _ _ _ _=>(sX (is:=[0,1]) (by rfl) (aQ (bu (i:=0) jn.nd rfl (ei rfl)) (aQ (bu (i:=1) jn.nd rfl (ei rfl)) dH)) rfl)) (λ_ _ _ _ _=>(P3W.pt (sk (aK EX (bv 0) (bv 2) (aO _)) (nL (aK EX (bv 1) (bv 3) (aO _)))))) (λ_ _ _ _ _=>(bO (ab (p3v 0) (ab (p3v 1) ai)))))
   (ak (ay (aF (bv 6) (P3.opd (JO u rfl (by rfl) T.z_sorted (cX (by rfl) (p3v 5)) fH (λ_ _ _ _ _=>(sX (is:=[0,1]) (by rfl) (aQ (bu (i:=0) fH.nd rfl (ei rfl)) (aQ (bu (i:=1) fH.nd rfl (ei rfl)) dH)) rfl)) (λ_ _ _ _ _=>(cX (by rfl) (P3.or (cN (j:=3) T.c7.F (qT T) u.dn T.c7.b (by rfl) (by first | exact ei rfl | exact jg (ei rfl) | exact jg (jg rfl)) (aa (P3.opd (p3v 5)) (aa (P3.opd (p3v 4)) (aa (P3.opd (p3v 1)) af)))) (cN (j:=3) T.bZ.F (kT T) u.dn T.bZ.b (by rfl) (by first | exact ei rfl | exact jg (ei rfl) | exact jg (jg rfl)) (aa (P3.opd (p3v 5)) (aa (P3.opd (p3v 4)) (aa (P3.opd (p3v 1)) af))))))) (λ_ _ _ _ _=>(aL (i:=2) fH.nd rfl (ei rfl))) (λ_ _ _ _ _=>(bO (ab (p3v 0) (ab (p3v 2) ai))))))))))),λa5 Q h hl=>?_⟩)
 obtain⟨R,t,fa,ps,h,w,H,W,rfl,tl,w2,hH,hW,v,q⟩:=h;have ln:=v.len;have sl:∀ f:P2->Bool,∀ k,((ps.take k).filter f).length<=512:=λf k=>kj (ra _ _) (by rw[dU];lia);have S:∀ f:P2->Bool,∀ k,(((ps.take k).filter f).map p2D).length < sizeLine:=λf k=>small (by rw[lM0];have:=sl f k;lia);have lf:∀ f:P2->Bool,((ps.filter f).map p2D).length < sizeLine:=λf=>by have:=S f ps.length;rw[lD] at this;exact this
 have F:∀ (f:P2->Bool) {k p},ps[k]?=some p->f p=true->((ps.take k).filter f).map p2D++[p2D p]=((ps.take (k + 1)).filter f).map p2D:=λf k p c e=>by rw[take_snoc c,rr,Pl e,dE];rfl
 have Y:∀ (f:P2->Bool) {k p},ps[k]?=some p->f p=false->((ps.take k).filter f).map p2D=((ps.take (k + 1)).filter f).map p2D:=λf k p c e=>by rw[take_snoc c,rr,CQ (by rw[e];decide),List.filter_nil,jw]
 have te:ps.take (uP p2D ps).length=ps:=by rw[lM0,lD]
 walk_at "q2";refine gM (λk D b=>k<=ps.length/\D=((ps.take k).filter (inB h w)).map p2D/\∃ o m,b=[fo o,fo m,some (.fz (.int h)),some (.fz (.int w))]) ⟨eg _,rfl,none,none,rfl⟩ ?_ ?_
 .rintro k d D b I ⟨O,rfl,o,m,rfl⟩;obtain⟨p,c,rfl,lt⟩:=sf I;walk_at "q2";refine Fc (λg=>?_) (λg=>?_)
  .walk_at "q2";cases l:lA p.2 w
   .exact⟨lt,Y _ c (by simp -iota only[lA] at l;simp -iota [inB,of_decide_eq_false l]),some _,some _,rfl⟩
   .walk_at "q2";exact⟨S _ _,sl2 (by decide),lt,F _ c (by simp -iota only[lA] at g l;simp -iota [inB,of_decide_eq_true g,of_decide_eq_true l]),some _,some _,rfl⟩
  .exact⟨lt,Y _ c (by simp -iota only[lA] at g;simp -iota [inB,of_decide_eq_false g]),some _,some _,rfl⟩
 rintro D b ⟨O,rfl,o,m,rfl⟩;rw[te];walk_at "q2";refine⟨lf _,gM (λk D b=>k<=ps.length/\D=((ps.take k).filter λp=>!inB h w p).map p2D/\∃ o m,b=[fo o,fo m,some (.fz (.int h)),some (.fz (.int w))]) ⟨eg _,rfl,none,none,rfl⟩ ?_ ?_⟩
 .rintro k d D b I ⟨O,rfl,o,m,rfl⟩;obtain⟨p,c,rfl,lt⟩:=sf I;walk_at "q2";refine Fc (λg=>?_) (λg=>?_)
  .walk_at "q2";exact⟨S _ _,sl2 (by decide),lt,F _ c (by simp -iota only[zE] at g;simp -iota [inB,of_decide_eq_true g]),some _,some _,rfl⟩
  .walk_at "q2";cases l:zE p.2 w
   .exact⟨lt,Y _ c (by simp -iota only[zE] at g l;have:=of_decide_eq_false g;have:=of_decide_eq_false l;simp -iota [inB];lia),some _,some _,rfl⟩
   .walk_at "q2";exact⟨S _ _,sl2 (by decide),lt,F _ c (by simp -iota only[zE] at l;simp -iota [inB,of_decide_eq_true l]),some _,some _,rfl⟩
 rintro D b ⟨O,rfl,o,m,rfl⟩;rw[te];walk_at "q2";generalize Z:ps.filter (inB h w)=IN;have B:∀ p,p∈IN↔p∈ps/\p.1 < h/\p.2 < w:=λp=>by rw[<- Z,qA];simp -iota [inB]
 have C:∀ p∈IN,∀ x∈t w p.2,Bxp H W (p.1,x)/\p.1 < h/\x < w:=λp c x G=>by
  obtain⟨i1,i2,i3⟩:=(B p).mp c;obtain⟨a1,a2,a3,a4⟩:=v.2.2.2.1 p i1;obtain⟨n,hn⟩:=mx a3;rw[hn] at G i3;obtain⟨b1,b2⟩:=(tl.tidy w n w2 (by have:=v.2.1;lia) (by simpa using i3)).1 x G;exact⟨⟨a1,a2,b1,by show x < W;lia⟩,i2,b2⟩
 refine⟨lf _,Fu (λk M b=>k<=IN.length/\(∀ q,q∈M↔∃ p∈IN.take k,q.1=p.1/\q.2∈t w p.2)/\∃ V o m,b=[fo V,fo o,fo m,some (.fz (.adr fa)),some (.fz (.int w)),some (.fz (.str R.word))]) ⟨eg _,λq=>by simp,none,none,none,rfl⟩ ?_ ?_⟩
 .rintro k d M b I ⟨O,L,V,o,m,rfl⟩;obtain⟨p,c,rfl,lt⟩:=sf I;walk_at "q2";have pm:p∈IN:=eW c;have tk:∀ z,z∈IN.take k->z∈IN:=λz hz=>rD hz;refine tl.or ⟨_,rfl,Kk (λj M b=>j<=(t w p.2).length/\(∀ q,q∈M↔(∃ z∈IN.take k,q.1=z.1/\q.2∈t w z.2)\/q.1=p.1/\q.2∈(t w p.2).take j)/\∃ m,b=[some (.fz (.int p.1)),some (.fz (.int p.2)),fo m,some (.fz (.adr fa)),some (.fz (.int w)),some (.fz (.str R.word))]) ⟨eg _,λq=>by rw[L];simp,m,rfl⟩ ?_ ?_⟩
  .rintro j d J b I ⟨hj,u,m,rfl⟩;obtain⟨x,G,rfl⟩:=j6 I;walk_at "q2";have N:∀ q,q∈J++[(p.1,x)]↔(∃ z∈IN.take k,q.1=z.1/\q.2∈t w z.2)\/q.1=p.1/\q.2∈(t w p.2).take (j + 1):=λq=>by
    rw[eE,u,take_snoc G,eE,fP,fP];constructor
    .rintro((h | h) | rfl)
     .exact .inl h
     .exact .inr ⟨h.1,.inl h.2⟩
     .exact .inr ⟨rfl,.inr rfl⟩
    .rintro(h | ⟨U,h | h⟩)
     .exact .inl (.inl h)
     .exact .inl (.inr ⟨U,h⟩)
     .exact .inr (Sf U h)
   refine⟨sl2 (by decide),(p.1,x),rfl,v.dom λq r=>?_,dN G,N,some _,rfl⟩;rcases(N q).mp r with ⟨z,hz,g,l⟩ | ⟨g,l⟩
   .have:=(C z (tk z hz) _ l).1;rw[<- g] at this;exact this
   .have:=(C p pm _ (rD l)).1;rw[<- g] at this;exact this
  .rintro J b ⟨hj,u,m,rfl⟩;refine⟨lt,λq=>?_,some _,some _,m,rfl⟩;rw[u,lM0,lD,take_snoc c];constructor
   .rintro(⟨z,hz,e⟩ | e)
    .exact⟨z,eE.mpr (.inl hz),e⟩
    .exact⟨p,eE.mpr (.inr (.head _)),e⟩
   .rintro⟨z,hz,e⟩;rcases eE.mp hz with hz | hz
    .exact .inl ⟨z,hz,e⟩
    .rw[fP.mp hz] at e;exact .inr e
 .rintro M b ⟨O,L,V,o,m,rfl⟩;rw[lM0,lD] at L;refine⟨v.dom λq h=>?_,λJ u so=>?_⟩
  .obtain⟨p,c,g,l⟩:=(L q).mp h;have:=(C p c _ l).1;rw[<- g] at this;exact this
  .walk_at "q2";have nr:J.Nodup:=so.imp λ{x y} h e=>by subst e;delta p2L at h;lia
   have ri:∀ q∈J,Bxp H W q/\q.1 < h/\q.2 < w:=λq r=>by
    obtain⟨p,c,g,l⟩:=(L q).mp ((u q).mp r);have:=C p c _ l;rw[<- g] at this;exact this
   have bq:cB H W (ps.filter (λp=>!inB h w p)++J):=by
    refine⟨v.1,v.2.1,v.2.2.1,λq r=>?_,Ts.mpr ⟨v.2.2.2.2.filter _,nr,λx G y hy e=>?_⟩⟩
    .rcases eE.mp r with h | h
     .exact v.2.2.2.1 q (qA.mp h).1
     .exact(ri q h).1
    .subst e;have:=(qA.mp G).2;obtain⟨_,r1,r2⟩:=ri x hy;simp -iota [inB,r1,r2] at this
   refine⟨sl2 ?_,?_⟩
   .have:=bq.len;rw[bM] at this;rw[lM0,lM0];exact WF 0xdefd68b200428d455de this
   .rw[<- dE];refine q _ bq λq=>?_;rw[eE,qA,u,L];constructor
    .rintro(⟨U,h2⟩ | ⟨p,c,g,l⟩)
     .refine⟨q,U,?_⟩;delta RR;rw[if_neg λz=>by simp -iota [inB,z.1,z.2] at h2]
     .refine⟨p,((B p).mp c).1,?_⟩;delta RR;rw[if_pos ((B p).mp c).2];exact⟨g,l⟩
    .rintro⟨p,c,e⟩;delta RR at e;split at e
     .exact .inr ⟨p,(B p).mpr ⟨c,by assumption⟩,e⟩
     .subst e;exact .inl ⟨c,by simp -iota only[inB];rw[<- Bool.decide_and,Bool.not_eq_true',decide_eq_false_iff_not];assumption⟩
def PR (t:Int->Int->Li0)(h w:Nat)(p q:P2):Prop:=RR t w h (sw p) (sw q)
def OB (a:Ad):S3:=λΓ Q=>∃ (R:Rl) (t:Int->Int->Li0) (b:Addr) (ps:List P2) (h w H W:Nat),Γ=[some (.fz (.adr b)),some (.fz (.str R.word)),some (.fz (pL ps)),some (.fz (.int h)),some (.fz (.int w))]/\Told a R b t/\2<=h/\h<=H/\w<=W/\cB H W ps/\∀ qs,cB H W qs->(∀ q,q∈qs↔∃ p∈ps,PR t h w p q)->Q (.fr (pL qs)) Γ
theorem mn(T:Txt w K mg a):aM P w K mg base CX0 7 (a.x 43) (a.y 34) ["told","word","places","height","width"] (sp3 K 5 (OB a)):=by
 refine ok3 T.cG.F t5 (hbody:=λu A b s H E c=>⟨_,_,(ak (ay (aj (by rfl) (sv T) c.dn (by rfl) T.eY.m T.eY.F.kp T.eY.b (aa (P3.opd (aj (by rfl) (m7 T) c.dn (by rfl) T.cQ.m T.cQ.F.kp T.cQ.b (aa (P3.opd (p3v 0)) (aa (P3.opd (p3v 1)) (aa (P3.opd (aj (by rfl) (sv T) c.dn (by rfl) T.eY.m T.eY.F.kp T.eY.b (aa (P3.opd (p3v 2)) af))) (aa (P3.opd (p3v 4)) (aa (P3.opd (p3v 3)) af))))))) af)))),λj Q h v=>?_⟩);obtain⟨R,t,r,f,h,w,H,W,rfl,tl,o,n,m,g,q⟩:=h;walk_at "q2";refine⟨f,rfl,by have:=g.len;lia,?_⟩;walk_at "q2";refine⟨R,t,r,f.map sw,w,h,W,H,rfl,tl,o,m,n,g.sw,λk i l=>?_⟩;walk_at "q2";refine⟨k,rfl,by have:=i.len;lia,?_⟩;walk_at "q2";refine q _ i.sw λq=>?_;rw[vp,l];delta PR;constructor
 .rintro⟨p,d,e⟩;exact⟨sw p,vp.mp d,e⟩
 .rintro⟨p,d,e⟩;exact⟨sw p,vp.mpr d,e⟩
noncomputable def ch (S:Nat->P2->P2->Prop):Nat->P2->P2->Prop
 | 0,p,q=>q=p
 | j + 1,p,q=>∃ e,S j p e/\ch S j e q
noncomputable def hN (H W:Nat)(ls:List Lt)(k:Nat):Nat:=(cat H W ls k).1.toNat
noncomputable def wN (H W:Nat)(ls:List Lt)(k:Nat):Nat:=(cat H W ls k).2.toNat
theorem rF{H W:Nat}{ls:List Lt}(a:j_ H W)(gd:Good H W ls)(b:k<=ls.length):cat H W ls k=((hN H W ls k:Int),(wN H W ls k:Int))/\hN H W ls k<=H/\wN H W ls k<=W:=by
 obtain⟨f,e,d,c⟩:=wK (k:=k) gd a.h1 a.w1 b;delta hN wN;exact⟨Sf (oB (by lia)).symm (oB (by lia)).symm,by lia,by lia⟩
theorem wL{H W:Nat}{ls:List Lt}{l:Lt}(b:j_ H W)(gd:Good H W ls)(a:ls[k]?=some l):(l≠.p->2<=wN H W ls k)/\(l≠.r->2<=hN H W ls k):=by
 have c:=wF gd a;rw[(rF b gd (fq (dN a))).1] at c;exact⟨λh=>by have:=c.1 h;lia,λh=>by have:=c.2 h;lia⟩
def stH (R:Rl)(H W:Nat)(ls:List Lt)(k:Nat)(p q:P2):Prop:=∃ e,(if ls[k]?=some .r then e=p else PR R.sp (hN H W ls k) (wN H W ls k) p e)/\if ls[k]?=some .p then q=e else RR R.sp (hN H W ls k) (wN H W ls k) e q
def stN (R:Rl)(H W:Nat)(ls:List Lt)(k:Nat)(p q:P2):Prop:=∃ e,(if ls[k]?=some .p then e=p else RR R.bk (hN H W ls k) (wN H W ls k) p e)/\if ls[k]?=some .r then q=e else PR R.bk (hN H W ls k) (wN H W ls k) e q
noncomputable def reH (R:Rl)(H W:Nat)(ls:List Lt):P2->P2->Prop:=ch (stH R H W ls) ls.length
noncomputable def reN (R:Rl)(H W:Nat)(ls:List Lt):P2->P2->Prop:=ch (λj=>stN R H W ls (ls.length - 1 - j)) ls.length
theorem xl{lo c:Int}{d:D}(h:(pI lo c n)[k]?=some d):k < n/\d=.int (lo + (k:Int) * c):=by
 have lt:k < (pI lo c n).length:=dN h;have lt:k < n:=by simpa [pI] using lt
 refine⟨lt,?_⟩;delta pI at h;rw[ba,mK lt] at h;exact(hF h).symm
theorem xk(lo c:Int)(n:Nat):(pI lo c n).length=n:=by simp -iota [pI]
def Fol (S:Nat->P2->P2->Prop)(n:Nat)(p:P2)(H W:Nat)(j:Nat)(a:List P2):Prop:=cB H W a/\∀ q,ch S n p q↔∃ e∈a,ch S j e q
theorem Fol.step{S:Nat->P2->P2->Prop}{p:P2}{H W:Nat}{g qs:List P2}(f:Fol S n p H W (j + 1) g)(b:cB H W qs)(h:∀ q,q∈qs↔∃ e∈g,S j e q):Fol S n p H W j qs:=by
 refine⟨b,λq=>?_⟩;rw[f.2];constructor
 .rintro⟨e,c,z,a,d⟩;exact⟨z,(h z).mpr ⟨e,c,a⟩,d⟩
 .rintro⟨z,a,d⟩;obtain⟨e,c,s⟩:=(h z).mp a;exact⟨e,c,z,s,d⟩
theorem cB.small{H W:Nat}{a:List P2}(b:cB H W a)(q:P2)(c:q∈a):p2B q:=by
 obtain⟨h,g,_,d,_⟩:=b;obtain⟨f,j,e,i⟩:=d q c;exact⟨f,by lia,e,by lia⟩
theorem cB.perm{H W:Nat}{a qs:List P2}(b:cB H W a)(p:a.Perm qs):cB H W qs:=⟨b.1,b.2.1,b.2.2.1,λq c=>b.2.2.2.1 q (p.mem_iff.mpr c),p.nodup b.2.2.2.2⟩
theorem Fol.last{S:Nat->P2->P2->Prop}{p:P2}{H W:Nat}{a qs:List P2}(f:Fol S n p H W 0 a)(b:a.Perm qs)(q:P2):q∈qs↔ch S n p q:=by
 rw[f.2,<- b.mem_iff];exact⟨λh=>⟨q,h,rfl⟩,λZ=>by obtain⟨e,d,c⟩:=Z;rw[show q=e from c];exact d⟩
theorem HW{d qs:List P2}(c:d.Nodup)(p:d.Perm qs)(s:qs.Pairwise p2E):qs.Pairwise p2L:=by
 have c:=p.nodup c;refine Vo (λ{a b} h g=>?_) s c;unfold p2E at h;delta p2L;by_cases e:a.2=b.2
 .have:a.1≠b.1:=λz=>g (Sf z e);lia
 .lia
def tK (a:Ad)(b:Rl->Nat->Nat->List Lt->P2->P2->Prop):S3:=λΓ Q=>∃ (R:Rl) (H W:Nat) (ls:List Lt) (p:P2),Γ=[some (.fz (plD a R H W ls)),some (.fz (p2D p))]/\ls.length<=10/\j_ H W/\Good H W ls/\Bxp H W p/\∀ qs,cB H W qs->qs.Pairwise p2L->(∀ q,q∈qs↔b R H W ls p q)->Q (.fr (pL qs)) Γ
abbrev wdM (a:Ad)(C:Addr)(x:Str):TE3:=uG C (fS "word") 1 (rG x) (bof (uG (a.x 7) (fS "rule") 1 (vC a λR _ _ _=>R.ob a) (bor 0) nR)) nR
theorem Bxp.one{H W:Nat}{p:P2}(h:Bxp H W p)(a:j_ H W):cB H W [p]:=⟨by have:=a.h2;lia,by have:=a.w2;lia,by have:=a.m;rw[<- R1] at this;lia,λq b=>by rw[fP.mp b];exact h,by simp⟩
theorem HI{R:Rl}{h w:Int}{ls:List Lt}(g f d c b s6:Option D)(j:ls.length<=10)(q:Q (.fz (.str R.word)) [some (.fz (plD a R h w ls)),fo g,fo f,fo d,fo c,fo b,fo s6]):wdM a (a.x 8) "sum" [some (.fz (plD a R h w ls)),fo g,fo f,fo d,fo c,fo b,fo s6] Q\/wdM a (a.x 5) "half" [some (.fz (plD a R h w ls)),fo g,fo f,fo d,fo c,fo b,fo s6] Q\/wdM a (a.x 4) "guess" [some (.fz (plD a R h w ls)),fo g,fo f,fo d,fo c,fo b,fo s6] Q\/wdM a (a.x 6) "lean" [some (.fz (plD a R h w ls)),fo g,fo f,fo d,fo c,fo b,fo s6] Q:=by
 have i:∀ (C:Addr) (x:Str),R.ob a=.ins C [] []->Q (.fz (.str x)) [some (.fz (plD a R h w ls)),fo g,fo f,fo d,fo c,fo b,fo s6]->wdM a C x [some (.fz (plD a R h w ls)),fo g,fo f,fo d,fo c,fo b,fo s6] Q:=λC x e q=>by
  delta wdM;walk_at "q2";refine⟨by decide +kernel,R,h,w,ls,rfl,j,?_⟩;refine⟨⟨[],[],congrArg some e,by simp⟩,?_⟩;walk_at "q2";refine⟨_,rfl,?_⟩;walk_at "q2";exact q
 cases R
 .exact .inl (i _ _ rfl q)
 .exact .inr (.inl (i _ _ rfl q))
 .exact .inr (.inr (.inl (i _ _ rfl q)))
 .exact .inr (.inr (.inr (i _ _ rfl q)))
theorem xG(T:Txt w K mg a):aM P w K mg base CX0 8 (a.x 44) (a.y 35) ["plan","place"] (sp3 K 2 (tK a reH)):=by
 refine ok3 T.lO.F fJ (hbody:=λa1 A M s H E g=>⟨_,_,(ag (iJ (aj (by rfl) (kU T) g.dn (by rfl) T.cx.m T.cx.F.kp T.cx.b (aa (P3.opd (p3v 0)) (aa (P3.opd ae) (aa (P3.opd (p3v 1)) af)))))
   (ag (aw (i:=2) fJ.nd rfl (ei rfl) (P3.or (aN (by rfl) (P3.opd (aN (by rfl) (bv 0) T.bw T.cq (cp T) g.dn T.ck.b)) T.wJ T.j4 (jX T) g.dn T.iH.b) (P3.or (aN (by rfl) (P3.opd (aN (by rfl) (bv 0) T.bw T.cq (cp T) g.dn T.ck.b)) T.pY T.hU (g9 T) g.dn T.fA.b) (P3.or (aN (by rfl) (P3.opd (aN (by rfl) (bv 0) T.bw T.cq (cp T) g.dn T.ck.b)) T.nu T.gn (gi T) g.dn T.eI.b) (aN (by rfl) (P3.opd (aN (by rfl) (bv 0) T.bw T.cq (cp T) g.dn T.ck.b)) T.nq T.gm (gg T) g.dn T.eF.b)))))
   (ag (aw (i:=3) fJ.nd rfl (ei rfl) (qh (br (ab (p3v 1) ai))))
   (ag (i_ kr rfl (KC (by rfl) T.z_reversed (by rfl) T.z_range (ab (aN (by rfl) (bv 0) T.bw T.je (jd T) g.dn T.gE.b) ai)) (aL (i:=4) fJ.nd rfl (ei rfl))
   (ag (jU (is:=[5,6]) (by rfl) (wc (by rfl) (bv 0) T.bw T.g_ (g8 T) g.dn T.fv.b (aa (P3.opd (p3v 4)) af)) (aQ (bu (i:=5) fJ.nd rfl (ei rfl)) (aQ (bu (i:=6) fJ.nd rfl (ei rfl)) dH)) rfl)
   (ag (bX (aK (mR (by rfl)) (P3.opd (az (by rfl) (P3.opd (aN (by rfl) (bv 0) T.bw T.iP (iO T) g.dn T.gQ.b)) (bv 4) (λ_ _=>rfl))) (P3.opd (fG (p:=(a.x 0)) (zs:=["p","b"]) (by rfl) T.cO)) (by with_unfolding_all rfl)) (ak (aw (i:=3) fJ.nd rfl (ei rfl) (qh (aj (by rfl) (mn T) g.dn (by rfl) T.cG.m T.cG.F.kp T.cG.b (aa (P3.opd (iN (by rfl) T.c7.m)) (aa (P3.opd (p3v 2)) (aa (P3.opd (p3v 3)) (aa (P3.opd (p3v 5)) (aa (P3.opd (p3v 6)) af))))))))) aY)
   (ak (bX (aK (mR (by rfl)) (P3.opd (az (by rfl) (P3.opd (aN (by rfl) (bv 0) T.bw T.iP (iO T) g.dn T.gQ.b)) (bv 4) (λ_ _=>rfl))) (P3.opd (fG (p:=(a.x 1)) (zs:=["r","b"]) (by rfl) T.eU)) (by with_unfolding_all rfl)) (ak (aw (i:=3) fJ.nd rfl (ei rfl) (qh (aj (by rfl) (m7 T) g.dn (by rfl) T.cQ.m T.cQ.F.kp T.cQ.b (aa (P3.opd (iN (by rfl) T.c7.m)) (aa (P3.opd (p3v 2)) (aa (P3.opd (p3v 3)) (aa (P3.opd (p3v 5)) (aa (P3.opd (p3v 6)) af))))))))) aY)))))
   (ak (ay (aS EV (by rfl) T.z_sorted (by decide +kernel) (aa (bv 3) af)))))))),λU Q h t=>?_⟩)
 obtain⟨R,H,W,c,p,rfl,f,F,gd,x,q⟩:=h;walk_at "q2";refine⟨R,H,W,c,0,p.1,p.2,rfl,f,eg _,x.1,by rw[mQ];exact x.2.1,x.2.2.1,by rw[mQ];exact x.2.2.2,?_⟩;dsimp only;rw[sQ,sP];refine HI (some (p2D p)) none none none none none f ?_;walk_at "q2";refine⟨sl2 (by decide),by decide +kernel,R,H,W,c,rfl,f,?_⟩;walk_at "q2";refine⟨by lia,by lia,dD (λi D=>i<=c.length/\∃ n J I G,Fol (stH R H W c) c.length p H W (c.length - i) n/\D=[some (.fz (plD a R H W c)),some (.fz (p2D p)),some (.fz (.str R.word)),some (.fz (pL n)),fo J,fo I,fo G]) ⟨eg _,[p],none,none,none,⟨x.one F,λq=>by simp⟩,rfl⟩ ?_ ?_⟩
 .rintro i d D hd ⟨Z,n,J,I,G,j,rfl⟩;obtain⟨lt,e⟩:=xl hd;obtain⟨k,ek,kl⟩:∃ k,i=c.length - 1 - k/\k < c.length:=⟨c.length - 1 - i,by lia,by lia⟩;obtain rfl:d=.int (k:Int):=by rw[e];congr 1;lia
  rw[show c.length - i=k + 1 by lia] at j;obtain⟨l,t⟩:∃ l,c[k]?=some l:=⟨_,gE0 kl⟩;obtain⟨ec,C,B⟩:=rF F gd (k:=k) (by exact fq (by assumption));obtain⟨S,O⟩:=wL F gd t;walk_at "q2";refine⟨by decide +kernel,R,H,W,c,k,rfl,f,by exact fq (by assumption),?_⟩;rw[ec];delta cD;walk_at "q2";refine⟨by decide +kernel,R,H,W,c,rfl,f,?_⟩;walk_at "q2";refine⟨sl2 (by rw[bD];lia),l,atL t,?_⟩;have fin:∀ qs,cB H W qs->(∀ q,q∈qs↔∃ e∈n,stH R H W c k e q)->Fol (stH R H W c) c.length p H W (c.length - (i + 1)) qs:=λqs b h=>by
   rw[show c.length - (i + 1)=k by lia];exact j.step b h
  delta stH at fin;rw[t] at fin;cases l
  case' b=>
   walk_at "q2";refine⟨R,_,(a.x 39),n,_,_,H,W,rfl,.inl ⟨rfl,rfl⟩,O (by decide),C,B,j.1,λX b1 m1=>?_⟩;walk_at "q2";refine⟨by decide +kernel,R,H,W,c,rfl,f,?_⟩;walk_at "q2";refine⟨sl2 (by rw[bD];lia),.b,atL t,?_⟩;walk_at "q2";refine⟨R,_,(a.x 39),X,_,_,H,W,rfl,.inl ⟨rfl,rfl⟩,S (by decide),C,B,b1,λy b2 N=>?_⟩
  case' r=>
   walk_at "q2";refine⟨by decide +kernel,R,H,W,c,rfl,f,?_⟩;walk_at "q2";refine⟨sl2 (by rw[bD];lia),.r,atL t,?_⟩;walk_at "q2";refine⟨R,_,(a.x 39),n,_,_,H,W,rfl,.inl ⟨rfl,rfl⟩,S (by decide),C,B,j.1,λy b2 N=>?_⟩
  case' p=>
   walk_at "q2";refine⟨R,_,(a.x 39),n,_,_,H,W,rfl,.inl ⟨rfl,rfl⟩,O (by decide),C,B,j.1,λy b2 N=>?_⟩;walk_at "q2";refine⟨by decide +kernel,R,H,W,c,rfl,f,?_⟩;walk_at "q2";refine⟨sl2 (by rw[bD];lia),.p,atL t,?_⟩
  all_goals
   walk_at "q2";refine⟨by assumption,y,some _,some _,some _,fin y b2 λq=>?_,rfl⟩;rw[N];simp -iota only[mC,reduceCtorEq,if_true,if_false]
  case b=>
   constructor
   .rintro⟨e,v,m⟩;obtain⟨z,o,u⟩:=(m1 e).mp v;exact⟨z,o,e,u,m⟩
   .rintro⟨z,o,e,u,m⟩;exact⟨e,(m1 e).mpr ⟨z,o,u⟩,m⟩
  case r=>exact⟨λ⟨e,v,m⟩=>⟨e,v,e,rfl,m⟩,λ⟨z,o,e,u,m⟩=>⟨z,o,u ▸ m⟩⟩
  case p=>exact⟨λ⟨e,v,m⟩=>⟨e,v,q,m,rfl⟩,λ⟨z,o,e,u,m⟩=>⟨z,o,m ▸ u⟩⟩
 .rintro D ⟨Z,n,J,I,G,j,rfl⟩;rw[xk,et,vk] at j;walk_at "q2";refine Ae (by have:=j.1.len;lia) (λq Y=>j.1.small q Y) λqs L V=>?_;walk_at "q2";exact q qs (j.1.perm L) (HW j.1.2.2.2.2 L V) λz=>j.last L z
def Og (a:Ad):S3:=λΓ Q=>∃ (R:Rl) (H W:Nat) (ls:List Lt) (p:P2),Γ=[some (.fz (plD a R H W ls)),some (.fz (.int 0)),some (.fz (pL [p]))]/\ls.length<=10/\j_ H W/\Good H W ls/\Bxp H W p/\∀ qs,cB H W qs->qs.Pairwise p2L->(∀ q,q∈qs↔reN R H W ls p q)->Q (.fr (pL qs)) Γ
theorem BO(T:Txt w K mg a):aM P w K mg base CX0 8 (a.x 46) (a.y 37) ["plan","step","places"] (sp3 K 3 (Og a)):=by
 refine ok3 T.nA.F e_ (hbody:=λa1 A M s H E g=>⟨_,_,(ag (aw (i:=3) e_.nd rfl (ei rfl) (P3.or (aN (by rfl) (P3.opd (aN (by rfl) (bv 0) T.bw T.cq (cp T) g.dn T.ck.b)) T.wJ T.j4 (jX T) g.dn T.iH.b) (P3.or (aN (by rfl) (P3.opd (aN (by rfl) (bv 0) T.bw T.cq (cp T) g.dn T.ck.b)) T.pY T.hU (g9 T) g.dn T.fA.b) (P3.or (aN (by rfl) (P3.opd (aN (by rfl) (bv 0) T.bw T.cq (cp T) g.dn T.ck.b)) T.nu T.gn (gi T) g.dn T.eI.b) (aN (by rfl) (P3.opd (aN (by rfl) (bv 0) T.bw T.cq (cp T) g.dn T.ck.b)) T.nq T.gm (gg T) g.dn T.eF.b)))))
   (ag (i_ kr rfl (B_ (by rfl) T.z_range (ab (p3v 1) (ab (aN (by rfl) (bv 0) T.bw T.je (jd T) g.dn T.gE.b) ai))) (aL (i:=4) e_.nd rfl (ei rfl))
   (ag (jU (is:=[5,6]) (by rfl) (wc (by rfl) (bv 0) T.bw T.g_ (g8 T) g.dn T.fv.b (aa (P3.opd (p3v 4)) af)) (aQ (bu (i:=5) e_.nd rfl (ei rfl)) (aQ (bu (i:=6) e_.nd rfl (ei rfl)) dH)) rfl)
   (ag (bX (aK (mR (by rfl)) (P3.opd (az (by rfl) (P3.opd (aN (by rfl) (bv 0) T.bw T.iP (iO T) g.dn T.gQ.b)) (bv 4) (λ_ _=>rfl))) (P3.opd (fG (p:=(a.x 1)) (zs:=["r","b"]) (by rfl) T.eU)) (by with_unfolding_all rfl)) (ak (aw (i:=2) e_.nd rfl (ei rfl) (qh (aj (by rfl) (m7 T) g.dn (by rfl) T.cQ.m T.cQ.F.kp T.cQ.b (aa (P3.opd (iN (by rfl) T.bZ.m)) (aa (P3.opd (p3v 3)) (aa (P3.opd (p3v 2)) (aa (P3.opd (p3v 5)) (aa (P3.opd (p3v 6)) af))))))))) aY)
   (ak (bX (aK (mR (by rfl)) (P3.opd (az (by rfl) (P3.opd (aN (by rfl) (bv 0) T.bw T.iP (iO T) g.dn T.gQ.b)) (bv 4) (λ_ _=>rfl))) (P3.opd (fG (p:=(a.x 0)) (zs:=["p","b"]) (by rfl) T.cO)) (by with_unfolding_all rfl)) (ak (aw (i:=2) e_.nd rfl (ei rfl) (qh (aj (by rfl) (mn T) g.dn (by rfl) T.cG.m T.cG.F.kp T.cG.b (aa (P3.opd (iN (by rfl) T.bZ.m)) (aa (P3.opd (p3v 3)) (aa (P3.opd (p3v 2)) (aa (P3.opd (p3v 5)) (aa (P3.opd (p3v 6)) af))))))))) aY)))))
   (ak (ay (aS EV (by rfl) T.z_sorted (by decide +kernel) (aa (bv 2) af)))))),λU Q h u=>?_⟩)
 obtain⟨R,H,W,c,p,rfl,f,F,gd,bp,q⟩:=h;rw[sQ,sP];refine HI (some (.int 0)) (some (pL [p])) none none none none f ?_;walk_at "q2";refine⟨by decide +kernel,R,H,W,c,rfl,f,?_⟩;walk_at "q2";rw[Int.sub_zero,et];refine⟨by decide,by decide,by lia,by lia,dD (λi D=>i<=c.length/\∃ o J I G,Fol (λj=>stN R H W c (c.length - 1 - j)) c.length p H W (c.length - i) o/\D=[some (.fz (plD a R H W c)),some (.fz (.int 0)),some (.fz (pL o)),some (.fz (.str R.word)),fo J,fo I,fo G]) ⟨eg _,[p],none,none,none,⟨bp.one F,λq=>by simp⟩,rfl⟩ ?_ ?_⟩
 .rintro k d D hd ⟨Z,o,J,I,G,m,rfl⟩;obtain⟨kl,rfl⟩:=cA hd;rw[show c.length - k=(c.length - (k + 1)) + 1 by lia] at m;obtain⟨l,u⟩:∃ l,c[k]?=some l:=⟨_,gE0 kl⟩;obtain⟨ec,C,B⟩:=rF F gd (k:=k) (by omega);obtain⟨S,O⟩:=wL F gd u;walk_at "q2";refine⟨by decide +kernel,R,H,W,c,k,rfl,f,by omega,?_⟩;rw[ec];delta cD;walk_at "q2";refine⟨by decide +kernel,R,H,W,c,rfl,f,?_⟩;walk_at "q2";refine⟨sl2 (by rw[bD];lia),l,atL u,?_⟩;have fin:∀ qs,cB H W qs->(∀ q,q∈qs↔∃ e∈o,stN R H W c k e q)->Fol (λj=>stN R H W c (c.length - 1 - j)) c.length p H W (c.length - (k + 1)) qs:=λqs b h=>by
   refine m.step b ?_;rw[show c.length - 1 - (c.length - (k + 1))=k by lia];exact h
  delta stN at fin;rw[u] at fin;cases l
  case' b=>
   walk_at "q2";refine⟨R,_,(a.x 40),o,_,_,H,W,rfl,.inr ⟨rfl,rfl⟩,S (by decide),C,B,m.1,λX b1 m1=>?_⟩;walk_at "q2";refine⟨by decide +kernel,R,H,W,c,rfl,f,?_⟩;walk_at "q2";refine⟨sl2 (by rw[bD];lia),.b,atL u,?_⟩;walk_at "q2";refine⟨R,_,(a.x 40),X,_,_,H,W,rfl,.inr ⟨rfl,rfl⟩,O (by decide),C,B,b1,λy b2 N=>?_⟩
  case' p=>
   walk_at "q2";refine⟨by decide +kernel,R,H,W,c,rfl,f,?_⟩;walk_at "q2";refine⟨sl2 (by rw[bD];lia),.p,atL u,?_⟩;walk_at "q2";refine⟨R,_,(a.x 40),o,_,_,H,W,rfl,.inr ⟨rfl,rfl⟩,O (by decide),C,B,m.1,λy b2 N=>?_⟩
  case' r=>
   walk_at "q2";refine⟨R,_,(a.x 40),o,_,_,H,W,rfl,.inr ⟨rfl,rfl⟩,S (by decide),C,B,m.1,λy b2 N=>?_⟩;walk_at "q2";refine⟨by decide +kernel,R,H,W,c,rfl,f,?_⟩;walk_at "q2";refine⟨sl2 (by rw[bD];lia),.r,atL u,?_⟩
  all_goals
   walk_at "q2";refine⟨by assumption,y,some _,some _,some _,fin y b2 λq=>?_,rfl⟩;rw[N];simp -iota only[mC,reduceCtorEq,if_true,if_false]
  case b=>
   constructor
   .rintro⟨e,x,n⟩;obtain⟨z,t,v⟩:=(m1 e).mp x;exact⟨z,t,e,v,n⟩
   .rintro⟨z,t,e,v,n⟩;exact⟨e,(m1 e).mpr ⟨z,t,v⟩,n⟩
  case p=>exact⟨λ⟨e,x,n⟩=>⟨e,x,e,rfl,n⟩,λ⟨z,t,e,v,n⟩=>⟨z,t,v ▸ n⟩⟩
  case r=>exact⟨λ⟨e,x,n⟩=>⟨e,x,q,n,rfl⟩,λ⟨z,t,e,v,n⟩=>⟨z,t,n ▸ v⟩⟩
 .rintro D ⟨Z,o,J,I,G,m,rfl⟩;rw[bg,vk] at m;walk_at "q2";refine Ae (by have:=m.1.len;lia) (λq Y=>m.1.small q Y) λqs L V=>?_;walk_at "q2";exact q qs (m.1.perm L) (HW m.1.2.2.2.2 L V) λz=>m.last L z
theorem xF(T:Txt w K mg a):aM P w K mg base CX0 9 (a.x 45) (a.y 36) ["plan","place"] (sp3 K 2 (tK a reN)):=by
 refine ok3 T.lM.F CV (hbody:=λk A d s H E f=>⟨_,_,(ag (iJ (aj (by rfl) (kU T) f.dn (by rfl) T.cx.m T.cx.F.kp T.cx.b (aa (P3.opd (p3v 0)) (aa (P3.opd ae) (aa (P3.opd (p3v 1)) af)))))
   (ak (ay (aj (by rfl) (BO T) f.dn (by rfl) T.nA.m T.nA.F.kp T.nA.b (aa (P3.opd (p3v 0)) (aa (P3.opd ae) (aa (P3.opd (br (ab (p3v 1) ai))) af))))))),λg Q h n=>?_⟩)
 obtain⟨R,H,W,e,p,rfl,b,i,gd,c,q⟩:=h;walk_at "q2";refine⟨R,H,W,e,0,p.1,p.2,rfl,b,eg _,c.1,by rw[mQ];exact c.2.1,c.2.2.1,by rw[mQ];exact c.2.2.2,?_⟩;walk_at "q2";refine⟨sl2 (by decide),R,H,W,e,p,rfl,b,i,gd,c,λj m b2 l=>?_⟩;walk_at "q2";exact q j m b2 l
noncomputable def rg (f:Nat->Int)(k:Nat):Li0:=(cj k).map f
theorem LV(f:Nat->Int)(k:Nat):(cj k).map (λj=>D.int (f j))=(rg f k).map D.int:=by delta rg;rw[iS];rfl
theorem zO{i:Int}(h:i=(k:Int))(lt:k < ns.length):atI (ns.map D.int) i=some (.int (ns.getD k 0)):=by
 subst h;refine dF (by lia) ?_;rw[et,ba,gE0 lt,dq,gE0 lt];rfl
theorem K_{a:Type}{f:a->D}{F:List a}(h:n<=F.length):cut (F.map f) none (some (n:Int))=(F.take n).map f:=by
 delta cut;rw[_h.g0,_h.iI,lM0,PF,RI,lE h,ze]
theorem OL{xs ys:Li0}(h:k < xs.length):(xs++ys).getD k 0=xs.getD k 0:=by rw[dq,dq,eQ h]
theorem OK{xs ys:Li0}(h:xs.length<=k):(xs++ys).getD k 0=ys.getD (k - xs.length) 0:=by rw[dq,dq,hC h]
noncomputable def mkR (H W:Nat)(f:Nat->Nat->Int):LL0:=(cj H).map λy=>(cj W).map λx=>f y x
noncomputable def en (a:LL0)(y x:Nat):Int:=(a.getD y []).getD x 0
theorem xO{H W y:Nat}{f:Nat->Nat->Int}(h:y < H):(mkR H W f)[y]?=some ((cj W).map (f y)):=by delta mkR;rw[ba,mK h];rfl
theorem mk_congr{H W:Nat}{f g:Nat->Nat->Int}(h:∀ y x,y < H->x < W->f y x=g y x):mkR H W f=mkR H W g:=
 jx λy a=>jx λx b=>h y x (iU.mp a) (iU.mp b)
theorem vO{a:Type}{v:a}{g:Nat->a}:((cj n).map g).set k v=(cj n).map λi=>if i=k then v else g i:=by
 refine ng λi=>?_;rw[Pw];by_cases b:i < n
 .rw[ba,ba,mK b];by_cases e:k=i
  .subst e;rw[if_pos rfl,if_pos (by simpa using b)];simp
  .rw[if_neg e];simp -iota [lj e]
 .rw[iT (l:=(cj n).map λi=>if i=k then v else g i) (by simp;lia)];split
  .rw[if_neg (by simp;lia)]
  .exact iT (by simp;lia)
theorem Ka{H W y x:Nat}{n:Int}{f:Nat->Nat->Int}:(mkR H W f).set y (((cj W).map (f y)).set x n)=mkR H W λa x'=>if a=y/\x'=x then n else f a x':=by
 delta mkR;rw[vO,vO];refine jx λi _=>?_;by_cases e:i=y
 .subst e;rw[if_pos rfl];exact jx λj _=>by simp
 .rw[if_neg e];exact jx λj _=>(if_neg λz=>e z.1).symm
theorem Jk{W:Nat}{a:Li0}(h:a.length=W):a=(cj W).map λx=>a.getD x 0:=by
 refine ng λi=>?_;by_cases b:i < W
 .rw[ba,mK b,gE0 (by lia)];simp -iota [Rm,show i < a.length by lia]
 .rw[iT (by exact WF 0x82cc20d0800b h b),iT (by simp;lia)]
theorem Kb{H W:Nat}{a:Li0}{g:Nat->Nat->Int}(h:a.length=W):(mkR H W g).set k a=mkR H W λy x=>if y=k then a.getD x 0 else g y x:=by
 delta mkR;rw[vO];refine jx λi _=>?_;by_cases e:i=k
 .rw[if_pos e]
  conv=>lhs;rw[Jk h]
  exact jx λx _=>(if_pos e).symm
 .rw[if_neg e];exact jx λx _=>(if_neg e).symm
theorem FL{W w:Nat}{g:Nat->Int}(h:w<=W):((cj W).map g).take w=(cj w).map g:=by rw[<- ze,List.take_range,lE h]
theorem HX{g:Nat->Int}(h:i < n):((cj n).map g).getD i 0=g i:=by simp -iota [Rm,h]
noncomputable def cm (f:Nat->Nat->Nat):Nat->Nat->Int:=λy x=>(f y x:Int)
noncomputable def mjp (b:Bool)(R:Rl):List Nat->List Nat:=match b with | true=>mj R | false=>mp R
noncomputable def tjp (b:Bool)(R:Rl):Int->Int->Li0:=match b with | true=>R.bk | false=>R.sp
noncomputable def fnA (a:Ad)(b:Bool):Addr:=match b with | true=>(a.x 55) | false=>(a.x 54)
theorem vK(b:Bool)(R:Rl):Fj (tjp b R) (mjp b R)/\Cr (tjp b R):=by
 cases b
 .exact CY R
 .exact CZ R
def Ov (b:Bool):S3:=λΓ Q=>∃ (R:Rl) (r:List Nat),Γ=[some (.fz (.str R.word)),some (.fz (nl r))]/\2<=r.length/\r.length<=64/\Q (.fr (nl (mjp b R r))) Γ
theorem H9(b:Bool){e:TE3}{A:dO}(h:jj e 2 (fnA a b) (Ov b) A Γ Q):jj e 2 (a.x 54) GK A Γ Q\/jj e 2 (a.x 55) GL A Γ Q:=by
 cases b
 .exact .inl h
 .exact .inr h
noncomputable abbrev ci (r:List Nat):Li0:=r.map λn:Nat=>(n:Int)
theorem Ia(r:List Nat):nl r=il (ci r):=by rw[nl,il,ci,iS];rfl
theorem IH{w:Nat}{f:Nat->Nat}:il ((cj w).map λx=>(f x:Int))=nl ((cj w).map f):=by rw[nl,il,iS,iS];rfl
theorem II{r:List Nat}:(ci r).getD k 0=(gd r k:Int):=by
 delta ci gd;rw[dq,dq,ba];cases r[k]? <;> rfl
noncomputable def r9 (F:List Nat->List Nat)(w m:Nat)(f:Nat->Nat->Nat):Nat->Nat->Nat:=λy x=>if y < m/\x < w then gd (F ((cj w).map (f y))) x else f y x
noncomputable def vZ (F:List Nat->List Nat)(h m:Nat)(f:Nat->Nat->Nat):Nat->Nat->Nat:=λy x=>if x < m/\y < h then gd (F ((cj h).map λy=>f y x)) y else f y x
noncomputable def chD (a:Ad)(b:Bool):D:=.tup [.adr (fnA a b),.bl b]
def C8 (a:Ad):TN:=zB 1 (iR1 (iV (dQ 4) wx)) (tgN 7) (Ak 1 7 5 λΓ Q=>jj (cn ix3 (bor 3) (bof (t3C (D.int 0)))) 2 (a.x 54) GK (dW (bof (cn ix3 (bor 0) (bof (t3C (D.int 2))))) (dW (bof (sl3 (bof (cn ix3 (bor 1) (bor 7))) AB (Af (bor 5)))) nR)) Γ Q\/jj (cn ix3 (bor 3) (bof (t3C (D.int 0)))) 2 (a.x 55) GL (dW (bof (cn ix3 (bor 0) (bof (t3C (D.int 2))))) (dW (bof (sl3 (bof (cn ix3 (bor 1) (bor 7))) AB (Af (bor 5)))) nR)) Γ Q)
noncomputable abbrev L8:dO:=dW (bof (cn ix3 (bor 0) (bof (t3C (D.int 2))))) (dW (bof (va [none,some 1,some 8] (iR1 (iV (dQ 4) wx)) (tgN 0) (cn ix3 (bof (cn ix3 (bor 1) (bor 0))) (bor 2)))) nR)
def JD (a:Ad):TN:=zB 1 (iR1 (iV (dQ 5) wx)) (tgN 8) λk=>xT 1 9 (λΓ Q=>jj (cn ix3 (bor 3) (bof (t3C (D.int 0)))) 2 (a.x 54) GK L8 Γ Q\/jj (cn ix3 (bor 3) (bof (t3C (D.int 0)))) 2 (a.x 55) GL L8 Γ Q)
 (zB 1 (iR1 (iV (dQ 4) wx)) (tgN 7) (Aj 7 8 (cn ix3 (bor 9) (bor 7))) k)
noncomputable abbrev stG (a:Ad)(b:Bool)(R:Rl)(g c:Int)(ls:List Lt)(p:Addr)(k h w:Nat)(s6 f e d:Option D):G:=[some (.fz (.tup [.int g,.int c,.str R.word,.str (wy ls)])),some (.fz (.adr p)),some (.fz (.int (k:Int))),some (.fz (.tup [.adr (fnA a b),.bl b])),some (.fz (.int (h:Int))),some (.fz (.int (w:Int))),fo s6,fo f,fo e,fo d]
theorem C7{b:Bool}{R:Rl}{r l:Int}{ls:List Lt}{p:Addr}{h w H W:Nat}{f:Nat->Nat->Nat}{z:G->NR->Prop}{s6 g o n:Option D}(M:H<=64)(L:W<=64)(C:h<=H)(B:w<=W)(K:2<=w)(q:∀ t,z (stG a b R r l ls p k h w s6 t o n) (mkR H W (cm (r9 (mjp b R) w h f)))):C8 a z (stG a b R r l ls p k h w s6 g o n) (mkR H W (cm f)):=by
 delta C8;rw[ju];walk_at "q2";rw[et];refine⟨by lia,by lia,lZ (λm s i=>m<=h/\i=mkR H W (cm (r9 (mjp b R) w m f))/\∃ g,s=stG a b R r l ls p k h w s6 g o n) ⟨eg _,mk_congr λy x _ _=>by simp -iota [cm,r9],g,rfl⟩ ?_ ?_⟩
 .rintro m d s i I ⟨F,rfl,g,rfl⟩;obtain⟨lt,rfl⟩:=cA I;refine⟨by cases g <;> trivial,rfl,?_⟩;show Ak 1 7 5 _ _ [some (.fz (.tup [.int r,.int l,.str R.word,.str (wy ls)])),some (.fz (.adr p)),some (.fz (.int (k:Int))),some (.fz (.tup [.adr (fnA a b),.bl b])),some (.fz (.int (h:Int))),some (.fz (.int (w:Int))),fo s6,some (.fz (.int (m:Int))),fo o,fo n] _;delta Ak CU;refine H9 b ?_;walk_at "q2";have J:(cj W).map (cm (r9 (mjp b R) w m f) m)=(cj W).map λx=>(f m x:Int):=jx λx _=>by simp -iota [cm,r9]
  have v:(mkR H W (cm (r9 (mjp b R) w m f)))[m]?=some ((cj W).map λx=>(f m x:Int)):=by rw[xO (by exact WF 0x8cbc5a53b08b C lt),J]
  refine cu.mpr ⟨il ((cj W).map λx=>(f m x:Int)),dF (by lia) (by rw[et,ba,v];rfl),?_⟩;walk_at "q2";have u:((cj W).map λx=>(f m x:Int)).length=W:=by simp
  rw[K_ (by lia),FL B];have A:=IH (w:=w) (f:=f m);unfold il at A;rw[A];obtain⟨j,_⟩:=(vK b R).1 ((cj w).map (f m)) (by simp;omega) (by simp;lia);rw[lM0,oD] at j;refine⟨R,_,rfl,by simp;omega,by simp;lia,?_⟩;rw[Ia];refine⟨ci (mjp b R ((cj w).map (f m))),rfl,m,w,_,rfl,rfl,v,by lia,by rw[u,lM0,j,ew];lia,lt,?_⟩;have nl:(ci (mjp b R ((cj w).map (f m)))++((cj W).map λx=>(f m x:Int)).drop w).length=W:=by rw[bM,dw,u,lM0,j];lia
  rw[Kb nl];refine⟨mk_congr λy x _ E=>?_,some (.int (m:Int)),rfl⟩;delta cm r9;by_cases e:y=m
  .subst e;rw[if_pos rfl];by_cases c:x < w
   .rw[OL (by rw[lM0,j];exact c),if_pos ⟨by exact bU _,c⟩,II]
   .rw[OK (by rw[lM0,j];lia),if_neg (by lia),lM0,j];simp -iota [Rm,show w + (x - w)=x by lia,E]
  .rw[if_neg e];by_cases c:y < m/\x < w
   .rw[if_pos c,if_pos ⟨by exact WF 189668871198 c.1,c.2⟩]
   .rw[if_neg c,if_neg (by lia)]
 .rintro s i ⟨F,rfl,g,rfl⟩;rw[bg];exact q g
theorem Gf{b:Bool}{R:Rl}{v u:Int}{ls:List Lt}{p:Addr}{h w H W:Nat}{f:Nat->Nat->Nat}{J:G->NR->Prop}{s6 e o n:Option D}(H2:H<=64)(W2:W<=64)(Y:h<=H)(X:w<=W)(h2:2<=h)(q:∀ F C B,J (stG a b R v u ls p k h w s6 F C B) (mkR H W (cm (vZ (mjp b R) h w f)))):JD a J (stG a b R v u ls p k h w s6 e o n) (mkR H W (cm f)):=by
 delta JD;rw[ju];walk_at "q2";rw[et];refine⟨by lia,by lia,lZ (λm t g=>m<=w/\g=mkR H W (cm (vZ (mjp b R) h m f))/\∃ e o n,t=stG a b R v u ls p k h w s6 e o n) ⟨eg _,mk_congr λy x _ _=>by simp -iota [cm,vZ],e,o,n,rfl⟩ ?_ ?_⟩
 .rintro m d t g z ⟨S,rfl,e,o,n,rfl⟩;obtain⟨lt,rfl⟩:=cA z;refine⟨by cases o <;> trivial,rfl,?_⟩;show xT 1 9 _ _ [some (.fz (.tup [.int v,.int u,.str R.word,.str (wy ls)])),some (.fz (.adr p)),some (.fz (.int (k:Int))),some (.fz (.tup [.adr (fnA a b),.bl b])),some (.fz (.int (h:Int))),some (.fz (.int (w:Int))),fo s6,fo e,some (.fz (.int (m:Int))),fo n] _;delta xT CU;refine H9 b ?_;walk_at "q2";rw[et];generalize K:cm (vZ (mjp b R) h m f)=E;have V:∀ y x,m<=x->E y x=(f y x:Int):=λy x h=>by rw[<- K];simp -iota [cm,vZ,show ¬ x < m by lia]
  refine⟨by lia,by lia,small (by rw[bg];lia),eS (λi A r=>i<=h/\A=(cj i).map (λy=>D.int (f y m:Int))/\∃ s,r=[fo s,some (.fz (.lst ((mkR H W E).map λN=>D.lst (N.map D.int)))),some (.fz (.int (m:Int)))]) ⟨eg _,rfl,none,rfl⟩ ?_ ?_⟩
  .rintro i d A r z Q ⟨Z,rfl,s,rfl⟩;obtain⟨P,rfl⟩:=cA z;walk_at "q2";refine cu.mpr ⟨il ((cj W).map (E i)),dF (by lia) (by rw[et,ba,xO (by lia)];rfl),?_⟩;walk_at "q2";refine cu.mpr ⟨_,zO (k:=m) rfl (by simp;lia),?_⟩;rw[HX (by lia),V i m (bU _)];walk_at "q2";exact⟨P,snoc rfl,some _,rfl⟩
  rintro A r Q ⟨_,rfl,s,rfl⟩;rw[bg,LV];have M:=IH (w:=h) (f:=λy=>f y m);unfold il at M;walk_at "q2";delta rg;rw[M];obtain⟨I,_⟩:=(vK b R).1 ((cj h).map λy=>f y m) (by simp;omega) (by simp;lia);rw[lM0,oD] at I;refine⟨R,_,rfl,by simp;omega,by simp;lia,?_⟩;rw[Ia];generalize U:mjp b R ((cj h).map λy=>f y m)=L at I ⊢;refine⟨ci L,rfl,by simp,?_⟩;show zB 1 _ _ _ _ [some (.fz (.tup [.int v,.int u,.str R.word,.str (wy ls)])),some (.fz (.adr p)),some (.fz (.int (k:Int))),some (.fz (.tup [.adr (fnA a b),.bl b])),some (.fz (.int (h:Int))),some (.fz (.int (w:Int))),fo s6,fo e,some (.fz (.int (m:Int))),some (.fz (il (ci L)))] _;rw[ju];walk_at "q2";rw[et];refine⟨by lia,by lia,lZ (λj t g=>j<=h/\g=mkR H W (λy x=>if x=m/\y < j then (gd L y:Int) else E y x)/\∃ e,t=stG a b R v u ls p k h w s6 e (some (.int (m:Int))) (some (il (ci L)))) ⟨eg _,mk_congr λy x _ _=>(if_neg (by lia)).symm,e,rfl⟩ ?_ ?_⟩
  .rintro j d t g z ⟨T,rfl,e,rfl⟩;obtain⟨O,rfl⟩:=cA z;refine⟨by cases e <;> trivial,rfl,?_⟩;show Aj 7 8 _ _ [some (.fz (.tup [.int v,.int u,.str R.word,.str (wy ls)])),some (.fz (.adr p)),some (.fz (.int (k:Int))),some (.fz (.tup [.adr (fnA a b),.bl b])),some (.fz (.int (h:Int))),some (.fz (.int (w:Int))),fo s6,some (.fz (.int (j:Int))),some (.fz (.int (m:Int))),some (.fz (il (ci L)))] _;delta Aj;walk_at "q2";refine cu.mpr ⟨_,zO (k:=j) rfl (by rw[lM0,I];omega),?_⟩;rw[II];refine⟨_,rfl,j,m,_,rfl,rfl,xO (by lia),by simp;lia,O,?_,some (.int (j:Int)),rfl⟩;rw[Ka];refine mk_congr λy x _ _=>?_;by_cases c:y=j/\x=m
   .rw[if_pos c,if_pos ⟨c.2,by exact WF 189668893150 c.1⟩,c.1]
   .rw[if_neg c];by_cases l:x=m/\y < j
    .rw[if_pos l,if_pos ⟨l.1,by exact WF 189668871198 l.2⟩]
    .rw[if_neg l,if_neg (by lia)]
  .rintro t g ⟨T,rfl,e,rfl⟩;rw[bg];refine⟨lt,mk_congr λy x _ _=>?_,e,_,_,rfl⟩;rw[<- K];delta cm vZ;by_cases c:x=m/\y < h
   .rw[if_pos c,if_pos ⟨by exact WF 189668893150 c.1,c.2⟩,c.1,U]
   .rw[if_neg c];by_cases l:x < m/\y < h
    .rw[if_pos l,if_pos ⟨by exact WF 189668871198 l.1,l.2⟩]
    .rw[if_neg l,if_neg (by lia)]
 .rintro t g ⟨S,rfl,e,o,n,rfl⟩;rw[bg];exact q e o n
def bt (f:Nat->Nat->Nat)(p:P2)(i:Nat):Prop:=(f p.1.toNat p.2.toNat).testBit i=true
def nn (p:P2):Prop:=0<=p.1/\0<=p.2
theorem IP{t:Int->Int->Li0}{h w:Nat}{p q:P2}(T:Cr t)(b:2<=w)(a:w<=64)(n:nn p)(r:RR t h w p q):nn q:=by
 delta RR at r;split at r
 .rename_i c;obtain⟨x,d⟩:=mx n.2;rw[d] at r c;have:=(T w x b a (by have:=c.2;lia)).1 _ r.2;exact⟨by rw[r.1];exact n.1,this.1⟩
 .rw[r];exact n
theorem EY{b:Bool}{R:Rl}{h w:Nat}{f:Nat->Nat->Nat}(k:2<=w)(g:w<=64){p:P2}(n:nn p)(i:Nat):bt (r9 (mjp b R) w h f) p i↔∃ q,RR (tjp b R) h w p q/\bt f q i:=by
 obtain⟨y,m⟩:=mx n.1;obtain⟨x,o⟩:=mx n.2;obtain⟨u,p2⟩:=p;simp only at m o;subst m o;obtain⟨S,T⟩:=vK b R;delta bt r9 RR;simp -iota only[et];by_cases c:y < h/\x < w
 .have e:(y:Int) < h/\(x:Int) < w:=by lia
  obtain⟨t,s⟩:=S ((cj w).map (f y)) (by simpa using k) (by simpa using g);rw[if_pos c];have:=s x (by simpa using c.2) i;rw[lM0,oD] at this;rw[this];simp -iota only[if_pos e];have l:=(T w x k g c.2).1;constructor
  .rintro⟨j,d,a⟩;refine⟨((y:Int),(j:Int)),⟨rfl,d⟩,?_⟩;rw[sV,if_pos (by have:=l _ d;lia)] at a;simpa using a
  .rintro⟨q,⟨d,a⟩,r⟩;have:=l _ a;refine⟨q.2.toNat,by rw[oB this.1];exact a,?_⟩;rw[sV,if_pos (by lia)];rw[d] at r;simpa using r
 .have e:¬ ((y:Int) < h/\(x:Int) < w):=by lia
  rw[if_neg c];simp -iota only[if_neg e];constructor
  .exact λh=>⟨_,rfl,by simpa using h⟩
  .rintro⟨q,rfl,h⟩;simpa using h
theorem Lf{b:Bool}{R:Rl}{h w:Nat}{f:Nat->Nat->Nat}(a:2<=h)(d:h<=64){p:P2}(n:nn p)(i:Nat):bt (vZ (mjp b R) h w f) p i↔∃ q,PR (tjp b R) h w p q/\bt f q i:=by
 have:=EY (b:=b) (R:=R) (h:=w) (w:=h) (f:=λx y=>f y x) a d (p:=sw p) ⟨n.2,n.1⟩ i;have e:bt (vZ (mjp b R) h w f) p i=bt (r9 (mjp b R) h w λx y=>f y x) (sw p) i:=rfl;rw[e,this];constructor
 .rintro⟨q,c,a⟩;exact⟨sw q,c,a⟩
 .rintro⟨q,c,a⟩;exact⟨sw q,c,a⟩
noncomputable def stB (b:Bool)(R:Rl)(H W:Nat)(ls:List Lt)(k:Nat):P2->P2->Prop:=match b with | true=>stN R H W ls k | false=>stH R H W ls k
noncomputable def tr0 (b:Bool)(R:Rl)(l:Lt)(h w:Nat)(f:Nat->Nat->Nat):Nat->Nat->Nat:=if l=.p then f else r9 (mjp b R) w h f
noncomputable def tr1 (b:Bool)(R:Rl)(l:Lt)(h w:Nat)(f:Nat->Nat->Nat):Nat->Nat->Nat:=if l=.r then f else vZ (mjp b R) h w f
noncomputable def sqF (b:Bool)(R:Rl)(l:Lt)(h w:Nat)(f:Nat->Nat->Nat)(m:Nat):Nat->Nat->Nat:=match b,m with
 | _,0=>f
 | false,1=>tr0 b R l h w f
 | true,1=>tr1 b R l h w f
 | false,_=>tr1 b R l h w (tr0 b R l h w f)
 | true,_=>tr0 b R l h w (tr1 b R l h w f)
def Stp (b:Bool)(R:Rl)(H W:Nat)(ls:List Lt)(k:Nat)(f g:Nat->Nat->Nat):Prop:=(∀ p i,nn p->(bt g p i↔∃ q,stB b R H W ls k p q/\bt f q i))/\∀ p q,nn p->stB b R H W ls k p q->nn q
noncomputable def Kj (a:Ad):List D->NR->(NR->Prop)->Prop:=λds xss k3=>∃ (b:Bool) (R:Rl) (p:Addr) (H W:Nat) (ls:List Lt) (k:Nat) (f:Nat->Nat->Nat),ds=[o_ R H W ls,.adr p,.int (k:Int),chD a b]/\ls.length<=10/\k < ls.length/\j_ H W/\Good H W ls/\xss=mkR H W (cm f)/\∀ g,Stp b R H W ls k f g->k3 (mkR H W (cm g))
def EZ (a:Ad):TN:=λk=>ifN (Fi (tst (cn (qY 20 false) (bor 6) (bof (t3C (D.int 0))))) (tst (cn (qY 20 true) (bof (cn ix3 (bof (cn ix3 (bor 0) (bof (t3C (D.int 3))))) (bor 2))) (bof (t3C (D.str (fS "p"))))))) (C8 a) xK
 (ifN (Fi (tst (cn (qY 20 false) (bor 6) (bof (t3C (D.int 1))))) (tst (cn (qY 20 true) (bof (cn ix3 (bof (cn ix3 (bor 0) (bof (t3C (D.int 3))))) (bor 2))) (bof (t3C (D.str (fS "r"))))))) (JD a) xK k)
theorem HL{b:Bool}{R:Rl}{o i:Int}{ls:List Lt}{p:Addr}{h w H W:Nat}{l:Lt}{f:Nat->Nat->Nat}{r:G->NR->Prop}{n g e:Option D}(v:ls.length<=10)(s:ls[k]?=some l)(z:H<=64)(y:W<=64)(u:h<=H)(t:w<=W)(x:l≠.p->2<=w)(q:∀ c m j,r (stG a b R o i ls p k h w (some (.int 0)) c m j) (mkR H W (cm (tr0 b R l h w f)))):EZ a r (stG a b R o i ls p k h w (some (.int 0)) n g e) (mkR H W (cm f)):=by
 show ifN _ _ _ _ [some (.fz (.tup [.int o,.int i,.str R.word,.str (wy ls)])),some (.fz (.adr p)),some (.fz (.int (k:Int))),some (.fz (.tup [.adr (fnA a b),.bl b])),some (.fz (.int (h:Int))),some (.fz (.int (w:Int))),some (.fz (.int 0)),fo n,fo g,fo e] _;have lk:=dN s;have d:((0:Int) == 1)=false:=rfl;delta ifN;walk_at "q2";refine⟨sl2 (by rw[bD];lia),l,atL s,?_⟩;delta tr0 at q;cases l
 case' p=>
  walk_at "q2";delta xK;walk_at "q2";rw[d];walk_at "q2";exact q n g e
 all_goals
  walk_at "q2";refine C7 (s6:=some (.int 0)) z y u t (x (by decide)) λc=>?_;simp only[stG,show fo (some (D.int 0))=some (Sl.fz (D.int 0)) from rfl];walk_at "q2";rw[d];walk_at "q2";exact q c g e
theorem HK{b:Bool}{R:Rl}{o g:Int}{ls:List Lt}{p:Addr}{h w H W:Nat}{l:Lt}{f:Nat->Nat->Nat}{s:G->NR->Prop}{n m j:Option D}(x:ls.length<=10)(t:ls[k]?=some l)(A:H<=64)(z:W<=64)(v:h<=H)(u:w<=W)(y:l≠.r->2<=h)(q:∀ e d c,s (stG a b R o g ls p k h w (some (.int 1)) e d c) (mkR H W (cm (tr1 b R l h w f)))):EZ a s (stG a b R o g ls p k h w (some (.int 1)) n m j) (mkR H W (cm f)):=by
 show ifN _ _ _ _ [some (.fz (.tup [.int o,.int g,.str R.word,.str (wy ls)])),some (.fz (.adr p)),some (.fz (.int (k:Int))),some (.fz (.tup [.adr (fnA a b),.bl b])),some (.fz (.int (h:Int))),some (.fz (.int (w:Int))),some (.fz (.int 1)),fo n,fo m,fo j] _;have lk:=dN t;have i:((1:Int) == 0)=false:=rfl;delta ifN;walk_at "q2";rw[i];walk_at "q2";delta xK;walk_at "q2";refine⟨sl2 (by rw[bD];lia),l,atL t,?_⟩;delta tr1 at q;cases l
 case' r=>
  walk_at "q2";exact q n m j
 all_goals
  walk_at "q2";exact Gf (s6:=some (.int 1)) A z v u (y (by decide)) λe d c=>q e d c
theorem Jb{b:Bool}{R:Rl}{H W:Nat}{ls:List Lt}{l:Lt}{f:Nat->Nat->Nat}(o:ls[k]?=some l)(F:H<=64)(E:W<=64)(D:hN H W ls k<=H)(C:wN H W ls k<=W)(B:l≠.p->2<=wN H W ls k)(A:l≠.r->2<=hN H W ls k):Stp b R H W ls k f (sqF b R l (hN H W ls k) (wN H W ls k) f 2):=by
 generalize s:hN H W ls k=h at *;generalize m:wN H W ls k=w at *;obtain⟨_,T⟩:=vK b R;have u:∀ (f:Nat->Nat->Nat) p i,nn p->(bt (tr0 b R l h w f) p i↔∃ q,(if some l=some .p then q=p else RR (tjp b R) h w p q)/\bt f q i):=λf p i n=>by
  delta tr0;by_cases e:l=.p
  .subst e;simp
  .simp -iota only[mC,if_neg e];exact EY (B e) (by lia) n i
 have t:∀ (f:Nat->Nat->Nat) p i,nn p->(bt (tr1 b R l h w f) p i↔∃ q,(if some l=some .r then q=p else PR (tjp b R) h w p q)/\bt f q i):=λf p i n=>by
  delta tr1;by_cases e:l=.r
  .subst e;simp
  .simp -iota only[mC,if_neg e];exact Lf (A e) (by lia) n i
 have j:∀ p q,nn p->(if some l=some .p then q=p else RR (tjp b R) h w p q)->nn q:=λp q n r=>by
  split at r
  .rw[r];exact n
  .rename_i e;exact IP T (B λz=>e (by rw[z])) (by lia) n r
 have g:∀ p q,nn p->(if some l=some .r then q=p else PR (tjp b R) h w p q)->nn q:=λp q n r=>by
  split at r
  .rw[r];exact n
  .rename_i e;have:=IP T (A λz=>e (by rw[z])) (by lia) (p:=sw p) ⟨n.2,n.1⟩ r;exact⟨this.2,this.1⟩
 refine⟨λp i n=>?_,λp q n=>?_⟩
 case' refine_2=>
  cases b
  .show stH R H W ls k p q->nn q;delta stH;rw[o,s,m];exact λ⟨e,y,x⟩=>j e q (g p e n y) x
  .show stN R H W ls k p q->nn q;delta stN;rw[o,s,m];exact λ⟨e,y,x⟩=>g e q (j p e n y) x
 cases b
 .show bt (tr1 false R l h w (tr0 false R l h w f)) p i↔∃ q,stH R H W ls k p q/\bt f q i;rw[t _ p i n];delta stH;rw[o,s,m];constructor
  .rintro⟨e,a,v⟩;obtain⟨q,c,d⟩:=(u f e i (g p e n a)).mp v;exact⟨q,⟨e,a,c⟩,d⟩
  .rintro⟨q,⟨e,a,c⟩,d⟩;exact⟨e,a,(u f e i (g p e n a)).mpr ⟨q,c,d⟩⟩
 .show bt (tr0 true R l h w (tr1 true R l h w f)) p i↔∃ q,stN R H W ls k p q/\bt f q i;rw[u _ p i n];delta stN;rw[o,s,m];constructor
  .rintro⟨e,a,v⟩;obtain⟨q,c,d⟩:=(t f e i (j p e n a)).mp v;exact⟨q,⟨e,a,c⟩,d⟩
  .rintro⟨q,⟨e,a,c⟩,d⟩;exact⟨e,a,(t f e i (j p e n a)).mpr ⟨q,c,d⟩⟩
theorem kh(T:Txt w K mg a):aM P w K mg base CX0 3 (a.x 57) (a.y 48) ["_law_told","_law_rows","_law_step","_law_change"] (spN K 4 (Kj a)):=by
 refine okN T.cc.F bN (hbody:=λN A F s H E g=>⟨_,_,(wA (DX (jU (is:=[4,5]) (by rfl) (az (by rfl) (P3.opd (aj (by rfl) (qV T) g.dn (by rfl) T.eD.m T.eD.F.kp T.eD.b (aa (P3.opd (p3v 0)) af))) (bv 2) (λ_ _=>rfl)) (aQ (bu (i:=4) bN.nd rfl (ei rfl)) (aQ (bu (i:=5) bN.nd rfl (ei rfl)) dH)) rfl))
   (jY (pO kr rfl (cX (by rfl) (az (by rfl) (P3.opd (br (ab (br (ab ae (ab ae ai))) (ab (br (ab ae (ab ae ai))) ai)))) (P3.opd (cR oQ (by rfl) T.z_int (by decide +kernel) (aa (P3.opd (az (by rfl) (bv 3) (P3.opd ae) (λ_ _=>rfl))) af))) (λ_ _=>rfl))) (aL (i:=6) bN.nd rfl (ei rfl))
   (wA (Ig (P3W.pt (lU (aK (fh (by rfl) g) (bv 6) (P3.opd ae) (aO _)) (jr (aK (j8 (by rfl) g) (P3.opd (az (by rfl) (P3.opd (az (by rfl) (bv 0) (P3.opd ae) (λ_ _=>rfl))) (bv 2) (λ_ _=>rfl))) (P3.opd cf) (aO _))))) (jY (pO kr rfl (aU (by rfl) T.z_range (ab (p3v 4) ai)) (aL (i:=7) bN.nd rfl (ei rfl))
   (jY (GG (by decide) (az (by rfl) (bv 1) (bv 7) (λ_ _=>rfl)) (bv 5) (P3.or (nM T.bJ.F (fM T) g.dn T.bJ.b (az (by rfl) (bv 3) (P3.opd ae) (λ_ _=>rfl)) (aa (P3.opd (az (by rfl) (bv 0) (P3.opd ae) (λ_ _=>rfl))) (aa (P3.opd (bj (by rfl) (P3.opd (az (by rfl) (bv 1) (bv 7) (λ_ _=>rfl))) aW (aR (bv 5)))) af))) (nM T.bK.F (fN T) g.dn T.bK.b (az (by rfl) (bv 3) (P3.opd ae) (λ_ _=>rfl)) (aa (P3.opd (az (by rfl) (bv 0) (P3.opd ae) (λ_ _=>rfl))) (aa (P3.opd (bj (by rfl) (P3.opd (az (by rfl) (bv 1) (bv 7) (λ_ _=>rfl))) aW (aR (bv 5)))) af)))))))) DY)
   (jY (Ig (P3W.pt (lU (aK (fh (by rfl) g) (bv 6) (P3.opd ae) (aO _)) (jr (aK (j8 (by rfl) g) (P3.opd (az (by rfl) (P3.opd (az (by rfl) (bv 0) (P3.opd ae) (λ_ _=>rfl))) (bv 2) (λ_ _=>rfl))) (P3.opd cf) (aO _))))) (jY (pO kr rfl (aU (by rfl) T.z_range (ab (p3v 5) ai)) (aL (i:=8) bN.nd rfl (jg rfl))
   (wA (Mq (l:=9) (by decide) bN.nd rfl (ei rfl) (P3.or (nM T.bJ.F (fM T) g.dn T.bJ.b (az (by rfl) (bv 3) (P3.opd ae) (λ_ _=>rfl)) (aa (P3.opd (az (by rfl) (bv 0) (P3.opd ae) (λ_ _=>rfl))) (aa (P3.opd (dM rfl (aU (by rfl) T.z_range (ab (p3v 4) ai)) ij (λ_ _ _ _ _=>(aL (i:=0) ij.nd rfl (ei rfl))) (λ_ _ _ _ _=>(az (by rfl) (P3.opd (az (by rfl) (bv 1) (bv 0) (λ_ _=>rfl))) (bv 2) (λ_ _=>rfl))))) af))) (nM T.bK.F (fN T) g.dn T.bK.b (az (by rfl) (bv 3) (P3.opd ae) (λ_ _=>rfl)) (aa (P3.opd (az (by rfl) (bv 0) (P3.opd ae) (λ_ _=>rfl))) (aa (P3.opd (dM rfl (aU (by rfl) T.z_range (ab (p3v 4) ai)) ig (λ_ _ _ _ _=>(aL (i:=0) ig.nd rfl (ei rfl))) (λ_ _ _ _ _=>(az (by rfl) (P3.opd (az (by rfl) (bv 1) (bv 0) (λ_ _=>rfl))) (bv 2) (λ_ _=>rfl))))) af)))))
   (jY (pO kr rfl (aU (by rfl) T.z_range (ab (p3v 4) ai)) (aL (i:=7) bN.nd rfl (ei rfl))
   (jY (GF (by decide) (az (by rfl) (bv 1) (bv 7) (λ_ _=>rfl)) (bv 8) (az (by rfl) (bv 9) (bv 7) (λ_ _=>rfl))))))))) DY)))))),λS J O h Q=>?_⟩)
 obtain⟨b,R,p,H,W,n,k,f,rfl,e,kl,y,gd,rfl,q⟩:=h;obtain⟨l,c⟩:∃ l,n[k]?=some l:=⟨_,gE0 kl⟩;obtain⟨M,u,t⟩:=rF y gd (k:=k) (by exact fq (by assumption));obtain⟨I,G⟩:=wL y gd c;have x:H<=64:=by have:=y.h2;lia
 have v:W<=64:=by have:=y.w2;lia
 delta o_ chD;show yX 1 _ (zB 1 _ (tgN 6) (EZ a) _) [some (.fz (.tup [.int H,.int W,.str R.word,.str (wy n)])),some (.fz (.adr p)),some (.fz (.int (k:Int))),some (.fz (.tup [.adr (fnA a b),.bl b])),none,none,none,none,none,none] _;delta yX;walk_at "q2";refine⟨R,H,W,n,rfl,e,?_⟩;walk_at "q2";refine cu.mpr ⟨_,Bc (by exact fq (by assumption)),?_⟩;rw[M];delta cD;walk_at "q2";refine⟨trivial,?_⟩;rw[ju];walk_at "q2";refine⟨sl2 (by decide),sl2 (by decide),sl2 (by decide),[.int (if b then 1 else 0),.int (if b then 0 else 1)],by cases b <;> rfl,lZ (λm z o=>m<=2/\o=mkR H W (cm (sqF b R l (hN H W n k) (wN H W n k) f m))/\∃ r D C B,z=stG a b R H W n p k (hN H W n k) (wN H W n k) r D C B) ⟨eg _,by cases b <;> rfl,none,none,none,none,rfl⟩ ?_ ?_⟩
 .rintro m d z o j ⟨L,rfl,r,D,C,B,rfl⟩
  match b,m,j with
  | false,0,j=>
   cases j;exact⟨by cases r <;> trivial,rfl,HL e c x v u t I λ_ _ _=>⟨by decide,rfl,_,_,_,_,rfl⟩⟩
  | false,1,j=>
   cases j;exact⟨by cases r <;> trivial,rfl,HK e c x v u t G λ_ _ _=>⟨by decide,rfl,_,_,_,_,rfl⟩⟩
  | true,0,j=>
   cases j;exact⟨by cases r <;> trivial,rfl,HK e c x v u t G λ_ _ _=>⟨by decide,rfl,_,_,_,_,rfl⟩⟩
  | true,1,j=>
   cases j;exact⟨by cases r <;> trivial,rfl,HL e c x v u t I λ_ _ _=>⟨by decide,rfl,_,_,_,_,rfl⟩⟩
 .rintro z o ⟨L,rfl,r,D,C,B,rfl⟩;exact q _ (Jb c x v u t I G)
noncomputable def f0 (W:Nat):Nat->Nat->Nat:=λy x=>2 ^ (y * W + x)
def J_:S3:=λΓ Q=>∃ (R:Rl) (H W:Nat) (ls:List Lt),Γ=[some (.fz (o_ R H W ls))]/\j_ H W/\Q (.rws (eX (mkR H W (cm (f0 W))))) Γ
theorem cW(T:Txt w K mg a):aM P w K mg base CX0 1 (a.x 58) (a.y 49) ["_law_told"] (sp3 K 1 J_):=by
 refine ok3 T.aJ.F nD (hbody:=λu A e s H E y=>⟨_,_,(ak (ay (DO rfl (aU (by rfl) T.z_range (ab (az (by rfl) (bv 0) (P3.opd ae) (λ_ _=>rfl)) ai)) fU (λ_ _ _ _ _=>(aL (i:=0) fU.nd rfl (jg rfl))) (λ_ _ _ _ _=>(dM rfl (aU (by rfl) T.z_range (ab (az (by rfl) (bv 1) (P3.opd ae) (λ_ _=>rfl)) ai)) fR (λ_ _ _ _ _=>(aL (i:=0) fR.nd rfl (ei rfl))) (λ_ _ _ _ _=>(JQ (P3.opd ae) (P3.opd (aF (P3.opd (cK (bv 2) (P3.opd (az (by rfl) (bv 1) (P3.opd ae) (λ_ _=>rfl))))) (bv 0)))))))))),λl Q h z=>?_⟩);obtain⟨R,H,W,j,rfl,g,q⟩:=h;have B:H<=64:=by have:=g.h2;lia
 have v:W<=64:=by have:=g.w2;lia
 delta o_ at *;walk_at "q2";rw[et];refine⟨by lia,by lia,small (by rw[bg];lia),Ce (λk c b=>k<=H/\c=eX ((mkR H W (cm (f0 W))).take k)/\∃ s,b=[fo s,some (.fz (.tup [.int H,.int W,.str R.word,.str (wy j)]))]) ⟨eg _,rfl,none,rfl⟩ ?_ ?_⟩
 .rintro k d c b f p ⟨o,rfl,s,rfl⟩;obtain⟨lt,rfl⟩:=cA f;walk_at "q2";rw[et];refine⟨by lia,by lia,small (by rw[bg];lia),eS (λi c b=>i<=W/\c=(cj i).map (λx=>D.int (f0 W k x:Int))/\∃ s,b=[fo s,some (.fz (.tup [.int H,.int W,.str R.word,.str (wy j)])),some (.fz (.int (k:Int)))]) ⟨eg _,rfl,none,rfl⟩ ?_ ?_⟩
  .rintro i d c b f n ⟨r,rfl,s,rfl⟩;obtain⟨m,rfl⟩:=cA f;walk_at "q2";have t:(k:Int) * (W:Int) + (i:Int)=((k * W + i:Nat):Int):=by simp
   have:k * W<=64 * 64:=Nat.mul_le_mul (by lia) v;refine⟨by delta ug;omega,⟨by lia,by lia,by decide⟩,m,snoc ?_,some _,rfl⟩;rw[t,et,Int.one_mul];delta f0;simp
  .rintro c b n ⟨r,rfl,s,rfl⟩;rw[bg];refine⟨lt,?_,some _,rfl⟩;rw[take_snoc (xO lt),show eX ((mkR H W (cm (f0 W))).take k++[(cj W).map (cm (f0 W) k)])=eX ((mkR H W (cm (f0 W))).take k)++eX [(cj W).map (cm (f0 W) k)] from dE]
   congr 1
   show _=[((cj W).map (cm (f0 W) k)).map D.int];rw[iS];rfl
 .rintro c b p ⟨_,rfl,s,rfl⟩;rw[bg];walk_at "q2";rw[show (mkR H W (cm (f0 W))).take H=mkR H W (cm (f0 W)) from iA (by delta mkR;simp)];exact q
def Ld (S:Nat->P2->P2->Prop)(W n:Nat)(g:Nat->Nat->Nat):Prop:=∀ p i,nn p->(bt g p i↔∃ q,ch S n p q/\bt (f0 W) q i)
theorem Ld.step{S:Nat->P2->P2->Prop}{W:Nat}{e g:Nat->Nat->Nat}(h:Ld S W n e)(j:∀ p i,nn p->(bt g p i↔∃ q,S n p q/\bt e q i))(d:∀ p q,nn p->S n p q->nn q):Ld S W (n + 1) g:=by
 intro p i n;rw[j p i n];constructor
 .rintro⟨z,a,f⟩;obtain⟨q,b,c⟩:=(h z i (d p z n a)).mp f;exact⟨q,⟨z,a,b⟩,c⟩
 .rintro⟨q,⟨z,a,b⟩,c⟩;exact⟨z,a,(h z i (d p z n a)).mpr ⟨q,b,c⟩⟩
def Due (a:Rl->Nat->Nat->List Lt->P2->P2->Prop)(R:Rl)(H W:Nat)(ls:List Lt)(g:Nat->Nat->Nat):Prop:=∀ p i,nn p->(bt g p i↔∃ q,a R H W ls p q/\bt (f0 W) q i)
def MK (a:Rl->Nat->Nat->List Lt->P2->P2->Prop)(xs:List D):S3:=λΓ Q=>∃ (R:Rl) (H W:Nat) (ls:List Lt),Γ=some (.fz (o_ R H W ls))::xs.map (λd=>some (.fz d))/\j_ H W/\Good H W ls/\ls.length<=10/\∀ g,Due a R H W ls g->Q (.rws (eX (mkR H W (cm g)))) Γ
theorem ub(T:Txt w K mg a):aM P w K mg base CX0 4 (a.x 59) (a.y 50) ["_law_told"] (sp3 K 1 (MK reH [])):=by
 refine ok3 T.gD.F i4 (hbody:=λy A l s H E m=>⟨_,_,(xw 1 (aw (i:=1) i4.nd rfl (ei rfl) (aj (by rfl) (cW T) m.dn (by rfl) T.aJ.m T.aJ.F.kp T.aJ.b (aa (P3.opd (p3v 0)) af))) (aj (by rfl) (cW T) m.dn (by rfl) T.aJ.m T.aJ.F.kp T.aJ.b (aa (P3.opd (p3v 0)) af)) (pO kr rfl (aU (by rfl) T.z_range (ab (aS (jB (by rfl)) (by rfl) T.z_len (by decide +kernel) (aa (P3.opd (az (by rfl) (bv 0) (P3.opd ae) (λ_ _=>rfl))) af)) ai)) (aL (i:=2) i4.nd rfl (ei rfl))
   (jY (xN (kh T) m.dn (by rfl) T.cc.m T.cc.F.kp T.cc.b (aa (P3.opd (p3v 0)) (aa (P3.opd (p3v 1)) (aa (P3.opd (p3v 2)) (aa (P3.opd (bO (ab (iN (by rfl) T.bJ.m) (ab kg ai)))) af))))))) (p3v 1)),λu Q h z=>?_⟩)
 obtain⟨R,H,W,c,rfl,r,gd,o,q⟩:=h;delta o_ at *;delta DW;walk_at "q2";refine⟨R,H,W,c,rfl,r,?_⟩;walk_at "q2";refine⟨λs t=>?_,_,rfl,λp=>?_⟩
 .simp -iota only[cS,lz,or_false,mC,reduceCtorEq] at t;exact⟨_,t⟩
 rw[ju];walk_at "q2";rw[bD,et];refine⟨sl2 (by lia),by lia,by lia,lZ (λk j b=>k<=c.length/\(∃ e,b=mkR H W (cm e)/\Ld (stH R H W c) W k e)/\∃ s,j=[some (.fz (.tup [.int H,.int W,.str R.word,.str (wy c)])),some (.fz (.adr p)),fo s]) ⟨eg _,⟨f0 W,rfl,λp i n=>⟨λh=>⟨p,rfl,h⟩,λZ=>by obtain⟨q,e,h⟩:=Z;rw[show q=p from e] at h;exact h⟩⟩,none,rfl⟩ ?_ ?_⟩
 .rintro k d j b x ⟨v,⟨e,rfl,f⟩,s,rfl⟩;obtain⟨lt,rfl⟩:=cA x;refine⟨by cases s <;> trivial,rfl,?_⟩;show vb 1 4 _ _ _ [some (.fz (.tup [.int H,.int W,.str R.word,.str (wy c)])),some (.fz (.adr p)),some (.fz (.int (k:Int)))] _;delta vb;walk_at "q2";exact⟨sl2 (by decide),[_,_,_,_],rfl,p,rfl,rfl,false,R,p,H,W,c,k,e,rfl,o,lt,r,gd,rfl,λg st=>⟨lt,⟨g,rfl,f.step st.1 st.2⟩,some (.int (k:Int)),rfl⟩⟩
 .rintro j b ⟨v,⟨e,rfl,f⟩,s,rfl⟩;rw[bg] at f;exact q e f
theorem ua(T:Txt w K mg a):aM P w K mg base CX0 4 (a.x 60) (a.y 51) ["_law_told","_law_first"] (sp3 K 2 (MK reN [.int 0])):=by
 refine ok3 T.gC.F iZ (hbody:=λz A m s H E o=>⟨_,_,(xw 2 (aw (i:=2) iZ.nd rfl (ei rfl) (aj (by rfl) (cW T) o.dn (by rfl) T.aJ.m T.aJ.F.kp T.aJ.b (aa (P3.opd (p3v 0)) af))) (aj (by rfl) (cW T) o.dn (by rfl) T.aJ.m T.aJ.F.kp T.aJ.b (aa (P3.opd (p3v 0)) af)) (pO kr rfl (GY (by rfl) T.z_reversed (by rfl) T.z_range (ab (p3v 1) (ab (aS (jB (by rfl)) (by rfl) T.z_len (by decide +kernel) (aa (P3.opd (az (by rfl) (bv 0) (P3.opd ae) (λ_ _=>rfl))) af)) ai))) (aL (i:=3) iZ.nd rfl (ei rfl))
   (jY (xN (kh T) o.dn (by rfl) T.cc.m T.cc.F.kp T.cc.b (aa (P3.opd (p3v 0)) (aa (P3.opd (p3v 2)) (aa (P3.opd (p3v 3)) (aa (P3.opd (bO (ab (iN (by rfl) T.bK.m) (ab kg ai)))) af))))))) (p3v 2)),λu Q h B=>?_⟩)
 obtain⟨R,H,W,b,rfl,t,gd,r,q⟩:=h;delta o_ at *;delta DW;walk_at "q2";refine⟨R,H,W,b,rfl,t,?_⟩;walk_at "q2";refine⟨λs hs=>?_,_,rfl,λp=>?_⟩
 .simp -iota only[cS,lz,or_false,mC,reduceCtorEq] at hs;rcases hs with hs | hs <;> exact⟨_,hs⟩
 rw[ju];walk_at "q2";rw[bD,et];refine⟨sl2 (by lia),by lia,by lia,lZ (λk l c=>k<=b.length/\(∃ e,c=mkR H W (cm e)/\Ld (λj=>stN R H W b (b.length - 1 - j)) W k e)/\∃ s,l=[some (.fz (.tup [.int H,.int W,.str R.word,.str (wy b)])),some (.fz (.int 0)),some (.fz (.adr p)),fo s]) ⟨eg _,⟨f0 W,rfl,λp i n=>⟨λh=>⟨p,rfl,h⟩,λZ=>by obtain⟨q,e,h⟩:=Z;rw[show q=p from e] at h;exact h⟩⟩,none,rfl⟩ ?_ ?_⟩
 .rintro k d l c x ⟨v,⟨e,rfl,f⟩,s,rfl⟩;obtain⟨lt,y⟩:=xl x;obtain rfl:d=.int ((b.length - 1 - k:Nat):Int):=by rw[y];congr 1;lia
  refine⟨by cases s <;> trivial,rfl,?_⟩;show vb 2 4 _ _ _ [some (.fz (.tup [.int H,.int W,.str R.word,.str (wy b)])),some (.fz (.int 0)),some (.fz (.adr p)),some (.fz (.int ((b.length - 1 - k:Nat):Int)))] _;delta vb;walk_at "q2";exact⟨sl2 (by decide),[_,_,_,_],rfl,p,rfl,rfl,true,R,p,H,W,b,b.length - 1 - k,e,rfl,r,by exact WF 0xf5ba764ddc58b V2 (V3 (WF 183136921886 lt)),t,gd,rfl,λg st=>⟨lt,⟨g,rfl,f.step st.1 st.2⟩,some _,rfl⟩⟩
 .rintro l c ⟨v,⟨e,rfl,f⟩,s,rfl⟩;rw[xk] at f;exact q e f
noncomputable def pid (W k:Nat):P2:=(((k / W:Nat):Int),((k % W:Nat):Int))
noncomputable def plc (W n m:Nat):List P2:=((cj n).filter λk=>m / 2 ^ k % 2 == 1).map (pid W)
def MG:S3:=λΓ Q=>∃ (R:Rl) (H W:Nat) (ls:List Lt) (m:Nat),Γ=[some (.fz (o_ R H W ls)),some (.fz (.int (m:Int)))]/\j_ H W/\Q (.fr (pL (plc W (H * W) m))) Γ
theorem kW(T:Txt w K mg a):aM P w K mg base CX0 1 (a.x 61) (a.y 52) ["_law_told","_law_mask"] (sp3 K 2 MG):=by
 refine ok3 T.cy.F rX (hbody:=λv A g s H E p=>⟨_,_,(ak (ay (xD rfl (aU (by rfl) T.z_range (ab (cK (P3.opd (az (by rfl) (bv 0) (P3.opd ae) (λ_ _=>rfl))) (P3.opd (az (by rfl) (bv 0) (P3.opd ae) (λ_ _=>rfl)))) ai)) iW (λ_ _ _ _ _=>(aL (i:=0) iW.nd rfl (ei rfl))) (λ_ _ _ _ _=>(aK (fh (by rfl) p) (P3.opd (Gv (P3.opd (JP (bv 1) (bv 0))) (P3.opd ae))) (P3.opd ae) (aO _))) (λ_ _ _ _ _=>(bO (ab (b9 (bv 0) (P3.opd (az (by rfl) (bv 2) (P3.opd ae) (λ_ _=>rfl)))) (ab (mZ (bv 0) (P3.opd (az (by rfl) (bv 2) (P3.opd ae) (λ_ _=>rfl)))) ai))))))),λn Q h y=>?_⟩);obtain⟨R,H,W,o,x,rfl,c,q⟩:=h;have z:W<=64:=by have:=c.w2;lia
 have B:1<=W:=by have:=c.w1;lia
 have m:H * W<=512:=by have:=c.m;rw[<- R1] at this;lia
 have C:H<=64:=by have:=c.h2;lia
 delta o_ at *;walk_at "q2";rw[<- R1,et];have u:∀ k:Nat,AC ((x:Int) / 2 ^ k) 1=((x / 2 ^ k % 2:Nat):Int):=λk=>by
  rw[show (x:Int) / 2 ^ k=((x / 2 ^ k:Nat):Int) by simp];exact E7 _
 have j:∀ k,(((cj k).filter λk=>x / 2 ^ k % 2 == 1).map (pid W)).length<=k:=λk=>by
  have:=ra (λk=>x / 2 ^ k % 2 == 1) (cj k);rw[lM0]
  rwa [oD] at this
 refine⟨by delta ug;omega,by lia,by lia,gM (λk f b=>k<=H * W/\f=(plc W k x).map p2D/\∃ s,b=[fo s,some (.fz (.int (x:Int))),some (.fz (.tup [.int H,.int W,.str R.word,.str (wy o)]))]) ⟨eg _,rfl,none,rfl⟩ ?_ ?_⟩
 .rintro k d f b t ⟨r,rfl,s,rfl⟩;obtain⟨lt,rfl⟩:=cA t;walk_at "q2";rw[et,u];refine⟨by lia,?_⟩;by_cases e:x / 2 ^ k % 2=1
  .rw[show (((x / 2 ^ k % 2:Nat):Int) == 1)=true by rw[e];rfl];walk_at "q2";refine⟨small (by rw[lM0];have:=j k;delta plc;exact WF 0x2aae8211745bbbce638b2b m lt this),by delta p_;lia,by lia,sl2 (by decide),lt,?_,some _,rfl⟩;delta plc;rw[R0,rr,Pl (by rw[e];rfl),dE,dE];simp -iota [pid]
  .have l:x / 2 ^ k % 2=0:=by lia
   rw[show (((x / 2 ^ k % 2:Nat):Int) == 1)=false by rw[l];rfl];refine⟨lt,?_,some _,rfl⟩;delta plc;rw[R0,rr,CQ (by rw[l];decide)];simp
 .rintro f b ⟨r,rfl,s,rfl⟩;rw[bg];exact⟨small (by rw[lM0];have:=j (H * W);delta plc;exact WF 0x7f6c3ee5bddd938b0e m this),q⟩
theorem xm:∀ {xs ys:List P2},xs.Pairwise p2L->ys.Pairwise p2L->(∀ m,m∈xs↔m∈ys)->xs=ys
 | [],[],_,_,_=>rfl
 | [],y::ys,_,_,h=>by have:=(h y).mpr (by simp);simp -iota at this
 | x::xs,[],_,_,h=>by have:=(h x).mp (by simp);simp -iota at this
 | x::xs,y::ys,c,b,h=>by
  obtain⟨g,i⟩:=kq.mp c;obtain⟨f,b2⟩:=kq.mp b;have d:∀ {x y:P2},p2L x y->x≠y:=λh e=>by subst e;delta p2L at h;lia
  have e:x=y:=by
   have p:=(h x).mp (by simp);have q:=(h y).mpr (by simp);rcases cS.mp p with p | p
   .exact p
   .rcases cS.mp q with q | q
    .exact q.symm
    .have c:=g y q;have b:=f x p;unfold p2L at c b;lia
  subst e;rw[xm i b2 λm=>⟨λa=>?_,λa=>?_⟩]
  .exact(cS.mp ((h m).mp (eh _ a))).resolve_left λe=>d (g m a) e.symm
  .exact(cS.mp ((h m).mpr (eh _ a))).resolve_left λe=>d (f m a) e.symm
theorem Dw{W:Nat}(d:1<=W):(plc W n m).Pairwise p2L:=by
 delta plc;rw[mD];refine(qp.filter _).imp λ{i j} h=>?_;have b:i / W<=j / W:=Nat.div_le_div_right (by exact fq (by assumption));have a:=Uq i W;have c:=Uq j W;delta p2L pid;by_cases e:i / W=j / W
 .rw[e] at a;exact .inr ⟨by rw[e],by simp only;lia⟩
 .exact .inl (by simp only;lia)
theorem JB{f:P2->P2->Prop}{H W:Nat}{g:Nat->Nat->Nat}{p:P2}{qs:List P2}(A:1<=W)(n:nn p)(m:∀ i,bt g p i↔∃ q,f p q/\bt (f0 W) q i)(v:cB H W qs)(s:qs.Pairwise p2L)(c:∀ q,q∈qs↔f p q):qs=plc W (H * W) (g p.1.toNat p.2.toNat):=by
 refine xm s (Dw A) λq=>?_;have e:∀ q∈qs,∃ y x:Nat,q=((y:Int),(x:Int))/\y < H/\x < W/\∀ i,bt (f0 W) q i↔i=y * W + x:=λq b=>by
  obtain⟨z,b2,w,B⟩:=v.2.2.2.1 q b;refine⟨q.1.toNat,q.2.toNat,Sf (oB z).symm (oB w).symm,by lia,by lia,λi=>?_⟩;delta bt f0;rw[zC,decide_eq_true_eq];exact⟨λh=>h.symm,λh=>h.symm⟩
 have o:∀ {y x:Nat},x < W->pid W (y * W + x)=((y:Int),(x:Int)):=λ{y x} a=>by
  delta pid;rw[Vd,R9 _ _ (by assumption),Rx a,rx,QJ,T5 a]
 have d:∀ i,(g p.1.toNat p.2.toNat / 2 ^ i % 2 == 1)=true↔∃ q,f p q/\bt (f0 W) q i:=λi=>by
  rw[<- m i];delta bt;rw[wh];simp
 delta plc;rw[jc];constructor
 .intro b;obtain⟨y,x,rfl,r,a,l⟩:=e q b;refine⟨y * W + x,qA.mpr ⟨iU.mpr ?_,(d _).mpr ⟨_,(c _).mp b,(l _).mpr rfl⟩⟩,o a⟩
  calc y * W + x < y * W + W:=by exact WF 0xec17d4c9c964b a
   _=(y + 1) * W:=by rw[Vc]
   _<=H * W:=Ss _ r
 .rintro⟨k,u,rfl⟩;obtain⟨q,t,l⟩:=(d k).mp (qA.mp u).2;have b:=(c q).mpr t;obtain⟨y,x,rfl,r,a,j⟩:=e q b;rw[(j k).mp l,o a];exact b
theorem Ez:∀ L:List P2,gq 20 (L.map p2D) (L.map p2D)=some true
 | []=>rfl
 | p::L=>by
  have e:eqN 20 (p2D p) (p2D p)=some true:=by simp [eqN,gq]
  simp only[fO,gq,e,Ez L];rfl
theorem Ex(L:List P2):eqN (20 + 1) (pL L) (pL L)=some true:=Ez L
noncomputable def drA (a:Ad)(b:Bool):Addr:=match b with | true=>(a.x 45) | false=>(a.x 44)
noncomputable def reB (b:Bool):Rl->Nat->Nat->List Lt->P2->P2->Prop:=match b with | true=>reN | false=>reH
noncomputable abbrev rtG (a:Ad)(b:Bool)(R:Rl)(H W:Nat)(ls:List Lt)(p:P2)(L:List P2)(s:Option D):G:=[some (.fz (.adr (drA a b))),some (.fz (plD a R H W ls)),some (.fz (.tup [.int p.1,.int p.2])),some (.fz (pL L)),fw s]
def Plain (b:Bool)(R:Rl)(H W:Nat)(ls:List Lt)(p:P2)(L:List P2):Prop:=ls.length<=10/\j_ H W/\Good H W ls/\Bxp H W p/\∀ qs,cB H W qs->qs.Pairwise p2L->(∀ q,q∈qs↔reB b R H W ls p q)->qs=L
theorem A4{b:Bool}{R:Rl}{H W:Nat}{ls:List Lt}{p:P2}{L:List P2}{s:Option D}(pl:Plain b R H W ls p L)(q:cB H W L->Q (.fr (pL L)) (rtG a b R H W ls p L s)):nv 0 2 (a.x 44) (tK a reH) (dW (bof (dQ 1)) (dW (bof (dQ 2)) nR)) (rtG a b R H W ls p L s) Q\/nv 0 2 (a.x 45) (tK a reN) (dW (bof (dQ 1)) (dW (bof (dQ 2)) nR)) (rtG a b R H W ls p L s) Q:=by
 obtain⟨c,h,gd,k,j⟩:=pl;have d:∀ f:Addr,f=drA a b->nv 0 2 f (tK a (reB b)) (dW (bof (dQ 1)) (dW (bof (dQ 2)) nR)) (rtG a b R H W ls p L s) Q:=λf e=>by
  subst e;refine⟨rfl,?_⟩;walk_at "q2";refine⟨R,H,W,ls,p,rfl,c,h,gd,k,λi g b2 l=>?_⟩;obtain rfl:=j i g b2 l;cases s <;> exact q g
 cases b
 .exact .inl (d _ rfl)
 .exact .inr (d _ rfl)
def N3 (a:Ad):S3:=λΓ Q=>∃ (b:Bool) (R:Rl) (H W:Nat) (ls:List Lt) (p:P2) (L:List P2),Γ=[some (.fz (.adr (drA a b))),some (.fz (plD a R H W ls)),some (.fz (p2D p)),some (.fz (pL L))]/\Plain b R H W ls p L/\Q (.fz (.bl true)) Γ
theorem mr(T:Txt w K mg a):aM P w K mg base CX0 10 (a.x 62) (a.y 53) ["_law_door","_law_plan_here","_law_place","_law_due"] (sp3 K 4 (N3 a)):=by
 refine ok3 T.cI.F mi (hbody:=λg A d s H E c=>⟨_,_,(ag (aw (i:=4) mi.nd rfl (ei rfl) (P3.or (cN (j:=0) T.lO.F (xG T) c.dn T.lO.b (by rfl) (by first | exact ei rfl | exact jg (ei rfl) | exact jg (jg rfl)) (aa (P3.opd (p3v 1)) (aa (P3.opd (p3v 2)) af))) (cN (j:=0) T.lM.F (xF T) c.dn T.lM.b (by rfl) (by first | exact ei rfl | exact jg (ei rfl) | exact jg (jg rfl)) (aa (P3.opd (p3v 1)) (aa (P3.opd (p3v 2)) af)))))
   (ag (bX (Gs 4 (P3W.pt (sk (dJ (cV (aS (Nx T.ty) (by rfl) T.z_isinstance (by decide +kernel) (aa (bv 4) (aa (P3.opd (xC (n:="list") (by rfl) T.z_list (by decide +kernel))) af))))) (nL (aK (j8 (by rfl) c) (bv 4) (bv 3) (aO _)))))) (ak (ay kg)) aY)
   (ag (iJ (lW 4 (by rfl) (bv 4) (bO (ab ae (ab ae ai)))))
   (ak (ay (gf (fh (by rfl) c) (P3.opd (P3.or (cN (j:=0) T.lO.F (xG T) c.dn T.lO.b (by rfl) (by first | exact ei rfl | exact jg (ei rfl) | exact jg (jg rfl)) (aa (P3.opd (p3v 1)) (aa (P3.opd (p3v 2)) af))) (cN (j:=0) T.lM.F (xF T) c.dn T.lM.b (by rfl) (by first | exact ei rfl | exact jg (ei rfl) | exact jg (jg rfl)) (aa (P3.opd (p3v 1)) (aa (P3.opd (p3v 2)) af))))) (bv 3) (aO _))))))),λf Q h o=>?_⟩)
 obtain⟨b,R,H,W,l,p,L,rfl,e,q⟩:=h;walk_at "q2";refine A4 (s:=none) e λk=>?_;have m:=k.len;walk_at "q2";refine⟨_,rfl,λk' r hh=>?_,?_⟩
 .rcases hh with hh | hh <;> (rcases k' with _ | _ | _ | _ | _ | k' <;> first | rfl | (simp -iota at hh))
 walk_at "q2";refine⟨true,Ex L,?_⟩;walk_at "q2";refine⟨sl2 (by decide),small (by rw[lM0];lia),A4 (s:=some _) e λ_=>?_⟩;walk_at "q2";exact⟨true,Ex L,q⟩
theorem GB(T:Txt w K mg a):aM P w K mg base CX0 11 (a.x 63) (a.y 54) ["_law_script"] (sp3 K 1 (Im 63)):=by
 refine ok3 T.Ls.F fY (hbody:=λa0 A a1 s H E n=>⟨_,_,(ag (i_ kr rfl (aU (by rfl) T.z_range (ab (aS (IK rfl) (by rfl) T.z_max (by decide +kernel) (aa (P3.opd ae) (aa (P3.opd (aS (IJ rfl) (by rfl) T.z_min (by decide +kernel) (aa (P3.opd ae) (aa (P3.opd (aS (jB (by rfl)) (by rfl) T.z_len (by decide +kernel) (aa (bv 0) af))) af)))) af))) ai)) (aL (i:=1) fY.nd rfl (ei rfl))
   (ag (aw (i:=2) fY.nd rfl (ei rfl) (aj (by rfl) (sC T) n.dn (by rfl) T.fu.m T.fu.F.kp T.fu.b (aa (P3.opd (aj (by rfl) (wq T) n.dn (by rfl) T.iG.m T.iG.F.kp T.iG.b (aa (P3.opd (p3v 0)) (aa (P3.opd (p3v 1)) af)))) af)))
   (ag (aw (i:=3) fY.nd rfl (ei rfl) (aj (by rfl) (wo T) n.dn (by rfl) T.iF.m T.iF.F.kp T.iF.b (aa (bv 2) (aa (P3.opd kg) af))))
   (ag (aw (i:=4) fY.nd rfl (ei rfl) (qh (Gu T.mk_Plan (pM T) n.dn (by rfl) T.GQ T.kb.b (ab (az (by rfl) (bv 3) (P3.opd ae) (λ_ _=>rfl)) (ab (az (by rfl) (bv 3) (P3.opd ae) (λ_ _=>rfl)) (ab (az (by rfl) (bv 3) (P3.opd ae) (λ_ _=>rfl)) (ab (az (by rfl) (bv 3) (P3.opd ae) (λ_ _=>rfl)) ai)))))))
   (ag (aw (i:=5) fY.nd rfl (ei rfl) (br (ab (bO (ab ae (ab ae ai))) (ab (bO (ab (gc (P3.opd (az (by rfl) (bv 3) (P3.opd ae) (λ_ _=>rfl))) (P3.opd ae)) (ab (gc (P3.opd (az (by rfl) (bv 3) (P3.opd ae) (λ_ _=>rfl))) (P3.opd ae)) ai))) ai))))
   (ag (i_ kr rfl (aU (by rfl) T.z_range (ab ae ai)) (aL (i:=6) fY.nd rfl (ei rfl))
   (ak (iJ (lW 5 (by rfl) (bv 5) (bO (ab (aj (by rfl) (bH T) n.dn (by rfl) T.aq.m T.aq.F.kp T.aq.b (aa (bv 2) (aa (P3.opd (az (by rfl) (bv 3) (P3.opd ae) (λ_ _=>rfl))) af))) (ab (aj (by rfl) (bH T) n.dn (by rfl) T.aq.m T.aq.F.kp T.aq.b (aa (bv 2) (aa (P3.opd (az (by rfl) (bv 3) (P3.opd ae) (λ_ _=>rfl))) af))) ai)))))))
   (ag (aw (i:=7) fY.nd rfl (ei rfl) (qh (aj (by rfl) (ub T) n.dn (by rfl) T.gD.m T.gD.F.kp T.gD.b (aa (P3.opd (p3v 3)) af))))
   (ag (aw (i:=8) fY.nd rfl (ei rfl) (qh (aj (by rfl) (ua T) n.dn (by rfl) T.gC.m T.gC.F.kp T.gC.b (aa (P3.opd (p3v 3)) (aa (P3.opd ae) af)))))
   (ak (i_ kr rfl (cX (by rfl) (p3v 5)) (aL (i:=9) fY.nd rfl (ei rfl))
   (ag (jU (is:=[10,11]) (by rfl) (p3v 9) (aQ (bu (i:=10) fY.nd rfl (ei rfl)) (aQ (bu (i:=11) fY.nd rfl (ei rfl)) dH)) rfl)
   (ag (bX (dJ (cV (aj (by rfl) (mr T) n.dn (by rfl) T.cI.m T.cI.F.kp T.cI.b (aa (P3.opd (iN (by rfl) T.lO.m)) (aa (P3.opd (p3v 4)) (aa (P3.opd (p3v 9)) (aa (P3.opd (aj (by rfl) (kW T) n.dn (by rfl) T.cy.m T.cy.F.kp T.cy.b (aa (P3.opd (p3v 3)) (aa (P3.opd (az (by rfl) (P3.opd (az (by rfl) (bv 7) (bv 10) (λ_ _=>rfl))) (bv 11) (λ_ _=>rfl))) af)))) af))))))) (ak (ay kg)) aY)
   (ak (bX (dJ (cV (aj (by rfl) (mr T) n.dn (by rfl) T.cI.m T.cI.F.kp T.cI.b (aa (P3.opd (iN (by rfl) T.lM.m)) (aa (P3.opd (p3v 4)) (aa (P3.opd (p3v 9)) (aa (P3.opd (aj (by rfl) (kW T) n.dn (by rfl) T.cy.m T.cy.F.kp T.cy.b (aa (P3.opd (p3v 3)) (aa (P3.opd (az (by rfl) (P3.opd (az (by rfl) (bv 8) (bv 10) (λ_ _=>rfl))) (bv 11) (λ_ _=>rfl))) af)))) af))))))) (ak (ay kg)) aY))))))))))))))
   (ak (ay kg))),λa5 Q h hl=>?_⟩)
 obtain⟨F,rfl,hn,q⟩:=h;walk_at "q2";have a7:fmax 1 (fmin 5 (F.length:Int))<=5:=by delta fmax fmin;split <;> split <;> lia
 have a6:1<=fmax 1 (fmin 5 (F.length:Int)):=by delta fmax fmin;split <;> split <;> lia
 refine⟨by omega,by omega,dD (λk o=>∃ Z Y X V U t O N r e c,o=[some (.fz (.scr F)),fo Z,fw Y,fo X,fo V,fo U,fo t,fo O,fo N,fo r,fo e,fo c]) ⟨none,none,none,none,none,none,none,none,none,none,none,rfl⟩ ?_ ?_⟩
 .rintro k0 x o hd ⟨Z,Y,X,V,U,t,O,N,r,e,c,rfl⟩;obtain⟨lk,rfl⟩:=cA hd;walk_at "q2";refine⟨F,_,rfl,by lia,λr0=>?_⟩;walk_at "q2";refine⟨_,rfl,λd0 b0=>?_⟩;walk_at "q2";refine⟨_,rfl,b0.up (by decide),λR h w l d1 m g u b1=>?_⟩;obtain⟨H,rfl⟩:=mx (show 0<=h by have:=m.h1;lia);obtain⟨W,rfl⟩:=mx (show 0<=w by have:=m.w1;lia);delta o_;walk_at "q2";refine⟨R,H,W,l,rfl,m,g,u,?_⟩;walk_at "q2";have h1:=m.h1;have w1:=m.w1;have h2:=m.h2;have w2:=m.w2;refine⟨sl2 (by decide),sl2 (by decide),sl2 (by decide),by decide,by decide,dD (λk o=>k<=6/\∃ t d B,Box (560 + 2 * (k:Int)) d/\B.length=k + 2/\(∀ p∈B,Bxp H W p)/\o=[some (.fz (.scr F)),some (.fz (.int (k0:Int))),some (.ow d),some (.fz (.tup [.int H,.int W,.str R.word,.str (wy l)])),some (.fz (plD a R H W l)),some (.ow (pL B)),fo t,fo O,fo N,fo r,fo e,fo c]) ⟨by decide,t,d1,[(0,0),((H:Int) - 1,(W:Int) - 1)],b1.up (by decide),rfl,?_,rfl⟩ ?_ ?_⟩
  .intro p hp;simp -iota only[cS,lz,or_false] at hp;rcases hp with rfl | rfl
   .exact⟨by decide,by show (0:Int) < H;assumption,by decide,by show (0:Int) < W;assumption⟩
   .exact⟨by show (0:Int)<=(H:Int) - 1;lia,by show (H:Int) - 1 < H;lia,by show (0:Int)<=(W:Int) - 1;lia,by show (W:Int) - 1 < W;lia⟩
  .rintro k x o C ⟨hk,t,d,B,bd,lp,bp,rfl⟩;obtain⟨lt,rfl⟩:=cA C;walk_at "q2";refine⟨d,_,_,rfl,bd,by lia,by assumption,by lia,λr1 e1 l1 u1 a4=>?_⟩;walk_at "q2";refine⟨e1,_,_,rfl,a4,by lia,by assumption,by lia,λr2 e2 l2 u2 a2=>?_⟩;walk_at "q2";refine⟨sl2 (by decide),small (by rw[lM0];lia),by have:k < 6:=lt;assumption,some _,e2,B++[(r1,r2)],a2.up (by lia),by rw[bM,lp];rfl,λp hp=>?_,by rw[pL,dE];rfl⟩;rcases eE.mp hp with hp | hp
   .exact bp p hp
   .rw[fP.mp hp];exact⟨l1,u1,l2,u2⟩
  .rintro o ⟨hk,t,d,B,bd,lp,bp,rfl⟩;walk_at "q2";refine⟨R,H,W,l,rfl,m,g,u,λM da=>?_⟩;walk_at "q2";refine⟨R,H,W,l,rfl,m,g,u,λL db=>?_⟩;walk_at "q2";have G:∀ (f:Nat->Nat->Nat) (y:Nat),y < H->atI (uP D.lst (eX (mkR H W (cm f)))) (y:Int)=some (il ((cj W).map (cm f y))):=λf y S=>by
    refine dF (by lia) ?_;delta eX;rw[et,ba,ba,xO S];rfl
   have v:∀ (f:Nat->Nat->Nat) (y x:Nat),x < W->atI (((cj W).map (cm f y)).map D.int) (x:Int)=some (.int (f y x:Int)):=λf y x J=>by
    rw[zO (k:=x) rfl (by simp;exact J),HX J];rfl
   have I:∀ (b:Bool) (f:Nat->Nat->Nat) (y x:Nat),Due (reB b) R H W l f->Bxp H W ((y:Int),(x:Int))->Plain b R H W l ((y:Int),(x:Int)) (plc W (H * W) (f y x)):=λb f y x df z=>⟨u,m,g,z,λqs b1 b2 b3=>JB (p:=((y:Int),(x:Int))) (g:=f) (by lia) ⟨z.1,z.2.2.1⟩ (λi=>df _ i ⟨z.1,z.2.2.1⟩) b1 b2 b3⟩;generalize hA:uP D.lst (eX (mkR H W (cm M)))=XA;generalize hB:uP D.lst (eX (mkR H W (cm L)))=XB;refine dD (λj o=>∃ r e c,o=[some (.fz (.scr F)),some (.fz (.int (k0:Int))),some (.ow d),some (.fz (.tup [.int H,.int W,.str R.word,.str (wy l)])),some (.fz (plD a R H W l)),some (.fz (pL B)),fo t,some (.fz (.lst XA)),some (.fz (.lst XB)),fo r,fo e,fo c]) ⟨r,e,c,rfl⟩ ?_ ?_
   .rintro j x o C ⟨r,e,c,rfl⟩;obtain⟨p,hp,rfl,lt⟩:=sf C;obtain⟨y,x,rfl,S,J,z⟩:∃ y x:Nat,p=((y:Int),(x:Int))/\y < H/\x < W/\Bxp H W p:=by
     have b:=bp p (eW hp);have b':=b;obtain⟨c1,c2,c3,c4⟩:=b';exact⟨p.1.toNat,p.2.toNat,Sf (oB c1).symm (oB c3).symm,by lia,by lia,b⟩
    walk_at "q2";refine cu.mpr ⟨_,by rw[<- hA];exact G M y S,?_⟩;walk_at "q2";refine cu.mpr ⟨_,v M y x J,?_⟩;walk_at "q2";refine⟨R,H,W,l,M y x,rfl,m,?_⟩;walk_at "q2";refine⟨false,R,H,W,l,((y:Int),(x:Int)),_,rfl,I false M y x da z,?_⟩;walk_at "q2";refine cu.mpr ⟨_,by rw[<- hB];exact G L y S,?_⟩;walk_at "q2";refine cu.mpr ⟨_,v L y x J,?_⟩;walk_at "q2";refine⟨R,H,W,l,L y x,rfl,m,?_⟩;walk_at "q2";refine⟨true,R,H,W,l,((y:Int),(x:Int)),_,rfl,I true L y x db z,?_⟩;walk_at "q2";exact⟨some _,some _,some _,rfl⟩
   .rintro o ⟨r,e,c,rfl⟩;exact⟨some _,some _,some _,some _,some _,t,some _,some _,r,e,c,rfl⟩
 .rintro o ⟨Z,Y,X,V,U,t,O,N,r,e,c,rfl⟩;walk_at "q2";exact q _
theorem ln6{g:Type}{us:List g}(h:us.length=6):∃ a b c d e f,us=[a,b,c,d,e,f]:=by
 match us,h with
 | [a,b,c,d,e,f],_=>exact⟨a,b,c,d,e,f,rfl⟩
def vt (K:Fg0):Sp:=λvs H Q _=>∃ (p:Addr) (ns:Li0),vs=[.ref p]/\SqL K H p (ns.map V.int)/\ns.length<=63/\∀ H',Q (.bl true) H'
theorem J4(T:Txt w K mg a):aM P w K mg base CX0 11 (a.x 63) (a.y 54) ["_law_script"] (vt K):=Km (GB T)
set_option bootstrap.genMatcherCode true in
local macro_rules | `(tactic| walk_at "bn")=>`(tactic| (intro _ _ _ _ _ _ us hl;first | (have h:=ln0 hl;subst h;rfl) | (obtain⟨_,h⟩:=ln1 hl;subst h;rfl) | (obtain⟨_,_,h⟩:=ln2 hl;subst h;rfl) | (obtain⟨_,_,_,h⟩:=ln3 hl;subst h;rfl) | (obtain⟨_,_,_,_,h⟩:=ln4 hl;subst h;rfl) | (obtain⟨_,_,_,_,_,h⟩:=ln5 hl;subst h;rfl) | (obtain⟨_,_,_,_,_,_,h⟩:=ln6 hl;subst h;rfl)))
theorem all_mk{l:PZ}{fa:Addr}(X:K.In h)(G:h.Ns fT mg)(H6:mg "law"=some (.ref fa)){bC:Addr}{bV:Addr}{bB:Addr}{bf:Addr}{de:Addr}{aX:Addr}{n:Option Addr}{o:Nat}{m:Array (Option Value)}{k:Tok}{j:Tok}{bR:Addr}{Q:Option Addr}{R:Nat}{N:Array (Option Value)}{x:Tok}{u:Tok}{dg:Addr}{E:Array U1}{b1:Nat}{bF:Addr}{a:Array U1}{z:Nat}{f0 f1 f2 f3 f4 f5 f6 f7 f8 f9 v4 v3 v2 v1 u' u0 u9 u8 u7 u6 u5 u4 j3 k0 k9 u2 j2 k8 u1 k7 t0 t8 t4 t2 t1 s9 s8 s7 s6 s5 s4 s1 r0 r7 r6 r5 r4 r3 r2 r1 q' q0 q7 q6 H7:Addr}{d0 d1 d2 d3 d4 d5 d6 d7 d8 d9 G5 E' E9 E8 E1 D' D8 D7 D3 C' B' B0 A' A2 A1 z' z7 z5 y' y0 y5 y2 y1 x' x7 x5 x4 x3 x2 x1 w' w0 w9 w7 w3 w2 w1 v' v0 v9 v8 v7 v6 v5 I1:tj}{M:Tok}{Z:Tok}(c7:fQ K fT "Guessed"=some (some (.ref bC)))(a':oK K bC rb=true)(c4:qm K bC=true)(a7:sm K bC=true)(a5:hE K (.ref bC) "__setattr__"=some (some (.builtin "object.__setattr__")))(b5:qx K bC=true)(b0:lF K (.ref bC)=true)(c1:hE K (.ref bC) "__init__"=some (some (.builtin "object.__init__")))(e8:fQ K fT "Halves"=some (some (.ref bV)))(e2:oK K bV rb=true)(e7:qm K bV=true)(e1:sm K bV=true)(c0:hE K (.ref bV) "__setattr__"=some (some (.builtin "object.__setattr__")))(e4:qx K bV=true)(e5:lF K (.ref bV)=true)(e6:hE K (.ref bV) "__init__"=some (some (.builtin "object.__init__")))(c5:fQ K fT "Leaning"=some (some (.ref bB)))(a0:oK K bB rb=true)(c2:qm K bB=true)(a6:sm K bB=true)(a4:hE K (.ref bB) "__setattr__"=some (some (.builtin "object.__setattr__")))(b4:qx K bB=true)(b8:lF K (.ref bB)=true)(b':hE K (.ref bB) "__init__"=some (some (.builtin "object.__init__")))(i0:fQ K fT "Plan"=some (some (.ref bf)))(g7:oK K bf rb=true)(h0:qm K bf=true)(g5:sm K bf=true)(g2:hE K (.ref bf) "__setattr__"=some (some (.builtin "object.__setattr__")))(h5:qx K bf=true)(h7:lF K (.ref bf)=true)(i1:fQ K fT "Sums"=some (some (.ref de)))(g6:oK K de rb=true)(h9:qm K de=true)(g4:sm K de=true)(g1:hE K (.ref de) "__setattr__"=some (some (.builtin "object.__setattr__")))(h4:qx K de=true)(h6:lF K (.ref de)=true)(h8:hE K (.ref de) "__init__"=some (some (.builtin "object.__init__")))(S:hE K (.ref bf) "chosen"=some none)(J:hE K (.ref bf) "corners"=some none)(I:hE K (.ref bf) "letters"=some none)(y:fQ K fT "ALONG_PILLARS"=some (some (.ref aX)))(r:K.lookup aX=some ⟨.type "tuple",n,.seq #[.str (fS "p") k,.str (fS "b") j] o,m⟩)(W:fQ K fT "ALONG_ROWS"=some (some (.ref bR)))(U:K.lookup bR=some ⟨.type "tuple",Q,.seq #[.str (fS "r") x,.str (fS "b") u] R,N⟩)(c':fQ K fT "SPREADS"=some (some (.ref dg)))(b6:K.lookup dg=some ⟨.type "dict",none,.dict E b1,#[]⟩)(b7:RX w.params E.toList)(L:fQ K dg "sum"=some (some (.ref j3)))(D:fQ K dg "half"=some (some (.ref j3)))(t:fQ K dg "guess"=some (some (.ref k9)))(C:fQ K dg "lean"=some (some (.ref k0)))(H:fQ K fT "BACK_SPREADS"=some (some (.ref bF)))(A:K.lookup bF=some ⟨.type "dict",none,.dict a z,#[]⟩)(B:RX w.params a.toList)(g:fQ K bF "sum"=some (some (.ref j2)))(f:fQ K bF "half"=some (some (.ref j2)))(b:fQ K bF "guess"=some (some (.ref k7)))(d:fQ K bF "lean"=some (some (.ref k8)))(q2:bL K (.type "bool") (.type "str")=some false)(o1:bL K (.type "int") (.type "str")=some false)(m':bL K (.type "NoneType") (.type "str")=some false)(l0:bL K (.type "str") (.type "str")=some true)(n6:bL K (.type "list") (.type "str")=some false)(l4:bL K (.type "tuple") (.type "str")=some false)(o7:bL K (.type "dict") (.type "str")=some false)(F0:FN K "is_whole" "is_whole" mW f0 d0)(F1:FN K "is_size" "is_size" pE f1 d1)(F2:FN K "is_place_within" "is_place_within" eN f2 d2)(F3:FN K "check_place" "check_place" i6 f3 d3)(F4:FM K de "word" "Sums.word" kM f4 d4)(F5:FM K bV "word" "Halves.word" i9 f5 d5)(F6:FM K bC "word" "Guessed.word" gZ f6 d6)(F7:FM K bB "word" "Leaning.word" gY f7 d7)(F8:FN K "all_rules" "all_rules" kH f8 d8)(F9:FN K "rule_of" "rule_of" pz f9 d9)(Q4:FN K "can_halve" "can_halve" kG v4 G5)(Q3:FN K "corners_of" "corners_of" jO v3 E')(l1:FM K bf "__init__" "Plan.__init__" gb v2 E9)(H5:FM K bf "rule" "Plan.rule" kN v1 E8)(H4:FM K bf "way" "Plan.way" mY u' E1)(H3:FM K bf "steps" "Plan.steps" jT u0 D')(G':FM K bf "corner" "Plan.corner" i8 u9 D8)(Q2:FN K "many_sums" "many_sums" kF u8 D7)(Q1:FN K "among" "among" q_ u7 D3)(P':FN K "pair_at" "pair_at" pC u6 C')(P0:FN K "guessed_at" "guessed_at" jM u5 B')(P9:FN K "number_at" "number_at" kE u4 B0)(P8:FN K "paired_spread" "paired_spread" f_ j3 A')(P7:FN K "leaning_spread" "leaning_spread" dh k0 A2)(P6:FN K "guessed_spread" "guessed_spread" dj k9 A1)(P5:FN K "places_of_differences" "places_of_differences" bW u2 z')(P4:FN K "paired_back" "paired_back" i5 j2 z7)(P1:FN K "leaning_back" "leaning_back" gT k8 z5)(O':FN K "first_back" "first_back" jN u1 y')(O7:FN K "guessed_back" "guessed_back" gW k7 y0)(O5:FN K "known_spread" "known_spread" gU t0 y5)(N':FN K "known_back_spread" "known_back_spread" dz t8 y2)(N9:FN K "swapped" "swapped" lQ t4 y1)(N8:FN K "in_rows" "in_rows" gK t2 x')(N6:FN K "in_pillars" "in_pillars" jL t1 x7)(N4:FN K "hangs" "hangs" vM s9 x5)(N1:FN K "needs" "needs" vL s8 x4)(M':FN K "needed" "needed" r8 s7 x3)(M2:FN K "_law_cell" "_law_cell" kL s6 x2)(L':FN K "_law_stream" "_law_stream" i7 s5 x1)(L0:FN K "_law_take" "_law_take" kI s4 w')(L3:FN K "_law_size" "_law_size" kJ s1 w0)(K':FN K "_law_way" "_law_way" mX r0 w9)(J':FN K "_law_plan" "_law_plan" kK r7 w7)(J0:FN K "_law_corners" "_law_corners" gX r6 w3)(J9:FN K "_law_masks_parted" "_law_masks_parted" a8 r5 w2)(I':FN K "_law_masks_joined" "_law_masks_joined" a9 r4 w1)(I8:FN K "_law_mixed" "_law_mixed" jR r3 v')(I7:FN K "_law_stepped" "_law_stepped" c8 r2 v0)(I6:FN K "_law_mask_rows" "_law_mask_rows" dk r1 v9)(I5:FN K "_law_hangs" "_law_hangs" jS q' v8)(I4:FN K "_law_needs" "_law_needs" jQ q0 v7)(I3:FN K "_law_places" "_law_places" fF q7 v6)(I2:FN K "_law_right" "_law_right" jP q6 v5)(k':FN K "law" "law" C1 H7 I1)(O:fQ K fT "MOST_PLACES"=some (some (.int 512 M)))(a1:fQ K fT "MOST_SIDE"=some (some (.int 64 Z)))(j1:fQ K fT "bool"=some none)(Y:fQ K fT "enumerate"=some none)(k6:fQ K fT "int"=some none)(V:fQ K fT "isinstance"=some none)(k5:fQ K fT "len"=some none)(i':fQ K fT "list"=some none)(k4:fQ K fT "max"=some none)(j':fQ K fT "min"=some none)(f':fQ K fT "range"=some none)(a2:fQ K fT "reversed"=some none)(j0:fQ K fT "set"=some none)(e0:fQ K fT "sorted"=some none)(j7:fQ K fT "str"=some none)(e':fQ K fT "tuple"=some none)(q5:bL K (.type "bool") (.type "bool")=some true)(q4:bL K (.type "bool") (.type "int")=some true)(q3:bL K (.type "bool") (.type "list")=some false)(q1:bL K (.type "bool") (.type "tuple")=some false)(o5:bL K (.type "int") (.type "bool")=some false)(o4:bL K (.type "int") (.type "int")=some true)(o2:bL K (.type "int") (.type "list")=some false)(n':bL K (.type "int") (.type "tuple")=some false)(n4:bL K (.type "NoneType") (.type "bool")=some false)(n2:bL K (.type "NoneType") (.type "int")=some false)(n1:bL K (.type "NoneType") (.type "list")=some false)(m0:bL K (.type "NoneType") (.type "tuple")=some false)(m4:bL K (.type "str") (.type "bool")=some false)(m2:bL K (.type "str") (.type "int")=some false)(l':bL K (.type "str") (.type "list")=some false)(l8:bL K (.type "str") (.type "tuple")=some false)(n0:bL K (.type "list") (.type "bool")=some false)(n9:bL K (.type "list") (.type "int")=some false)(n7:bL K (.type "list") (.type "list")=some true)(n5:bL K (.type "list") (.type "tuple")=some false)(l7:bL K (.type "tuple") (.type "bool")=some false)(l6:bL K (.type "tuple") (.type "int")=some false)(l5:bL K (.type "tuple") (.type "list")=some false)(l2:bL K (.type "tuple") (.type "tuple")=some true)(p':bL K (.type "dict") (.type "bool")=some false)(p1:bL K (.type "dict") (.type "int")=some false)(o0:bL K (.type "dict") (.type "list")=some false)(o6:bL K (.type "dict") (.type "tuple")=some false) :
  ∃ (fd:tj) (j4:List (Addr×Str)),(∀ (s:Shared) (v:Value),Tg s fd ⟨[v],[]⟩ [("_law_script",v)])/\(∀ p∈j4,p.1∈([]:La0)/\K.lookup p.1=none/\∃ c,Sj h c p.1)/\∀ base:Heap,K.In base->base.Ns fT mg->(∀ P q,j4.lookup P=some q->wX base P q)->aM l.prog w K mg base CX0 11 fa fd ["_law_script"] (vt K):=by
 have e:=H6.symm.trans (ot X G k'.n);cases e;obtain⟨oc,od,kV,dc,pm,an,cd,ct,sl,rfl,lk,hc⟩:=k'.F.ex;have T:Txt w K mg ⟨λi=>[aX,bR,dg,bF,bC,bV,bB,bf,de,f0,f1,f2,f3,f4,f5,f6,f7,f8,f9,v4,v3,v2,v1,u',u0,u9,u8,u7,u6,u5,u4,j3,k0,k9,u2,j2,k8,u1,k7,t0,t8,t4,t2,t1,s9,s8,s7,s6,s5,s4,s1,r0,r7,r6,r5,r4,r3,r2,r1,q',q0,q7,q6,fa].getD i aX,λi=>[d0,d1,d2,d3,d4,d5,d6,d7,d8,d9,G5,E',E9,E8,E1,D',D8,D7,D3,C',B',B0,A',A2,A1,z',z7,z5,y',y0,y5,y2,y1,x',x7,x5,x4,x3,x2,x1,w',w0,w9,w7,w3,w2,w1,v',v0,v9,v8,v7,v6,v5,_].getD i d0⟩:=⟨⟨a',c4,a7,a5⟩,
  ot X G c7,
  ⟨b5,c1,b0⟩,
  ⟨e2,e7,e1,c0⟩,
  ot X G e8,
  ⟨e4,e6,e5⟩,
  ⟨a0,c2,a6,a4⟩,
  ot X G c5,
  ⟨b4,b',b8⟩,
  ⟨g7,h0,g5,g2⟩,
  ot X G i0,
  ⟨g6,h9,g4,g1⟩,
  ot X G i1,
  ⟨h4,h8,h6⟩,
  S,
  J,
  I,
  ⟨ot X G y,λF=>.inr ⟨_,_,_,r,rfl,rfl,z2,.cons ⟨_,rfl⟩ (.cons ⟨_,rfl⟩ (.nil))⟩⟩,
  ⟨ot X G W,λF=>.inr ⟨_,_,_,U,rfl,rfl,z2,.cons ⟨_,rfl⟩ (.cons ⟨_,rfl⟩ (.nil))⟩⟩,
  ⟨ot X G c',⟨_,_,b6,b7⟩,L,D,t,C,trivial⟩,
  ⟨ot X G H,⟨_,_,A,B⟩,g,f,b,d,trivial⟩,
  ⟨q2,o1,m',l0,n6,l4,o7⟩,
  fx X G F0 (by walk_at "bn"),
  fx X G F1 (by walk_at "bn"),
  fx X G F2 (by walk_at "bn"),
  fx X G F3 (by walk_at "bn"),
  fy F4 (by walk_at "bn"),
  fy F5 (by walk_at "bn"),
  fy F6 (by walk_at "bn"),
  fy F7 (by walk_at "bn"),
  fx X G F8 (by walk_at "bn"),
  fx X G F9 (by walk_at "bn"),
  fx X G Q4 (by walk_at "bn"),
  fx X G Q3 (by walk_at "bn"),
  fy l1 (by walk_at "bn"),
  fy H5 (by walk_at "bn"),
  fy H4 (by walk_at "bn"),
  fy H3 (by walk_at "bn"),
  fy G' (by walk_at "bn"),
  fx X G Q2 (by walk_at "bn"),
  fx X G Q1 (by walk_at "bn"),
  fx X G P' (by walk_at "bn"),
  fx X G P0 (by walk_at "bn"),
  fx X G P9 (by walk_at "bn"),
  fx X G P8 (by walk_at "bn"),
  fx X G P7 (by walk_at "bn"),
  fx X G P6 (by walk_at "bn"),
  fx X G P5 (by walk_at "bn"),
  fx X G P4 (by walk_at "bn"),
  fx X G P1 (by walk_at "bn"),
  fx X G O' (by walk_at "bn"),
  fx X G O7 (by walk_at "bn"),
  fx X G O5 (by walk_at "bn"),
  fx X G N' (by walk_at "bn"),
  fx X G N9 (by walk_at "bn"),
  fx X G N8 (by walk_at "bn"),
  fx X G N6 (by walk_at "bn"),
  fx X G N4 (by walk_at "bn"),
  fx X G N1 (by walk_at "bn"),
  fx X G M' (by walk_at "bn"),
  fx X G M2 (by walk_at "bn"),
  fx X G L' (by walk_at "bn"),
  fx X G L0 (by walk_at "bn"),
  fx X G L3 (by walk_at "bn"),
  fx X G K' (by walk_at "bn"),
  fx X G J' (by walk_at "bn"),
  fx X G J0 (by walk_at "bn"),
  fx X G J9 (by walk_at "bn"),
  fx X G I' (by walk_at "bn"),
  fx X G I8 (by walk_at "bn"),
  fx X G I7 (by walk_at "bn"),
  fx X G I6 (by walk_at "bn"),
  fx X G I5 (by walk_at "bn"),
  fx X G I4 (by walk_at "bn"),
  fx X G I3 (by walk_at "bn"),
  fx X G I2 (by walk_at "bn"),
  fx X G k' (by walk_at "bn"),
  ⟨h5,l1.m,l1.i,h7⟩,
  F6.me,
  F5.me,
  F7.me,
  H5.me,
  H4.me,
  H3.me,
  G'.me,
  F4.me,
  ⟨_,ot X G O⟩,
  ⟨_,ot X G a1⟩,
  jv X G j1,
  jv X G Y,
  jv X G k6,
  jv X G V,
  jv X G k5,
  jv X G i',
  jv X G k4,
  jv X G j',
  jv X G f',
  jv X G a2,
  jv X G j0,
  jv X G e0,
  jv X G j7,
  jv X G e',
  ⟨q5,q4,q3,q1,o5,o4,o2,n',n4,n2,n1,m0,m4,m2,l',l8,n0,n9,n7,n5,l7,l6,l5,l2,p',p1,o0,o6⟩⟩
 exact⟨_,[],λs v=>.of_eq rfl,(λp hp=>by cases hp),λbase _ _ _=>J4 T⟩
theorem walk{l:PZ}{q:nI}{e:Ls0}{y:(SV)->Heap->Prop}{j:World->Heap->Prop}{d:DefRec}{K:Params->Fg0}{ts:La0}(o:l.most=some 63)(g:d.params.defaults=[])(t:∀ (w:World) (h:Heap),j w h->(K w.params).In h/\∀ P∈ts,h.get? P=some (UC #[]))(F:∀ (w:World) (mg:SV) (i:Addr) (h:Heap),(K w.params).In h->h.Ns fT mg->mg d.name=some (.ref i)->
   ∃ (fd:tj) (b:List (Addr×Str)),(∀ (s:Shared) (u:Value),Tg s fd ⟨[u],[]⟩ [("_law_script",u)])/\(∀ p∈b,p.1∈ts/\(K w.params).lookup p.1=none/\∃ c,Sj h c p.1)/\
    ∀ base:Heap,(K w.params).In base->base.Ns fT mg->(∀ P q,b.lookup P=some q->wX base P q)->aM l.prog w (K w.params) mg base CX0 11 i fd ["_law_script"] (vt (K w.params))) :
  UP q e y j l.row.toRowW d [] (λf vs=>Uz f vs):=
 _2.Cz (n:=63) (k:=11) (x:="_law_script") (CX:=λ_=>CX0) (sp:=vt) o (by decide) g ⟨rfl,by decide,by decide,rfl⟩ t F (λ_ _ a m r _ v=>⟨a,m,rfl,v,r,λ_=>rfl⟩) λ_ _ _ _ _ z=>z
end
end _k
set_option bootstrap.genMatcherCode true in
local macro_rules | `(tactic| walk_at "fk")=>`(tactic| first | (refine' _2.FN.mk ?k1 ?k2;(case k1=>k_is);(case k2=>refine' _2.Em ?k3 ?k4 ?k5;(case k3=>k_is);(case k4=>k_is);(case k5=>k_is))) | (refine' _2.FM.mk ?k1 ?k6 ?k2;(case k1=>k_is);(case k6=>k_is);(case k2=>refine' _2.Em ?k3 ?k4 ?k5;(case k3=>k_is);(case k4=>k_is);(case k5=>k_is))))
namespace PySem.W.Fast
abbrev T:=True
theorem G9:T:=trivial
theorem tw13720045442548733749:T:=G9
def g9(q:Lean.Name)(c:Lean.Syntax):List String->List Lean.Syntax
 | []=>[]
 | s::l=>c.setArg 1 (c[1].setArg 1 (c[1][1].setArg 0 (Lean.mkIdent (.mkSimple ("tw"++toString (q.str s).hash)))))::g9 q c l
def h9:Nat->List Char->List String->List String
 | _,[],a=>a
 | n,b::l,a=>h9 (n+1) l (if b=='1' then ("o_"++toString n)::a else a)
local macro_rules | `(universe $_)=>do
 return Lean.mkNullNode (g9 ((`PySem.Challenge).str "cw_halvedpictures_k32_hangs_and_needs_holds") (<-`(def x:T:=G9)).raw (h9 43 "101100101011111111101110111111111111011111011101111111111101111101110111111111110111110111011111111111011111011101111111111101111101110111111111110111110111011111111111011111011101111111111101111110111111011110101111110111111011111101111110111111011110111101110111111011111101111110111111011111101111011111101111110111111011111101111111111111011111011101111110111111011111101111110111111111110101111110111111011110111101111011111011101111110111101111111110111110111011111101111011111111101111110111111101101111110111111011110111101110111111011111101111110111111011111101111110111111011111101111110111101111111111111010111111011110111111011111101111110111111011110111101111011111101111110111111011111101110111111011111101111011110111111011111101111100101011111101111110111111011111101111110111111011111101111110111101111011111101111010111101111110111111011110111111011111".toList ("heap_39 heap_46 heap_913 tree_47 tree_77 tree_99 tree_121 tree_143 tree_165 tree_187 tree_209 tree_250 tree_292 tree_383 tree_433 tree_464 tree_496 tree_543 tree_565 tree_656 tree_741 tree_790 tree_872 tree_912 view_39 sts_49 sts_78 sts_100 sts_122 sts_144 sts_166 sts_188 sts_210 sts_251 sts_293 sts_384 sts_434 sts_465 sts_497 sts_544 sts_566 sts_657 sts_742 sts_793 sts_873 env_41".splitOn " "))).toArray
universe o
end PySem.W.Fast
open PySem PySem.W PyProof.Rows
set_option maxRecDepth 100000 in
set_option maxHeartbeats 0 in
theorem PySem.Challenge.cw_halvedpictures_k32_hangs_and_needs_holds : PySem.Challenge.rw_halvedpictures_k32_hangs_and_needs.Holds := by
 w_on;o_law;k_head;(case hw=>w_witness2)
 k_fill
 refine _k.walk (ts:=[]) (l:=PySem.Challenge.rw_halvedpictures_k32_hangs_and_needs) rfl rfl (fun w h Y=>⟨PySem.W.kIn_of Y,(fun _ z=>by cases z)⟩) ?F
 case F=>
  intro w mg fa h KX G hmg
  refine' _k.all_mk KX G hmg ?aC_Guessed ?pg_Guessed ?hd_Guessed ?po_Guessed ?sa_Guessed ?mk_Guessed ?kc_Guessed ?in_Guessed ?aC_Halves ?pg_Halves ?hd_Halves ?po_Halves ?sa_Halves ?mk_Halves ?kc_Halves ?in_Halves ?aC_Leaning ?pg_Leaning ?hd_Leaning ?po_Leaning ?sa_Leaning ?mk_Leaning ?kc_Leaning ?in_Leaning ?aC_Plan ?pg_Plan ?hd_Plan ?po_Plan ?sa_Plan ?mk_Plan ?kc_Plan ?aC_Sums ?pg_Sums ?hd_Sums ?po_Sums ?sa_Sums ?mk_Sums ?kc_Sums ?in_Sums ?n_Plan_chosen ?n_Plan_corners ?n_Plan_letters ?q_ALONG_PILLARS ?lk_ALONG_PILLARS ?q_ALONG_ROWS ?lk_ALONG_ROWS ?q_SPREADS ?lk_SPREADS ?kk_SPREADS ?it_SPREADS_sum ?it_SPREADS_half ?it_SPREADS_guess ?it_SPREADS_lean ?q_BACK_SPREADS ?lk_BACK_SPREADS ?kk_BACK_SPREADS ?it_BACK_SPREADS_sum ?it_BACK_SPREADS_half ?it_BACK_SPREADS_guess ?it_BACK_SPREADS_lean ?y_bs ?y_is ?y_ns ?y_ss ?y_ls ?y_ts ?y_ds ?F0 ?F1 ?F2 ?F3 ?F4 ?F5 ?F6 ?F7 ?F8 ?F9 ?F10 ?F11 ?F12 ?F13 ?F14 ?F15 ?F16 ?F17 ?F18 ?F19 ?F20 ?F21 ?F22 ?F23 ?F24 ?F25 ?F26 ?F27 ?F28 ?F29 ?F30 ?F31 ?F32 ?F33 ?F34 ?F35 ?F36 ?F37 ?F38 ?F39 ?F40 ?F41 ?F42 ?F43 ?F44 ?F45 ?F46 ?F47 ?F48 ?F49 ?F50 ?F51 ?F52 ?F53 ?F54 ?q_MOST_PLACES ?q_MOST_SIDE ?z_bool ?z_enumerate ?z_int ?z_isinstance ?z_len ?z_list ?z_max ?z_min ?z_range ?z_reversed ?z_set ?z_sorted ?z_str ?z_tuple ?y_bb ?y_bi ?y_bl ?y_bt ?y_ib ?y_ii ?y_il ?y_it ?y_nb ?y_ni ?y_nl ?y_nt ?y_sb ?y_si ?y_sl ?y_st ?y_lb ?y_li ?y_ll ?y_lt ?y_tb ?y_ti ?y_tl ?y_tt ?y_db ?y_di ?y_dl ?y_dt
  (case aC_Guessed | pg_Guessed | hd_Guessed | po_Guessed | sa_Guessed | mk_Guessed | kc_Guessed | in_Guessed | aC_Halves | pg_Halves | hd_Halves | po_Halves=>k_is)
  (case sa_Halves | mk_Halves | kc_Halves | in_Halves | aC_Leaning | pg_Leaning | hd_Leaning | po_Leaning | sa_Leaning | mk_Leaning | kc_Leaning | in_Leaning=>k_is)
  (case aC_Plan | pg_Plan | hd_Plan | po_Plan | sa_Plan | mk_Plan | kc_Plan | aC_Sums | pg_Sums | hd_Sums | po_Sums | sa_Sums=>k_is)
  (case mk_Sums | kc_Sums | in_Sums | n_Plan_chosen | n_Plan_corners | n_Plan_letters | q_ALONG_PILLARS | lk_ALONG_PILLARS | q_ALONG_ROWS | lk_ALONG_ROWS | q_SPREADS | lk_SPREADS=>k_is)
  (case kk_SPREADS=>k_keys)
  (case it_SPREADS_sum | it_SPREADS_half | it_SPREADS_guess | it_SPREADS_lean | q_BACK_SPREADS | lk_BACK_SPREADS=>k_is)
  (case kk_BACK_SPREADS=>k_keys)
  (case it_BACK_SPREADS_sum | it_BACK_SPREADS_half | it_BACK_SPREADS_guess | it_BACK_SPREADS_lean=>k_is)
  (case y_bs | y_is | y_ns | y_ss | y_ls | y_ts | y_ds=>kit_is)
  (case F0 | F1 | F2 | F3 | F4 | F5 | F6 | F7 | F8 | F9 | F10 | F11=>walk_at "fk")
  (case F12 | F13 | F14 | F15 | F16 | F17 | F18 | F19 | F20 | F21 | F22 | F23=>walk_at "fk")
  (case F24 | F25 | F26 | F27 | F28 | F29 | F30 | F31 | F32 | F33 | F34 | F35=>walk_at "fk")
  (case F36 | F37 | F38 | F39 | F40 | F41 | F42 | F43 | F44 | F45 | F46 | F47=>walk_at "fk")
  (case F48 | F49 | F50 | F51 | F52 | F53 | F54=>walk_at "fk")
  (case q_MOST_PLACES | q_MOST_SIDE | z_bool | z_enumerate | z_int | z_isinstance | z_len | z_list | z_max | z_min | z_range | z_reversed=>k_is)
  (case z_set | z_sorted | z_str | z_tuple=>k_is)
  (case y_bb | y_bi | y_bl | y_bt | y_ib | y_ii | y_il | y_it | y_nb | y_ni | y_nl | y_nt=>kit_is)
  (case y_sb | y_si | y_sl | y_st | y_lb | y_li | y_ll | y_lt | y_tb | y_ti | y_tl | y_tt=>kit_is)
  (case y_db | y_di | y_dl | y_dt=>kit_is)
