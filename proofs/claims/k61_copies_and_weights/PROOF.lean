
import PyProof.Rows.All
import Wide.All
import OpenK.AllK
import Wide.FinOn
import Lean
import KE.KRevIter
import KE.KPairComp
import KE.KIntText
import PyProof.NsDelKeeps
import PyProof.NeKinds
import KE.KNestM
import KE.KLam
import OpenK.KTop
import PyProof.FactsAll.dict_1
import PyProof.FactsAll.subtypes_4
import PyProof.Rows.SetFrom
import PyProof.SetNew
import PyProof.SetRoads
import PyProof.Rows.SortRuns
import PyProof.Rows.SortIns
import PyProof.Rows.SortShell
import PyProof.Rows.SortWalk
import KE.KSortTup
import KE.KDictOf
import PyProof.AttrMissHeap
import KE.KRevIter
import PyProof.SeqI3
import PyProof.SliceList
import PyProof.ListIndex
import PyProof.SeqWrite
import PyProof.InstEq
import PyProof.TupleKey
import PyProof.IsRules
import PyProof.EqAt
import PyProof.EqKinds
import PyProof.TupleCall
import PySem.Challenge.RW_halvedpictures_k61_copies_and_weights
set_option Elab.async false
set_option linter.all false
set_option maxRecDepth 100000
namespace WN
abbrev L:=List Nat
abbrev S:=List (Nat×L)
def dt:L->L->Nat
 | a::x,c::p=>c*a+dt x p
 | _,_=>0
def pa:L->L->L
 | a::p,b::q=>(a+b)::pa p q
 | [],q=>q
 | p,[]=>p
def ge:L->L->Bool
 | a::p,b::q=>and (b.ble a) (ge p q)
 | p,[]=>true
 | [],b::q=>and (b.beq 0) (ge [] q)
def gt:L->Nat->Nat
 | a::_,0=>a
 | _::x,i+1=>gt x i
 | [],_=>0
def un:Nat->L
 | 0=>[1]
 | i+1=>0::un i
def sc(k:Nat):L->L
 | []=>[]
 | a::p=>k*a::sc k p
def p2:S->(Nat->L->Nat->L->S->Prop)->Prop
 | (b,q)::(a,p)::s,k=>k a p b q s
 | _,_=>True
def p1:S->(Nat->L->S->Prop)->Prop
 | (a,p)::s,k=>k a p s
 | _,_=>True
def D(x:L):Nat->S->Nat->L->L->Nat->Prop
 | 0,_,_,_,_,_=>True
 | f+1,s,m,l,r,N=>
  let d:=N%28;let M:=N/28
  bif d.ble 1 then bif d.beq 0 then p2 s fun a p b q s=>D x f ((a+b,pa p q)::s) m l r M else p1 s fun a p s=>D x f ((a+1,pa p [1])::s) m l r M
  else bif d.ble 5 then
   bif d.beq 2 then D x f ((M%28,[M%28])::s) m l r (M/28)
   else bif d.beq 3 then D x f ((M%4096,[M%4096])::s) m l r (M/4096)
   else p1 s fun a p s=>D x f ((bif d.beq 4 then M%28*a else a*(M%28),sc (M%28) p)::s) m l r (M/28)
  else bif d.ble 11 then p2 s fun a p b q s=>
   let j:Prop->L->L->Prop:=fun P u v=>P->D x f s 1 (pa l (sc m u)) (pa r (sc m v)) M
   bif d.beq 6 then j (a≤b) p q else bif d.beq 7 then j (a<b) (pa p [1]) q else bif d.beq 8 then j (a=b) p q else bif d.beq 9 then j (a=b) q p else bif d.beq 10 then j (¬a≤b) (pa q [1]) p else j (¬a<b) q p
  else bif d.beq 12 then D x f s (M%28) l r (M/28)
  else bif d.beq 15 then bif ge l (pa [1] r) then False else True
  else bif d.ble 15 then p2 s fun a p b q _=>bif ge (pa l (sc m (bif d.beq 13 then pa q [1] else q))) (pa [1] (pa r (sc m p))) then bif d.beq 13 then a≤b else a<b else True
  else D x f ((gt x (d-15),un (d-15))::s) m l r M
theorem dpa(x:L):∀p q,dt x (pa p q)=dt x p+dt x q:=by
 induction x with
 | nil=>intro p q;cases p<;>cases q<;>rfl
 | cons a x h=>intro p q;cases p<;>cases q<;>simp [dt,pa,h,Nat.add_mul];omega
theorem dsc(k:Nat)(x:L):∀p,dt x (sc k p)=k*dt x p:=by
 induction x with
 | nil=>intro p;cases p<;>rfl
 | cons a x h=>intro p;cases p<;>simp [dt,sc,h,Nat.mul_add,Nat.mul_assoc]
theorem dge(x:L):∀p q,ge p q=true->dt x q≤dt x p:=by
 induction x with
 | nil=>intro p q _;cases q<;>exact Nat.zero_le _
 | cons a x h=>
  intro p q e;cases q with
  | nil=>exact Nat.zero_le _
  | cons c q=>
   cases p with
   | nil=>simp [ge,dt] at *;rw [e.1];have:=h [] q e.2;cases x<;>simp_all [dt]
   | cons b p=>simp [ge,dt] at *;exact Nat.add_le_add (Nat.mul_le_mul_right a e.1) (h p q e.2)
theorem dun(x:L):∀k,gt x k=dt x (un k):=by
 induction x with
 | nil=>intro k;cases k<;>rfl
 | cons a x h=>intro k;cases k<;>simp [dt,un,gt,h]
theorem bi{b:Bool}{P Q:Prop}(h:b=true->P)(k:b=false->Q):bif b then P else Q:=by cases b;exact k rfl;exact h rfl
theorem ok(y:L):∀f s m l r N,(∀e∈s,e.1=dt (1::y) e.2)->dt (1::y) l≤dt (1::y) r->D (1::y) f s m l r N:=by
 generalize hx:1::y=x
 have c1:∀k,k=dt x [k]:=fun k=>by subst hx;cases y<;>simp [dt]
 have c2:∀p,dt x (pa p [1])=dt x p+1:=fun p=>by rw [dpa,←c1 1]
 have up:∀{a p}{s:S},a=dt x p->(∀e∈s,e.1=dt x e.2)->∀i∈(a,p)::s,i.1=dt x i.2:=fun h k=>List.forall_mem_cons.2 ⟨h,k⟩
 have ad:∀{l r p q m},dt x l≤dt x r->dt x p≤dt x q->dt x (pa l (sc m p))≤dt x (pa r (sc m q)):=fun h k=>by rw [dpa,dpa,dsc,dsc];exact Nat.add_le_add h (Nat.mul_le_mul_left _ k)
 have no:∀{l r},dt x l≤dt x r->ge l (pa [1] r)=true->False:=fun h k=>by have:=dge x _ _ k;rw [dpa,←c1 1] at this;omega
 have q2:∀{s:S}{k},(∀e∈s,e.1=dt x e.2)->(∀a p b q s,a=dt x p->b=dt x q->(∀e∈s,e.1=dt x e.2)->k a p b q s)->p2 s k:=fun{s k} h g=>by
  match s with
  | []=>trivial
  | [_]=>trivial
  | (b,q)::(a,p)::s=>exact g a p b q s (h _ (.tail _ (.head _))) (h _ (.head _)) fun e i=>h e (.tail _ (.tail _ i))
 have q1:∀{s:S}{k},(∀e∈s,e.1=dt x e.2)->(∀a p s,a=dt x p->(∀e∈s,e.1=dt x e.2)->k a p s)->p1 s k:=fun{s k} h g=>by
  match s with
  | []=>trivial
  | (a,p)::s=>exact g a p s (h _ (.head _)) fun e i=>h e (.tail _ i)
 intro f
 induction f with
 | zero=>intros;trivial
 | succ f ih=>
  intro s m l r N hs hl
  unfold D
  refine bi (fun _=>bi (fun _=>q2 hs fun a p b q s h k g=>ih _ _ _ _ _ (up (by rw [dpa,h,k]) g) hl) fun _=>q1 hs fun a p s h g=>ih _ _ _ _ _ (up (by rw [c2,h]) g) hl) fun _=>?_
  refine bi (fun _=>bi (fun _=>ih _ _ _ _ _ (up (c1 _) hs) hl) fun _=>bi (fun _=>ih _ _ _ _ _ (up (c1 _) hs) hl) fun _=>q1 hs fun a p s h g=>ih _ _ _ _ _ (up ?_ g) hl) fun _=>?_
  · rw [dsc,←h];cases (N%28).beq 4;exact Nat.mul_comm _ _;rfl
  refine bi (fun _=>q2 hs fun a p b q s h k g=>?_) fun _=>?_
  · have j:∀(P:Prop) u v,(P->dt x u≤dt x v)->P->D x f s 1 (pa l (sc m u)) (pa r (sc m v)) (N/28):=fun P u v i z=>ih _ _ _ _ _ g (ad hl (i z))
    refine bi (fun _=>j _ _ _ ?_) fun _=>bi (fun _=>j _ _ _ ?_) fun _=>bi (fun _=>j _ _ _ ?_) fun _=>bi (fun _=>j _ _ _ ?_) fun _=>bi (fun _=>j _ _ _ ?_) fun _=>j _ _ _ ?_<;>(try rw [c2])<;>rw [←h,←k]<;>omega
  refine bi (fun _=>ih _ _ _ _ _ hs hl) fun _=>bi (fun _=>bi (fun e=>no hl e) fun _=>trivial) fun _=>bi (fun _=>q2 hs fun a p b q s h k g=>bi (fun e=>?_) fun _=>trivial) fun _=>ih _ _ _ _ _ (up (dun _ _) hs) hl
  revert e;cases (N%28).beq 13<;>exact fun e=>Classical.byContradiction fun i=>no (ad hl (by (try dsimp only [cond]);(try rw [c2]);rw [←h,←k];simp at i;omega)) e
def A:Nat->L->Nat->Prop
 | 0,x,N=>D (1::x) 99 [] 1 [] [] N
 | k+1,x,N=>∀{a},A k (a::x) N
theorem F0:∀k x N,A k x N
 | 0,x,N=>ok x _ _ _ _ _ _ (fun _ h=>nomatch h) (Nat.le_refl _)
 | k+1,x,N=>F0 k _ N
end WN
theorem WF(N:Nat):WN.A (N%28) [] (N/28):=WN.F0 _ _ _
theorem V1{a b:Nat}:a≤a-b+b:=Nat.le_add_of_sub_le (Nat.le_refl _)
theorem V2{a b:Nat}:a-b≤a:=Nat.sub_le _ _
theorem V3{a b:Nat}(h:b≤a):a-b+b≤a:=Nat.le_of_eq (Nat.sub_add_cancel h)
theorem V4{a b:Nat}(h:a≤b):a-b≤0:=Nat.le_of_eq (Nat.sub_eq_zero_of_le h)
theorem V5{a k:Nat}(h:0<k):a<a/k*k+k:=Nat.lt_div_mul_add h
def Ya:=@WF 6550533726
def Yb:=@WF 183146141726
def Yc:=@WF 6550555678
def Yd:=@WF 5127833799481
def Ye:=@WF 0xe4e4216594f4b
def Yf:=@WF 0x91c98039f93d74168c3aea4f32602d68f39a6cf4494a04ec
def Yg:=@WF 6567217246
def Yh:=@WF 0x4c8b28b47e78969b8
def Yi:=@WF 4932925450910
def Yo:=@WF 5127833800265
def Yp:=@WF 196907860718
def Yq:=@WF 183136921886
def Yr:=@WF 0xe483a30ef7e0b
def Ys:=@WF 0x316a744f34d51d434e1114ba63cb
def Yt:=@WF 0x831d407ea08b
def Yu:=@WF 0x195c95abf21e8f3ec2605872e78
def Yv:=@WF 5128091341550
def Yw:=@WF 0x4bb7039829d5b1d2092f88b
def Yx:=@WF 0xdb41b95ad5a0b
def Yy:=@WF 0xf6496ade0848b
def Yz:=@WF 0xf5ba764ddc58b
def YA:=@WF 0x18b92dde398dbd0388b8b
def YB:=@WF 0x8c6a8d519f4b
def YC:=@WF 0xea6a0fe561d825c79b8
def YD:=@WF 0xe090d45b67f1ba5b2f8
def YE:=@WF 0x90b8a65769f94952f8
def YF:=@WF 0x4ca992c91224f83f8
def YG:=@WF 0x52641994854124c0b
def YH:=@WF 183415546862
def YI:=@WF 0x2c0882e99b4aa0b8
def YJ:=@WF 0x2bbd2cd7f0936bcb
def YK:=@WF 0x2bbda1d27c54780a
def YL:=@WF 0x2bce9ca8f274aebb
def YM:=@WF 0x2bbda1cf90dcdf4b
def YN:=@WF 0x1ad66c521792ccb
def YO:=@WF 0x180c9e2a461d0cb
def YP:=@WF 0x1af007b049282cb
def YQ:=@WF 0xe573127f7264b
def YR:=@WF 0xe4890f56e56cb
def YS:=@WF 0xf5b4f7f406ccb
open List renaming toArray->Vz9
def wV9:Nat->Lean.Syntax->Lean.MacroM (Lean.TSyntax `rcasesPat)
 | 0,_=>Lean.Macro.throwUnsupported
 | n+1,s=>if s.isIdent then `(rcasesPat|$(⟨s⟩):ident) else match s with
  | `(#[$x,*])=>do
   let p<-x.getElems.mapM fun x=>do `(Lean.Parser.Tactic.rcasesPatLo|$(<-wV9 n x):rcasesPat)
   `(rcasesPat|⟨$p,*⟩)
  | `(_)=>`(rcasesPat|_)
  | _=>Lean.Macro.throwUnsupported
local macro_rules|`(tactic|let $d:letDecl)=>do
 let r:=d.raw[0]
 if r.getKind==``Lean.Parser.Term.letPatDecl then
  let p<-wV9 9 r[0]
  `(tactic|obtain $p:rcasesPat:=$(⟨r[4]⟩):term)
 else Lean.Macro.throwUnsupported
local macro_rules|`(#[$x,$y,*])=>`(⟨$x,$y,*⟩)|`(#[$x])=>`(⟨$x⟩)
open Array renaming toList_push->hW,length_toList->mu,toList_append->mx,getElem?_toList->nL,getElem?_eq_some_iff->tq,toList_extract->yb,toList_inj->Li,getElem?_setIfInBounds_self_of_lt->Rv,toList_reverse->RB,getElem?_eq_getElem->RN,getD_eq_getD_getElem?->S6,toList_setIfInBounds->Tu,append_assoc->Vk,append_empty->Vs,toList->Xl
open Bool renaming and_eq_true->fT,false_ne_true->jt,false_eq_true->ky,false_and->P8,and_false->Rx,not_true->RU,not_false->Tw,true_xor->TY,true_and->Xb
open False renaming elim->mC
open ForInStep renaming yield->MT
open Function renaming comp->Vg,comp_def->V0
open Iff renaming rfl->U1
open Int renaming toNat_natCast->fL,le_refl->pF,le_trans->Q4,emod_lt_of_pos->R6,emod_nonneg->SY,pow_succ->S7,mul_le_mul->Tv,reduceEq->Ux,one_mul->UY,toNat_of_nonneg->Va,lt_of_lt_of_le->Vw,mul_nonneg->W2,ediv_one->Xn,mul_comm->Xs
open List renaming mem_cons->cm,length_append->dV,getElem?_map->ef,length_cons->eh,mem_cons_of_mem->ei,mem_of_getElem?->ek,map_append->er,length_take->ew,not_mem_nil->ey,mem_append_right->eB,map_cons->eN,lookup_cons->ff,append_assoc->fq,mem_append->gs,size_toArray->gT,take_length->hG,range->hV,getElem?_append_left->hZ,mem_singleton->ih,replicate->ji,nodup_cons->jl,append_nil->jn,mem_map->kv,pairwise_append->lu,getD_eq_getElem?_getD->lx,flatten_cons->ly,mem_flatMap->lH,mem_cons_self->nA,mem_append_left->oD,getElem?_append_right->rb,extract_eq_drop_take->ro,take_of_length_le->rr,length_set->rx,take_append_drop->sv,length_nil->ud,drop_eq_getElem_cons->vr,flatten_append->vx,getElem?_of_mem->yl,map_map->zq,drop_of_length_le->zv,getElem?_eq_none->Bk,zip_cons_cons->EN,pairwise_cons->Fk,mem_range->FS,nil_append->Gh,find?_cons->GM,replicate_succ->HT,getElem?_range->HZ,map_congr_left->IQ,lookup->Kk,length_drop->KF,cons_append->KI,mem_reverse->KM,drop_zero->Md,foldl_cons->Mt,take_sublist->NM,drop_sublist->Os,mem_of_mem_take->Oz,flatMap_cons->OI,getElem?_take_of_lt->Pc,take_succ_cons->PU,length_reverse->P6,nodup_nil->Qe,map->Qg,getElem?_cons_succ->Qh,getElem?_cons_zero->Qk,eq_nil_of_length_eq_zero->Qn,set_cons_zero->Q3,range_succ->Re,any_cons->Rj,contains_iff_mem->Ro,singleton_append->Rp,take_succ->Rz,getElem_mem->RH,flatten_nil->RJ,reverse_append->RQ,getElem?_eq_getElem->RS,forIn_cons->R0,mem_filterMap->R3,set_cons_succ->R7,length->R9,eraseIdx_cons_succ->Sa,getElem?_set_self->Sf,getElem?_set->Ss,pairwise_flatMap->Sy,length_filter_le->Sz,all_cons->SG,getElem?_set_ne->SI,mem_of_mem_drop->SO,drop_append_of_le_length->SQ,take_append_of_le_length->SR,filterMap_cons->SZ,flatMap_append->S2,getElem?_drop->Tt,getElem?_zip_eq_some->Tx,pairwise_iff_getElem->TF,ext_getElem?->TK,sum_cons->TU,zipIdx_cons->T7,pairwise_singleton->Ug,perm_middle->Uh,mem_flatten->Uj,map_nil->Uu,range_succ_eq_map->Uv,of_mem_zip->Uz,length_singleton->UG,mem_iff_getElem?->UJ,perm_append_comm->UK,getElem?_reverse->UL,forIn_nil->UQ,take_zero->UW,zip_eq_zipWith->U9,foldl->Vo,flatMap_assoc->Vv,filter_append->Vx,any_eq_false->VE,reverse_cons->V6,getElem_take->V8,pairwise_map->V9,foldl_append->Wa,drop_append->Wm,any_eq_true->Wn,flatMap_map->Wo,map_flatMap->Wp,drop_length->Wq,map_id->Wu,zipIdx_nil->WC,mem_filter->WE,filterMap->WX,map_set->Xr,flatMap->Xu
open List.Pairwise renaming sublist->ml,nil->Gg
open List.Perm renaming refl->Au,append_left->BY,trans->R1,append_right->Uw,swap->W1
open List.cons renaming injEq->WG,inj->W8
open Nat renaming le_refl->cb,lt_of_lt_of_le->da,zero_le->eA,le_trans->eH,ne_of_lt->gm,lt_irrefl->iD,min_le_right->sg,div_mul_le_self->sm,add_sub_cancel_left->sH,le_antisymm->xl,min_le_left->xr,le_of_lt->Fn,ne_of_gt->IY,lt_succ_self->KB,lt_of_le_of_ne->Mb,le_of_eq->Qy,zero_add->Q2,min_eq_left->Q8,min_eq_right->RI,le_of_succ_le->Sm,lt_succ_of_lt->Sn,mul_le_mul->Sv,le_succ->SK,mul_le_mul_right->SN,sub_self->S5,lt_of_le_of_lt->Tj,reduceAdd->TV,le_add_right->T8,add_mul->UU,lt_trans->VT,le_succ_of_le->VY,lt_or_ge->VZ,le_max_right->Wf,one_mul->Wv,add_assoc->Xa,mul_comm->Xo,add_zero->Xq,sub_zero->Xt,mul_succ->Xv
open Ne renaming symm->lj
open Option renaming isSome_iff_exists->wh,bind_some->EO,map_eq_some_iff->Jv,map_some->SW,bind_eq_some_iff->Ub,map_id->Vd,isSome_some->Vp,map->Vt
open Option.some renaming inj->fS,injEq->Rr
open Or renaming inl->cv,inr->Qo
open Prod renaming ext->Sk
open Prod.mk renaming injEq->W6
open PyProof.Rows renaming wpS_bind->ee,wpS_pure->el,pendingOf->nT,callWith_type1->qe,wpS_forRange->rp,failedOf->tx,wpS_modify->zU,slot_tuple_getitem->Ht,wpS_mono->RA,AllBare->Sd,SortKind->Su,IntsAre->SF,wpS_get->SH,subscriptTail_builtinR->Ur,lt_int->U4,listUpdate_at->Ve,gallopOf->V7,seqEpoch_at->Ww,minRun'->WI,boot_range->WO,Subscript_->WS,sortedHeap->W0
open PyProof.Rows.SortSt renaming mk'->R5
open PySem renaming wpAny_bind->ba,wpAny_pure->bq,sizeLine_eq->ea,starEach->ed,FuncData->eK,mainGlobals->eW,foldedSetIterable->hB,wpAny_field->ng,assignEach->qd,wpAny_holding->ry,wpAny_Call_Name_kw->tu,Comprehension->vd,Program->vn,bootBuiltins->xa,codeAny->xb,NameKind->yC,wpAny_newObj_type->zl,cellsFrom->Av,Value->Aw,letOwnedTupleGo->Ax,wpAny_mono->Cy,swapsWith->Do,compareOp->DA,mem_of_lookup->HR,standAt->IR,wpAny_truthy_bool->Nu,codeAny_call_builtin->N9,sysModules->O6,attributeBase->O8,wpAny_call->Pb,wpAny_callSpecial?_slot->P9,wpAny_call_entry->Qb,wpAny_seqItems->Qf,keywordEach->Ql,wpAny_of_eq->Qm,Addr->Qq,Shared->Qs,codeAny_mono->QC,wpAny_setField_rec->Q1,binaryOp->Q5,reprText->Q6,wpAny_standAt->Rh,wpAny_loadPart_at->Rq,Within->RC,getMethod->RD,Builtin->RE,isSubtype->RF,wpAny_attempt->RX,wpAny_passesOwn->RZ,wpAny_pyIter_rangeiter->Sg,not_mem_of_deeper->Sq,wpAny_setField->Sr,plainObj_wpAny_Assign_Attribute->Sw,builtinsNs->SA,isInstance->SB,swapsWithSole->SC,swappedStores->SD,behindInMarks->SE,backToKw->SJ,wpAny_execs_nil->SU,Str->S8,Expr->S9,wpAny_loadPart->Td,tupleKind_room_in1->Ti,newFunctionEnv->Tn,call_repr_slot->To,wpAny_rule->Tq,wpAny_comprehension_free->TR,tupleKind->TZ,wpAny_lookBehind->T4,pastItsLine_dict->T5,setFlight->T9,noteFrame->Ua,compTurn->Ud,wpAny_pyNext_list_item->Ul,wpAny_pyNext_range_end->Um,getItem->Uq,call_meets->Ut,codeAny_of_tree->UA,codeAny_builtin->UB,wpAny_pyNext_list_end->UE,wpAny_loadName_local->UM,callWith->UN,wpAny_updateSeq_pair->US,wpAny_pyIter_revIter->UX,valueAt->UZ,callerA->U0,wpAny_loadName_cell->U2,wpAt_of_wpAny->U8,plainId_quiet->Vb,wpAny_onRaise->Vc,Heap->Vh,typeLookup->Vn,wpAny_pyIter_ascii->Vq,hookBefore->Vu,Result->VA,setItem->VB,wpAny_assign_Name->VC,wpAny_pyIter_list->VD,setAttr->VF,wpAny_nsSet1->VG,BindsTo->VP,wpAny_typeOf->VQ,Keyword->VR,Pos->Wc,wpAny_execs_cons->Wd,tupleText_mem_le->We,wpAny_pyIter_zip->Wj,checkBuiltinCall->Wk,callGetattribute->Wl,seqIndex_of->Wr,sliceBounds->Wt,wpAt_bind->WD,Stmt->WJ,wpAny_Name->WK,Operator->WL,wpAny_load->WM,bindArgs->WQ,typeIs_int->WT,call->WU,closureFor->WV,storeName->Xc,Env->Xd,inplaceOp->Xe,PassesOwn->Xf,specialOf->Xg,handedOut->Xh,onTheHeap->Xi,compStart->Xj,getAttr->Xm,CmpOp->Xx,Scope->Xy
open PySem.Around renaming under_plainId->SM,under->S4
open PySem.Bind renaming staticBase->UC,madeBy->Ws,madeHere->W7
open PySem.Builtin.Dict renaming updateFrom->Ui
open PySem.Builtin.List renaming listTooLong->PP
open PySem.Builtin.ObjectAttr renaming bindTo->TC
open PySem.Builtin.Range renaming rangeFitsLong->qp,rangeSize->R8,rangeFields->W4
open PySem.Builtin.Slice renaming slicePlaces->Ms,sliceAdjust->RM,sliceApplied->Tf,slicePartIndex->Wy,sliceFields->W3
open PySem.Builtin.SmallTypes renaming ownedTupleIsFree->RW,nextOf->Tz,ownedTupleHandOut->U6
open PySem.Builtin.Tuple renaming tupleExact->Pv,tupleCompareSizes->Wb,tupleItemsOf->WR
open PySem.Calls renaming Name_function_global->Ta,callWith_builtin->Us,evalArgs_plain->UP,spliced_cons->Vl,spliced_nil->VO
open PySem.Challenge renaming pw_halvedpictures_k61_copies_and_weights->SS
open PySem.Clear renaming nil->Wg
open PySem.Code renaming quiet_builtin->Vr,isGuard->VM,isFrame->VN,builtin->Xp,frames->XC,guards->XE
open PySem.Data renaming fields->Xz
open PySem.EntryCells renaming newEntry->U7
open PySem.F renaming slot_list_getattribute->RY,slot_range_reversed->Sx,slot_zip_next->SX,slot_tuple_iterator_next->Tr,excBase_ValueError->Ts,attr_ValueError->Uc,plainAttrs_list->Ue,slot_list_append->UF,slot_list_extend->UH,entry_bexc_ga->UI,plain_reversed_new->UR,args_bexc_ga->UT,args_zip_next_1->VW,slot_dict_repr->Wh,entry_zip_next->Wi,slot_int_rmul->WA
open PySem.Heap renaming get?_push_of_some->bc,lt_size->ec,get?_push_size->en,get?_update_other->gD,size_push->ru,get?_update_self->sr,get?_update_ne->RP,SameBut->Se,get?->Xk
open PySem.Heap.IsSliceOf renaming new->XH
open PySem.Heap.Ns1 renaming of_empty->VI
open PySem.Heap.SameBut renaming update->U5
open PySem.IsRange renaming new->XB
open PySem.NameKind renaming free->jk,cell->ri
open PySem.Obj renaming data_mapFields->xt,mapFields->FB,isFreed_of_fields->Mh,mapSeq->R4,cls_mapFields->VV
open PySem.Paired renaming length->TL,snoc->XF
open PySem.PassesOwn renaming never->ic
open PySem.PyData renaming shown->hF,depth->lq,shownAll->nr,depthAll->ov,showable->ue,showableAll->QP,depthKv->Ry,shownKv->So,showableKv->VU
open PySem.ReadAtMost renaming cons->WB
open PySem.ReprK renaming dict->XJ
open PySem.SeqAt renaming EqAt->Vm,in_listAt->Wz
open PySem.SeqAt.EqAt renaming int_int->Sb,same->Tg,int_str->Vi,str_int->Vj
open PySem.SeqAt.RcAt renaming tuples->XG
open PySem.Shared renaming TypeIs->Vf
open PySem.Str renaming ofString->jx,empty->DJ
open PySem.Value renaming ref->fC,none->pL,builtin->wI,int->Cs,type->Qv,str->Rg,bool->Uk,isStrOf->W5,isInt->Xw
open PySem.W renaming kitOne->bp,findIn->ez,emptyDict->hD,nsIn->hP,mg_none_of->ip,keepIn->kx,instObj->oj,hasDictIn->rd,mroIn->rz,kia_one->tT,mg_of->vl,takerIn->vy,plainGet->ya,makesIn->AC,plainOver->Gc,Looks->JN,specialIn->Lu,callWith_K->Ma,fnOf->QD,clsIn->Rk,looks_findIn->Rm,methodCall_KW->Rn,typeIn->Rw,looks_mroIn->RG,looks_clsIn->RK,any_some->RT,isFn->Si,cellsFrom_some->Sj,OpenLaw->SL,plainGet_of->S0,callWith_K0->S1,lookIn->Tb,InstAt->Tc,check_slot->Tp,set_plain->TH,findCls->TQ,makes_of->T6,InitBack->Uo,takesIn->Uy,readsIn->UD,codeIn->UO,CodeHd->UV,handedIn->U3,methodObj->Vz,make_core->VH,kitx_list->VJ,kitx_dict->VL,findObj_own->Wx,notCls->WW,tabObj->WY,WalkO->W9
open PySem.W.Looks renaming of_pure->Rt,ld->Ru,here->Te,andThen->TM
open PySem.W.WShape renaming has->XI
open PySem.Walks renaming range->XA
open PySem.Within renaming cons->TJ
open PySem.callAny renaming viaDunder->VX
open Sum renaming inr->Vy,inl->WH
open True renaming intro->yv
set_option bootstrap.genMatcherCode false
set_option compiler.extract_closed false
theorem wL9X(h:True:=by exact fun _ _=>rfl):True:=h
def wL9:=wL9X._auto_1
theorem wK9X(h:True:=by decide +kernel):True:=h
def wK9:=wK9X._auto_1
theorem wEX (h:True:=by rfl):True:=h
def wE:=wEX._auto_1
theorem wPX (h:True:=by decide):True:=h
def wP:=wPX._auto_1
theorem wTX (h:True:=by intro _;rfl):True:=h
def wT:=wTX._auto_1
theorem wq0X (h:True:=by first | exact .inl rfl | exact .inr rfl | assumption):True:=h
def wq0:=wq0X._auto_1
theorem wq1X (h:True:=by first | exact cv rfl | exact Qo (cv rfl) | exact Qo (Qo rfl)):True:=h
def wq1:=wq1X._auto_1
theorem wq2X (h:True:=by intros;rfl):True:=h
def wq2:=wq2X._auto_1
theorem wq3X (h:True:=by with_unfolding_all rfl):True:=h
def wq3:=wq3X._auto_1
theorem wq4X (h:True:=by lia):True:=h
def wq4:=wq4X._auto_1
abbrev Fg0:=PySem.W.Frag
noncomputable abbrev Pn0:=List (Qq×PySem.Obj)
abbrev VS:=Aw->Qs->Prop
abbrev On:=List (Option Nat)
abbrev SV:=S8->Option Aw
noncomputable abbrev LL0:=List (List Int)
noncomputable abbrev Li0:=List Int
abbrev La0:=List Qq
noncomputable abbrev Lv0:=List Aw
noncomputable abbrev Ls0:=List S8
theorem lM0 {a b:Type}{as:List a}(f:a->b):(as.map f).length=as.length:=List.length_map f
theorem gE0 {a:Type}{l:List a}{i:Nat}(h:i<l.length):l[i]?=some l[i]:=RS h
theorem gS0 {b:Type}{l:List b}{i:Nat}{a:b}(h:l[i]?=some a):∃h:i<l.length,l[i]=a:=List.getElem?_eq_some_iff.mp h
set_option genSizeOf false
variable {u:Aw}{a:Qq}{P:vn}{w:PySem.World}{h':Vh}{g':Array PySem.GenState}{t' i:Nat}{d':PySem.Drawn}{ch:La0}{M:PySem.Model}{A:PySem.Around}{E:VS}
namespace _2
open PySem PySem.Spec PyProof.Rows
abbrev Key:=Sum Int Str
noncomputable def tO:Key->Value->Bool
 | .inl k,v=>Xw k v
 | .inr x,v=>W5 x v
noncomputable def Qx (w:World):Key->Int
 | .inl k=>hashInt k
 | .inr x=>hashStr w x
theorem bZ:∀ {k:Key} {v:Value},tO k v=true->(∃ i t,k=WH i/\v=Cs i t)\/(∃ x t,k=Vy x/\v=Rg x t)
 | .inl i,v,h=>by
  let#[t,e]:=Value.isInt_shape (k:=i) (v:=v) h;exact .inl #[i,t,rfl,e]
 | .inr x,v,h=>by
  let#[t,e]:=Value.isStrOf_shape (x:=x) (v:=v) h;exact .inr #[x,t,rfl,e]
theorem CK(i:Int)(t:Tok):tO (.inl i) (.int i t)=true:=by simp [tO,Xw]
theorem CJ(x:Str)(t:Tok):tO (.inr x) (.str x t)=true:=by simp [tO,W5]
theorem LQ(a b:Int):decide ((WH a:Key)=WH b)=(a == b):=by
 by_cases e:a=b
 .subst e;simp
 .simp_all
theorem LN(a b:Str):decide ((Vy a:Key)=Vy b)=decide (a=b):=by simp_all
theorem LP(a:Int)(b:Str):decide ((WH a:Key)=Vy b)=false:=decide_eq_false (λq=>nomatch q)
theorem LO(a:Str)(b:Int):decide ((Vy a:Key)=WH b)=false:=decide_eq_false (λq=>nomatch q)
noncomputable def cL (prog:vn)(w:World):PySem.KeyKind prog w Key where
 is:=tO
 hash:=Qx w
 inj:=λv a b l f=>by
  rcases bZ l with ⟨i,t,rfl,rfl⟩ | ⟨x,t,rfl,rfl⟩
  .rcases bZ f with ⟨j,u,rfl,e⟩ | ⟨y,u,rfl,e⟩
   .injection e with c _;rw[c]
   .exact nomatch e
  .rcases bZ f with ⟨j,u,rfl,e⟩ | ⟨y,u,rfl,e⟩
   .exact nomatch e
   .injection e with c _;rw[c]
 byValue:=λk v h=>by
  rcases bZ h with ⟨i,t,rfl,rfl⟩ | ⟨x,t,rfl,rfl⟩ <;> rfl
 pyHash:=λd h=>by
  rcases bZ d with ⟨i,t,rfl,rfl⟩ | ⟨x,t,rfl,rfl⟩
  .exact wpAny_pyHash_int h
  .exact wpAny_pyHash_str h
 eqBool:=λg d h=>by
  rcases bZ g with ⟨i,t,rfl,rfl⟩ | ⟨x,t,rfl,rfl⟩
  .rcases bZ d with ⟨j,u,rfl,rfl⟩ | ⟨y,u,rfl,rfl⟩
   .rw[LQ] at h;exact wpAny_eqBool_int h
   .rw[LP] at h;exact Vi i t y u _ _ _ _ h
  .rcases bZ d with ⟨j,u,rfl,rfl⟩ | ⟨y,u,rfl,rfl⟩
   .rw[LO] at h;exact Vj x t j u _ _ _ _ h
   .rw[LN] at h;exact wpAny_eqBool_str h
 «strs»:=λk x t v h=>by
  rcases bZ h with ⟨i,u,rfl,e⟩ | ⟨y,u,rfl,e⟩
  .exact nomatch e
  .injection e with c _
   subst c;cases v <;> rfl
theorem x6(prog:vn)(w:World)(i:Int)(t:Tok):(cL prog w).is (.inl i) (.int i t)=true:=CK i t
theorem xZ(prog:vn)(w:World)(x:Str)(t:Tok):(cL prog w).is (.inr x) (.str x t)=true:=CJ x t
inductive V where
 | non | bl (b:Bool) | int (i:Int) | str (x:Str) | ref (a:Addr) | ty (n:String)
 deriving DecidableEq
noncomputable def RelV:V->Value->Prop
 | .non,u=>u=pL
 | .bl b,u=>u=Uk b
 | .int i,u=>∃ t,u=Cs i t
 | .str x,u=>∃ t,u=Rg x t
 | .ref a,u=>u=fC a
 | .ty n,u=>u=Qv n
noncomputable abbrev Vals:List V->Lv0->Prop:=Paired RelV
theorem Vals.length{xs:List V}{us:Lv0}(r:Vals xs us):xs.length=us.length:=TL r
theorem Vals.get:∀ {xs:List V} {us:Lv0} {i:Nat} {x:V},Vals xs us->xs[i]?=some x->∃ u,us[i]?=some u/\RelV x u
 | _,_,_,_,.nil,e=>by simp -iota at e
 | _,_,0,_,.cons r _,e=>by simp -iota at e;subst e;exact#[_,rfl,r]
 | _,_,i + 1,x,.cons _ t,e=>by
  let#[u,b,a]:=Vals.get (i:=i) (x:=x) t (by simpa using e);exact#[u,by simpa using b,a]
theorem Vals.set{x:V}(r:RelV x u):∀ {xs:List V} {us:Lv0} (i:Nat),Vals xs us->Vals (xs.set i x) (us.set i u)
 | _,_,_,.nil=>.nil
 | _,_,0,.cons _ t=>.cons r t
 | _,_,i + 1,.cons q t=>.cons q (Vals.set r i t)
theorem Vals.append:∀ {xs ys:List V} {us ws:Lv0},Vals xs us->Vals ys ws->Vals (xs++ys) (us++ws)
 | _,_,_,_,.nil,s=>s
 | _,_,_,_,.cons r t,s=>.cons r (Vals.append t s)
theorem Vals.take:∀ {xs:List V} {us:Lv0} (n:Nat),Vals xs us->Vals (xs.take n) (us.take n)
 | _,_,0,_=>.nil
 | _,_,_ + 1,.nil=>.nil
 | _,_,n + 1,.cons r t=>.cons r (Vals.take n t)
theorem Vals.drop:∀ {xs:List V} {us:Lv0} (n:Nat),Vals xs us->Vals (xs.drop n) (us.drop n)
 | _,_,0,r=>r
 | _,_,_ + 1,.nil=>.nil
 | _,_,n + 1,.cons _ t=>Vals.drop n t
noncomputable def iH:Option V->Option Value->Prop
 | some v,some u=>RelV v u
 | none,none=>True
 | _,_=>False
noncomputable def KV {a:Type}:List (a×V)->List (a×Value)->Prop:=Paired λ(p:a×V) (q:a×Value)=>p.1=q.1/\RelV p.2 q.2
noncomputable def kV:Key->V
 | .inl i=>.int i
 | .inr x=>.str x
set_option genInjectivity false in
inductive HO where
 | lst (xs:List V)
 | tup (xs:List V)
 | dK (kvs:List (Key×V)) | dT (kvs:List (List Key×V))
 | set (S:Int->Bool) (n:Nat)
 | ins (C dx:Addr) (fs:List (Str×V))
 | own (x:Addr)
 | xd (fs:List (Str×V))
 | met (f x:Addr)
 | rng (lo hi:Int)
 | frz (o:Obj) (u:HO)
 | tbl (ps:Array Value)
 | ext (φ:Heap->Prop)
 | cod (c:Addr) (q:Str)
abbrev Hp:=Addr->Option HO
def yU (H:Hp)(v:Value)(q:Str):Prop:=∃ c a vs t b,v=.ref c/\H c=some (.frz a (.ext b))/\a.data=.fields vs/\vs[1]?=some (.str q t)
theorem yU.mono{H H':Hp}{v:Value}{q:Str}(x:yU H v q)(h:∀ b o e,H b=some (.frz o (.ext e))->H' b=some (.frz o (.ext e))):yU H' v q:=
 let ⟨c,g,f,t,e,a,b,d⟩:=x;#[c,g,f,t,e,a,h _ _ _ b,d]
noncomputable def upd (H:Hp)(a:Addr)(o:HO):Hp:=λb=>if b=a then some o else H b
theorem aw{H:Hp}{o:HO}:upd H a o a=some o:=by delta upd;rw[if_pos rfl]
theorem ao{H:Hp}{b:Addr}{o:HO}(h:b≠a):upd H a o b=H b:=by delta upd;rw[if_neg h]
theorem s_{H:Hp}{b:Addr}{o u:HO}(h:H a=some o)(h':H b=some u)(d:o≠u):a≠b:=by
 intro e;subst e;rw[h] at h';exact d (fS h')
theorem aV{H:Hp}{b:Addr}{o:HO}(h:H a=some o)(h':H b=none):a≠b:=by
 intro e;subst e;rw[h] at h';cases h'
section
variable (P:vn)(w:World)
noncomputable def b8 (H:Hp)(h:Heap)(a:Addr):HO->Prop
 | .lst xs=>xs.length<=sizeLine/\∃ (its:Lv0) (n:Nat),Vals xs its/\h.get? a=some { cls:=.type "list",data:=.seq its.toArray n }
 | .tup xs=>xs.length<=sizeLine/\∃ its:Lv0,Vals xs its/\IsTup h a its.toArray
 | .dK kvs=>kvs.length<=sizeLine/\(a == O6)=false/\∃ vs,KV kvs vs/\h.DictOf (cL P w) a vs
 | .dT kvs=>kvs.length<=sizeLine/\(a == O6)=false/\∃ xs:List (List Key×Addr×Value),
   Paired (λ(p:List Key×V) (q:List Key×Addr×Value)=>p.1=q.1/\H q.2.1=some (.tup (p.1.map kV))/\RelV p.2 q.2.2) kvs xs/\
   ∃ o es d,h.get? a=some o/\o.ExactDict/\o.data=.dict es d/\es.toList=xs.map (entryOfKey (TZ (cL P w)))/\(xs.map (·.1)).Nodup
 | .set S n=>h.SetOf (intKind P w) a S n
 | .ins C dx fs=>H dx=some (.own a)/\fs.length<=1000/\dx≠a/\h.get? a=some (oj C dx)/\
   ∃ mA,h.Ns1 dx mA/\(∀ f,iH (fs.lookup f) (mA f))/\RC mA (fs.map (·.1))
 | .own _=>∃ o,h.get? a=some o
 | .xd fs=>∃ mA,h.Ns1 a mA/\∀ f,iH (fs.lookup f) (mA f)
 | .rng lo hi=>∃ t u v,h.get? a=some { cls:=.type "range",data:=.fields (Vz9 [.int lo t,.int hi u,.int 1 v]) }
 | .frz o u=>h.get? a=some o/\b8 H h a u
 | .tbl ps=>∃ q t qs,ps[0]?=some (Rg q t)/\h.get? a=some { cls:=.none,data:=.fields qs }/\TriplesOk qs.toList/\∀ pos v,codeAmong pos qs.toList=some v->yU H v q
 | .cod c q=>(∃ o,h.get? a=some o)/\yU H (.ref c) q
 | .met f x=>h.get? a=some (Vz (.ref f) (.ref x))
 | .ext b=>b h/\(∃ o,h.get? a=some o)/\∀ h1 h2:Heap,b h1->(∀ o,h1.get? a=some o->h2.get? a=some o)->b h2
def HOk (H:Hp)(h:Heap):Prop:=∀ a o,H a=some o->b8 P w H h a o
end
section
variable {H H':Hp}{h:Heap}{o:HO}
theorem b8.lt(x:b8 P w H h a o):a < h.objs.size:=by
 cases o with
 | lst d=>let#[_,_,_,_,e]:=x;exact ec e
 | tup d=>let#[_,_,_,p]:=x;exact p.lt
 | dK b=>let#[_,_,_,_,o,_,_,e,_]:=x;exact ec e
 | dT b=>let#[_,_,_,_,o,_,_,e,_]:=x;exact ec e
 | set S n=>let#[o,_,_,_,e,_]:=x;exact ec e
 | ins C l fs=>let#[_,_,_,e,_]:=x;exact ec e
 | own y=>let#[_,e]:=x;exact ec e
 | xd fs=>let#[_,#[_,_,_,e,_],_]:=x;exact ec e
 | rng lo k=>let#[_,_,_,e]:=x;exact ec e
 | frz j u=>let#[e,_]:=x;exact ec e
 | tbl i=>let#[_,_,_,_,e,_]:=x;exact ec e
 | cod c q=>let#[#[_,e],_]:=x;exact ec e
 | met f y=>exact ec (show h.get? a=some _ from x)
 | ext g=>let#[_,#[_,e],_]:=x;exact ec e
theorem Paired.Lz{g e:Type}{F G:g->e->Prop}:∀ {d:List g} {c:List e},Paired F d c->(∀ a b,F a b->G a b)->Paired G d c
 | _,_,.nil,_=>.nil
 | _,_,.cons r t,f=>.cons (f _ _ r) (Paired.Lz t f)
theorem b8.pQ(x:b8 P w H h a o)(k:∀ b u,(b=a\/H b=some (.own a))->h.get? b=some u->h'.get? b=some u)(L:∀ b,H b=some (.own a)->H' b=some (.own a))(K:∀ b xs,H b=some (.tup xs)->H' b=some (.tup xs))(E:∀ b o m,H b=some (.frz o (.ext m))->H' b=some (.frz o (.ext m)):=by first | exact λ_ _ _ q=>q | (intro c o u q;rw[_root_._2.ao (_root_._2.aV q (by assumption))];exact q)):b8 P w H' h' a o:=by
 induction o with
 | lst xs=>let#[z,l,n,r,e]:=x;exact#[z,l,n,r,k _ _ (.inl rfl) e]
 | tup xs=>let#[z,l,r,g,e,c]:=x;exact#[z,l,r,g,k _ _ (.inl rfl) e,c]
 | dK B=>let#[z,y,F,r,g,i,j,e,c]:=x;exact#[z,y,F,r,g,i,j,k _ _ (.inl rfl) e,c]
 | dT B=>
  let#[z,y,xs,r,g,i,j,e,c]:=x;exact#[z,y,xs,Paired.Lz r λp q z=>#[z.1,K _ _ z.2.1,z.2.2],g,i,j,k _ _ (.inl rfl) e,c]
 | set S n=>let#[g,i,j,t,e,c]:=x;exact#[g,i,j,t,k _ _ (.inl rfl) e,c]
 | ins C T fs=>
  let#[d,z,I,e,A,#[s,i,j,D,c],r]:=x;exact#[L _ d,z,I,k _ _ (.inl rfl) e,A,#[s,i,j,k _ _ (.inr d) D,c],r]
 | own y=>let#[g,e]:=x;exact#[g,k _ _ (.inl rfl) e]
 | xd fs=>let#[A,#[s,i,j,e,c],r]:=x;exact#[A,#[s,i,j,k _ _ (.inl rfl) e,c],r]
 | rng lo R=>let#[t,u,v,e]:=x;exact#[t,u,v,k _ _ (.inl rfl) e]
 | frz g u J=>let#[e,q]:=x;exact#[k _ _ (.inl rfl) e,J q]
 | tbl Q=>let#[q,t,G,O,D,N,M]:=x;exact#[q,t,G,O,k a _ (.inl rfl) D,N,λp v r=>(M p v r).mono E]
 | cod c q=>let#[#[u,e],y]:=x;exact#[#[u,k a _ (.inl rfl) e],y.mono E]
 | met f y=>
  have e:h.get? a=some (Vz (.ref f) (.ref y)):=x;exact k a _ (.inl rfl) e
 | ext m=>let#[p,#[o,e],st]:=x;exact#[st _ _ p λo q=>k _ _ (.inl rfl) q,#[o,k _ _ (.inl rfl) e],st]
theorem HOk.lt(x:HOk P w H h)(e:H a=some o):a < h.objs.size:=(x a o e).lt
theorem HOk.fresh(x:HOk P w H h)(e:h.objs.size<=a):H a=none:=by
 cases q:H a with
 | none=>rfl
 | some u=>exact absurd (da (x.lt q) e) (iD _)
theorem HOk.kept(x:HOk P w H h)(k:∀ b u,h.get? b=some u->h'.get? b=some u):HOk P w H h':=λa o e=>
 (x a o e).pQ (λb u _ q=>k b u q) (λ_ q=>q) λ_ _ q=>q
theorem HOk.laid(x:HOk P w H h)(k:∀ b u,h.get? b=some u->h'.get? b=some u)(i:h.objs.size<=a)(d:b8 P w (upd H a o) h' a o):HOk P w (upd H a o) h':=λb u e=>by
 have f:=x.fresh i;by_cases g:b=a
 .subst g;rw[aw] at e;cases e;exact d
 .rw[ao g] at e;exact(x b u e).pQ (λc v _ q=>k c v q) (λc q=>by rw[ao (aV q f)];exact q) λc j q=>by rw[ao (aV q f)];exact q
end
def Rd (H:Hp)(a:Addr)(u:HO):Prop:=H a=some u\/∃ o,H a=some (.frz o u)
theorem Rd.ok{H:Hp}{h:Heap}{u:HO}(r:Rd H a u)(x:HOk P w H h):b8 P w H h a u:=by
 rcases r with r | ⟨o,r⟩
 .exact x a u r
 .let#[_,q]:=x a _ r;exact q
noncomputable def Mut:Option HO->Prop
 | some (.lst _)=>True
 | some (.dK _)=>True
 | some (.dT _)=>True
 | some (.set _ _)=>True
 | some (.ins _ _ _)=>True
 | some (.ext _)=>True
 | _=>False
section
variable {H:Hp}{h:Heap}{x e:Addr}{o':HO}
theorem HOk.write(ok:HOk P w H h)(f:Mut (H x))(p:e=x\/H e=some (.own x))(k:∀ b u,b≠e->h.get? b=some u->h'.get? b=some u)(m:∃ u,h'.get? e=some u)(l:b8 P w (upd H x o') h' x o'):HOk P w (upd H x o') h':=λb u q=>by
 have d:∀ c y,H c=some (.own y)->c≠x:=λc y r z=>by subst z;rw[r] at f;exact f
 have g:∀ c i,H c=some (.tup i)->c≠x:=λc i r z=>by subst z;rw[r] at f;exact f
 by_cases j:b=x
 .subst j;rw[aw] at q;cases q;exact l
 .rw[ao j] at q;by_cases a:b=e
  .have n:H b=some (.own x):=by
    rcases p with z | z
    .exact absurd (a.trans z) j
    .rw[a];exact z
   rw[q] at n;cases n;let#[v,s]:=m;exact#[v,by rw[a];exact s]
  .refine(ok b u q).pQ (λc v hc r=>k c v ?_ r) (λc r=>by rw[ao (d c b r)];exact r) (λc i r=>by rw[ao (g c i r)];exact r) λc o t r=>by rw[ao (λz=>by subst z;rw[r] at f;exact f)];exact r
   rcases hc with rfl | hc
   .exact a
   .rintro rfl;rcases p with z | z
    .exact d c b hc z
    .rw[hc] at z;cases z;exact j rfl
end
structure Un (fs ex:La0) (H H':Hp) (h h':Heap):Prop where
 keep:∀ b o,h.get? b=some o->H b=none->b∉fs->b∉ex->h'.get? b=some o
 slot:∀ b o,h.get? b=some o->H b=none->b∈fs->b∉ex->∃ sl,h'.get? b=some { o with slots:=sl }
 free:∀ b o,h.get? b=some o->H b=none->b∉ex->H' b=none
 there:∀ b o,h.get? b=some o->b∉ex->∃ o',h'.get? b=some o'
 tups:∀ b xs,H b=some (.tup xs)->H' b=some (.tup xs)
 frzs:∀ b o u,H b=some (.frz o u)->H' b=some (.frz o u)
 tbls:∀ b ps,H b=some (.tbl ps)->∃ more,H' b=some (.tbl (ps++more))
section
variable {fs fs' ex ex':La0}{H H1 H2:Hp}{h h1 h2:Heap}{x e:Addr}{o:HO}
theorem Un.any(u:Un fs ex H H1 h h1){b:Addr}{a:Obj}(q:h.get? b=some a)(n:H b=none)(c:b∉ex):∃ e,h1.get? b=some { a with slots:=e }:=by
 by_cases d:b∈fs
 .exact u.slot b a q n d c
 .exact#[a.slots,u.keep b a q n d c]
theorem Un.kept(k:∀ b u,h.get? b=some u->h'.get? b=some u):Un fs ex H H h h':=
 #[λb a q _ _ _=>k b a q,λb a q _ _ _=>#[a.slots,k b a q],λ_ _ _ n _=>n,λb a q _=>#[a,k b a q],λ_ _ q=>q,λ_ _ _ q=>q,λ_ c q=>#[#[],by rw[q];simp]]
theorem Un.refl:Un fs ex H H h h:=Un.kept λ_ _ q=>q
theorem Un.laid(k:∀ b u,h.get? b=some u->h'.get? b=some u)(e:h.objs.size<=a)(c:H a=none):Un fs ex H (upd H a o) h h' where
 keep:=λb u q _ _ _=>k b u q
 slot:=λb u q _ _ _=>#[u.slots,k b u q]
 free:=λb u q n _=>by rw[ao (gm (da (ec q) e))];exact n
 there:=λb u q _=>#[u,k b u q]
 tups:=λb d q=>by rw[ao (aV q c)];exact q
 frzs:=λb u d q=>by rw[ao (aV q c)];exact q
 tbls:=λb f q=>#[#[],by rw[ao (aV q c),q];simp]
theorem Un.write(a:Mut (H x))(m:e=x\/H e=some (.own x))(k:∀ b u,b≠e->h.get? b=some u->h'.get? b=some u)(l:∃ u,h'.get? e=some u):Un fs ex H (upd H x o) h h':=by
 have f:∀ b,H b=none->b≠x:=λb n z=>by subst z;rw[n] at a;exact a
 have g:∀ b,H b=none->b≠e:=λb n z=>by
  subst z;rcases m with r | r
  .exact f b n r
  .grind
 have c:∀ b u,H b=some u->¬ Mut (some u)->b≠x:=λb u q j z=>by subst z;rw[q] at a;exact j a
 refine#[λb u q n _ _=>k b u (g b n) q,λb u q n _ _=>#[u.slots,k b u (g b n) q],λb u q n _=>by rw[ao (f b n)];exact n,λb u q _=>?_,
  λb i q=>by rw[ao (c b _ q λz=>z)];exact q,λb u i q=>by rw[ao (c b _ q λz=>z)];exact q,λb p q=>#[#[],by rw[ao (c b _ q λz=>z),q];simp]]
 by_cases d:b=e
 .simp_all
 .exact#[u,k b u d q]
end
noncomputable def IL (g h:Heap)(L:Addr):Pn0:=(hV h.objs.size).filterMap λa=>if a=L\/(g.get? a).isSome=true then none else (h.get? a).map λo=>(a,o)
noncomputable def rest (g h:Heap)(L d:Addr):Pn0:=(IL g h L).filter λp=>decide (p.1≠d)
structure Mod (K:Fg0) (mg:SV) (base:Heap):Prop where
 kin:K.In base
 glob:base.Ns eW mg
 blt:∃ mb,base.Ns SA mb/\∀ x:Str,x≠"__name__"->mb x=xa x
 nolimit:base.NoLimit
 bm:∃ bm ob,mg "__builtins__"=some (.ref bm)/\bm≠SA/\base.get? bm=some ob/\ob.cls=.type "module"/\ob.dict=some SA/\ob.data=.plain
set_option genInjectivity false in
structure Cx where
 prog:vn
 w:World
 K:Fg0
 mg:Str->Option Value
 base:Heap
 A:Around
 N:Ls0
 av:Shared
 ax:Hp
 env:Env
 outer:List Env
 stack:List Env
 ex:La0
 fn:Str->Bool
 calm:Bool
 pn:Pn0
 xe:Value->Shared->Prop
noncomputable def frs (l:List Env):La0:=l.filterMap (·.frame)
noncomputable abbrev Cx.fs (X:Cx):La0:=frs X.outer
def Vis (a:Scope)(x:Str):Prop:=a.names.lookup x=some .local\/a.names.lookup x=some .cell\/a.names.lookup x=some .free
def Loc (a:Scope)(x:Str):Prop:=a.names.lookup x=some .local\/a.names.lookup x=some .cell
def Look (a:Env)(h:Heap)(m:SV)(x:Str)(u:Value):Prop:=
 (a.kindOf x=some .local/\m x=some u)\/((a.kindOf x=some .cell\/a.kindOf x=some .free)/\∃ c,a.cells.lookup x=some c/\h.IsCell c (some u))
def Kpt (H:Hp)(b:Addr)(o:Obj):Prop:=H b=none\/((∃ u,H b=some (.frz o u))/\∀ v,o.data≠.cell v)
def xj (base:Heap)(P:Addr)(q:Str):Prop:=base.objs[P]?=some { cls:=.str q 0,data:=.freed }
def TabsAt (base:Heap)(H:Hp):Prop:=∀ P q,xj base P q->∃ ps t,H P=some (.tbl ps)/\ps[0]?=some (.str q t)
structure Cx.Ok (X:Cx):Prop where
 mod:Mod X.K X.mg X.base
 kind:X.env.scope.kind=.function
 glob:X.env.globals=eW
 blt:X.env.builtins=SA
 above:X.av.heap.objs.size<=X.env.locals
 inj:∀ x y c,X.env.cells.lookup x=some c->X.env.cells.lookup y=some c->x=y
 has:∀ x,(X.env.kindOf x=some .cell\/X.env.kindOf x=some .free)->∃ c,X.env.cells.lookup x=some c
 cab:∀ x c,X.fn x=true->X.env.cells.lookup x=some c->X.av.heap.objs.size<=c
 hd:X.calm=true->X.A.handled=none
 frames:X.A.frames=some X.stack
 stk:X.stack=X.outer\/(X.stack=X.env::X.outer/\X.env.frame=some X.env.locals)
 exf:∀ b∈X.ex,b≠X.env.locals/\∀ x c,X.env.cells.lookup x=some c->c≠b
 bs:∀ b o,X.base.get? b=some o->X.av.heap.get? b=some o/\Kpt X.ax b o
 bsz:X.base.objs.size<=X.av.heap.objs.size
 noex:∀ b o,X.base.get? b=some o->b∉X.ex
 exfs:∀ b∈X.ex,b∉X.fs
 kC:X.av.heap.FunFrames X.base X.outer
 frf:∀ b∈X.fs,X.ax b=none
 tb:TabsAt X.base X.ax
structure Inv (X:Cx) (pins:Pn0) (σ:List (Option V)) (H:Hp) (s:Shared):Prop where
 ok:X.Ok
 os:s.os=X.av.os
 bare:Sd s.gens
 base:Un X.fs X.ex X.ax H X.av.heap s.heap
 loc:∃ m,s.heap.Ns X.env.locals m/\∀ (i:Nat) (x:Str) (v:V),X.N[i]?=some x->σ[i]?=some (some v)->Vis X.env.scope x->∃ u,RelV v u/\Look X.env s.heap m x u
 cell:∀ x c,X.env.cells.lookup x=some c->∃ v,s.heap.IsCell c v
 free:H X.env.locals=none
 freeC:∀ x c,X.env.cells.lookup x=some c->H c=none
 pin:∀ p∈X.pn++pins,s.heap.get? p.1=some p.2/\H p.1=none/\p.1≠X.env.locals/\p.1∉X.fs/\∀ v,p.2.data≠.cell v
 hok:HOk X.prog X.w H s.heap
 len:σ.length=X.N.length
section
variable {X:Cx}{pins:Pn0}{σ:List (Option V)}{H H':Hp}{s:Shared}
theorem Cx.Ok.Qj(ok:X.Ok){b:Addr}{o:Obj}(e:X.base.get? b=some o):b∉X.fs:=λa=>by
 have:=(ok.kC.mem a).1;rw[e] at this;cases this
theorem Inv.bs(I:Inv X pins σ H s):∀ b o,X.base.get? b=some o->s.heap.get? b=some o/\Kpt H b o:=λb o e=>by
 obtain⟨c,a | ⟨⟨u,a⟩,d⟩⟩:=I.ok.bs b o e
 .exact#[I.base.keep b o c a (I.ok.Qj e) (I.ok.noex b o e),.inl (I.base.free b o c a (I.ok.noex b o e))]
 .have q:=I.base.frzs b o u a;let#[z,_]:=I.hok b _ q;exact#[z,.inr #[#[u,q],d]]
theorem TabsAt.un{base:Heap}{fs c:La0}{H H':Hp}{h:Heap}(x:TabsAt base H)(u:Un fs c H H' h h'):TabsAt base H':=λP q r=>by
 let#[b,t,e,a]:=x P q r;let#[m,d]:=u.tbls P b e;exact#[_,t,d,by rw[Array.getElem?_append_left (by let#[z,_]:=tq.mp a;exact z)];exact a]
theorem Inv.tb(I:Inv X pins σ H s):TabsAt X.base H:=I.ok.tb.un I.base
theorem Inv.bk(I:Inv X pins σ H s):∀ b o,X.base.get? b=some o->s.heap.get? b=some o:=λb o e=>(I.bs b o e).1
theorem Inv.mod(I:Inv X pins σ H s):Mod X.K X.mg X.base:=I.ok.mod
theorem Inv.kIn(I:Inv X pins σ H s):X.K.In s.heap:=I.ok.mod.kin.keeps I.bk
theorem Inv.lt(I:Inv X pins σ H s):X.env.locals < s.heap.objs.size:=let ⟨_,a,_⟩:=I.loc;a.lt
theorem Inv.sz(I:Inv X pins σ H s):X.av.heap.objs.size<=s.heap.objs.size:=eH I.ok.above (Fn I.lt)
theorem Inv.Qi(I:Inv X pins σ H s)(h:s.heap.objs.size<=a):a∉X.fs:=λc=>by
 let#[_,o,b,_]:=I.ok.kC.mem c;exact absurd (da (ec b) (eH I.sz h)) (iD _)
theorem Inv.cne(I:Inv X pins σ H s):∀ x c,X.env.cells.lookup x=some c->c≠X.env.locals:=λx c e z=>by
 let#[v,o,b,hd]:=I.cell x c e;let#[m,#[f,g,h,a,d,_],_]:=I.loc;rw[z,a] at b;grind
theorem Inv.kC(I:Inv X pins σ H s):s.heap.FunFrames X.base X.outer:=by
 have all:∀ (l:List Env),(∀ b∈frs l,b∈X.fs)->X.av.heap.FunFrames X.base l->s.heap.FunFrames X.base l:=by
  intro l
  induction l with
  | nil=>intro _ _;trivial
  | cons k r f=>
   intro hs j;let#[hk,#[L,o,a,i,h,hd],g]:=j;have d:L∈X.fs:=hs L (by delta frs;rw[SZ,a];exact nA);let#[m,e]:=I.base.slot L o h (I.ok.frf L d) d λz=>I.ok.exfs L z d;exact#[hk,#[L,_,a,i,e,hd],f (λb c=>hs b (by delta frs;rw[SZ,a];exact ei _ c)) g]
 exact all X.outer (λ_ c=>c) I.ok.kC
theorem Inv.stack(I:Inv X pins σ H s):s.heap.FunFrames X.base X.stack:=by
 rcases I.ok.stk with e | ⟨e,b⟩
 .rw[e];exact I.kC
 .rw[e];let#[m,a,_]:=I.loc;refine .cons (by rw[I.ok.kind];decide) b a ?_ I.kC;exact Heap.get?_none_of_le (eH I.ok.bsz I.ok.above)
theorem Inv.vT(I:Inv X pins σ H s):∀ b∈frs X.stack,b∈X.env.locals::X.fs:=λb a=>by
 rcases I.ok.stk with e | ⟨e,c⟩
 .rw[e] at a;exact ei _ a
 .rw[e] at a;delta frs at a;rw[SZ,c] at a;exact a
theorem Inv.vU(I:Inv X pins σ H s):∀ b∈frs X.stack,H b=none:=λb hb=>by
 rcases cm.mp (I.vT b hb) with e | hb
 .rw[e];exact I.free
 .let#[_,o,a,_]:=I.ok.kC.mem hb;exact I.base.free b o a (I.ok.frf b hb) λz=>I.ok.exfs b z hb
theorem Inv.step(I:Inv X pins σ H s)(j:∀ b∈ch,(b∈X.ex\/X.av.heap.objs.size<=b)/\b≠X.env.locals/\(∀ x c,X.env.cells.lookup x=some c->c≠b)/\∀ p∈X.pn++pins,p.1≠b)(h:∀ b o,b≠X.env.locals->b∉X.fs->b∉ch->s.heap.get? b=some o->H b=none->h'.get? b=some o)(A:∀ b o,b≠X.env.locals->b∈X.fs->b∉ch->s.heap.get? b=some o->H b=none->∃ M,h'.get? b=some { o with slots:=M })(f:∀ b o,b∉ch->s.heap.get? b=some o->H b=none->H' b=none)(B:∀ b o,b∉ch->s.heap.get? b=some o->∃ o',h'.get? b=some o')(E:∀ b xs,H b=some (.tup xs)->H' b=some (.tup xs))(J:∀ b o u,H b=some (.frz o u)->H' b=some (.frz o u))(F:∀ b ps,H b=some (.tbl ps)->∃ more,H' b=some (.tbl (ps++more)))(ns:∀ m,s.heap.Ns X.env.locals m->h'.Ns X.env.locals m)(N:HOk X.prog X.w H' h')(V:Sd g') :
  Inv X pins σ H' { s with heap:=h',gens:=g',drawn:=d',toks:=t' }:=by
 have G:∀ b o,X.av.heap.get? b=some o->b≠X.env.locals:=λb o e=>gm (da (ec e) I.ok.above);have w:∀ b o,X.av.heap.get? b=some o->b∉X.ex->b∉ch:=λb o e a C=>by
  rcases(j b C).1 with z | z
  .exact a z
  .exact absurd (da (ec e) z) (iD _)
 have t:∀ x c,X.env.cells.lookup x=some c->∀ v,s.heap.IsCell c v->h'.IsCell c v:=λx c e v Z=>by
  let#[o,D,hd]:=Z;have g:c∉ch:=λz=>(j c z).2.2.1 x c e rfl;by_cases R:c∈X.fs
  .let#[M,q]:=A c o (I.cne x c e) R g D (I.freeC x c e);exact#[_,q,hd]
  .exact#[o,h c o (I.cne x c e) R g D (I.freeC x c e),hd]
 refine#[I.ok,I.os,V,#[λb o e n C a=>?_,λb o e n C a=>?_,λb o e n a=>?_,λb o e a=>?_,λb xs e=>E b xs (I.base.tups b xs e),λb o xs e=>J b o xs (I.base.frzs b o xs e),λb ps e=>?_],?_,λx c e=>?_,?_,λx c e=>?_,λp Q=>?_,N,I.len]
 .exact h b o (G b o e) C (w b o e a) (I.base.keep b o e n C a) (I.base.free b o e n a)
 .let#[M,y]:=I.base.slot b o e n C a;let#[L,K]:=A b _ (G b o e) C (w b o e a) y (I.base.free b o e n a);exact#[L,K]
 .let#[o',y]:=I.base.there b o e a;exact f b o' (w b o e a) y (I.base.free b o e n a)
 .let#[o',y]:=I.base.there b o e a;exact B b o' (w b o e a) y
 .let#[m1,y]:=I.base.tbls b ps e;let#[S,K]:=F b _ y;exact#[m1++S,by rw[K,Vk]]
 .let#[m,T,U]:=I.loc;refine#[m,ns m T,λi x v y K W=>?_];let#[u,r,l]:=U i x v y K W;refine#[u,r,?_];rcases l with l | ⟨k,c,e,z⟩
  .exact .inl l
  .exact .inr #[k,c,e,t x c e _ z]
 .let#[v,z]:=I.cell x c e;exact#[v,t x c e v z]
 .let#[m,#[o,_,_,D,_],_]:=I.loc;exact f _ o (λz=>(j _ z).2.1 rfl) D I.free
 .let#[v,o,D,hd]:=I.cell x c e;exact f c o (λz=>(j c z).2.2.1 x c e rfl) D (I.freeC x c e)
 .let#[e,n,P,O,d]:=I.pin p Q;have g:p.1∉ch:=λz=>(j p.1 z).2.2.2 p Q rfl;exact#[h p.1 p.2 P O g e n,f p.1 p.2 g e n,P,O,d]
theorem Inv.un(I:Inv X pins σ H s)(u:Un X.fs [] H H' s.heap h')(c:HOk X.prog X.w H' h'):Inv X pins σ H' { s with heap:=h',toks:=t' }:=by
 let#[m,#[o,t,v,h,r],_]:=id I.loc;let#[l,k]:=u.any h I.free (by simp);exact I.step (g':=s.gens) (d':=s.drawn) (ch:=[]) (λ_ z=>nomatch z) (λb o _ d _ e n=>u.keep b o e n d (by simp)) (λb o _ d _ e n=>u.slot b o e n d (by simp)) (λb o _ e n=>u.free b o e n (by simp)) (λb o _ e=>u.there b o e (by simp)) u.tups u.frzs u.tbls (λq j=>by
  let#[p,f,g,a,i]:=j;rw[h] at a;cases a;exact#[_,f,g,k,i]) c I.bare
theorem Inv.call(I:Inv X pins σ H s)(u:Un (frs X.stack) ch H H' s.heap h')(g:HOk X.prog X.w H' h')(t:Sd g')(f:∀ b∈ch,(b∈X.ex\/X.av.heap.objs.size<=b)/\b≠X.env.locals/\(∀ x c,X.env.cells.lookup x=some c->c≠b)/\∀ p∈X.pn++pins,p.1≠b) :
  Inv X pins σ H' { s with heap:=h',gens:=g',drawn:=d',toks:=t' }:=by
 let#[m,#[o,B,C,k,r],_]:=id I.loc;let#[w,h]:=u.any k I.free λz=>(f _ z).2.1 rfl;exact I.step (ch:=ch) f (λb o h v a e n=>u.keep b o e n (λz=>(cm.mp (I.vT b z)).elim h v) a) (λb o _ _ a e n=>u.any e n a) (λb o a e n=>u.free b o e n a) (λb o a e=>u.there b o e a) u.tups u.frzs u.tbls (λA q=>by
  let#[y,i,j,d,l]:=q;rw[k] at d;cases d;exact#[_,i,j,h,l]) g t
theorem Inv.turned{it:Addr}(I:Inv X pins σ H s)(k:∀ b o,b≠it->s.heap.get? b=some o->h'.get? b=some o)(h:H it=none)(f:it≠X.env.locals)(h1:it∈X.ex\/X.av.heap.objs.size<=it)(t:∀ x c,X.env.cells.lookup x=some c->c≠it)(l:∀ p∈X.pn++pins,p.1≠it):Inv X pins σ H { s with heap:=h',toks:=t' }:=by
 have d:∀ b u,H b=some u->b≠it:=λb u e z=>by rw[z,h] at e;cases e
 refine I.step (g':=s.gens) (d':=s.drawn) (ch:=[it]) (λb j=>?_) (λb o _ _ a e _=>k b o (λz=>a (by simp -iota [z])) e) (λb o _ _ a e _=>#[o.slots,k b o (λz=>a (by simp -iota [z])) e]) (λ_ _ _ _ n=>n)
  (λb o a e=>#[o,k b o (λz=>a (by simp -iota [z])) e]) (λ_ _ e=>e) (λ_ _ _ e=>e) (λb A e=>#[#[],by rw[e];simp]) (λm i=>?_) (λb u e=>?_) I.bare
 .have e:b=it:=by simpa using j
  subst e;exact#[h1,f,t,l]
 .let#[o,w,y,g,r]:=i;exact#[o,w,y,k _ o (lj f) g,r]
 .refine(I.hok b u e).pQ (λc v a q=>k c v ?_ q) (λ_ q=>q) λ_ _ q=>q;rcases a with z | z
  .rw[z];exact d b u e
  .exact d c _ z
theorem Inv.tok(I:Inv X pins σ H s)(t:Nat):Inv X pins σ H { s with toks:=t }:=I.un (h':=s.heap) (t':=t) Un.refl I.hok
theorem Inv.kept(I:Inv X pins σ H s)(k:∀ b u,s.heap.get? b=some u->h'.get? b=some u):Inv X pins σ H { s with heap:=h',toks:=t' }:=I.un (Un.kept k) (I.hok.kept k)
theorem Inv.laid{o:HO}(I:Inv X pins σ H s)(k:∀ b u,s.heap.get? b=some u->h'.get? b=some u)(d:s.heap.objs.size<=a)(c:b8 X.prog X.w (upd H a o) h' a o) :
  Inv X pins σ (upd H a o) { s with heap:=h',toks:=t' }:=I.un (Un.laid k d (I.hok.fresh d)) (I.hok.laid k d c)
theorem Inv.write{x e:Addr}{o:HO}(I:Inv X pins σ H s)(d:Mut (H x))(f:e=x\/H e=some (.own x))(k:∀ b u,b≠e->s.heap.get? b=some u->h'.get? b=some u)(a:∃ u,h'.get? e=some u)(c:b8 X.prog X.w (upd H x o) h' x o):Inv X pins σ (upd H x o) { s with heap:=h',toks:=t' }:=I.un (Un.write d f k a) (I.hok.write d f k a c)
theorem Inv.l9{a:Pn0}(I:Inv X pins σ H s)(h:∀ p∈a,s.heap.get? p.1=some p.2/\H p.1=none/\p.1≠X.env.locals/\p.1∉X.fs/\∀ v,p.2.data≠.cell v):Inv X a σ H s:=
 #[I.ok,I.os,I.bare,I.base,I.loc,I.cell,I.free,I.freeC,λp b=>(gs.mp b).elim (λz=>I.pin p (oD _ z)) (h p),I.hok,I.len]
theorem sY{N:Ls0}(c:N.Nodup){j:Nat}{x:Str}(a:N[i]?=some x)(b:N[j]?=some x):i=j:=by
 let#[g,e]:=gS0 a;let#[f,d]:=gS0 b;exact(List.getElem_inj c).mp (e.trans d.symm)
theorem uP{x:Str}{v:V}{Q:Unit->Shared->Prop}(I:Inv X pins σ H s)(hN:X.N.Nodup)(hi:X.N[i]?=some x)(l:Loc X.env.scope x)(r:RelV v u)(h:∀ s',Inv X pins (σ.set i (some v)) H s'->(∃ a,Se a s.heap s'.heap/\(a=X.env.locals\/X.env.cells.lookup x=some a))->Q () s')(hf:autoParam (X.fn x=true\/X.env.scope.names.lookup x=some .local) wq0):wpAny M A (Xc X.env x u) Q E s:=by
 let#[m,hn,hl]:=id I.loc;have L:(X.env.scope.kind == .class || (X.env.scope.kind == .module && X.env.locals != X.env.globals))=false:=by rw[I.ok.kind];rfl
 have B:i < σ.length:=by rw[I.len];exact(gS0 hi).1
 have G:=I.cne;have f:∀ {a:Addr} {h':Heap},(∃ o,s.heap.get? a=some o/\H a=none)->Se a s.heap h'->HOk X.prog X.w H h':=λ{a h'} ha hs b ob e=>by
  let#[_,_,t]:=ha;refine(I.hok b ob e).pQ (λc P hc q=>(hs.2 c ?_).trans q) (λ_ q=>q) λ_ _ q=>q;rintro rfl;rcases hc with rfl | hc
  .rw[t] at e;cases e
  .rw[t] at hc;cases hc
 rcases l with hk | hk
 .refine wpAny_storeName_local hk hn (λh' a2 hs=>?_) L;let#[oL,_,_,a1,_]:=id hn;refine h _ #[I.ok,I.os,I.bare,#[λb o e n F l=>?_,λb o e n F l=>?_,I.base.free,λb o e l=>?_,I.base.tups,I.base.frzs,I.base.tbls],#[_,a2,λj y T g w e3=>?_],λy c e=>?_,I.free,I.freeC,λp hp=>?_,f #[oL,a1,I.free] hs,by simpa using I.len] #[_,hs,.inl rfl]
  .exact(hs.2 b (gm (da (ec e) I.ok.above))).trans (I.base.keep b o e n F l)
  .let#[W,g]:=I.base.slot b o e n F l;exact#[W,(hs.2 b (gm (da (ec e) I.ok.above))).trans g]
  .let#[Z,g]:=I.base.there b o e l;exact#[Z,(hs.2 b (gm (da (ec e) I.ok.above))).trans g]
  .by_cases C:j=i
   .subst C;rw[hi] at g;cases g;rw[Sf B] at w;cases w;exact#[u,r,.inl #[hk,by simp]]
   .rw[SI (lj C)] at w;let#[U,Y,q]:=hl j y T g w e3;refine#[U,Y,?_];rcases q with ⟨k,e⟩ | ⟨k,c,e,z⟩
    .refine .inl #[k,?_];have:y≠x:=λe=>C (sY hN g (e ▸ hi));simp -iota [this,e]
    .exact .inr #[k,c,e,z.sameBut hs (G y c e)]
  .let#[P,z]:=I.cell y c e;exact#[P,z.sameBut hs (G y c e)]
  .let#[e,n,R,nf,d]:=I.pin p hp;exact#[(hs.2 p.1 R).trans e,n,R,nf,d]
 .have D:X.fn x=true:=by
   rcases hf with z | z
   .exact z
   .rw[z] at hk;cases hk
  let#[c,hc]:=I.ok.has x (.inl hk);let#[P,z]:=I.cell x c hc;refine wpAny_storeName_cell I.ok.kind hk hc z (λh' O hs=>?_);let#[oc,K,J]:=id z;refine h { s with heap:=h' } #[I.ok,I.os,I.bare,#[λb o e n F l=>?_,λb o e n F l=>?_,I.base.free,λb o e l=>?_,I.base.tups,I.base.frzs,I.base.tbls],#[m,hn.sameBut hs (lj (G x c hc)),λj y T g w e3=>?_],λy S e=>?_,I.free,I.freeC,λp hp=>?_,f #[oc,K,I.freeC x c hc] hs,by simpa using I.len] #[c,hs,.inr hc]
  .exact(hs.2 b (gm (da (ec e) (I.ok.cab x c D hc)))).trans (I.base.keep b o e n F l)
  .let#[W,g]:=I.base.slot b o e n F l;exact#[W,(hs.2 b (gm (da (ec e) (I.ok.cab x c D hc)))).trans g]
  .let#[Z,g]:=I.base.there b o e l;exact#[Z,(hs.2 b (gm (da (ec e) (I.ok.cab x c D hc)))).trans g]
  .by_cases C:j=i
   .subst C;rw[hi] at g;cases g;rw[Sf B] at w;cases w;exact#[u,r,.inr #[.inl hk,c,hc,O]]
   .rw[SI (lj C)] at w;let#[U,Y,q]:=hl j y T g w e3;refine#[U,Y,?_];rcases q with q | ⟨k,S,e,z'⟩
    .exact .inl q
    .refine .inr #[k,S,e,z'.sameBut hs ?_];rintro rfl;exact C (sY hN g (I.ok.inj _ _ _ e hc ▸ hi))
  .by_cases N:S=c
   .subst N;exact#[_,O]
   .let#[w2,z2]:=I.cell y S e;exact#[w2,z2.sameBut hs N]
  .let#[e,n,R,nf,d]:=I.pin p hp;refine#[(hs.2 p.1 ?_).trans e,n,R,nf,d];intro q;rw[q,K] at e;have q':oc=p.2:=fS e;exact d P (by rw[<- q'];exact J)
theorem n8{x:Str}{v:V}{Q:Unit->Shared->Prop}(I:Inv X pins σ H s)(c:X.N.Nodup)(hi:X.N[i]?=some x)(a:Loc X.env.scope x)(r:RelV v u)(h:∀ s',Inv X pins (σ.set i (some v)) H s'->Q () s')(b:autoParam (X.fn x=true\/X.env.scope.names.lookup x=some .local) wq0):wpAny M A (Xc X.env x u) Q E s:=
 uP I c hi a r (λs' d _=>h s' d) b
theorem Inv.FV{s':Shared}(I:Inv X pins σ H s)(g:s'.os=s.os)(u:Un (frs X.stack) ch H H' s.heap s'.heap)(a:HOk X.prog X.w H' s'.heap)(h:Sd s'.gens)(d:∀ b∈ch,(b∈X.ex\/X.av.heap.objs.size<=b)/\b≠X.env.locals/\(∀ x c,X.env.cells.lookup x=some c->c≠b)/\∀ p∈X.pn++pins,p.1≠b):Inv X pins σ H' s':=by
 let#[i,g',d',t',f]:=s';have e:f=s.os:=g;subst e;exact I.call (g':=g') (t':=t') (d':=d') u a h d
end
abbrev XK:=Value->Option Addr->Hp->Prop
abbrev St:=List (Option V)
abbrev VK:=V->Hp->Prop
abbrev TE:=St->Hp->VK->Prop
abbrev TT:=St->Hp->(Bool->Hp->Prop)->Prop
abbrev TA:=St->Hp->(List V->Hp->Prop)->Prop
set_option genInjectivity false in
structure Ends where
 nx:St->Hp->Prop
 rt:VK
 bk:St->Hp->Prop:=λ_ _=>False
 ct:St->Hp->Prop:=λ_ _=>False
abbrev TS:=Ends->St->Hp->Prop
variable {X:_2.Cx}{e tg:S9}{pos pos' p:Wc}{σ:_2.St}{H:_2.Hp}{Q:Aw×Lv0->Qs->Prop}{v y:_2.V}{ta te:_2.TE}{K:Fg0}{s':Qs}{es:List S9}{k:Nat}{o:Option Aw}{op:Xx}{vs:List _2.V}{fp:La0}{body:List WJ}{R:VA->Qs->Prop}{r:List _2.V->_2.Hp->_2.VK->Prop}{C dx f:Qq}{g:Int->Int->Int}{us:Lv0}{mA mg:SV}{prog:vn}{name m qual:S8}{kw:List (S8×Aw)}{base:Vh}{fd:eK}{ps:Ls0}{outer:List Xd}{gV:List _2.V->List _2.V->List _2.V}{scope:Xy}{osl:Array (Option Aw)}
def EP (X:Cx)(a:Pn0)(σ:St)(Q:VK)(u:Value)(b:Shared):Prop:=∃ v H',Inv X a σ H' b/\RelV v u/\Q v H'
def TP (X:Cx)(a:Pn0)(σ:St)(Q:Bool->Hp->Prop)(b:Bool)(c:Shared):Prop:=∃ H',Inv X a σ H' c/\Q b H'
def AP (X:Cx)(a:Pn0)(σ:St)(Q:List V->Hp->Prop)(us:Lv0)(b:Shared):Prop:=∃ vs H',Inv X a σ H' b/\Vals vs us/\Q vs H'
def SP (X:Cx)(a:Pn0)(D:Ends)(f:Flow)(b:Shared):Prop:=
 match f with
 | .next=>∃ aJ H',Inv X a aJ H' b/\D.nx aJ H'
 | .brk=>∃ aJ H',Inv X a aJ H' b/\D.bk aJ H'
 | .cont=>∃ aJ H',Inv X a aJ H' b/\D.ct aJ H'
 | .ret u=>∃ v aJ H',Inv X a aJ H' b/\RelV v u/\D.rt v H'
def PE (X:Cx)(e:Expr)(t:TE):Prop:=
 ∀ (pins:Pn0) (s:Shared) (σ:St) (H:Hp) (Q:VK),Inv X pins σ H s->t σ H Q->wpAny (model X.prog X.w) X.A (eval e X.env) (EP X pins σ Q) X.xe s
def PT (X:Cx)(e:Expr)(t:TT):Prop:=
 ∀ (pins:Pn0) (s:Shared) (σ:St) (H:Hp) (Q:Bool->Hp->Prop),Inv X pins σ H s->t σ H Q->wpAny (model X.prog X.w) X.A (isTrue e X.env (eval e X.env)) (TP X pins σ Q) X.xe s
def PW (X:Cx)(e:Expr)(t:TT):Prop:=
 ∀ (a:Sem Value) (pins:Pn0) (s:Shared) (σ:St) (H:Hp) (Q:Bool->Hp->Prop),Inv X pins σ H s->t σ H Q->wpAny (model X.prog X.w) X.A (isTrue e X.env a) (TP X pins σ Q) X.xe s
theorem PW.pt{t:TT}(h:PW X e t):PT X e t:=h _
def PA (X:Cx)(a:List Expr)(t:TA):Prop:=
 ∀ (pos:Pos) (pins:Pn0) (s:Shared) (σ:St) (H:Hp) (Q:List V->Hp->Prop),Inv X pins σ H s->t σ H Q->wpAny (model X.prog X.w) X.A (spliced (backTo pos (ed a X.env))) (AP X pins σ Q) X.xe s
def PS (X:Cx)(st:Stmt)(t:TS):Prop:=
 ∀ (pins:Pn0) (s:Shared) (σ:St) (H:Hp) (D:Ends),Inv X pins σ H s->t D σ H->wpAny (model X.prog X.w) X.A (exec st X.env) (SP X pins D) X.xe s
def PSs (X:Cx)(st:List Stmt)(t:TS):Prop:=
 ∀ (pins:Pn0) (s:Shared) (σ:St) (H:Hp) (D:Ends),Inv X pins σ H s->t D σ H->wpAny (model X.prog X.w) X.A (execs st X.env) (SP X pins D) X.xe s
theorem thn{b:Type}{t:Sem b}{Q c:b->Shared->Prop}{s:Shared}(h:wpAny M A t Q E s)(d:∀ a s,Q a s->c a s):wpAny M A t c E s:=Cy h d λ_ _ x=>x
section
def eE (i:Nat):TE:=λσ H Q=>∃ v,σ[i]?=some (some v)/\Q v H
def tC (v:V):TE:=λ_ H Q=>Q v H
abbrev Yk(x:PySem.Str):Prop:=(x == ("__debug__":PySem.Str))=false
theorem i8{x:Str}(p:X.N[i]?=some x)(j:Vis X.env.scope x)(hd:autoParam (Yk x) wP)(d:autoParam ((x == ("__classdict__":Str))=false) wP):PE X (.Name x pos) (eE i):=by
 intro b s g H Q I h;let#[v,e,h]:=h;let#[m,k,o]:=I.loc;let#[u,r,l]:=o i x v p e j;have fin:EP X b g Q u s:=#[v,H,I,r,h];rcases l with ⟨hk,n⟩ | ⟨hk,c,f,a⟩
 .exact WK (UM I.ok.kind hk k n fin) hd
 .rcases hk with hk | hk
  .exact WK (U2 I.ok.kind hk f a fin) hd
  .exact WK (wpAny_loadName_free I.ok.kind hk f a fin d) hd
theorem zC{i j pos}:PE X (.Constant (.int i) j pos) (tC (.int i)):=λ_ _ _ H _ I h=>wpAny_Constant_int #[.int i,H,I.tok _,#[_,rfl],h]
theorem N7{b j pos}:PE X (.Constant (.bool b) j pos) (tC (.bl b)):=λ_ _ _ H _ I h=>Constant_bool #[.bl b,H,I,rfl,h]
theorem K7{j pos}:PE X (.Constant .none j pos) (tC .non):=λ_ _ _ H _ I h=>Constant_none #[.non,H,I,rfl,h]
theorem Ee{x j pos}:PE X (.Constant (.str x) j pos) (tC (.str x)):=λ_ _ _ H _ I h=>Calls.Constant_str #[.str x,H,I.tok _,#[_,rfl],h]
def Gl (X:Cx)(x:Str):Prop:=X.env.kindOf x=some .globalImplicit
theorem gN{a:Pn0}{s:Shared}{x:Str}{Q:VS}(I:Inv X a σ H s)(c:Gl X x)(b:X.mg x=some u)(h:Q u s)(hd:autoParam (Yk x) wP):wpAny (model X.prog X.w) X.A (eval (.Name x pos) X.env) Q E s:=
 Ta I.ok.kind c (Calls.loadGlobal_global (by rw[I.ok.glob];exact I.mod.glob.keeps I.bk) b h) hd
theorem i9{a:Pn0}{s:Shared}{x:Str}{Q:VS}(I:Inv X a σ H s)(e:Gl X x)(d:X.mg x=none)(b:xa x=some u)(h:Q u s)(c:autoParam (x≠"__name__") wP)(hd:autoParam (Yk x) wP):wpAny (model X.prog X.w) X.A (eval (.Name x pos) X.env) Q E s:=by
 let#[i,g,f]:=I.mod.blt;exact Ta I.ok.kind e (Calls.loadGlobal_builtin (by rw[I.ok.glob];exact I.mod.glob.keeps I.bk) d (by rw[I.ok.blt];exact g.keeps I.bk) ((f x c).trans b) h) hd
theorem wt{x:Str}(b:Gl X x)(a:X.mg x=some u)(r:RelV v u)(hd:autoParam (Yk x) wP):PE X (.Name x pos) (tC v):=
 λ_ _ _ H _ I h=>gN I b a #[v,H,I,r,h] hd
theorem HC{x:Str}(d:Gl X x)(c:X.mg x=none)(a:xa x=some u)(r:RelV v u)(b:autoParam (x≠"__name__") wP)(hd:autoParam (Yk x) wP):PE X (.Name x pos) (tC v):=
 λ_ _ _ H _ I h=>i9 I d c a #[v,H,I,r,h] b hd
variable {a b:Expr}{tb:TE}
def tB (t:TE):TT:=λσ H Q=>t σ H λx H1=>∃ c,x=.bl c/\Q c H1
theorem KS{t:TE}(h:PE X e t)(j:autoParam (∀ a,isTrue e X.env a=(do let v <- a;IR e.pos;holding [v] (truthy v))) wT):PT X e (tB t):=by
 intro b s c H Q I i;refine isTrue_plain (thn (h b s c H _ I i) λv m Z=>?_) (j _);let#[x,l,k,f,g]:=Z;let#[d,rfl,q]:=g;cases f;exact Nu #[l,k,q]
variable {tA tB':TT}{rest:List Expr}
def Ks (t u:TT):TT:=λσ H Q=>t σ H λc H1=>if c=true then u σ H1 Q else Q false H1
def tOr (t u:TT):TT:=λσ H Q=>t σ H λc H1=>if c=true then Q true H1 else u σ H1 Q
def Kp (t:TT):TT:=λσ H Q=>t σ H λc H1=>Q (!c) H1
theorem Hh(f:PT X a tA):PW X (.BoolOp .And [a] pos) tA:=by
 intro g b s d H Q I h;refine isTrue_and (thn (f b s d H Q I h) λc i e=>?_);cases c with
 | true=>exact isTrue_and_nil e
 | false=>exact e
theorem KP(f:PT X a tA):PW X (.BoolOp .Or [a] pos) tA:=by
 intro g b s d H Q I h;refine isTrue_or (thn (f b s d H Q I h) λc i e=>?_);cases c with
 | false=>exact isTrue_or_nil e
 | true=>exact e
theorem KQ(m:PT X a tA)(l:PW X (.BoolOp .And (b::rest) pos) tB'):PW X (.BoolOp .And (a::b::rest) pos) (Ks tA tB'):=by
 intro j d s e H Q I h;refine isTrue_and (thn (m d s e H _ I h) λc k Z=>?_);let#[i,g,f]:=Z;cases c with
 | true=>exact l j d k e i Q g f
 | false=>exact#[i,g,f]
theorem N0(m:PT X a tA)(l:PW X (.BoolOp .Or (b::rest) pos) tB'):PW X (.BoolOp .Or (a::b::rest) pos) (tOr tA tB'):=by
 intro j d s e H Q I h;refine isTrue_or (thn (m d s e H _ I h) λc k Z=>?_);let#[i,g,f]:=Z;cases c with
 | true=>exact#[i,g,f]
 | false=>exact l j d k e i Q g f
theorem KU(e:PT X a tA):PT X (.UnaryOp .Not a pos) (Kp tA):=by
 intro b s d H Q I h;exact isTrue_not (e b s d H (λc f=>Q (!c) f) I h)
def Jk (ta a:TE):TE:=λσ H Q=>ta σ H λx H1=>∃ c,x=.bl c/\if c=true then a σ H1 Q else Q (.bl false) H1
def Nx (ta a:TE):TE:=λσ H Q=>ta σ H λx H1=>∃ c,x=.bl c/\if c=true then Q (.bl true) H1 else a σ H1 Q
def Jj (ta:TE):TE:=λσ H Q=>ta σ H λx H1=>∃ c,x=.bl c/\Q (.bl (!c)) H1
theorem K5{op}{t:TE}(h:PE X a t):PE X (.BoolOp op [a] pos) t:=λb s c H Q I d=>BoolOp_one (h b s c H Q I d)
theorem K_(m:PE X a ta)(l:PE X (.BoolOp .And (b::rest) pos) tb):PE X (.BoolOp .And (a::b::rest) pos) (Jk ta tb):=by
 intro d s f H Q I h;refine BoolOp_and (thn (m d s f H _ I h) λv j Z=>?_);let#[x,i,g,k,e]:=Z;let#[c,rfl,e]:=e;cases k;refine Nu ?_;cases c with
 | true=>exact l d j f i Q g e
 | false=>exact#[.bl false,i,g,rfl,e]
theorem N5(m:PE X a ta)(l:PE X (.BoolOp .Or (b::rest) pos) tb):PE X (.BoolOp .Or (a::b::rest) pos) (Nx ta tb):=by
 intro d s f H Q I h;refine BoolOp_or (thn (m d s f H _ I h) λv j Z=>?_);let#[x,i,g,k,e]:=Z;let#[c,rfl,e]:=e;cases k;refine Nu ?_;cases c with
 | false=>exact l d j f i Q g e
 | true=>exact#[.bl true,i,g,rfl,e]
theorem K6(g:PE X a ta):PE X (.UnaryOp .Not a pos) (Jj ta):=by
 intro b s e H Q I h;refine UnaryOp_ (thn (g b s e H _ I h) λv k Z=>?_);let#[x,j,i,f,d]:=Z;let#[c,rfl,d]:=d;cases f;exact not_of (Nu #[.bl (!c),j,i,rfl,d])
def tIf (t:TT)(ta a:TE):TE:=λσ H Q=>t σ H λc H1=>if c=true then ta σ H1 Q else a σ H1 Q
theorem Eh{c:Expr}(l:PT X c tA)(n:PE X a ta)(m:PE X b tb):PE X (.IfExp c a b pos) (tIf tA ta tb):=by
 intro e s f H Q I h;refine wpAny_IfExp (thn (l e s f H _ I h) λd g Z=>?_);let#[k,j,i]:=Z;cases d with
 | true=>exact n e g f k Q j i
 | false=>exact m e g f k Q j i
end
def SqL (K:Fg0)(H:Hp)(a:Addr)(xs:List V):Prop:=
 Rd H a (.lst xs)\/
  ∃ (o:Obj) (its:Array Value) (n:Nat),K.lookup a=some o/\o.cls=.type "list"/\o.dict=none/\o.data=.seq its n/\its.size<=sizeLine/\Vals xs its.toList
def SqT (K:Fg0)(H:Hp)(a:Addr)(xs:List V):Prop:=
 Rd H a (.tup xs)\/
  ∃ (o:Obj) (its:Array Value) (n:Nat),K.lookup a=some o/\o.cls=.type "tuple"/\o.data=.seq its n/\its.size<=sizeLine/\Vals xs its.toList
noncomputable def Q7:Value->Option V
 | .none=>some .non
 | .bool b=>some (.bl b)
 | .int i _=>some (.int i)
 | .str x _=>some (.str x)
 | .ref a=>some (.ref a)
 | .type n=>some (.ty n)
 | _=>none
theorem RelV.abs{x:V}(r:RelV x u):Q7 u=some x:=by
 cases x with
 | non=>cases r;rfl
 | bl _=>cases r;rfl
 | int _=>let#[t,rfl]:=r;rfl
 | str _=>let#[t,rfl]:=r;rfl
 | ref _=>cases r;rfl
 | ty _=>cases r;rfl
theorem RelV.inj{x:V}(r:RelV x u)(q:RelV y u):x=y:=fS (r.abs.symm.trans q.abs)
theorem Vals.inj:∀ {xs ys:List V} {us:Lv0},Vals xs us->Vals ys us->xs=ys
 | _,_,_,.nil,.nil=>rfl
 | _,_,_,.cons r t,.cons b a=>by rw[r.inj b,Vals.inj t a]
section
variable {pins:Pn0}{s:Shared}{xs ys:List V}
theorem SqL.of(h:H a=some (.lst xs)):SqL K H a xs:=.inl (.inl h)
theorem Inv.list(I:Inv X pins σ H s)(h:SqL X.K H a xs):∃ its:Lv0,Vals xs its/\PlainL s.heap a its.toArray/\xs.length<=sizeLine:=by
 rcases h with h | ⟨o,its,n,hk,b,hd,hs,c,r⟩
 .let#[z,its,n,r,e]:=h.ok I.hok;exact#[its,r,#[_,n,e,rfl,rfl,rfl],z]
 .refine#[its.toList,r,#[o,n,I.kIn a o hk,b,hd,by simpa using hs],?_];have e:=r.length;simp -iota only[mu] at e;lia
theorem Inv.tuple(I:Inv X pins σ H s)(h:SqT X.K H a xs):∃ its:Lv0,Vals xs its/\IsTup s.heap a its.toArray/\xs.length<=sizeLine:=by
 rcases h with h | ⟨o,its,n,hk,b,hs,c,r⟩
 .let#[z,its,r,p]:=h.ok I.hok;exact#[its,r,p,z]
 .refine#[its.toList,r,#[o,I.kIn a o hk,b,n,by simpa using hs],?_];have e:=r.length;simp -iota only[mu] at e;lia
theorem Inv.yd(I:Inv X pins σ H s)(h:SqL X.K H a xs)(h':SqL X.K H a ys):xs=ys:=by
 let#[b,r,#[o,n,e,_,_,d],_]:=I.list h;let#[its',g,#[j,k,c,_,_,f],_]:=I.list h';rw[e] at c;cases c;rw[d] at f;injection f with i _
 have:b=its':=by simpa using congrArg Xl i
 subst this;exact r.inj g
theorem Inv.B_(I:Inv X pins σ H s)(h:SqT X.K H a xs)(h':SqT X.K H a ys):xs=ys:=by
 let#[b,r,#[o,e,_,n,d],_]:=I.tuple h;let#[its',g,#[j,c,_,k,f],_]:=I.tuple h';rw[e] at c;cases c;rw[d] at f;injection f with i _
 have:b=its':=by simpa using congrArg Xl i
 subst this;exact r.inj g
end
noncomputable abbrev Cx.nX (X:Cx)(E:VS):Cx:={ X with xe:=E }
noncomputable abbrev Cx.nox (X:Cx):Cx:=X.nX λ_ _=>False
theorem Cx.Ok.nX(ok:X.Ok)(E:VS):(X.nX E).Ok:=
 #[ok.mod,ok.kind,ok.glob,ok.blt,ok.above,ok.inj,ok.has,ok.cab,ok.hd,ok.frames,ok.stk,ok.exf,ok.bs,ok.bsz,ok.noex,ok.exfs,ok.kC,ok.frf,ok.tb]
theorem Cx.Ok.fu(ok:(X.nX E).Ok):X.Ok:=
 #[ok.mod,ok.kind,ok.glob,ok.blt,ok.above,ok.inj,ok.has,ok.cab,ok.hd,ok.frames,ok.stk,ok.exf,ok.bs,ok.bsz,ok.noex,ok.exfs,ok.kC,ok.frf,ok.tb]
section
variable {pins:Pn0}{s:Shared}
theorem Inv.nX(I:Inv X pins σ H s)(E:VS):Inv (X.nX E) pins σ H s:=#[I.ok.nX E,I.os,I.bare,I.base,I.loc,I.cell,I.free,I.freeC,I.pin,I.hok,I.len]
theorem Inv.fu(I:Inv (X.nX E) pins σ H s):Inv X pins σ H s:=#[I.ok.fu,I.os,I.bare,I.base,I.loc,I.cell,I.free,I.freeC,I.pin,I.hok,I.len]
theorem SP.fu{D:Ends}{f:Flow}(h:SP (X.nX E) pins D f s'):SP X pins D f s':=by
 cases f with
 | next=>let#[a,b,I,q]:=h;exact#[a,b,I.fu,q]
 | brk=>let#[a,b,I,q]:=h;exact#[a,b,I.fu,q]
 | cont=>let#[a,b,I,q]:=h;exact#[a,b,I.fu,q]
 | ret u=>let#[v,a,b,I,r,q]:=h;exact#[v,a,b,I.fu,r,q]
theorem PSs.nox{st:List Stmt}{t:TS}(h:PSs X.nox st t):PSs X st t:=λa s b H D I c=>
 Cy (h a s b H D (I.nX _) c) (λ_ _ q=>q.fu) λ_ _ z=>mC z
end
section
variable {st:Stmt}{rest:List Stmt}{t u:TS}
def DB:TS:=λD σ H=>D.nx σ H
def Ca (t u:TS):TS:=λD σ H=>t { D with nx:=u D } σ H
theorem A8:PSs X [] DB:=λ_ _ a H _ I h=>SU #[a,H,I,h]
theorem jj(h1:PS X st t)(e:PSs X rest u):PSs X (st::rest) (Ca t u):=by
 intro a s c H D I h;refine Wd (thn (h1 a s c H { D with nx:=u D } I h) λf d q=>?_);cases f with
 | next=>
  let#[b,i,g,q]:=q;exact e a d b i D g q
 | ret v=>exact q
 | brk=>exact q
 | cont=>exact q
theorem l7(h1:PS X st t):PSs X [st] t:=by
 intro a s b H D I h;refine Wd (thn (h1 a s b H D I h) λf c q=>?_);cases f with
 | next=>exact SU q
 | ret v=>exact q
 | brk=>exact q
 | cont=>exact q
theorem Inv.quiet{a:Pn0}{s:Shared}(I:Inv X a σ H s):interactive X.env=false:=by simp -iota [interactive,I.ok.kind]
def DF (te:TE):TS:=λD σ H=>te σ H λ_ H1=>D.nx σ H1
theorem rm(d:PE X e te)(hs:autoParam (Do e none pos.line X.env=pure false) wE):PS X (.Expr e pos) (DF te):=by
 intro a s b H D I h;exact wpAny_Expr_any (thn (d a s b H _ I h) λv i ⟨x,g,f,j,c⟩=>#[b,g,f,c]) I.quiet hs
def GR (te:TE):TS:=λD σ H=>te σ H D.rt
theorem zu(f:PE X e te):PS X (.Return (some e) pos) (GR te):=by
 intro a s b H D I h;exact wpAny_Return_some (thn (f a s b H _ I h) λv j ⟨x,i,g,c,d⟩=>#[x,b,i,g,c,d])
def GS (c:TT)(t u:TS):TS:=λD σ H=>c σ H λb H1=>if b=true then t D σ H1 else u D σ H1
theorem D8{c:Expr}{a b:List Stmt}{g:TT}(m:PT X c g)(o:PSs X a t)(n:PSs X b u):PS X (.If c a b pos) (GS g t u):=by
 intro e s f H D I h;refine wpAny_If (thn (m e s f H _ I h) λd i Z=>?_);let#[l,k,j]:=Z;cases d with
 | true=>exact o e i f l D k j
 | false=>exact n e i f l D k j
def DC:TS:=λ_ _ _=>False
theorem D7:PS X st DC:=λ_ _ _ _ _ _ h=>h.elim
end
abbrev TG:=V->St->Hp->(St->Hp->Prop)->Prop
abbrev TGs:=List V->St->Hp->(St->Hp->Prop)->Prop
def PG (X:Cx)(a:Expr)(t:TG):Prop:=
 ∀ (pins:Pn0) (s:Shared) (σ:St) (H:Hp) (v:V) (u:Value) (Q:St->Hp->Prop),Inv X pins σ H s->RelV v u->t v σ H Q->
  wpAny (model X.prog X.w) X.A (assign a X.env u) (λ_ s'=>∃ aJ H',Inv X pins aJ H' s'/\Q aJ H') X.xe s
def PGs (X:Cx)(ts:List Expr)(t:TGs):Prop:=
 ∀ (pins:Pn0) (s:Shared) (σ:St) (H:Hp) (vs:List V) (us:Lv0) (Q:St->Hp->Prop),Inv X pins σ H s->Vals vs us->t vs σ H Q->
  wpAny (model X.prog X.w) X.A (assignInOrder ((qd ts X.env).map (·.2)) us) (λ_ s'=>∃ aJ H',Inv X pins aJ H' s'/\Q aJ H') X.xe s
noncomputable abbrev MV:=V->V->V->Hp->(Hp->Prop)->Prop
def PY (X:Cx)(t:MV):Prop:=
 ∀ (pins:Pn0) (s:Shared) (σ:St) (H:Hp) (o i v:V) (a b u:Value) (Q:Hp->Prop),Inv X pins σ H s->RelV o a->RelV i b->RelV v u->t o i v H Q->
  wpAny (model X.prog X.w) X.A (VB a b u) (λ_ s'=>∃ H',Inv X pins σ H' s'/\Q H') X.xe s
abbrev TIp:=V->V->Hp->VK->Prop
def PIp (X:Cx)(op:WL)(t:TIp):Prop:=
 ∀ (pins:Pn0) (s:Shared) (σ:St) (H:Hp) (x y:V) (v u:Value) (Q:VK),Inv X pins σ H s->RelV x v->RelV y u->t x y H Q->
  wpAny (model X.prog X.w) X.A (Xe op v u) (EP X pins σ Q) X.xe s
def dE (i:Nat):TG:=λv σ H Q=>Q (σ.set i (some v)) H
theorem aq{x:Str}(d:X.N.Nodup)(hi:X.N[i]?=some x)(b:Loc X.env.scope x)(c:autoParam (X.fn x=true\/X.env.scope.names.lookup x=some .local) wq0):PG X (.Name x pos) (dE i):=by
 intro a s f H v u Q I r h;exact VC (n8 I d hi b r (λg e=>#[_,H,e,h]) c)
def Ij:TGs:=λvs σ H Q=>vs=[]/\Q σ H
def yq (t:TG)(u:TGs):TGs:=λvs σ H Q=>∃ v r,vs=v::r/\t v σ H λaJ H'=>u r aJ H' Q
theorem aO:PGs X [] Ij:=by
 intro a s b H c d Q I r h;let#[e,h]:=h;subst e;cases r;exact assignInOrder_nil #[b,H,I,h]
theorem aj{t:TG}{u:TGs}(h1:PG X e t)(i:PGs X es u)(hs:autoParam ((qd (e::es) X.env).map (·.2)=assign e X.env::(qd es X.env).map (·.2)) wE):PGs X (e::es) (yq t u):=by
 intro a s c H m o Q I r h;let#[v,n,j,h]:=h;subst j;cases r with
 | cons r f=>
  rw[hs];refine assignInOrder_cons (thn (h1 a s c H _ _ _ I r h) λ_ d Z=>?_);let#[b,l,k,g]:=Z;exact i a d b l _ _ Q k f g
def CP (K:Fg0)(n:Nat)(t:TGs):TG:=λv σ H Q=>∃ a xs,v=.ref a/\SqT K H a xs/\xs.length=n/\t xs σ H Q
theorem wq{t:TGs}{n:Nat}(y:X.calm=true)(h:PGs X es t)(w:autoParam ((qd es X.env).length=n) wE)(f:autoParam ((qd es X.env).findIdx? (·.1)=none) wE):PG X (.Tuple es k pos) (CP X.K n t):=by
 intro c s g H v u Q I r d;let#[a,j,A,q,x,d]:=d;subst A;cases r;let#[l,i,p,C]:=I.tuple q;refine assign_Tuple_tuple (I.ok.hd y) p (by simp -iota [w,<- x,i.length]) f λz m=>?_;have B:Inv X c g H { s with heap:=z }:=I.kept (t':=s.toks) λb o e=>m b o (gm (ec e)) e;exact h c _ g H j _ Q B (by simpa using i) d
def CQ (a b:TE)(t:MV):TG:=λv σ H Q=>a σ H λo H1=>b σ H1 λi H2=>t o i v H2 λc=>Q σ c
theorem Ec{o i:Expr}{c d:TE}{t:MV}(n:PE X o c)(hi:PE X i d)(hs:PY X t)(p:autoParam (∀ v,assign (.Subscript o i pos) X.env v=(do
   let O <- holding [v] (eval o X.env)
   let iv <- holding [v,O] (eval i X.env)
   IR pos
   holding [v,O,iv] (VB O iv v)
   release [v,O,iv] [])) wT):PG X (.Subscript o i pos) (CQ c d t):=by
 intro a s b H v u Q I r h;rw[p];refine ba (ry (thn (n a s b H _ I h) λO f Z=>?_));let#[x,C,z,j,m]:=Z;refine ba (ry (thn (hi a f b C _ z m) λiv e Z=>?_));let#[y,B,w,g,l]:=Z;refine ba (Rh (ba (ry (thn (hs a e b B x y v O iv u _ w j g r l) λ_ D Z=>?_))));let#[A,q,k]:=Z;exact wpAny_release #[b,A,q,k]
def gY (te:TE)(g:TG):TS:=λD σ H=>te σ H λx H1=>g x σ H1 D.nx
theorem zw{g:TG}(k:PE X e te)(j:PG X tg g)(hs:autoParam (SC [tg] e pos.line X.env=pure false) wE)(i:autoParam (SD [tg] e X.env=pure none) wE)(h1:autoParam ((qd [tg] X.env).map (·.2)=[assign tg X.env]) wE):PS X (.Assign [tg] e pos) (gY te g):=by
 intro a s b H D I h;refine wpAny_Assign_stores (thn (k a s b H _ I h) λv c Z=>?_) hs i;let#[x,m,l,d,f]:=Z;rw[h1];exact thn (j a c b m x v _ l d f) λ_ n q=>q
theorem zt{x:Str}(k:X.N.Nodup)(hi:X.N[i]?=some x)(f:Loc X.env.scope x)(j:PE X e te)(hs:autoParam (Do e (some (.Name x pos')) pos.line X.env=pure false) wE)(g:autoParam (X.fn x=true\/X.env.scope.names.lookup x=some .local) wq0) :
  PS X (.Assign [.Name x pos'] e pos) (gY te (dE i)):=by
 intro a s b H D I h;refine wpAny_Assign_Name (thn (j a s b H _ I h) λv p Z=>?_) hs;let#[y,n,m,c,d]:=Z;exact n8 m k hi f c (λo l=>#[_,n,l,d]) g
def NC (i:Nat)(te:TE)(a:TIp):TS:=λD σ H=>∃ x,σ[i]?=some (some x)/\te σ H λy H1=>a x y H1 λz H2=>D.nx (σ.set i (some z)) H2
theorem KZ{x:Str}{op:WL}{o:TIp}(N:X.N.Nodup)(hi:X.N[i]?=some x)(j:Loc X.env.scope x)(L:PE X e te)(E:PIp X op o)(K:autoParam (X.fn x=true\/X.env.scope.names.lookup x=some .local) wq0) :
  PS X (.AugAssign (.Name x pos') op e pos) (NC i te o):=by
 intro a s n H D I h;let#[v,O,h]:=h;let#[m,F,J]:=I.loc;have g:Vis X.env.scope x:=by rcases j with k | k;exact .inl k;exact .inr (.inl k)
 let#[u,r,l]:=J i x v hi O g;refine wpAny_AugAssign_Name ?_;have p:wpAny (model X.prog X.w) X.A (eval e X.env) (λw f=>wpAny (model X.prog X.w) X.A (Xe op u w) (λr d=>wpAny (model X.prog X.w) X.A (Xc X.env x r) (λ_=>SP X a D .next) X.xe d) X.xe f) X.xe s:=by
  refine thn (L a s n H _ I h) λw q Z=>?_;let#[y,T,R,A,C]:=Z;refine thn (E a q n T v y u w _ R r A C) λz W Z=>?_;let#[U,S,Q,t,B]:=Z;exact n8 Q N hi j t (λV P=>#[_,S,P,B]) K
 rcases l with ⟨hk,G⟩ | ⟨hk,c,M,b⟩
 .exact UM I.ok.kind hk F G p
 .rcases hk with hk | hk
  .exact U2 I.ok.kind hk M b p
  .rcases j with k | k
   .have:X.env.scope.names.lookup x=some .free:=hk;rw[k] at this;cases this
   .have:X.env.scope.names.lookup x=some .free:=hk;rw[k] at this;cases this
set_option genInjectivity false in
structure It where
 go:Nat->Hp->Prop
 yld:Nat->Hp->V->Hp->Prop
 stop:Nat->Hp->Prop
def iI (X:Cx)(a:Pn0)(H:Hp)(b:Addr):Prop:=
 H b=none/\b≠X.env.locals/\b∉X.fs/\(b∈X.ex\/X.av.heap.objs.size<=b)/\(∀ x c,X.env.cells.lookup x=some c->c≠b)/\∀ p∈X.pn++a,p.1≠b
theorem Inv.uC{a:Pn0}{H':Hp}{s:Shared}{b:Addr}(I:Inv X a σ H s)(d:s.heap.objs.size<=b)(g:H' b=none):iI X a H' b:=by
 refine#[g,IY (da I.lt d),I.Qi d,.inr (eH I.sz d),λx c e z=>?_,λp f z=>?_]
 .let#[v,q]:=I.cell x c e;exact absurd (da q.lt (by rw[z];exact d)) (iD _)
 .exact absurd (da (ec (I.pin p f).1) (by rw[z];exact d)) (iD _)
structure Turn (P:vn) (w:World) (K:Fg0) (tg:Expr) (J:It) (fp:La0) (it:Addr) (tn:Nat->Heap->Prop):Prop where
 mem:it∈fp
 obj:∀ i h,tn i h->∀ b∈fp,∃ o,h.get? b=some o/\∀ v,o.data≠.cell v
 keep:∀ i h h',tn i h->(∀ b∈fp,∀ o,h.get? b=some o->h'.get? b=some o)->tn i h'
 item:∀ (X:Cx),X.prog=P->X.w=w->X.K=K->X.calm=true->∀ (i:Nat) (pins:Pn0) (s:Shared) (σ:St) (H:Hp) (E:VS),Inv X pins σ H s->(∀ b∈fp,iI X pins H b)->tn i s.heap->J.go i H->
  wpAny (model P w) X.A (pyNext (.ref it)) (λr s1=>∃ u,r=some u/\
   wpAny (model P w) X.A (Ax tg (.ref it) u) (λ_ s2=>∃ x H',Inv X pins σ H' s2/\RelV x u/\J.yld i H x H'/\tn (i + 1) s2.heap/\∀ b∈fp,H' b=none) E s1) E s
 done:∀ (X:Cx),X.prog=P->X.w=w->X.K=K->X.calm=true->∀ (i:Nat) (pins:Pn0) (s:Shared) (σ:St) (H:Hp) (E:VS),Inv X pins σ H s->(∀ b∈fp,iI X pins H b)->tn i s.heap->J.stop i H->
  wpAny (model P w) X.A (pyNext (.ref it)) (λr s1=>r=none/\Inv X pins σ H s1) E s
 self:∀ (A:Around) (i:Nat) (s:Shared) (Q:VS) (E:VS),tn i s.heap->Q (.ref it) s->wpAny (model P w) A (pyIter (.ref it)) Q E s
abbrev TI:=St->Hp->(It->Hp->Prop)->Prop
def PIE (X:Cx)(a:Pn0)(σ:St)(e:Expr)(R:It->Hp->Prop)(c:Value)(d:Shared):Prop:=
 ∃ (it:Addr) (fp:La0) (tn:Nat->Heap->Prop) (J:It) (H':Hp),c=.ref it/\Inv X a σ H' d/\Turn X.prog X.w X.K e J fp it tn/\tn 0 d.heap/\(∀ b∈fp,iI X a H' b)/\R J H'
def PI (X:Cx)(b iter:Expr)(a:TI):Prop:=
 ∀ (pins:Pn0) (s:Shared) (σ:St) (H:Hp) (R:It->Hp->Prop),Inv X pins σ H s->a σ H R->
  wpAny (model X.prog X.w) X.A (eval iter X.env) (λv c=>wpAny (model X.prog X.w) X.A (pyIter v) (PIE X pins σ b R) X.xe c) X.xe s
theorem yo{s:Shared}{it:Addr}{o:Obj}{n:String}{vs:Array Value}{Q:Unit->Shared->Prop}(b:s.heap.get? it=some o)(d:o.cls=.type n)(hd:o.data=.fields vs)(a:Q () s)(c:autoParam (["enumerate","zip","dict_itemiterator","dict_reverseitemiterator","odict_iterator","itertools.zip_longest","itertools.pairwise"].contains n=false) wP):wpAny M A (Ax tg (.ref it) u) Q E s:=by
 delta Ax;cases tg <;> first
  | exact bq a
  | (cases u <;> first
    | exact bq a
    | (refine ba (WM b ?_);rw[d,hd];show wpAny M A (if (["enumerate","zip","dict_itemiterator","dict_reverseitemiterator","odict_iterator","itertools.zip_longest","itertools.pairwise"].contains n && vs[0]? == some (rawInt _))=true then _ else _) Q E s;rw[if_neg (by intro h;rw[c,P8] at h;cases h)];exact bq a))
noncomputable def Itl (K:Fg0)(a:Addr):It:=
 #[λi H=>∃ xs x,SqL K H a xs/\xs[i]?=some x,λi H x H'=>H'=H/\∀ xs,SqL K H a xs->xs[i]?=some x,λi H=>∃ xs,SqL K H a xs/\xs.length<=i]
noncomputable def Itr (lo:Int)(n:Nat):It:=#[λi _=>i < n,λi H x H'=>H'=H/\x=.int (lo + i),λi _=>n<=i]
theorem B9(a it:Addr):Turn P w K tg (Itl K a) [it] it (λi h=>h.IsListIter it a i) where
 mem:=by simp
 obj:=λi h st b g=>by
  have e:b=it:=by simpa using g
  subst e;let#[o,e,c,d]:=st;exact#[o,e,λv z=>by rw[d] at z;cases z]
 keep:=λi h n st k=>st.at λo e=>k it (by simp) o e
 item:=by
  intro X B y C N i f s M H E I m st A;subst B y C;let#[O,x,l,t]:=A;let#[r,q,p,S]:=I.list l;let#[u,U,R]:=q.get t;let#[L,J,V,G,F,D]:=m it (by simp);refine Ul st p.isList (x:=u) (by simpa using U) λn j Q=>?_;have Y:Inv X f M H { s with heap:=n }:=I.turned (t':=s.toks) (λb o g e=>(Q.2 b g).trans e) L J G F D;let#[o,e,c,d]:=id j;exact#[u,rfl,yo (s:={ s with heap:=n }) e c d #[x,H,Y,R,#[rfl,λZ T=>by rw[I.yd T l];exact t],j,λb g=>(m b g).1]]
 done:=by
  intro X B y C N i f s M H E I m st A;subst B y C;let#[O,l,t]:=A;let#[r,q,p,S]:=I.list l;let#[L,J,V,G,F,D]:=m it (by simp);have hl:=q.length;exact UE (I.ok.hd N) st p.isList (by simp;lia) λn W=>#[rfl,I.turned (t':=s.toks) (λb o g e=>W b o g e) L J G F D]
 self:=λ_ _ _ _ _ st h=>wpAny_pyIter_listiter st h
theorem y7(it:Addr)(lo:Int)(n:Nat):Turn P w K tg (Itr lo n) [it] it (λi h=>IsRangeIter h it (lo + (i:Nat) * 1) ((n:Int) - (i:Nat)) 1) where
 mem:=by simp
 obj:=λi h st b c=>by
  have e:b=it:=by simpa using c
  subst e;exact#[_,st,λv z=>by
   have D:Xz _=Data.cell v:=z;cases D]
 keep:=λi h g st k=>k it (by simp) _ st
 item:=by
  intro X p j q m i a s B H E I f st l;subst p j q;let#[A,y,J,x,u,r]:=f it (by simp);have W:=XA (prog:=X.prog) (w:=X.w) (I.ok.hd m) it lo 1 n;refine W.item i s _ _ l st λv g C G d F=>?_;let#[t,rfl]:=G;have M:Inv X a B H { s with heap:=g,toks:=C }:=I.turned (λb o c e=>F b o (by simpa using c) e) A y x u r;refine#[_,rfl,yo (s:={ s with heap:=g,toks:=C }) (n:="range_iterator") d rfl rfl #[.int (lo + i),H,M,#[t,?_],#[rfl,rfl],d,λb c=>(f b c).1]];rw[Int.mul_one]
 done:=by
  intro X p j q m i a s B H E I f st l;subst p j q;let#[A,y,J,x,u,r]:=f it (by simp);exact Um (I.ok.hd m) st (by have:n<=i:=l;lia) λg L=>#[rfl,I.turned (t':=s.toks) (λb o c e=>L b o c e) A y x u r]
 self:=λ_ _ _ _ _ st h=>Sg st h
def EW (K:Fg0)(tl:TE):TI:=λσ H R=>tl σ H λx H1=>∃ a,x=.ref a/\(∃ xs,SqL K H1 a xs)/\R (Itl K a) H1
theorem A_{l:Expr}{tl:TE}(n:PE X l tl):PI X tg l (EW X.K tl):=by
 intro c s g H R I h;refine thn (n c s g H _ I h) λv d Z=>?_;let#[x,t,f,i,j]:=Z;let#[a,e,#[u,m],q]:=j;subst e;cases i;let#[k,w,p,y]:=f.list m;refine VD p.isList ?_;refine#[d.heap.objs.size,[d.heap.objs.size],_,_,t,rfl,f.kept (t':=d.toks) λb o e=>bc _ e,B9 a _,#[_,en _ rfl,rfl,rfl],λb r=>?_,q];have e:b=d.heap.objs.size:=by simpa using r
 subst e;exact f.uC (cb _) (f.hok.fresh (cb _))
theorem xM{a:Pn0}{s:Shared}{R:It->Hp->Prop}{lo hi:Int}{t u v:Tok}{c:Nat}(I:Inv X a σ H s)(h1:-(2 ^ 62)<=lo)(i:lo < 2 ^ 62)(h:-(2 ^ 62)<=hi)(g:hi < 2 ^ 62)(q:R (Itr lo (hi - lo).toNat) H):wpAny (model X.prog X.w) X.A (pyIter (.ref s.heap.objs.size)) (PIE X a σ tg R) E { s with heap:=s.heap.push { cls:=.type "range",data:=.fields (Vz9 [.int lo t,.int hi u,.int 1 v]) },toks:=c }:=by
 refine wpAny_pyIter_range (XB ..) (small_one h1 i h g) ?_;have d:Inv X a σ H { s with heap:=s.heap.push { cls:=.type "range",data:=.fields (Vz9 [.int lo t,.int hi u,.int 1 v]) },toks:=c }:=I.kept λb o e=>bc _ e;refine#[(s.heap.push { cls:=.type "range",data:=.fields (Vz9 [.int lo t,.int hi u,.int 1 v]) }).objs.size,[(s.heap.push { cls:=.type "range",data:=.fields (Vz9 [.int lo t,.int hi u,.int 1 v]) }).objs.size],_,_,H,rfl,
  d.kept (t':=c) λb o e=>bc _ e,y7 _ lo (hi - lo).toNat,?_,λb f=>?_,q]
 .have k:lo + ((0:Nat):Int) * 1=lo:=by simp
  have j:(((hi - lo).toNat:Nat):Int) - ((0:Nat):Int)=R8 lo hi 1:=by rw[rangeSize_one];split <;> lia
  rw[k,j];exact en _ rfl
 .have e:b=(s.heap.push { cls:=.type "range",data:=.fields (Vz9 [.int lo t,.int hi u,.int 1 v]) }).objs.size:=by simpa using f
  subst e;exact d.uC (cb _) (d.hok.fresh (cb _))
def JI (ta:TA):TI:=λσ H R=>ta σ H λvs H1=>∃ j:Int,vs=[.int j]/\-(2 ^ 62)<=j/\j < 2 ^ 62/\R (Itr 0 j.toNat) H1
def JH (ta:TA):TI:=λσ H R=>ta σ H λvs H1=>∃ i j:Int,vs=[.int i,.int j]/\(-(2 ^ 62)<=i/\i < 2 ^ 62/\-(2 ^ 62)<=j/\j < 2 ^ 62)/\R (Itr i (j - i).toNat) H1
theorem Cp{a:Expr}{ta:TA}(l:Gl X "range")(k:X.mg "range"=none)(m:PA X [a] ta)(hs:autoParam (ed [a] X.env=[(false,eval a X.env)]) wE):PI X tg (.Call (.Name "range" p) [a] [] pos) (JI ta):=by
 intro b s d H R I h;refine Call_ (i9 I l k WO (qe (thn (m pos b s d H _ I h) λu v Z=>?_) hs rfl));let#[o,w,n,g,c]:=Z;let#[j,e,c,i,q]:=c;subst e;cases g with
 | cons r f=>
  cases f;let#[t,rfl]:=r;exact call_range_1 (xM n (by lia) (by lia) c i (by simpa using q))
theorem Co{a b:Expr}{ta:TA}(w:Gl X "range")(v:X.mg "range"=none)(x:PA X [a,b] ta)(hs:autoParam (ed [a,b] X.env=[(false,eval a X.env),(false,eval b X.env)]) wE)(d:autoParam (ed [b] X.env=[(false,eval b X.env)]) wE) :
  PI X tg (.Call (.Name "range" p) [a,b] [] pos) (JH ta):=by
 intro c s k H R I h;refine Call_ (i9 I w v WO (qe (thn (x pos c s k H _ I h) λA C ⟨z,D,y,l,g⟩=>?_) (by rw[hs,d]) (by rw[d];rfl)));let#[i,j,e,#[g,u,o,n],q]:=g;subst e;cases l with
 | cons r f=>
  cases f with
  | cons m f=>
   cases f;let#[t,rfl]:=r;let#[B,rfl]:=m;exact call_range_2 (xM y g u o n q)
def Kq (c:TI)(g:TG)(d:TS):TS:=λD σ H=>c σ H λJ H1=>∃ W:Nat->Nat->St->Hp->Prop,(∃ m,W 0 m σ H1)/\∀ i m σ H,W i m σ H->
 (J.stop i H/\D.nx σ H)\/(J.go i H/\∃ N:St->Hp->Prop,(∀ aJ H',N aJ H'->∃ b,b < m/\W (i + 1) b aJ H')/\∀ x H',J.yld i H x H'->g x σ H' λa H2=>d { D with nx:=N,ct:=N,bk:=D.nx } a H2)
noncomputable def sI (a:La0)(h:Heap):Pn0:=a.filterMap λb=>(h.get? b).map λo=>(b,o)
theorem jX{h:Heap}{b:Addr}{o:Obj}(a:b∈fp)(e:h.get? b=some o):(b,o)∈sI fp h:=R3.mpr #[b,a,by rw[e];rfl]
theorem vb{h:Heap}{p:Addr×Obj}(a:p∈sI fp h):p.1∈fp/\h.get? p.1=some p.2:=by
 let#[b,c,e]:=R3.mp a;cases q:h.get? b with
 | none=>rw[q] at e;cases e
 | some o=>
  rw[q] at e;have d:(b,o)=p:=fS e;subst d;exact#[c,q]
theorem Inv.pinned{a:Pn0}{s:Shared}(I:Inv X a σ H s)(i:∀ b∈fp,iI X a H b)(h:∀ b∈fp,∃ o,s.heap.get? b=some o/\∀ v,o.data≠.cell v):Inv X (a++sI fp s.heap) σ H s:=
 I.l9 λp g=>(gs.mp g).elim (λz=>I.pin p (eB _ z)) λz=>by
  let#[c,e]:=vb z;let#[l,k,j,_]:=i p.1 c;let#[o,f,d]:=h p.1 c;rw[e] at f;cases f;exact#[e,l,k,j,d]
theorem Inv.rN{a pl:Pn0}{s:Shared}(I:Inv X (a++pl) σ H s):Inv X a σ H s:=I.l9 λp b=>I.pin p (eB _ (oD _ b))
theorem D9{iter:Expr}{S:TI}{g:TG}{V:TS}(C:Xf (model X.prog X.w) X.A X.env X.xe)(hc:X.calm=true)(hi:PI X tg iter S)(hg:PG X tg g)(p:PSs X body V)(hs:autoParam (∀ x,hB iter X.env x=pure x) wT):PS X (.For tg iter body [] pos) (Kq S g V):=by
 intro c s R H D I h;refine wpAny_For (thn (hi c s R H _ I h) λv s1 h1=>thn h1 λa1 s2 h2=>?_) hs;let#[it,F,U,J,H2,e,I2,T,L,f2,W,#[m0,w0],z]:=h2;subst e;have l:∀ {H':Hp},(∀ b∈F,H' b=none)->∀ b∈F,iI X c H' b:=λhn b p=>#[hn b p,(f2 b p).2];refine codeAny_forLoop_any (λn s'=>∃ i k H',Inv X c k H' s'/\U i s'.heap/\(∀ b∈F,H' b=none)/\W i n k H') ?_ m0 #[0,R,H2,I2,L,λb p=>(f2 b p).1,w0];rintro n s3 ⟨i,j,G,I3,A,E,w3⟩;rcases z i n j G w3 with ⟨stop,qn⟩ | ⟨go,N,hN,step⟩
 .refine RZ C (thn (T.done X rfl rfl rfl hc i c s3 j G X.xe I3 (l E) A stop) λr s4 Z=>?_);let#[O,I4]:=Z;subst O;exact SU #[j,G,I4,qn]
 .refine RZ C (thn (T.item X rfl rfl rfl hc i c s3 j G X.xe I3 (l E) A go) λr s4 Z=>?_);let#[u,O,h4]:=Z;subst O;refine RZ C (thn h4 λ_ Y Z=>?_);let#[x,H5,I5,r5,y5,y,P]:=Z;have Q:=I5.pinned (l P) (T.obj _ _ y);refine RZ C (thn (hg _ Y j H5 x u _ Q r5 (step x H5 y5)) λ_ s6 Z=>?_);let#[K,H6,I6,q6]:=Z;refine RZ C (thn (p _ s6 K H6 _ I6 q6) λf M w=>?_);have again:∀ {a:St} {t:Hp},Inv X (c++sI F Y.heap) a t M->N a t->∃ m,m < n/\∃ i k H',Inv X c k H' M/\U i M.heap/\(∀ b∈F,H' b=none)/\W i m k H':=λ{a t} q B=>by
   let#[m',hm,w7]:=hN a t B;refine#[m',hm,i + 1,a,t,q.rN,T.keep _ _ _ y λb p o e=>(q.pin (b,o) (eB _ (eB _ (jX p e)))).1,λb p=>?_,w7];let#[o,e,d]:=T.obj _ _ y b p;exact(q.pin (b,o) (eB _ (eB _ (jX p e)))).2.1
  cases f with
  | next=>let#[a,t,q,B]:=w;exact again q B
  | cont=>let#[a,t,q,B]:=w;exact again q B
  | brk=>let#[a,t,q,w]:=w;exact#[a,t,q.rN,w]
  | ret v=>let#[x7,a,t,q,r7,w]:=w;exact#[x7,a,t,q.rN,r7,w]
abbrev R2:=V->V->Hp->VK->Prop
def OpR (X:Cx)(f:Value->Value->Sem Value)(r:R2):Prop:=
 ∀ (pins:Pn0) (s:Shared) (σ:St) (H:Hp) (x y:V) (v u:Value) (Q:VK),Inv X pins σ H s->RelV x v->RelV y u->r x y H Q->
  wpAny (model X.prog X.w) X.A (f v u) (EP X pins σ Q) X.xe s
def UnR (X:Cx)(f:Value->Sem Value)(r:V->Hp->VK->Prop):Prop:=
 ∀ (pins:Pn0) (s:Shared) (σ:St) (H:Hp) (x:V) (v:Value) (Q:VK),Inv X pins σ H s->RelV x v->r x H Q->
  wpAny (model X.prog X.w) X.A (f v) (EP X pins σ Q) X.xe s
def ck (X:Cx)(f:Value)(r:List V->Hp->VK->Prop):Prop:=
 ∀ (pins:Pn0) (s:Shared) (σ:St) (H:Hp) (xs:List V) (us:Lv0) (Q:VK),Inv X pins σ H s->Vals xs us->r xs H Q->
  wpAny (model X.prog X.w) X.A (call f us) (EP X pins σ Q) X.xe s
def tOp (r:R2)(ta a:TE):TE:=λσ H Q=>ta σ H λx H1=>a σ H1 λy H2=>r x y H2 Q
def tUn (r:V->Hp->VK->Prop)(ta:TE):TE:=λσ H Q=>ta σ H λx H1=>r x H1 Q
def rI (C:Int->Int->Prop)(g:Int->Int->V):R2:=λx y H Q=>∃ i j,x=.int i/\y=.int j/\C i j/\Q (g i j) H
def rI0 (g:Int->Int->V):R2:=λx y H Q=>∃ i j,x=.int i/\y=.int j/\Q (g i j) H
noncomputable def rU (g:Int->V):V->Hp->VK->Prop:=λx H Q=>∃ i,x=.int i/\Q (g i) H
section
variable {a b c:Expr}{tb tc:TE}
theorem ML(o:PE X a ta)(n:PE X b tb){c:Pn0}{s:Shared}{R:V->V->Hp->Prop}(I:Inv X c σ H s)(h:ta σ H λx H1=>tb σ H1 λy H2=>R x y H2){Q:VS}{f:Value->Value->Sem Value}(m:∀ v u s2 x y H2,Inv X c σ H2 s2->RelV x v->RelV y u->R x y H2->wpAny (model X.prog X.w) X.A (f v u) Q X.xe s2) :
  wpAny (model X.prog X.w) X.A (eval a X.env) (λv e=>wpAny (model X.prog X.w) X.A (eval b X.env) (λu d=>wpAny (model X.prog X.w) X.A (f v u) Q X.xe d) X.xe e) X.xe s:=by
 refine thn (o c s σ H _ I h) λv g Z=>?_;let#[x,H1,q,j,l]:=Z;refine thn (n c g σ H1 _ q l) λu s2 Z=>?_;let#[y,H2,p,i,k]:=Z;exact m v u s2 x y H2 p j i k
theorem mQ{op:WL}{r:R2}(i:OpR X (Q5 op) r)(k:PE X a ta)(j:PE X b tb):PE X (.BinOp a op b pos) (tOp r ta tb):=by
 intro c s d H Q I h;exact wpAny_BinOp (ML k j I h λv u e x y m l g f q=>i c e d m x y v u Q l g f q)
theorem N4{op:UnaryOp}{r:V->Hp->VK->Prop}(g:UnR X (unaryOp op) r)(i:PE X a ta):PE X (.UnaryOp op a pos) (tUn r ta):=by
 intro b s c H Q I h;exact UnaryOp_ (thn (i b s c H _ I h) λv d ⟨x,k,j,e,f⟩=>g b d c k x v Q j e f)
theorem opI{f:Value->Value->Sem Value}{C:Int->Int->Prop}(rule:∀ (i j:Int) (t u:Tok) (s:Shared) (Q:VS) (E:VS),C i j->Q (.int (g i j) s.toks) { s with toks:=s.toks + 1 }->wpAny (model X.prog X.w) X.A (f (.int i t) (.int j u)) Q E s) :
  OpR X f (rI C λi j=>.int (g i j)):=by
 intro a s k H x y v u Q I d c h;let#[i,j,rfl,rfl,e,q]:=h;let#[t,rfl]:=d;let#[b,rfl]:=c;exact rule i j t b s _ _ e #[.int (g i j),H,I.tok _,#[_,rfl],q]
theorem xT{f:Value->Value->Sem Value}(rule:∀ (i j:Int) (t u:Tok) (s:Shared) (Q:VS) (E:VS),Q (.int (g i j) s.toks) { s with toks:=s.toks + 1 }->wpAny (model X.prog X.w) X.A (f (.int i t) (.int j u)) Q E s) :
  OpR X f (rI0 λi j=>.int (g i j)):=by
 intro a s e H x y v u Q I d c h;let#[i,j,rfl,rfl,q]:=h;let#[t,rfl]:=d;let#[b,rfl]:=c;exact rule i j t b s _ _ #[.int (g i j),H,I.tok _,#[_,rfl],q]
theorem HN{f:Value->Value->Sem Value}{g:Int->Int->Bool}(rule:∀ (i j:Int) (t u:Tok) (s:Shared) (Q:VS) (E:VS),Q (.bool (g i j)) s->wpAny (model X.prog X.w) X.A (f (.int i t) (.int j u)) Q E s) :
  OpR X f (rI0 λi j=>.bl (g i j)):=by
 intro a s e H x y v u Q I d c h;let#[i,j,rfl,rfl,q]:=h;let#[t,rfl]:=d;let#[b,rfl]:=c;exact rule i j t b s _ _ #[.bl (g i j),H,I,rfl,q]
def M8 (i j:Int):Prop:=0 < j/\j < 1073741824
def yV (i j:Int):Prop:=0<=j/\j<=1000000/\i.natAbs < 2 ^ 64
def uj (i j:Int):Prop:=(-(2 ^ 64) < i/\i < 2 ^ 64)\/(-(2 ^ 64) < j/\j < 2 ^ 64)
theorem uj.ok{i j:Int}(h:uj i j):IntMulOk i j:=by
 rcases h with ⟨b,a⟩ | ⟨b,a⟩
 .exact .of_left (intBits_le_64 b a)
 .exact .of_right (intBits_le_64 b a)
theorem Lo:OpR X (Q5 .Add) (rI0 λi j=>.int (i + j)):=xT λ_ _ _ _ _ _ _ q=>add_int q
theorem Ld:OpR X (Q5 .Sub) (rI0 λi j=>.int (i - j)):=xT λ_ _ _ _ _ _ _ q=>sub_int q
theorem Lh:OpR X (Q5 .Mult) (rI uj λi j=>.int (i * j)):=opI λ_ _ _ _ _ _ _ a q=>mul_int q a.ok
theorem HL:OpR X (Q5 .FloorDiv) (rI M8 λi j=>.int (i / j)):=opI λi j _ _ _ _ _ a q=>by
 have c:(0:Int) < j:=a.1;have b:j < 1073741824:=a.2;exact floordiv_int (by lia) (by rw[Int.fdiv_eq_ediv_of_nonneg i (by lia)];exact q) (.inl (PyProof.noPylong_small (by lia)))
theorem Lj:OpR X (Q5 .Mod) (rI (λ_ j=>0 < j) λi j=>.int (i % j)):=opI λi j _ _ _ _ _ a q=>by
 have b:(0:Int) < j:=a;exact mod_int' (by lia) (by rw[Int.fmod_eq_emod_of_nonneg i (by lia)];exact q)
theorem Lf:OpR X (Q5 .Pow) (rI yV λi j=>.int (i ^ j.toNat)):=opI λ_ _ _ _ _ _ _ a q=>pow_int_small a.1 a.2.1 a.2.2 q
theorem Ex:OpR X (Q5 .LShift) (rI yV λi j=>.int (i * 2 ^ j.toNat)):=opI λ_ _ _ _ _ _ _ a q=>lshift_int_small a.1 a.2.1 a.2.2 q
theorem unI{f:Value->Sem Value}{g:Int->Int}(rule:∀ (i:Int) (t:Tok) (s:Shared) (Q:VS) (E:VS),Q (.int (g i) s.toks) { s with toks:=s.toks + 1 }->wpAny (model X.prog X.w) X.A (f (.int i t)) Q E s) :
  UnR X f (rU λi=>.int (g i)):=by
 intro a s c H x v Q I b h;let#[i,rfl,q]:=h;let#[t,rfl]:=b;exact rule i t s _ _ #[.int (g i),H,I.tok _,#[_,rfl],q]
theorem Kh:UnR X (unaryOp .USub) (rU λi=>.int (-i)):=unI λ_ _ _ _ _ q=>neg_int q
theorem Ae{a:Pn0}{s:Shared}{Q:VK}{k b:Bool}(I:Inv X a σ H s)(q:Q (.bl k) H)(e:k=b):EP X a σ Q (.bool b) s:=by
 subst e;exact#[.bl k,H,I,rfl,q]
theorem Ob:OpR X (DA .Lt) (rI0 λi j=>.bl (decide (i < j))):=HN λ_ _ _ _ _ _ _ q=>lt_int q
theorem Oc:OpR X (DA .LtE) (rI0 λi j=>.bl (decide (i<=j))):=HN λ_ _ _ _ _ _ _ q=>le_int q
theorem Od:OpR X (DA .Gt) (rI0 λi j=>.bl (decide (j < i))):=HN λ_ _ _ _ _ _ _ q=>gt_int q
theorem Oe:OpR X (DA .GtE) (rI0 λi j=>.bl (decide (j<=i))):=HN λ_ _ _ _ _ _ _ q=>ge_int q
theorem HJ:OpR X (DA .IsNot) (λx y H Q=>y=.non/\Q (.bl (!decide (x=.non))) H):=by
 intro b s d H x y v u Q I a c h;let#[rfl,q]:=h;cases c;refine isnot_none_gen (Ae I q ?_);cases x <;> first
  | (cases a;rfl)
  | (let#[t,rfl]:=a;rfl)
theorem OpR.or{f:Value->Value->Sem Value}{r e:R2}(h:OpR X f r)(h':OpR X f e):OpR X f (λx y H Q=>r x y H Q\/e x y H Q):=by
 intro a s b H x y v u Q I d c q;rcases q with q | q
 .exact h a s b H x y v u Q I d c q
 .exact h' a s b H x y v u Q I d c q
theorem aR(b:Expr)(h:autoParam (op≠.In) wP)(a:autoParam (op≠.NotIn) wP):SE op b=false:=by
 have d:(op == CmpOp.In)=false:=by cases op <;> first | rfl | exact absurd rfl h
 have c:(op == CmpOp.NotIn)=false:=by cases op <;> first | rfl | exact absurd rfl a
 cases b <;> first | rfl | (show (_&&(_||_)&&_)=false;rw[d,c];simp)
theorem Hz{r:R2}(i:OpR X (DA op) r)(l:PE X a ta)(k:PE X b tb)(j:SE op b=false):PE X (.Compare a [op] [b] pos) (tOp r ta tb):=by
 intro c s d H Q I h;exact wpAny_Compare1 (ML l k I h λv u e x y n m g f q=>i c e d n x y v u Q m g f q) j
def Jh (t:TE):TT:=λσ H Q=>t σ H λx H'=>∃ k,x=.bl k/\Q k H'
theorem Hk{r:R2}(p:OpR X (DA op) r)(w:PE X a ta)(t:PE X b tb)(q:SE op b=false):PT X (.Compare a [op] [b] pos) (Jh (tOp r ta tb)):=by
 intro d s f H Q I h;refine wpAny_isTrue_Compare1 (thn (w d s f H _ I h) λv i ⟨x,F,C,l,o⟩=>thn (t d i f F _ C o) λu g ⟨y,E,B,j,n⟩=>
  thn (p d g f E x y v u _ B l j n) λc G ⟨z,D,A,r3,k,e,m⟩=>?_) q
 subst e;cases r3;exact Nu #[D,A,m]
def zc (r e:R2)(ta d c:TE):TE:=λσ H Q=>ta σ H λx H1=>d σ H1 λy H2=>r x y H2 λz a=>∃ k,z=.bl k/\
 (if k=true then c σ a λb f=>e y b f Q else Q (.bl false) a)
theorem Ej{g:CmpOp}{r m:R2}(K:OpR X (DA op) r)(j:OpR X (DA g) m)(O:PE X a ta)(N:PE X b tb)(M:PE X c tc)(L:autoParam (lastMarks [op,g] [b,c]=false) wq3):PE X (.Compare a [op,g] [b,c] pos) (zc r m ta tb tc):=by
 intro f s i H Q I h;refine Compare_chain (thn (O f s i H _ I h) λv C ⟨x,V,S,E,J⟩=>chain_link (thn (N f C i V _ S J) λu B ⟨y,U,R,l,G⟩=>
  thn (K f B i U x y v u _ R E l G) λd A ⟨z,p,o,r3,k,e,n⟩=>?_)) L
 subst e;cases r3;refine Nu ?_;cases k with
 | false=>exact ite_ff #[.bl false,p,o,rfl,n]
 | true=>exact ite_tt (chain_last (thn (M f A i p _ o n) λt w ⟨q,T,P,D,F⟩=>j f w i T y q u t Q P l D F))
theorem p6:(sizeLine:Nat) < 2 ^ 63:=by rw[ea];decide
theorem zF:OpR X (Q5 .Add) (λx y H Q=>∃ i j,x=.str i/\y=.str j/\i.length + j.length<=sizeLine/\Q (.str (i++j)) H):=by
 intro a s f H x y v u Q I d c h;let#[i,j,rfl,rfl,e,q]:=h;let#[t,rfl]:=d;let#[b,rfl]:=c;exact add_str (λb g=>#[.str (i++j),H,I.tok _,#[_,rfl],q]) e
theorem vals1{x:V}(r:Vals [x] us):∃ u,us=[u]/\RelV x u:=by
 cases r with
 | cons b a=>cases a;exact#[_,rfl,b]
theorem vals2{x:V}(r:Vals [x,y] us):∃ u w',us=[u,w']/\RelV x u/\RelV y w':=by
 cases r with
 | cons c b=>
  cases b with
  | cons r3 a=>cases a;exact#[_,_,rfl,c,r3]
theorem C2(c:X.calm=true):ck X (.builtin "max") (λxs H Q=>∃ i j,xs=[.int i,.int j]/\Q (.int (if j > i then j else i)) H):=by
 intro b s d H xs f Q I r h;let#[i,j,rfl,q]:=h;let#[u,e,rfl,#[t,rfl],#[l,rfl]]:=vals2 r;refine max_two_ints (I.ok.hd c) λm g k=>#[_,H,I.kept k,?_,q];by_cases a:j > i
 .rw[if_pos a,if_pos a];exact#[_,rfl]
 .rw[if_neg a,if_neg a];exact#[_,rfl]
theorem C1(c:X.calm=true):ck X (.builtin "min") (λxs H Q=>∃ i j,xs=[.int i,.int j]/\Q (.int (if j < i then j else i)) H):=by
 intro b s d H xs f Q I r h;let#[i,j,rfl,q]:=h;let#[u,e,rfl,#[t,rfl],#[l,rfl]]:=vals2 r;refine min_two_ints (I.ok.hd c) λm g k=>#[_,H,I.kept k,?_,q];by_cases a:j < i
 .rw[if_pos a,if_pos a];exact#[_,rfl]
 .rw[if_neg a,if_neg a];exact#[_,rfl]
theorem C4:ck X (.type "int") (λxs H Q=>(∃ i,xs=[.int i]/\Q (.int i) H)\/∃ k,xs=[.bl k]/\Q (.int (if k then 1 else 0)) H):=by
 intro a s c H xs d Q I r h;rcases h with ⟨i,rfl,q⟩ | ⟨k,rfl,q⟩
 .let#[u,rfl,t,rfl]:=vals1 r;exact call_int_int #[.int i,H,I,#[_,rfl],q]
 .let#[u,rfl,b]:=vals1 r;cases b;exact call_int_bool #[.int (if k then 1 else 0),H,I.tok _,#[_,rfl],q]
end
structure AG (h:Heap) (x dx C:Addr) (mA:SV):Prop where
 obj:h.get? x=some (oj C dx)
 ns:h.Ns1 dx mA
 ne:dx≠x
theorem mh{h:Heap}(n:h.Ns1 dx mA):∃ od,h.get? dx=some od/\∀ name,Tb name od=some (mA name):=by
 let#[o,c,j,f,hd,hk,_,g]:=n;refine#[o,f,λname=>?_];have e:=g name;unfold nsFind findBy at e;rw[<- Array.find?_toList] at e;delta Tb;rw[hd];dsimp only;split
 .rename_i y q;rw[q] at e;exact congrArg some e
 .rename_i q;rw[q] at e;have a:c.toList.any (·.refKey)=false:=by
   rw[VE];intro y d;let#[z,t,b]:=hk y (Array.mem_toList_iff.mp d);simp -iota [DictEntry.refKey,b]
  have i:¬ c.toList.any (·.refKey)=true:=by rw[a];exact jt
  rw[if_neg i];exact congrArg some e
theorem AG.look{h:Heap}{x:Addr}(I:AG h x dx C mA):∃ od,Tc h x (oj C dx) C (some od)/\∀ name,Tb name od=some (mA name):=
 let ⟨od,a,b⟩:=mh I.ns
 #[od,#[I.obj,rfl,rfl,a],b]
section
variable {s:Shared}{x:Addr}{v:Value}
theorem get_map{a:Bool}{Q:VS}(X:K.In s.heap)(I:AG s.heap x dx C mA)(e:ya K C name=true)(hh:rd K C=true)(f:ez K (.ref C) name=some none)(c:mA name=some v)(b:U3 v=true)(h:Q v { s with toks:=s.toks + 1 }) :
  wpAny (model prog w) A (Xm (.ref x) name a) Q E s:=by
 let#[g,J,d]:=I.look;exact PySem.W.get_value X J (S0 e).1 (Wx hh f rfl (by rw[d,c])) b h
theorem E4{pl:Sem Bool}(X:K.In s.heap)(I:AG s.heap x dx C mA)(a:ya K C name=true)(g:ez K (.ref C) name=some (some (.ref f)))(d:Si K (.ref f)=true)(c:mA name=none)(h:Q (.ref f,[.ref x]) s) :
  wpAny (model prog w) A (RD (.ref x) name pl) Q E s:=by
 let#[b,J,e]:=I.look;exact PySem.W.method_fn X J (S0 a).1 (S0 a).2 g (beq_iff_eq.mp d) (by show (Tb name b).map (·.isSome)=some false;rw[e,c];rfl) h
theorem GZ{ns:Ls0}{Q:Unit->Shared->Prop}(X:K.In s.heap)(I:AG s.heap x dx C mA)(hs:ez K (.ref C) "__setattr__"=some (some (.builtin "object.__setattr__")))(m:Gc K C=true)(l:vy K C name=some none)(hh:rd K C=true)(k:RC mA ns)(hsz:ns.length<=sizeLine)(h:∀ h',AG h' x dx C (λy=>if y=name then some v else mA y)->Se dx s.heap h'->Q () { s with heap:=h',toks:=s.toks + 2 }) :
  wpAny (model prog w) A (VF (.ref x) name v) Q E s:=by
 let#[q,J,u]:=I.look;refine TH X J hs (PySem.W.osa_open (s:={ s with toks:=s.toks + 1 }) (r:=none) X J m l λb=>?_);let#[z,n,g]:=RT hh;have j:s.heap.get? x=some #[.ref C,some dx,.plain,#[]]:=I.obj;refine ba (bq (ba (ba (Td j (ba (Te (s:={ s with toks:=s.toks + 1 }) (RK X n) ?_))))));rw[g];refine bq (a:=some dx) (ba (bq (ba ?_)));refine VG (s:={ s with toks:=s.toks + 1 }) I.ns λh' d c=>?_;let#[t,o,p,e,f,i]:=d.count (TJ name v k);refine ba (T4 e (by rw[f];exact T5 (eH i (by simp_all))) ?_);exact bq (h _ #[(c.2 _ (lj I.ne)).trans I.obj,d,I.ne] c)
theorem EJ{vs:Lv0}(X:K.In s.heap)(b:AC K C=true)(hi:ez K (.ref C) "__init__"=some (some (.ref f)))(c:Rw K (.ref f)=some (.type "function"))(h:xb (model prog w) (A.under (.builtin "type.__call__" #[.ref C::vs,kw])) (.call (.ref f) #[.ref (s.heap.objs.size + 1)::vs,kw]) (Uo (s.heap.objs.size + 1) R)
   { s with heap:=(s.heap.push hD).push (oj C s.heap.objs.size) }) :
  xb (model prog w) A (.call (.ref C) #[vs,kw]) R s:=by
 let#[e,g,d,t,os]:=s;exact VH (T6 X b) (Rm X hi) (λa=>PySem.W.bind_fn X a c) (.inl rfl) h
theorem CB(X:K.In s.heap)(b:AC K C=true)(hi:ez K (.ref C) "__init__"=some (some (.builtin "object.__init__")))(c:∀ a,JN (model prog w) s.heap (bindSpecial (.builtin "object.__init__") a) (.builtin "object.__init__",[a]))(h:xb (model prog w) (A.under (.builtin "type.__call__" #[[.ref C],[]])) (.call (.builtin "object.__init__") #[[.ref (s.heap.objs.size + 1)],[]]) (Uo (s.heap.objs.size + 1) R)
   { s with heap:=(s.heap.push hD).push (oj C s.heap.objs.size) }) :
  xb (model prog w) A (.call (.ref C) #[[],[]]) R s:=by
 let#[e,g,d,t,os]:=s;exact VH (T6 X b) (Rm X hi) c (.inr #[rfl,rfl]) h
end
noncomputable def jh (f:Str)(v:V):List (Str×V)->List (Str×V)
 | []=>[(f,v)]
 | (g,x)::r=>if g=f then (g,v)::r else (g,x)::jh f v r
theorem lg (f g:Str)(v:V):∀ fs:List (Str×V),(jh f v fs).lookup g=if g=f then some v else fs.lookup g
 | []=>by
  show Kk g [(f,v)]=_;by_cases h:g=f
  .have a:(g == f)=true:=beq_iff_eq.mpr h;simp only[Kk,a,if_pos h]
  .have a:(g == f)=false:=beq_eq_false_iff_ne.mpr h;simp only[Kk,a,if_neg h]
 | (k,x)::r=>by
  have b:=lg f g v r;rw[show jh f v ((k,x)::r)=(if k=f then (k,v)::r else (k,x)::jh f v r) from rfl];by_cases hk:k=f
  .rw[if_pos hk];by_cases h:g=k
   .have a:(g == k)=true:=beq_iff_eq.mpr h;simp only[Kk,a,if_pos (h.trans hk)]
   .have a:(g == k)=false:=beq_eq_false_iff_ne.mpr h;simp only[Kk,a,if_neg (λe:g=f=>h (e.trans hk.symm))]
  .rw[if_neg hk];by_cases h:g=k
   .have a:(g == k)=true:=beq_iff_eq.mpr h;simp only[Kk,a,if_neg (λe:g=f=>hk (h.symm.trans e))]
   .have a:(g == k)=false:=beq_eq_false_iff_ne.mpr h;simp only[Kk,a];exact b
theorem jv (f:Str)(v:V):∀ fs:List (Str×V),f∈(jh f v fs).map (·.1)/\∀ g,g∈fs.map (·.1)->g∈(jh f v fs).map (·.1)
 | []=>#[by simp -iota [jh],λg h=>by simp -iota at h]
 | (k,x)::r=>by
  let#[a,i2]:=jv f v r;rw[show jh f v ((k,x)::r)=(if k=f then (k,v)::r else (k,x)::jh f v r) from rfl];by_cases hk:k=f
  .grind
  .rw[if_neg hk];refine#[?_,λg h=>?_]
   .rw[eN];exact ei _ a
   .rw[eN] at h ⊢;rcases cm.mp h with e | e
    .exact cm.mpr (.inl e)
    .exact ei _ (i2 g e)
theorem qr (f:Str)(v:V):∀ fs:List (Str×V),(jh f v fs).length<=fs.length + 1
 | []=>by simp -iota [jh]
 | (k,x)::r=>by
  have a:=qr f v r;rw[show jh f v ((k,x)::r)=(if k=f then (k,v)::r else (k,x)::jh f v r) from rfl];by_cases hk:k=f
  .simp_all
  .simp_all
theorem iH.some_of(r:iH (some v) o):∃ u,o=some u/\RelV v u:=by
 cases o with
 | none=>exact(show False from r).elim
 | some u=>exact#[u,rfl,r]
theorem iH.none_of(r:iH none o):o=none:=by
 cases o with
 | none=>rfl
 | some u=>exact(show False from r).elim
theorem vi(r:RelV v u):U3 u=true:=by
 cases v with
 | non=>cases (show u=pL from r);rfl
 | bl b=>cases (show u=Uk b from r);rfl
 | int i=>let#[t,e]:=(show ∃ t,u=Cs i t from r);cases e;rfl
 | str x=>let#[t,e]:=(show ∃ t,u=Rg x t from r);cases e;rfl
 | ref a=>cases (show u=fC a from r);rfl
 | ty n=>cases (show u=Qv n from r);rfl
section
variable {H':Hp}{h:Heap}{fs fs':List (Str×V)}
theorem rC(b:HOk P w H h)(e:H a=some (.ins C dx fs)):∃ mA,AG h a dx C mA/\(∀ f,iH (fs.lookup f) (mA f))/\RC mA (fs.map (·.1))/\fs.length<=1000/\H dx=some (.own a):=by
 let#[d,z,g,c,mA,n,r,q]:=(show b8 P w H h a (.ins C dx fs) from b a _ e);exact#[mA,#[c,n,g],r,q,z,d]
end
structure Cls (K:Fg0) (C:Addr):Prop where
 pg:ya K C DJ=true
 hd:rd K C=true
 po:Gc K C=true
 sa:ez K (.ref C) "__setattr__"=some (some (.builtin "object.__setattr__"))
theorem Cls.get(c:Cls K C)(f:Str):ya K C f=true:=c.pg
def c9 (K:Fg0)(C:Addr)(f:Str):Prop:=ez K (.ref C) f=some none
theorem c9.Nv{f:Str}(n:c9 K C f):vy K C f=some none:=by
 delta vy;rw[show ez K (.ref C) f=some none from n]
 rfl
structure Meth (K:Fg0) (C:Addr) (m:Str) (f:Addr):Prop where
 at_:ez K (.ref C) m=some (some (.ref f))
 fn:Si K (.ref f)=true
 kp:kx K (.ref f)=true
section
variable {pins:Pn0}{s:Shared}{fs:List (Str×V)}{f:Str}
theorem Ab{b:Bool}{Q:VS}(I:Inv X pins σ H s)(e:H a=some (.ins C dx fs))(c:Cls X.K C)(n:c9 X.K C f)(l:fs.lookup f=some v)(h:∀ u s',Inv X pins σ H s'->RelV v u->Q u s'):wpAny (model X.prog X.w) A (Xm (.ref a) f b) Q E s:=by
 let#[g,O,r,_,_,_]:=rC I.hok e;let#[u,i,d]:=iH.some_of (v:=v) (o:=g f) (by rw[<- l];exact r f);exact get_map I.kIn O (c.get f) c.hd n i (vi d) (h u _ (I.tok _) d)
theorem tU{g:Addr}{pl:Sem Bool}(I:Inv X pins σ H s)(e:H a=some (.ins C dx fs))(c:Cls X.K C)(k:Meth X.K C m g)(l:fs.lookup m=none)(h:Q (.ref g,[.ref a]) s):wpAny (model X.prog X.w) A (RD (.ref a) m pl) Q E s:=by
 let#[b,O,r,_,_,_]:=rC I.hok e;have d:b m=none:=iH.none_of (by rw[<- l];exact r m);exact E4 I.kIn O (c.get m) k.at_ k.fn d h
theorem ze{Q:Unit->Shared->Prop}(I:Inv X pins σ H s)(e:H a=some (.ins C dx fs))(c:Cls X.K C)(n:c9 X.K C f)(D:fs.length < 1000)(l:RelV y u)(h:∀ s',Inv X pins σ (upd H a (.ins C dx (jh f y fs))) s'->Q () s'):wpAny (model X.prog X.w) A (VF (.ref a) f u) Q E s:=by
 let#[m,O,r,i,_,j]:=rC I.hok e;have p:(fs.map (·.1)).length<=sizeLine:=by rw[lM0,ea];lia
 refine GZ I.kIn O c.sa c.po n.Nv c.hd i p λw d k=>h _ ?_;have hd:∃ o,w.get? dx=some o:=let ⟨o,_,_,B,_⟩:=d.ns;#[o,B]
 refine I.write (x:=a) (e:=dx) (by rw[e];exact yv) (.inr j) (λb q v z=>(k.2 b v).trans z) hd ?_;refine#[by rw[ao O.ne];exact j,?_,O.ne,d.obj,_,d.ns,λg=>?_,λg t=>?_]
 .have:=qr f y fs;lia
 .rw[lg];by_cases q:g=f
  .rw[if_pos q,if_pos q];exact l
  .rw[if_neg q,if_neg q];exact r g
 .by_cases q:g=f
  .rw[q];exact(jv f y fs).1
  .refine(jv f y fs).2 g (i g λz=>t ?_);show (if g=f then some u else m g)=none;rw[if_neg q];exact z
theorem Inv.made(I:Inv X pins σ H s):Inv X pins σ (upd (upd H s.heap.objs.size (.own (s.heap.objs.size + 1))) (s.heap.objs.size + 1) (.ins C s.heap.objs.size []))
  { s with heap:=(s.heap.push hD).push (oj C s.heap.objs.size) }:=by
 have d:(s.heap.push hD).get? s.heap.objs.size=some hD:=en s.heap rfl;have i:((s.heap.push hD).push (oj C s.heap.objs.size)).get? (s.heap.objs.size + 1)=some (oj C s.heap.objs.size):=by
  have:=en (s.heap.push hD) (o:=oj C s.heap.objs.size) rfl
  rwa [ru] at this
 have h:(s.heap.push hD).Ns s.heap.objs.size (λ_=>none):=#[hD,#[],_,d,rfl,(λe g=>absurd g (by simp)),λ_=>rfl];have j:=I.laid (a:=s.heap.objs.size) (o:=.own (s.heap.objs.size + 1)) (h':=s.heap.push hD) (t':=s.toks) (λb u q=>bc _ q) (cb _) #[_,d];refine j.laid (a:=s.heap.objs.size + 1) (o:=.ins C s.heap.objs.size []) (t':=s.toks) (λb u q=>bc _ q) (Qy (ru _ _)) ?_;have c:s.heap.objs.size≠s.heap.objs.size + 1:=gm (KB _);refine#[by rw[ao c,aw],eA _,c,i,λ_=>none,(VI h).at λo q=>bc _ q,λ_=>yv,λy f=>absurd rfl f]
theorem BW{a:Env}{f:Str}{s:Shared}{Q:VS}(c:O8 e f a (eval e a)=eval e a)(h:wpAny (model prog w) A (eval e a) (λo b=>wpAny (model prog w) A (Xm o f true) Q E b) E s):wpAny (model prog w) A (eval (.Attribute e f pos) a) Q E s:=
 Attribute_any_ h (by rw[arm_eval_Attribute,c])
end
def Nz (K:Fg0)(ta:TE)(f:Str):TE:=λσ H Q=>ta σ H λx H1=>∃ a C dx fs v,x=.ref a/\H1 a=some (.ins C dx fs)/\Cls K C/\c9 K C f/\fs.lookup f=some v/\Q v H1
def KA (K:Fg0)(ta b:TE)(f:Str):TS:=λD σ H=>b σ H λy H1=>ta σ H1 λx H2=>∃ a C dx fs,x=.ref a/\H2 a=some (.ins C dx fs)/\Cls K C/\c9 K C f/\fs.length < 1000/\
 D.nx σ (upd H2 a (.ins C dx (jh f y fs)))
def Rb (X:Cx)(op:WL)(a:V->V->Hp->VK->Prop):Prop:=
 ∀ (pins:Pn0) (s:Shared) (σ:St) (H:Hp) (x y:V) (u v:Value) (Q:VK),Inv X pins σ H s->RelV x u->RelV y v->a x y H Q->wpAny (model X.prog X.w) X.A (Xe op u v) (EP X pins σ Q) X.xe s
section
variable {o value:Expr}{f:Str}{tpos:Pos}{tv:TE}
theorem K9(j:PE X e ta)(k:O8 e f X.env (eval e X.env)=eval e X.env):PE X (.Attribute e f pos) (Nz X.K ta f):=by
 intro b s d H Q I h;refine BW k (thn (j b s d H _ I h) λu z Z=>?_);let#[x,t,r,g,a,C,A,fs,v,m,o,c,n,l,q]:=Z;subst m;obtain rfl:u=fC a:=g;exact Ab r o c n l λw y p i=>#[v,t,p,i,q]
theorem KY(p:PE X o ta)(m:PE X value tv)(hs:Do value (some (.Attribute o f pos')) pos.line X.env=pure false):PS X (.Assign [.Attribute o f pos'] value pos) (KA X.K ta tv f):=by
 intro b s d H D I h;refine Sw (thn (m b s d H _ I h) λu e ⟨y,A,z,g,q⟩=>thn (p b e d A _ z q) λk E Z=>?_) hs;let#[x,G,w,i,a,C,F,fs,r,t,c,n,l,j]:=Z;subst r;obtain rfl:k=fC a:=i;exact ze w t c n l g λB v=>#[d,_,v,j]
noncomputable def Cm:V->V->Hp->VK->Prop:=λx y H Q=>∃ i j,x=.int i/\y=.int j/\Q (.int (i + j)) H
theorem L5:Rb X .Add Cm:=by
 rintro b s e H x y u v Q I d c ⟨i,j,rfl,rfl,q⟩;let#[t,rfl]:=(show ∃ t,u=Cs i t from d);let#[a,rfl]:=(show ∃ a,v=Cs j a from c);exact PyProof.Rows.iadd_int #[.int (i + j),H,I.tok _,#[_,rfl],q]
end
section
variable {pins:Pn0}{s:Shared}{Q:VS}{c:Value}{b:Bool}
inductive qi (K:Fg0) (H:Hp):V->Value->Prop where
 | non:qi K H .non (.type "NoneType")
 | bl (x:Bool):qi K H (.bl x) (.type "bool")
 | int (i:Int):qi K H (.int i) (.type "int")
 | str (x:Str):qi K H (.str x) (.type "str")
 | lst {a:Addr} {xs:List V} (e:H a=some (.lst xs)):qi K H (.ref a) (.type "list")
 | frz {a:Addr} {o:Obj} {xs:List V} (e:H a=some (.frz o (.lst xs))):qi K H (.ref a) (.type "list")
 | tup {a:Addr} {xs:List V} (e:H a=some (.tup xs)):qi K H (.ref a) (.type "tuple")
 | dK {a:Addr} {kvs:List (Key×V)} (e:H a=some (.dK kvs)):qi K H (.ref a) (.type "dict")
 | dT {a:Addr} {kvs:List (List Key×V)} (e:H a=some (.dT kvs)):qi K H (.ref a) (.type "dict")
 | ins {a C dx:Addr} {fs:List (Str×V)} (e:H a=some (.ins C dx fs)) (cl:Cls K C) (ha:ez K (.ref C) "__class__"=some (some (.builtin "object.__class__")))
   (hn:Lu K (.builtin "object.__class__") "__get__"=some (some (.builtin "getset_descriptor.__get__"))) (htk:Uy K (.builtin "object.__class__")=some true)
   (hm:rz K C (.type "object")=some true):qi K H (.ref a) (.ref C)
theorem CM{x:V}{t:Value}(I:Inv X pins σ H s)(f:RelV x u)(ty:qi X.K H x t)(e:bp X.K t c=some b)(h:∀ tk,Q (.bool b) { s with toks:=tk }) :
  wpAny (model X.prog X.w) A (call (.builtin "isinstance") [u,c]) Q E s:=by
 cases ty with
 | non=>cases (show u=pL from f);exact tT PySem.W.kitx_none I.kIn yv e (λz=>nomatch z) h
 | bl y=>cases (show u=Uk y from f);exact tT PySem.W.kitx_bool I.kIn yv e (λz=>nomatch z) h
 | int i=>let#[t,q]:=(show ∃ t,u=Cs i t from f);cases q;exact tT PySem.W.kitx_int I.kIn yv e (λz=>nomatch z) h
 | str y=>let#[t,q]:=(show ∃ t,u=Rg y t from f);cases q;exact tT PySem.W.kitx_str I.kIn yv e (λz=>nomatch z) h
 | @lst a k d=>
  cases (show u=fC a from f);let#[_,_,n,_,g]:=(show b8 X.prog X.w H s.heap a (.lst k) from I.hok a _ d);exact tT VJ I.kIn #[_,g,rfl] e (λz=>nomatch z) h
 | @frz a v k d=>
  cases (show u=fC a from f);let#[_,_,_,n,_,g]:=(show b8 X.prog X.w H s.heap a (.frz v (.lst k)) from I.hok a _ d);exact tT VJ I.kIn #[_,g,rfl] e (λz=>nomatch z) h
 | @tup a k d=>
  cases (show u=fC a from f);let#[_,_,_,p]:=(show b8 X.prog X.w H s.heap a (.tup k) from I.hok a _ d);let#[o,g,l,_]:=p;exact tT PySem.W.kitx_tuple I.kIn #[o,g,l] e (λz=>nomatch z) h
 | @dK a j d=>
  cases (show u=fC a from f);let#[_,_,K,_,p]:=(show b8 X.prog X.w H s.heap a (.dK j) from I.hok a _ d);let#[o,F,G,g,l,_]:=p;exact tT VL I.kIn #[o,g,l.1] e (λz=>nomatch z) h
 | @dT a j d=>
  cases (show u=fC a from f);let#[_,_,k,_,o,F,G,g,l,_]:=(show b8 X.prog X.w H s.heap a (.dT j) from I.hok a _ d);exact tT VL I.kIn #[o,g,l.1] e (λz=>nomatch z) h
 | @ins a C N fs d r D w m B=>
  cases (show u=fC a from f);let#[M,O,_]:=rC I.hok d;let#[L,J,_]:=O.look;exact tT (PySem.W.kitx_own (r.get _) r.hd D w m B) I.kIn J e (λz=>nomatch z) h
end
structure bH (k:Nat) (A:Around):Prop where
 hd:A.handled=none
 dp:A.depth + 3 * k + 5 < recursionLimit
 un:A.units + 16 * k + 200 < cLine
 gd:A.guards=some []
theorem bH.mono{j:Nat}(r:bH k A)(h:j<=k):bH j A:=#[r.hd,by have:=r.dp;exact WF 0x108d687587fad7372a2c3b847dc19938 h this,by have:=r.un;exact WF 0x567a09ec1ad28f5cda95ed89f9961678638 h this,r.gd]
theorem bH.deeper(r:bH (k + 1) A)(a:Env):bH k (A.deeper a):=
 #[r.hd,by have:=r.dp;show A.depth + 1 + 3 * k + 5 < _;exact Ys this,by have:=r.un;show A.units + 3 + 16 * k + 200 < _;lia,r.gd]
theorem zQ:(A.under (.builtin "type.__call__" #[.ref C::us,kw])).depth=A.depth + 1:=by
 first | rfl | simp [S4,Code.weight,Code.isCreation,VM,Code.isCaller,XC,VN,guardIds]
theorem zP:(A.under (.builtin "type.__call__" #[.ref C::us,kw])).units=A.units + 1:=by
 first | rfl | simp [S4,Code.cUnits,XC,VN]
theorem yc:(A.under (.builtin "type.__call__" #[.ref C::us,kw])).guards=A.guards:=by
 first | rfl | simp [S4,pushGuards,XE,VM,guardIds] | (cases A;simp [S4,pushGuards,XE,VM,guardIds])
theorem bH.make(r:bH (k + 1) A)(C:Addr)(us:Lv0)(kw:List (Str×Value)):bH k (A.under (.builtin "type.__call__" #[.ref C::us,kw])):=
 #[r.hd,by have:=r.dp;rw[zQ];exact Ys this,by have:=r.un;rw[zP];exact WF 0x1022b6782eccec3b44e984bd44110fcb this,by have:=r.gd;rw[yc];exact this]
theorem bH.depth(r:bH k A):A.depth < recursionLimit:=by have:=r.dp;exact WF 0x524f45eeec974900b this
theorem bH.units(r:bH k A):A.units + 64 < cLine:=by have:=r.un;exact WF 0x8fcfe61d7fa987f7e700cd0b this
def rO:TA:=λ_ H Q=>Q [] H
def ql (ta:TE)(a:TA):TA:=λσ H Q=>ta σ H λx H1=>a σ H1 λxs H2=>Q (x::xs) H2
section
variable {t:TA}
theorem pW:PA X [] rO:=λ_ _ _ _ H Q I h=>VO #[[],H,I,.nil,h]
abbrev Yl(X:_2.Cx)(e:PySem.Expr)(es:List PySem.Expr):Prop:=ed (e::es) X.env=(false,PySem.eval e X.env)::ed es X.env
theorem gK(m:PE X e te)(l:PA X es t)(hs:autoParam (Yl X e es) wE):PA X (e::es) (ql te t):=by
 intro b a s c H Q I h;rw[hs];show wpAny _ _ (spliced ((false,eval e X.env)::backTo b (ed es X.env))) _ _ s;refine Vl (thn (m a s c H _ I h) λu f Z=>?_);let#[x,q,o,i,k]:=Z;exact thn (l b a f c q _ o k) λr v ⟨d,p,n,g,j⟩=>#[x::d,p,n,.cons i g,j]
def Nw (t:TA):TE:=λσ H Q=>t σ H λxs H1=>xs.length<=sizeLine/\∀ p,H1 p=none->Q (.ref p) (upd H1 p (.tup xs))
def Ny (t:TA):TE:=λσ H Q=>t σ H λxs H1=>xs.length<=sizeLine/\∀ p,H1 p=none->Q (.ref p) (upd H1 p (.lst xs))
theorem K4{O}(h:PA X es t):PE X (.Tuple es O pos) (Nw t):=by
 intro a s g H Q I k;refine wpAny_Tuple_spliced (thn (h pos a s g H _ I k) λj c ⟨i,f,d,r,z,q⟩=>#[by rw[<- r.length];exact z,?_]);have l:f c.heap.objs.size=none:=d.hok.fresh (cb _);refine#[.ref c.heap.objs.size,upd f c.heap.objs.size (.tup i),d.laid (t':=c.toks) (λb u e=>bc _ e) (cb _) ?_,rfl,q _ l];exact#[z,j,r,#[_,en _ rfl,rfl,_,rfl]]
theorem K8(h:PA X es t):PE X (.List es pos) (Ny t):=by
 intro a s g H Q I k;refine wpAny_List_spliced (thn (h pos a s g H _ I k) λj c ⟨i,f,d,r,z,q⟩=>#[by rw[<- r.length];exact z,?_]);have l:f c.heap.objs.size=none:=d.hok.fresh (cb _);refine#[.ref c.heap.objs.size,upd f c.heap.objs.size (.lst i),d.laid (t':=c.toks) (λb u e=>bc _ e) (cb _) ?_,rfl,q _ l];exact#[z,j,0,r,en _ rfl]
end
abbrev Sp:=List V->Hp->VK->XK->Prop
abbrev CXT:=List Env->Hp->Shared->XK->Value->Shared->Prop
structure AJ (P:vn) (w:World) (K:Fg0) (mg:SV) (base:Heap) (A:Around) (outer:List Env) (s:Shared) (H:Hp):Prop where
 frames:A.frames=some outer
 mod:Mod K mg base
 bs:∀ b o,base.get? b=some o->s.heap.get? b=some o/\Kpt H b o
 bsz:base.objs.size<=s.heap.objs.size
 kC:s.heap.FunFrames base outer
 frf:∀ b∈frs outer,H b=none
 hok:HOk P w H s.heap
 bare:Sd s.gens
 tb:TabsAt base H
def CE (a:List Env)(P:vn)(w:World)(H:Hp)(s:Shared)(Q:VK)(u:Value)(b:Shared):Prop:=
 ∃ v H',b.os=s.os/\Sd b.gens/\Un (frs a) [] H H' s.heap b.heap/\HOk P w H' b.heap/\RelV v u/\Q v H'
def CR (CX:CXT)(a:List Env)(P:vn)(w:World)(H:Hp)(s:Shared)(Q:VK)(E:XK)(r:Result)(b:Shared):Prop:=
 match r with
 | .ok (.ret u)=>CE a P w H s Q u b
 | .ok _=>False
 | .error e=>CX a H s E e b
structure aM (P:vn) (w:World) (K:Fg0) (mg:SV) (base:Heap) (CX:CXT) (k:Nat) (f:Addr) (fd:eK) (ps:Ls0) (sp:Sp):Prop where
 len:∀ vs H Q E,sp vs H Q E->vs.length=ps.length
 run:∀ (A:Around) (outer:List Env) (s:Shared) (H:Hp) (args:Args) (us:Lv0) (vs:List V) (Q:VK) (E:XK),bH k A->AJ P w K mg base A outer s H->VP s fd args (ps.zip us)->Vals vs us->sp vs H Q E->
  xb (model P w) A (.call (.ref f) args) (CR CX outer P w H s Q E) s
theorem aM.imp{CX:CXT}{sp sp':Sp}(F:aM P w K mg base CX k f fd ps sp)(h:∀ vs H Q E,sp' vs H Q E->sp vs H Q E):aM P w K mg base CX k f fd ps sp':=
 #[λvs H Q E q=>F.len vs H Q E (h _ _ _ _ q),λA a s H args b vs Q E d e g c hs=>F.run A a s H args b vs Q E d e g c (h _ _ _ _ hs)]
theorem AJ.make{s:Shared}(e:AJ P w K mg base A outer s H)(C:Addr)(us:Lv0)(kw:List (Str×Value)) :
  AJ P w K mg base (A.under (.builtin "type.__call__" #[.ref C::us,kw])) outer s H:=#[by first | exact e.frames | (simpa [S4,Code.envs,VN,pushEnvs] using e.frames),e.mod,e.bs,e.bsz,e.kC,e.frf,e.hok,e.bare,e.tb]
section
variable {pins:Pn0}{s:Shared}
theorem Inv.Ip(I:Inv X pins σ H s):AJ X.prog X.w X.K X.mg X.base X.A X.stack s H:=
 #[I.ok.frames,I.ok.mod,I.bs,eH I.ok.bsz I.sz,I.stack,I.vU,I.hok,I.bare,I.tb]
theorem Inv.after{Q:VK}(I:Inv X pins σ H s)(h:CE X.stack X.prog X.w H s Q u s'):EP X pins σ Q u s':=by
 let#[v,f,os,bare,un,c,r,q]:=h;let#[e,g,d,t,a]:=s';obtain rfl:a=s.os:=os;exact#[v,f,I.call (h':=e) (g':=g) (d':=d) (t':=t) (ch:=[]) un c bare (λb z=>absurd z (by simp)),r,q]
end
def uN (sp:Sp)(dvs:List V)(E:XK)(t:TA):TE:=λσ H Q=>t σ H λvs H1=>sp (vs++dvs) H1 Q E
def xu (C:Addr)(m:Str)(sp:Sp)(dvs:List V)(E:XK)(ta:TE)(t:TA):TE:=λσ H Q=>ta σ H λx H1=>∃ a dx fs,x=.ref a/\H1 a=some (.ins C dx fs)/\fs.lookup m=none/\
 t σ H1 λvs H2=>sp (x::(vs++dvs)) H2 Q E
def DE (C:Addr)(sp:Sp)(dvs:List V)(E:XK)(t:TA):TE:=λσ H Q=>t σ H λvs H1=>∀ x dx,H1 x=none->H1 dx=none->dx≠x->
 sp (.ref x::(vs++dvs)) (upd (upd H1 dx (.own x)) x (.ins C dx [])) (λv H2=>v=.non/\Q (.ref x) H2) E
def Binds (K:Fg0)(a:eK)(ps:Ls0)(ds:Lv0):Prop:=
 ∀ (s:Shared) (us:Lv0),K.In s.heap->(us++ds).length=ps.length->VP s a #[us,[]] (ps.zip (us++ds))
theorem Binds.all(h:∀ us:Lv0,us.length=ps.length->WQ fd #[us,[]]=pure (ps.zip us)):Binds K fd ps []:=λs us _ a=>by
 rw[jn] at a ⊢;exact .of_eq (h us a)
def Passes (CX:CXT)(X:Cx)(E:XK):Prop:=∀ (pins:Pn0) (σ:St) (H:Hp) (s:Shared) (e:Value) (s':Shared),Inv X pins σ H s->CX X.stack H s E e s'->X.xe e s'
section
variable {CX:CXT}{sp:Sp}{dvs:List V}{ds:Lv0}{E:XK}{x:Str}{apos:Pos}{o:Expr}{t:TA}
theorem sj{a:Pn0}{s:Shared}{Q:VK}(F:aM X.prog X.w X.K X.mg X.base CX k f fd ps sp)(i:bH k X.A)(l:Binds X.K fd ps ds)(hd:Vals dvs ds)(g:Passes CX X E)(I:Inv X a σ H s)(r:Vals vs us)(h:sp (vs++dvs) H Q E):wpAny (model X.prog X.w) X.A (call (.ref f) us) (EP X a σ Q) X.xe s:=by
 have c:Vals (vs++dvs) (us++ds):=r.append hd;have j:(us++ds).length=ps.length:=by rw[<- c.length];exact F.len _ _ _ _ h
 refine Pb (QC (F.run X.A X.stack s H #[us,[]] (us++ds) (vs++dvs) Q E i I.Ip (l s us I.kIn j) c h) λr d b=>?_);cases r with
 | error e=>exact g a σ H s e d I b
 | ok m=>
  cases m with
  | ret u=>exact I.after b
  | next=>exact mC b
  | brk=>exact mC b
  | cont=>exact mC b
abbrev Ym(pos:PySem.Pos)(X:_2.Cx)(es:List PySem.Expr):Prop:=(PySem.backTo pos (ed es X.env)).any (·.1)=false
theorem HB(F:aM X.prog X.w X.K X.mg X.base CX k f fd ps sp)(j:bH k X.A)(m:Gl X x)(l:X.mg x=some (.ref f))(hk:kx X.K (.ref f)=true)(o:Binds X.K fd ps ds)(hd:Vals dvs ds)(i:Passes CX X E)(u:PA X (e::es) t)(c:autoParam (Yk x) wP)(n:autoParam (Yl X e es) wE)(b:autoParam (Ym pos X es) wE) :
  PE X (.Call (.Name x p) (e::es) [] pos) (uN sp dvs E t):=by
 intro a s g H Q I h;refine tu (gN I m l ?_ c);refine Ma (h₀:=X.base) I.ok.mod.kin hk (thn (u pos a s g H _ I h) λw y ⟨v,z,d,r,q⟩=>#[d.kIn,?_]) n b;exact sj F j o hd i d r q
theorem El(F:aM X.prog X.w X.K X.mg X.base CX k f fd ps sp)(d:bH k X.A)(g:Gl X x)(e:X.mg x=some (.ref f))(hk:kx X.K (.ref f)=true)(i:Binds X.K fd ps ds)(hd:Vals dvs ds)(c:Passes CX X E)(a:autoParam (Yk x) wP):PE X (.Call (.Name x p) [] [] pos) (uN sp dvs E rO):=by
 intro b s j H Q I h;refine tu (gN I g e ?_ a);exact S1 I.kIn hk (sj (us:=[]) F d i hd c I .nil h)
theorem Hw{pl:Sem Bool}(D:PE X o ta)(c:Cls X.K C)(j:Meth X.K C m f)(F:aM X.prog X.w X.K X.mg X.base CX k f fd ps sp)(B:bH k X.A)(G:Binds X.K fd ps ds)(hd:Vals dvs ds)(z:Passes CX X E)(J:PA X (e::es) t)(d:autoParam (Yl X e es) wE)(g:autoParam (Ym pos X es) wE)(A:autoParam (eval (.Call (.Attribute o m apos) (e::es) [] pos) X.env=(do
   let O <- eval o X.env
   IR apos.atName
   let (f,first) <- holding [O] (RD O m pl)
   UN pos f first (backTo pos (ed (e::es) X.env)) (SJ pos (Ql [] X.env)))) wE) :
  PE X (.Call (.Attribute o m apos) (e::es) [] pos) (xu C m sp dvs E ta t):=by
 intro b s i H Q I h;refine Rn (pl:=pl) (thn (D b s i H _ I h) λu v Z=>?_) A;let#[x,M,p,w,a,P,fs,K,L,l,q]:=Z;subst K;obtain rfl:u=fC a:=w;refine tU p L c j l ?_;refine Ma (first:=[.ref a]) (h₀:=X.base) I.ok.mod.kin j.kp (thn (J pos b v i M _ p q) λus N ⟨vs,R,n,r,y⟩=>#[n.kIn,?_]) d g;exact sj (us:=.ref a::us) (vs:=.ref a::vs) F B G hd z n (.cons rfl r) y
theorem Eg{pl:Sem Bool}(r:PE X o ta)(c:Cls X.K C)(e:Meth X.K C m f)(F:aM X.prog X.w X.K X.mg X.base CX k f fd ps sp)(p:bH k X.A)(t:Binds X.K fd ps ds)(hd:Vals dvs ds)(j:Passes CX X E)(n:autoParam (eval (.Call (.Attribute o m apos) [] [] pos) X.env=(do
   let O <- eval o X.env
   IR apos.atName
   let (f,first) <- holding [O] (RD O m pl)
   UN pos f first (backTo pos (ed [] X.env)) (SJ pos (Ql [] X.env)))) wE) :
  PE X (.Call (.Attribute o m apos) [] [] pos) (xu C m sp dvs E ta rO):=by
 intro b s g H Q I h;refine Rn (pl:=pl) (thn (r b s g H _ I h) λu y Z=>?_) n;let#[x,A,d,i,a,z,fs,v,w,l,q]:=Z;subst v;obtain rfl:u=fC a:=i;refine tU d w c e l ?_;exact S1 (first:=[.ref a]) d.kIn e.kp (sj (us:=[.ref a]) (vs:=[.ref a]) F p t hd j d (.cons rfl .nil) q)
structure Mk (K:Fg0) (C f:Addr):Prop where
 makes:AC K C=true
 init:ez K (.ref C) "__init__"=some (some (.ref f))
 fn:Si K (.ref f)=true
 kp:kx K (.ref C)=true
theorem DR{a:Pn0}{s:Shared}{Q:VK}(M:Mk X.K C f)(F:aM X.prog X.w X.K X.mg X.base CX k f fd ps sp)(n:bH (k + 1) X.A)(p:Binds X.K fd ps ds)(hd:Vals dvs ds)(m:Passes CX X E)(I:Inv X a σ H s)(r:Vals vs us)(h:∀ x dx,H x=none->H dx=none->dx≠x->sp (.ref x::(vs++dvs)) (upd (upd H dx (.own x)) x (.ins C dx [])) (λv H2=>v=.non/\Q (.ref x) H2) E) :
  wpAny (model X.prog X.w) X.A (call (.ref C) us) (EP X a σ Q) X.xe s:=by
 have g:=h (s.heap.objs.size + 1) s.heap.objs.size (I.hok.fresh (SK _)) (I.hok.fresh (cb _)) (gm (KB _));have c:=Inv.made (C:=C) I;have d:Vals (V.ref (s.heap.objs.size + 1)::(vs++dvs)) (fC (s.heap.objs.size + 1)::(us++ds)):=.cons rfl (r.append hd);have o:(fC (s.heap.objs.size + 1)::us++ds).length=ps.length:=by
  have e:=d.length;rw[F.len _ _ _ _ g] at e;exact e.symm
 refine Pb (EJ (f:=f) I.kIn M.makes M.init (beq_iff_eq.mp M.fn) (QC (F.run _ X.stack _ _ #[fC (s.heap.objs.size + 1)::us,[]] (fC (s.heap.objs.size + 1)::(us++ds)) _ _ E (n.make C us [])
  (c.Ip.make C us []) (p _ (fC (s.heap.objs.size + 1)::us) c.kIn o) d g) λr i b=>?_))
 cases r with
 | error e=>exact m a σ _ _ e i c b
 | ok q=>
  cases q with
  | ret u=>
   let#[v,y,w,j,t,l]:=c.after b;subst t;exact#[j,#[V.ref (s.heap.objs.size + 1),y,w,rfl,l]]
  | next=>exact mC b
  | brk=>exact mC b
  | cont=>exact mC b
theorem Hx(M:Mk X.K C f)(F:aM X.prog X.w X.K X.mg X.base CX k f fd ps sp)(j:bH (k + 1) X.A)(m:Gl X x)(l:X.mg x=some (.ref C))(o:Binds X.K fd ps ds)(hd:Vals dvs ds)(i:Passes CX X E)(u:PA X (e::es) t)(c:autoParam (Yk x) wP)(n:autoParam (Yl X e es) wE)(b:autoParam (Ym pos X es) wE) :
  PE X (.Call (.Name x p) (e::es) [] pos) (DE C sp dvs E t):=by
 intro a s g H Q I h;refine tu (gN I m l ?_ c);refine Ma (h₀:=X.base) I.ok.mod.kin M.kp (thn (u pos a s g H _ I h) λw y ⟨v,z,d,r,q⟩=>#[d.kIn,?_]) n b;exact DR M F j o hd i d r q
end
structure az (N P:Ls0) (sc:Scope):Prop where
 kind:sc.kind=.function
 co:sc.isCoroutine=false
 gen:sc.isGenerator=false
 nd:N.Nodup
 pre:N.take P.length=P
 par:∀ x∈P,sc.names.lookup x=some .local\/sc.names.lookup x=some .cell
 nofree:∀ y∈sc.names,y.2≠.free
theorem vD {kindOf:Str->Option yC}{x:Str}:∀ {a:List (Str×Value)} {m:SV},(∀ v,(x,v)∉a)->bindL kindOf a m x=m x
 | [],_,_=>rfl
 | (n,v)::r,m,h=>by
  unfold bindL;rw[vD λw b=>h w (ei _ b)];split
  .have:x≠n:=by rintro rfl;exact h v nA
   simp -iota [this]
  .rfl
theorem vF {kindOf:Str->Option yC}{x:Str}:∀ {a:List (Str×Value)} {m:SV},(∀ v,(x,v)∉a)->bindC kindOf a m x=m x
 | [],_,_=>rfl
 | (n,v)::r,m,h=>by
  unfold bindC;rw[vF λw b=>h w (ei _ b)];split
  .rfl
  .have:x≠n:=by rintro rfl;exact h v nA
   simp -iota [this]
theorem vE {kindOf:Str->Option yC}{x:Str}{v:Value}:∀ {P:Ls0} {vs:Lv0} {i:Nat} {m:SV},P.Nodup->P[i]?=some x->vs[i]?=some v->kindOf x=some .local->
  bindL kindOf (P.zip vs) m x=some v
 | [],_,_,_,_,h,_,_=>by simp -iota at h
 | _::_,[],_,_,_,_,h,_=>by simp -iota at h
 | p::P,w::vs,0,m,c,b,a,hk=>by
  simp -iota at b a;subst b;subst a;show bindL kindOf ((p,w)::P.zip vs) m p=_;unfold bindL;rw[vD λv d=>(jl.mp c).1 (Uz d).1,if_pos hk];simp
 | p::P,w::vs,i + 1,m,c,b,a,hk=>by
  unfold bindL;exact vE (i:=i) (jl.mp c).2 (by simpa using b) (by simpa using a) hk
theorem vG {kindOf:Str->Option yC}{x:Str}{v:Value}:∀ {P:Ls0} {vs:Lv0} {i:Nat} {m:SV},P.Nodup->P[i]?=some x->vs[i]?=some v->kindOf x≠some .local->
  bindC kindOf (P.zip vs) m x=some v
 | [],_,_,_,_,h,_,_=>by simp -iota at h
 | _::_,[],_,_,_,_,h,_=>by simp -iota at h
 | p::P,w::vs,0,m,c,b,a,hk=>by
  simp -iota at b a;subst b;subst a;show bindC kindOf ((p,w)::P.zip vs) m p=_;unfold bindC;rw[vF λv d=>(jl.mp c).1 (Uz d).1,if_neg hk];simp
 | p::P,w::vs,i + 1,m,c,b,a,hk=>by
  unfold bindC;exact vG (i:=i) (jl.mp c).2 (by simpa using b) (by simpa using a) hk
noncomputable def start (N:Ls0)(vs:List V):St:=vs.map some++ji (N.length - vs.length) none
noncomputable def mw (CX:CXT)(P:vn)(w:World)(K:Fg0)(mg:SV)(base:Heap)(N:Ls0)(a:Str)(scope:Scope)(f:Addr)(c:Value)(A:Around)(outer:List Env)(s:Shared)(H:Hp)(E:XK):Cx where
 prog:=P
 w:=w
 K:=K
 mg:=mg
 base:=base
 A:=A.deeper (envOfC a scope s.heap.objs.size f c)
 N:=N
 av:=s
 ax:=H
 env:=envOfC a scope s.heap.objs.size f c
 outer:=outer
 stack:=envOfC a scope s.heap.objs.size f c::outer
 ex:=[]
 calm:=true
 fn:=λ_=>true
 pn:=[]
 xe:=λe s'=>wpAny (model P w) (A.deeper (envOfC a scope s.heap.objs.size f c)) (leaving (envOfC a scope s.heap.objs.size f c) e) (λ_ b=>CX outer H s E e b) (λd b=>CX outer H s E d b) s'
theorem yK{a:Scope}{n:Nat}{x:Str}(h:a.names.lookup x=some .cell):∃ c,(Av n a.names []).lookup x=some c:=by
 have q:=Sj a.names n [] (.inl h);exact wh.mp q
theorem CO{CX:CXT}{N:Ls0}{B:Value}{s s1:Shared}{E:XK}(S:az N ps scope)(hd:A.handled=none)(g:AJ P w K mg base A outer s H)(J:vs.length=ps.length)(r:Vals vs us)(x:InCallC s s.heap.objs.size (bindL (envOfC qual scope s.heap.objs.size f B).kindOf (ps.zip us) λ_=>none) (Av (s.heap.objs.size + 1) scope.names []) (bindC (envOfC qual scope s.heap.objs.size f B).kindOf (ps.zip us) λ_=>none) s1) :
  Inv (mw CX P w K mg base N qual scope f B A outer s H E) [] (start N vs) H s1:=by
 have F:ps.length<=N.length:=by have:=congrArg R9 S.pre;rw[ew] at this;lia
 let#[t,I,rfl,hk]:=x.done;have j:∀ b:Addr,b∉(mw CX P w K mg base N qual scope f B A outer s H E).ex:=λb z=>absurd (show b∈([]:La0) from z) (by simp);refine#[#[g.mod,S.kind,rfl,rfl,cb _,λy z c t d=>?_,λy hy=>?_,λy c _ h=>?_,λ_=>hd,Around.frames_deeper g.frames,.inr #[rfl,rfl],λb z=>absurd z (j b),g.bs,g.bsz,λb _ _=>j b,λb z=>absurd z (j b),g.kC,g.frf,g.tb],
  rfl,g.bare,Un.kept hk,#[_,x.toInCall.ns,λi y v t d L=>?_],λy c h=>#[_,x.cell y c h],g.hok.fresh (cb _),λy c h=>?_,λp m=>absurd (show p∈([]:Pn0) from m) (by simp),g.hok.kept hk,?_]
 .exact name_of_addr x.apart (HR t) (HR d)
 .have hy:scope.names.lookup y=some .cell\/scope.names.lookup y=some .free:=hy;rcases hy with hy | hy
  .exact yK hy
  .exact absurd rfl (S.nofree _ (HR hy))
 .exact Fn (x.above y c (HR h))
 .have o:i < vs.length:=by
   unfold start at d;by_cases o:i < vs.length
   .exact o
   .rw[rb (by simpa using o)] at d;rw[List.getElem?_replicate] at d;split at d <;> cases d
  have G:vs[i]?=some v:=by
   unfold start at d;rw[hZ (by simpa using o),ef] at d;cases e:vs[i]? with
   | none=>rw[e] at d;cases d
   | some a=>rw[e] at d;cases d;rfl
  let#[u,C,D]:=r.get G;have m:ps[i]?=some y:=by
   rw[<- S.pre,Pc (by lia)];exact t
  have l:ps.Nodup:=by rw[<- S.pre];exact S.nd.sublist (NM _ _)
  refine#[u,D,?_];rcases S.par y (ek m) with k | k
  .exact .inl #[k,vE l m C k]
  .let#[c,e]:=yK (n:=s.heap.objs.size + 1) k;refine .inr #[.inl k,c,e,?_];have q:=x.cell y c e;rw[vG l m C (by show scope.names.lookup y≠_;rw[k];decide)] at q;exact q
 .exact g.hok.fresh (Fn (x.above y c (HR h)))
 .delta start;show _=N.length;grind
theorem JP{CX:CXT}{c:Arguments}{C kV j B a D M:Value}{F od:Option Addr}{N:Ls0}{sp:Sp}(lk:K.lookup f=some #[M,od,.func (QD name qual c body scope C kV j B F a D),osl])(z:UO K a qual=true)(S:az N ps scope)(len:∀ vs H Q E,sp vs H Q E->vs.length=ps.length)(hbody:∀ (A:Around) (outer:List Env) (s:Shared) (H:Hp) (vs:List V) (Q:VK) (E:XK),bH k (A.deeper (envOfC qual scope s.heap.objs.size f a))->sp vs H Q E->
   ∃ t,PSs (mw CX P w K mg base N qual scope f a A outer s H E) body t/\t { nx:=λ_ H'=>Q .non H',rt:=Q } (start N vs) H) :
  aM P w K mg base CX (k + 1) f (QD name qual c body scope C kV j B F a D) ps sp:=by
 refine#[len,λA outer s H args L vs Q E p i X r h=>?_];have U:=len _ _ _ _ h;have G:K.In s.heap:=i.mod.kin.keeps λb o e=>(i.bs b o e).1;have m:s.heap.NoLimit:=i.mod.nolimit.keeps λb o e=>(i.bs b o e).1;have g:∀ y∈ps.zip L,scope.names.lookup y.1=some .local\/(scope.names.lookup y.1=some .cell/\((Av (s.heap.objs.size + 1) scope.names []).lookup y.1).isSome=true):=λ⟨n,v⟩ O=>by
  rcases S.par n (Uz O).1 with q | q
  .exact .inl q
  .exact .inr #[q,Sj _ _ _ (.inl q)]
 refine codeAny_call_function p.depth (G _ _ lk) rfl S.co S.gen rfl (PySem.W.codeRec_of G z) (X _ _ _ _ ?_);refine wpAny_newFunctionEnv_cells S.kind g λZ W s1 x=>?_;subst W;refine#[m.keeps x.toInCall.keep,codeAny_func ?_];let#[t,R,T]:=hbody A outer s H vs Q E (p.deeper _) h;have I:Inv (mw CX P w K mg base N qual scope f a A outer s H E) [] (start N vs) H s1:=CO S p.hd i U r x;refine Cy (R [] s1 (start N vs) H _ I T) (λY s' hs=>?_) λe s' hs=>hs;have fin:∀ {d:St} {H':Hp} {v:V} {u:Value},Inv (mw CX P w K mg base N qual scope f a A outer s H E) [] d H' s'->RelV v u->Q v H'->CE outer P w H s Q u s':=
  λ{d H' v u} J l q=>#[v,H',J.os,J.bare,J.base,J.hok,l,q]
 cases Y with
 | ret u=>
  let#[v,d,H',J,l,q]:=hs;exact fin J l q
 | next=>
  let#[d,H',J,q]:=hs;exact fin (v:=V.non) (u:=pL) J rfl q
 | brk=>
  let#[_,_,_,q]:=hs;exact mC q
 | cont=>
  let#[_,_,_,q]:=hs;exact mC q
section
variable {x:Str}{t:TA}{id T:String}
def tCB (r:List V->Hp->VK->Prop)(t:TA):TE:=λσ H Q=>t σ H λvs H1=>r vs H1 Q
theorem xP(u:ck X (.builtin id) r)(o:Gl X x)(n:X.mg x=none)(l:xa x=some (.builtin id))(v:PA X (e::es) t)(m:autoParam (x≠"__name__") wP)(c:autoParam (Yk x) wP)(q:autoParam (Yl X e es) wE)(b:autoParam (Ym pos X es) wE):PE X (.Call (.Name x p) (e::es) [] pos) (tCB r t):=by
 intro a s d H Q I h;refine tu (i9 I o n l ?_ m c);exact PyProof.Rows.callWith_builtin1 (thn (v pos a s d H _ I h) λg i ⟨f,y,w,j,k⟩=>u a i d y f g Q w j k) q b
theorem Cr(u:ck X (.type T) r)(o:Gl X x)(n:X.mg x=none)(l:xa x=some (.type T))(v:PA X (e::es) t)(m:autoParam (x≠"__name__") wP)(c:autoParam (Yk x) wP)(q:autoParam (Yl X e es) wE)(b:autoParam (Ym pos X es) wE):PE X (.Call (.Name x p) (e::es) [] pos) (tCB r t):=by
 intro a s d H Q I h;refine tu (i9 I o n l ?_ m c);exact qe (thn (v pos a s d H _ I h) λg i ⟨f,y,w,j,k⟩=>u a i d y f g Q w j k) q b
end
end _2
variable {prog:vn}{l e p f C L:Qq}{items ys vs:Array Aw}{Q:VS}{v it cd acc:Aw}{o:Option _2.V}{lo hi:Option Int}{X:_2.Cx}{te ta:_2.TE}{pos apos cpos p0:Wc}{r:_2.V->Option Int->Option Int->_2.Hp->_2.VK->Prop}{j k:Nat}{σ:_2.St}{H H' H1 H2 ax F F':_2.Hp}{xs:List (List _2.Key×Qq×Aw)}{its its' us:Lv0}{y:_2.V}{es ifs:List S9}{name qual:S8}{kvs:List (List _2.Key×_2.V)}{env:Xd}{value tg elt iter:S9}{K:Fg0}{mg mA:SV}{base:Vh}{st:WJ}{fd:eK}{N ps Nc:Ls0}{osl:Array (Option Aw)}{B newId:String}{sc scope:Xy}{g:_2.TG}{oe:PySem.Obj}{fr:On}{av s' s2:Qs}{ex fp:La0}{tk0:PySem.Tok}{outer:List Xd}{dx:Option Qq}{R:VA->Qs->Prop}{dvs:List _2.V}{W:_2.St->_2.XK}{tn:Nat->Vh->Prop}{J:_2.It}{wi:_2.TI}{RR:Aw->Qq->VA->Qs->Prop}
namespace _h
open PySem PyProof.Rows
noncomputable def lexLt:Li0->Li0->Bool
 | [],[]=>false
 | [],_::_=>true
 | _::_,[]=>false
 | x::xs,y::ys=>if x=y then lexLt xs ys else decide (x < y)
theorem jY(x y:Int)(xs ys:Li0):lexLt (x::xs) (y::ys)=if x=y then lexLt xs ys else decide (x < y):=rfl
theorem uA:lexLt [] []=false:=rfl
theorem tK(y:Int)(ys:Li0):lexLt [] (y::ys)=true:=rfl
theorem tL(x:Int)(xs:Li0):lexLt (x::xs) []=false:=rfl
theorem Fh(A:Around)(s:Shared)(a:Int)(t:Tok)(c:Int)(u:Tok):∃ e,Vm A s (.int a t) (.int c u) e/\(e=true↔a=c):=
 #[(a == c),Sb a t c u,by simp]
theorem DY(A:Around)(s:Shared)(a:Int)(t:Tok)(c:Int)(u:Tok)(prog:vn)(w:World)(E:VS)(Q:VS)(h:Q (.bool (decide (a < c))) s) :
  wpAny (model prog w) A (richCompare .Lt (.int a t) (.int c u)) Q E s:=
 (U4 h:wpAny (model prog w) A (DA .Lt (.int a t) (.int c u)) Q E s)
section
open PySem.SeqAt
open PySem.AutoSeq1 (wpAny_loadPart')
open PySem.MeetsSeq PySem.MeetsSeq2 PySem.MeetsSeq3
theorem um(l b:Addr)(i f:Array Value)(n P:Nat)(X L:Option Addr)(O sl2:Array (Option Value))(ns ms:Li0)(hi:SF i.toList ns)(N:SF f.toList ms) :
  Meets (RE.«tuple.__lt__» #[[.ref l,.ref b],[]])
   (λ_ R s=>s.heap.get? l=some { cls:=.type "tuple",dict:=X,data:=.seq i n,slots:=O }/\s.heap.get? b=some { cls:=.type "tuple",dict:=L,data:=.seq f P,slots:=sl2 }/\
    R (.ok (.ret (.bool (lexLt ns ms)))) s):=
 .of_wp λr w A R s h=>by
  let#[H,g,d,G,os]:=s;let#[U,W,h]:=h;have Y:=AutoSeq1.sub_tuple_tuple;have z1:i.size=ns.length:=by rw[<- hi.length];simp
  have z2:f.size=ms.length:=by rw[<- N.length];simp
  wp_walk using wpAny_loadPart' U,wpAny_loadPart' W,wpAny_forIn_list _ (λrest b I=>b.1=none/\I=#[H,g,d,G,os]/\∃ (F ws:Lv0) (k m:Li0),rest=F.zip ws/\
   SF F k/\SF ws m/\k.length + f.size=m.length + i.size/\R (.ok (.ret (.bool (lexLt k m)))) #[H,g,d,G,os]) _
  case turn=>
   rintro⟨y,x⟩ rest b I ⟨C,rfl,F,ws,k,m,o,z,p,j,hR⟩;cases z with
   | nil=>rw[List.zip_nil_left] at o;cases o
   | cons a t E=>
    cases p with
    | nil=>rw[List.zip_nil_right] at o;cases o
    | cons c u D=>
     rw[EN] at o;injection o with J B
     injection J with Q S
     subst Q S;rw[jY] at hR;simp -iota only[eh] at j;let#[e,V,v]:=Fh A.in1 #[H,g,d,G,os] a t c u;refine ba (V r w _ _ ?_);cases e with
     | true=>
      rw[if_pos (v.mp rfl)] at hR
      wp_walk
      exact#[rfl,rfl,_,_,_,_,B,E,D,by lia,hR]
     | false=>
      rw[if_neg (λq=>absurd (v.mpr q) jt)] at hR;have K:=DY A.in1 #[H,g,d,G,os] a t c u r w
      wp_walk using K
      exact#[_,rfl,by simpa using hR]
  case fin=>
   rintro⟨Z,b2⟩ I ⟨C,rfl,F,ws,k,m,o,z,p,j,hR⟩;simp only at C;subst C;have M:lexLt k m=decide (i.size < f.size):=by
    cases z with
    | nil=>
     cases p with
     | nil=>
      simp -iota only[ud] at j;rw[uA];exact(decide_eq_false (by lia)).symm
     | cons c u T=>
      simp -iota only[ud,eh] at j;rw[tK];exact(decide_eq_true (by exact WF 0x2f419b36be8773bb j)).symm
    | cons a t M=>
     cases p with
     | nil=>
      simp -iota only[ud,eh] at j;rw[tL];exact(decide_eq_false (by lia)).symm
     | cons c u T=>
      rw[EN] at o;cases o
   rw[M] at hR
   wp_walk
   exact#[_,rfl,by simpa [Wb] using hR]
  case h=>
   exact#[rfl,rfl,i.toList,f.toList,ns,ms,rfl,hi,N,by lia,h]
end
section
variable {s:Shared}
theorem tI{b:Addr}{a:Array Value}{ns ms:Li0}(q:IsTup s.heap l items)(t:IsTup s.heap b a)(hi:SF items.toList ns)(r:SF a.toList ms)(p:A.units < cLine)(h:Q (.bool (lexLt ns ms)) s):wpAny (model prog w) A (DA .Lt (.ref l) (.ref b)) Q E s:=by
 let#[#[v,u,j,m],g,i,n,hd]:=id q;let#[#[k,f,data2,sl2],c,e,o,d]:=id t;simp only at i hd e d;subst i hd e d;exact richCompare_meets_room (op:=.Lt) #[_,g,rfl] #[_,c,rfl] PySem.F.slot_tuple_lt PySem.F.entry_tuple_lt (PySem.F.args_tuple_lt_2 _ _) (um l b items a n o u f m sl2 ns ms hi r)
  #[g,c,show Uk (lexLt ns ms)≠Value.notImplemented/\Q (.bool (lexLt ns ms)) s from #[(λx=>nomatch x),h]] p
noncomputable def sIx (n d:Nat):Option Int->Nat
 | none=>d
 | some v=>if v < 0 then (v + (n:Int)).toNat else min v.toNat n
theorem Kz(n d:Nat)(hd:d<=n)(o:Option Int):sIx n d o<=n:=by
 cases o with
 | none=>exact hd
 | some v=>
  show (if v < 0 then (v + (n:Int)).toNat else min v.toNat n)<=n;by_cases a:v < 0
  .rw[if_pos a];lia
  .rw[if_neg a];exact sg _ _
theorem BQ(v:Int)(n d:Nat):(if v < 0 then max (v + (n:Int)) 0 else min v (n:Int))=((sIx n d (some v):Nat):Int):=by
 show (if v < 0 then max (v + (n:Int)) 0 else min v (n:Int))=(((if v < 0 then (v + (n:Int)).toNat else min v.toNat n):Nat):Int);by_cases a:v < 0
 .simp_all
 .grind
theorem AB(lo hi:Option Int)(n:Nat):RM lo hi 1 (n:Int)=(((sIx n 0 lo:Nat):Int),((sIx n n hi:Nat):Int)):=by
 have a:¬ ((1:Int) < 0):=by lia
 delta RM;simp -iota only[a,if_false];refine Sk ?_ ?_
 .cases lo with
  | none=>rfl
  | some v=>exact BQ v n 0
 .cases hi with
  | none=>rfl
  | some v=>exact BQ v n n
theorem zB(i j:Nat):Ms (i:Int) (j:Int) 1=j - i:=by
 delta Ms;have a:(1:Int) > 0:=by lia
 simp -iota only[a,if_true,Xn];split <;> lia
theorem rS{o:Option Int}{Q:Option Int->Shared->Prop}(p:IsPart v o)(h:Q o s):wpAny (model prog w) A (Wy v) Q E s:=by
 cases p with
 | none=>exact slicePart_none h
 | int i t=>exact slicePart_int h
theorem pR{e:Addr}{d c:Value}{n:Nat}{Q:Int×Int×Nat->Shared->Prop}(hs:s.heap.IsSliceOf e d c .none)(pl:IsPart d lo)(f:IsPart c hi)(h:Q (((sIx n 0 lo:Nat):Int),1,sIx n n hi - sIx n 0 lo) s):wpAny (model prog w) A (Tf (.ref e) (pure (n:Int))) Q E s:=by
 let#[os,a,g,b]:=id hs;delta Tf W3;refine ba (ba (ng a b (x:=d) rfl (ba (ng a b (x:=c) rfl (ba (ng a b (x:=.none) rfl (bq ?_)))))));refine ba (slicePart_none ?_);rw[if_neg (by decide)];refine ba (rS pl (ba (rS f (ba (bq ?_)))));show wpAny _ _ (match RM lo hi 1 (n:Int) with | (lo,hi)=>pure (lo,(1:Int),Ms lo hi 1)) _ _ s;rw[AB lo hi n];show wpAny _ _ (pure (((sIx n 0 lo:Nat):Int),(1:Int),Ms ((sIx n 0 lo:Nat):Int) ((sIx n n hi:Nat):Int) 1)) _ _ s;rw[zB];exact bq h
theorem Ea(xs:Array Value)(i k:Nat):((hV k).filterMap λ(m:Nat)=>xs[((i:Int) + (m:Int) * 1).toNat]?).toArray=((xs.toList.drop i).take k).toArray:=by
 have e:(λ(m:Nat)=>xs[((i:Int) + (m:Int) * 1).toNat]?)=λm=>xs[i + m]?:=by
  funext m
  have:((i:Int) + (m:Int) * 1).toNat=i + m:=by lia
  rw[this]
 rw[e];have:=pick_run xs i k;rw[List.filterMap_map] at this;have a:((λx=>xs[x]?) ∘ λx=>i + x)=λm=>xs[i + m]?:=rfl;rw[a] at this;rw[this]
theorem oH{t c:Addr}{j i:Value}(b:IsTup s.heap t items)(hs:s.heap.IsSliceOf c j i .none)(pl:IsPart j lo)(k:IsPart i hi)(n:¬ (sIx items.size 0 lo=0/\sIx items.size items.size hi=items.size))(h:Q (.ref s.heap.objs.size) { s with heap:=s.heap.push { cls:=.type "tuple",data:=.seq ((items.toList.drop (sIx items.size 0 lo)).take (sIx items.size items.size hi - sIx items.size 0 lo)).toArray } })(hsz:items.size<=sizeLine):wpAny (model prog w) A (Uq (.ref t) (.ref c)) Q E s:=by
 have a:sizeOk (.seq ((items.toList.drop (sIx items.size 0 lo)).take (sIx items.size items.size hi - sIx items.size 0 lo)).toArray):=by
  show ((items.toList.drop (sIx items.size 0 lo)).take (sIx items.size items.size hi - sIx items.size 0 lo)).toArray.size<=sizeLine;rw[gT,ew,KF,mu];exact YI hsz V2 (sg _ _)
 have o:sIx items.size items.size hi<=items.size:=Kz _ _ (cb _) hi;let#[os,d,f,l]:=id hs;have g:s.TypeIs (.ref c) "slice":=#[os,d,f];delta Uq
 try with_reducible refine ry ?_
 first | refine ba (bq ?_) | skip
 refine ba (wpAny_sequenceKey b.typeIs (by decide) ?_);refine ba (P9 (name:=jx "__getitem__") b.typeIs Ht
  (Qb Ht b.typeIs entry_tuple_getitem ?_ (args_tuple_getitem _ _)))
 show wpAny _ _ (WR (.ref t) >>= _) _ _ s;refine ba (tupleItemsOf_ b ?_);refine ba (VQ g ?_);rw[if_pos (by decide)];refine ba (pR hs pl k ?_);have e:¬ ((((sIx items.size 0 lo:Nat):Int) == 0 && (1:Int) == 1 && (sIx items.size items.size hi - sIx items.size 0 lo) == items.size)=true):=by simp_all
 show wpAny _ _ (if (((sIx items.size 0 lo:Nat):Int) == 0 && (1:Int) == 1 && (sIx items.size items.size hi - sIx items.size 0 lo) == items.size)=true then _ else _) _ _ s;rw[if_neg e,Ea]
 first
  | exact ba (m:=Pv _) (zl (bq #[_,rfl,bq h]) a)
  | exact ba (m:=Pv _) (zl (ba (bq (bq #[_,rfl,bq h]))) a)
  | exact ba (ba (m:=Pv _) (zl (bq (bq #[_,rfl,bq h])) a))
  | exact ba (ba (m:=Pv _) (zl (bq #[_,rfl,bq h]) a))
end
end _h
namespace _2
open PySem PySem.Spec PyProof.Rows
abbrev TO:=St->Hp->(Option Int->Hp->Prop)->Prop
def PO (X:Cx)(e:Option Expr)(t:TO):Prop:=
 ∀ (pins:Pn0) (s:Shared) (σ:St) (H:Hp) (Q:Option Int->Hp->Prop),Inv X pins σ H s->t σ H Q->
  wpAny (model X.prog X.w) X.A (evalPart e X.env) (λu s'=>∃ o H',Inv X pins σ H' s'/\IsPart u o/\Q o H') X.xe s
def AX:TO:=λ_ H Q=>Q none H
def Ji (t:TE):TO:=λσ H Q=>t σ H λx H1=>∃ i,x=.int i/\Q (some i) H1
section
variable {e:Expr}{lo hi:Option Expr}{tl th:TO}{p2:Pos}
theorem Hq:PO X none AX:=by
 intro a s b H Q I h;rw[evalPart_none];exact bq #[none,H,I,.none,h]
theorem Ho(h:PE X e te):PO X (some e) (Ji te):=by
 intro a s b H Q I f;rw[evalPart_some];refine thn (h a s b H _ I f) λu k Z=>?_;let#[x,j,g,c,d]:=Z;let#[i,rfl,q]:=d;let#[t,rfl]:=c;exact#[some i,j,g,.int i t,q]
def SlR (X:Cx)(r:V->Option Int->Option Int->Hp->VK->Prop):Prop:=
 ∀ (pins:Pn0) (s:Shared) (σ:St) (H:Hp) (x:V) (v b a:Value) (lo hi:Option Int) (c:Addr) (Q:VK),Inv X pins σ H s->RelV x v->s.heap.IsSliceOf c b a .none->IsPart b lo->IsPart a hi->r x lo hi H Q->
  ∃ T id,Vn (.type T) "__getitem__"=pure (some (.builtin id))/\s.TypeIs v T/\wpAny (model X.prog X.w) X.A (Uq v (.ref c)) (EP X pins σ Q) X.xe s
def tSl (r:V->Option Int->Option Int->Hp->VK->Prop)(te:TE)(tl a:TO):TE:=λσ H Q=>te σ H λx H1=>tl σ H1 λl H2=>a σ H2 λu b=>r x l u b Q
theorem Ef(z:SlR X r)(C:PE X e te)(A:PO X lo tl)(w:PO X hi th):PE X (.Subscript e (.Slice lo hi none p2) pos) (tSl r te tl th):=by
 intro a s d H Q I h;refine WS (thn (C a s d H _ I h) λv j Z=>?_);let#[x,L,J,k,o]:=Z;refine wpAny_Slice (thn (A a j d L _ J o) λf i ⟨l,K,G,t,n⟩=>thn (w a i d K _ G n) λvu c Z=>?_);let#[u,g,F,p,m]:=Z;rw[evalPart_none];refine bq ?_;have E:Inv X a d g { c with heap:=c.heap.push { cls:=.type "slice",data:=.fields (Vz9 [f,vu,.none]) } }:=F.kept (t':=c.toks) λb M q=>bc _ q;let#[T,id,D,y,B]:=z a { c with heap:=c.heap.push { cls:=.type "slice",data:=.fields (Vz9 [f,vu,.none]) } } d g x v f vu l u c.heap.objs.size Q E k (XH ..) t p m;exact tail_any (ops:=[.ref c.heap.objs.size,v]) y D B (by with_unfolding_all rfl)
noncomputable def CW (xs:List V)(lo hi:Option Int):List V:=(xs.drop (_h.sIx xs.length 0 lo)).take (_h.sIx xs.length xs.length hi - _h.sIx xs.length 0 lo)
theorem yI(xs:List V)(lo hi:Option Int):(CW xs lo hi).length<=xs.length:=by
 delta CW;rw[ew,KF];exact Yt V2 (sg _ _)
noncomputable def NT (K:Fg0):V->Option Int->Option Int->Hp->VK->Prop:=λx lo hi H Q=>∃ a xs,x=.ref a/\SqT K H a xs/\
 ¬ (_h.sIx xs.length 0 lo=0/\_h.sIx xs.length xs.length hi=xs.length)/\∀ p,H p=none->Q (.ref p) (upd H p (.tup (CW xs lo hi)))
theorem Ku:SlR X (NT X.K):=by
 intro g s t H x v w u lo f y Q I k hs m l h;let#[a,d,rfl,n,p,q]:=h;cases k;let#[e,r,j,i]:=I.tuple n;have c:e.toArray.size=d.length:=by rw[gT];exact r.length.symm
 refine#["tuple",_,Ht.lookup,j.typeIs,?_];refine _h.oH j hs m l (by rw[c];exact p) ?_ (by rw[c];exact i);rw[c];refine#[.ref s.heap.objs.size,_,I.laid (t':=s.toks) (o:=.tup (CW d lo f)) (λb z q=>bc _ q) (cb _) ?_,rfl,q _ (I.hok.fresh (cb _))];exact#[eH (yI d lo f) i,_,(r.drop (_h.sIx d.length 0 lo)).take (_h.sIx d.length d.length f - _h.sIx d.length 0 lo),IsTup.new _ _]
end
noncomputable def ixN (n:Nat)(i:Int):Option Nat:=if 0<=i then (if i < n then some i.toNat else none) else if -(n:Int)<=i then some (i + n).toNat else none
noncomputable def atI {α:Type}(xs:List α)(i:Int):Option α:=(ixN xs.length i).bind λj=>xs[j]?
theorem Bp{n:Nat}{i:Int}(h:ixN n i=some j):seqIndex? i n=some j/\j < n/\-(n:Int)<=i/\i < n:=by
 delta ixN at h;by_cases b:0<=i
 .rw[if_pos b] at h;by_cases a:i < n
  .rw[if_pos a] at h;have e:i.toNat=j:=fS h;exact#[by rw[Wr b a,e],by lia,by lia,a]
  .simp_all
 .rw[if_neg b] at h;by_cases a:-(n:Int)<=i
  .rw[if_pos a] at h;have e:(i + n).toNat=j:=fS h;exact#[by rw[seqIndex_neg (by lia) a,e],by lia,a,by lia]
  .simp_all
theorem xf{a:Type}{xs:List a}{i:Int}{v:a}(h:atI xs i=some v):∃ j,seqIndex? i xs.length=some j/\xs[j]?=some v/\j < xs.length/\-(xs.length:Int)<=i/\i < xs.length:=by
 delta atI at h;cases e:ixN xs.length i with
 | none=>rw[e] at h;cases h
 | some j=>
  rw[e] at h;let#[f,d,c,b]:=Bp e;exact#[j,f,h,d,c,b]
theorem IG{a:Type}{xs:List a}{v:a}(h:xs[j]?=some v):atI xs (j:Int)=some v:=by
 have b:j < xs.length:=(gS0 h).1;have e:ixN xs.length (j:Int)=some j:=by
  delta ixN;rw[if_pos (by lia),if_pos (by lia)];simp
 delta atI;rw[e];exact h
def B4 (b:Expr):Prop:=∀ o i,subscripted b false o i=operate [o,i] (Uq o i)
def IxR (X:Cx)(r:R2):Prop:=
 ∀ (value slice:Expr) (pins:Pn0) (s:Shared) (σ:St) (H:Hp) (x y:V) (v u:Value) (Q:VK),Inv X pins σ H s->RelV x v->RelV y u->r x y H Q->
  subscripted slice false v u=operate [v,u] (Uq v u)->wpAny (model X.prog X.w) X.A (subscriptTail value slice v u) (EP X pins σ Q) X.xe s
def MtR (X:Cx)(id:String)(r:V->List V->Hp->VK->Prop):Prop:=
 ∀ (pins:Pn0) (s:Shared) (σ:St) (H:Hp) (x:V) (xs:List V) (v:Value) (us:Lv0) (Q:VK),Inv X pins σ H s->RelV x v->Vals xs us->r x xs H Q->
  wpAny (model X.prog X.w) X.A (call (.builtin id) (v::us)) (EP X pins σ Q) X.xe s
section
variable {a b:Expr}{tb:TE}
theorem IxR.or{r f:R2}(h:IxR X r)(h':IxR X f):IxR X (λx y H Q=>r x y H Q\/f x y H Q):=by
 intro a slice b s c H x y v u Q I e d q hs;rcases q with q | q
 .exact h a slice b s c H x y v u Q I e d q hs
 .exact h' a slice b s c H x y v u Q I e d q hs
theorem N6{r:R2}(i:IxR X r)(k:PE X a ta)(j:PE X b tb)(hs:B4 b):PE X (.Subscript a b pos) (tOp r ta tb):=by
 intro c s d H Q I h;exact WS (ML k j I h λv u e x y m l g f q=>i a b c e d m x y v u Q l g f q (hs _ _))
def NW (K:Fg0):R2:=λx y H Q=>∃ p xs i v,x=.ref p/\y=.int i/\SqL K H p xs/\atI xs i=some v/\Q v H
def NU (K:Fg0):R2:=λx y H Q=>∃ p xs i v,x=.ref p/\y=.int i/\SqT K H p xs/\atI xs i=some v/\Q v H
def NV:R2:=λx y H Q=>∃ z i c,x=.str z/\y=.int i/\z.length<=sizeLine/\atI z.cps.toList i=some c/\Q (.str #[(Vz9 [c])]) H
theorem Ib:IxR X (NW X.K):=by
 intro c slice a s k H x y v u Q I A o h hs;let#[p,J,i,z,rfl,rfl,B,D,q]:=h;cases A;let#[t,rfl]:=o;let#[f,r,e,K]:=I.list B;let#[j,b,G,M,F,E]:=xf D;let#[w,m,d]:=r.get G;have C:=r.length;have L:=p6;have fin:EP X a k Q w s:=#[z,H,I,d,q];by_cases l:0<=i
 .have g:i.toNat=j:=by
   rw[Wr l E] at b;exact fS b
  exact item_listR e.isList l (by lia) (by rw[g];simpa using m) fin hs
 .have g:(i + (f.toArray.size:Int)).toNat=j:=by
   rw[seqIndex_neg (by lia) F] at b;rw[gT,<- C];exact fS b
  exact Ur (x:=w) e.isList.typeIs slot_list_getitem.lookup
   (wpAny_getItem_list_neg (Q:=λr n=>r=w/\EP X a k Q r n) e.isList (by lia) (by simp_all) (by lia) (by rw[g];simpa using m) #[rfl,fin]) hs
theorem LR:IxR X (NU X.K):=by
 intro b slice a s d H x y v u Q I k g h hs;let#[p,D,i,z,rfl,rfl,m,o,q]:=h;cases k;let#[t,rfl]:=g;let#[l,r,e,E]:=I.tuple m;let#[j,B,A,K,J,G]:=xf o;let#[w,C,c]:=r.get A;have n:=r.length;have F:=p6;have fin:EP X a d Q w s:=#[z,H,I,c,q];exact Ur (x:=w) e.typeIs Ht.lookup
  (getItem_tuple (j:=j) (Q:=λr f=>r=w/\EP X a d Q r f) e (by lia) (by lia) (by rw[gT,<- n];exact B) (by simpa using C) #[rfl,fin]) hs
theorem LS:IxR X NV:=by
 intro a slice b s r H x y v u Q I f e h hs;let#[z,i,c,rfl,rfl,A,k,q]:=h;let#[t,rfl]:=f;let#[w,rfl]:=e;let#[j,d,n,C,m,l]:=xf k;have g:z.cps.toList.length=z.length:=by simp -iota [Str.length]
 rw[g] at d m l;have B:=p6;exact tail_any (typeIs_str s z t) slot_str_getitem.lookup (getItem_str (c:=c) (by
  have p:decide (i < -(2 ^ 63:Int))=false:=decide_eq_false (by lia);have o:decide (i≥2 ^ 63)=false:=decide_eq_false (by lia);rw[p,o,Bool.or_false]) (by rw[d];simpa using n) #[.str #[(Vz9 [c])],H,I.tok _,#[_,rfl],q]) hs
def rIx (K:Fg0):R2:=λx y H Q=>NW K x y H Q\/NU K x y H Q\/NV x y H Q
theorem LU:IxR X (rIx X.K):=Ib.or (LR.or LS)
theorem zO(a:Lv0)(n j:Nat)(u:Value):R4 (·.setIfInBounds j u) { cls:=.type "list",data:=.seq a.toArray n }={ cls:=.type "list",data:=.seq (a.set j u).toArray n }:=by
 simp [R4]
theorem Inv.lst {a:Pn0}{σ:St}{H:Hp}{s:Shared}{p:Addr}{xs:List V}(I:Inv X a σ H s)(h:H p=some (.lst xs)) :
  ∃ (its:Lv0) (n:Nat),Vals xs its/\s.heap.get? p=some { cls:=.type "list",data:=.seq its.toArray n }/\xs.length<=sizeLine:=by
 let#[z,its,n,r,e]:=I.hok p _ h;exact#[its,n,r,e,z]
theorem Inv.LH{a:Pn0}{s:Shared}{xs ys:List V}{n c:Nat}{f:Obj->Obj}(I:Inv X a σ H s)(h:H p=some (.lst xs))(i:s.heap.get? p=some { cls:=.type "list",data:=.seq its.toArray n })(d:f { cls:=.type "list",data:=.seq its.toArray n }={ cls:=.type "list",data:=.seq its'.toArray c })(r:Vals ys its')(g:ys.length<=sizeLine)(t:Nat) :
  Inv X a σ (upd H p (.lst ys)) { s with heap:=s.heap.update p f,toks:=t }:=by
 have e:(s.heap.update p f).get? p=some { cls:=.type "list",data:=.seq its'.toArray c }:=by
  rw[sr f i (by rw[d] <;> rfl),d]
 refine I.write (x:=p) (e:=p) (by rw[h];trivial) (.inl rfl) (λb u j q=>(gD _ _ (lj j)).trans q) #[_,e] ?_;exact#[g,its',c,r,e]
noncomputable def uW:V->V->V->Hp->(Hp->Prop)->Prop:=λo i v H Q=>∃ p xs k j,o=.ref p/\i=.int k/\H p=some (.lst xs)/\ixN xs.length k=some j/\Q (upd H p (.lst (xs.set j v)))
theorem set_list:PY X uW:=by
 intro a s x H o i v E F u Q I A B z h;let#[p,y,k,j,rfl,rfl,f,D,q]:=h;cases A;let#[t,rfl]:=B;let#[b,n,r,d,C]:=I.lst f;let#[c,J,l,g]:=Bp D;have e:=r.length;have G:=p6;have w:Inv X a x (upd H p (.lst (y.set j v))) { s with heap:=s.heap.update p (R4 (·.setIfInBounds j u)) }:=
  I.LH f d (zO b n j u) (r.set z j) (by rw[rx];exact C) s.toks
 by_cases m:0<=k
 .have hk:k.toNat=j:=by
   rw[Wr m g] at c;exact fS c
  exact PySem.W.ki_setAt d m (by lia) (by rw[gT,<- e];exact g) (by rw[hk];exact#[_,w,q])
 .have hk:(k + (b.toArray.size:Int)).toNat=j:=by
   rw[seqIndex_neg (by lia) l] at c;rw[gT,<- e];exact fS c
  exact PySem.W.ki_setBack d (by lia) (by rw[gT,<- e];exact l) (by lia) (by rw[hk];exact#[_,w,q])
noncomputable def mW:V->Bool
 | .non=>true
 | .bl _=>true
 | .int _=>true
 | .str _=>true
 | _=>false
noncomputable def eqV:V->V->Bool
 | .non,.non=>true
 | .bl a,.bl b=>a == b
 | .bl a,.int b=>(if a then 1 else 0) == b
 | .int a,.bl b=>a == (if b then 1 else 0)
 | .int a,.int b=>a == b
 | .str a,.str b=>a == b
 | _,_=>false
theorem Mu{s:Shared}{x:V}(e:RelV y u)(c:RelV x v)(fy:mW y=true)(fx:mW x=true):Vm A s u v (eqV y x):=by
 cases y with
 | non=>
  cases e;cases x with
  | non=>cases c;exact Tg _
  | bl b=>cases c;exact SeqAt.EqAt.none_bool b
  | int b=>let#[t,rfl]:=c;exact SeqAt.EqAt.none_int b t
  | str b=>let#[t,rfl]:=c;exact SeqAt.EqAt.none_str b t
  | _=>exact absurd (show false=true from fx) jt
 | bl a=>
  cases e;cases x with
  | non=>cases c;exact SeqAt.EqAt.bool_none a
  | bl b=>cases c;exact SeqAt.EqAt.bool_bool a b
  | int b=>let#[t,rfl]:=c;exact SeqAt.EqAt.bool_int a b t
  | str b=>let#[t,rfl]:=c;exact SeqAt.EqAt.bool_str a b t
  | _=>exact absurd (show false=true from fx) jt
 | int a=>
  let#[d,rfl]:=e;cases x with
  | non=>cases c;exact SeqAt.EqAt.int_none a d
  | bl b=>cases c;exact SeqAt.EqAt.int_bool a d b
  | int b=>let#[t,rfl]:=c;exact Sb a d b t
  | str b=>let#[t,rfl]:=c;exact Vi a d b t
  | _=>exact absurd (show false=true from fx) jt
 | str a=>
  let#[d,rfl]:=e;cases x with
  | non=>cases c;exact SeqAt.EqAt.str_none a d
  | bl b=>cases c;exact SeqAt.EqAt.str_bool a d b
  | int b=>let#[t,rfl]:=c;exact Vj a d b t
  | str b=>let#[t,rfl]:=c;exact SeqAt.EqAt.str_str a d b t
  | _=>exact absurd (show false=true from fx) jt
 | _=>exact absurd (show false=true from fy) jt
noncomputable def eqU (x:V)(u:Value):Bool:=match u with
 | .none=>eqV .non x
 | .bool b=>eqV (.bl b) x
 | .int i _=>eqV (.int i) x
 | .str z _=>eqV (.str z) x
 | _=>false
theorem Fc{x:V}(r:RelV y u)(f:mW y=true):eqU x u=eqV y x:=by
 cases y with
 | non=>cases r;rfl
 | bl b=>cases r;rfl
 | int i=>let#[t,rfl]:=r;rfl
 | str z=>let#[t,rfl]:=r;rfl
 | _=>exact absurd (show false=true from f) jt
theorem xh {x:V}:∀ {xs:List V} {us:Lv0},Vals xs us->xs.all mW=true->us.any (eqU x)=xs.any λy=>eqV y x
 | _,_,.nil,_=>rfl
 | y::xs,u::us,.cons r t,f=>by
  rw[SG,fT] at f;rw[Rj,Rj,Fc r f.1,xh t f.2]
theorem tD {A:Around}{s:Shared}{x:V}{v:Value}(a:RelV x v)(fx:mW x=true):∀ {xs:List V} {us:Lv0},Vals xs us->xs.all mW=true->∀ u∈us,Vm A s u v (eqU x u)
 | _,_,.nil,_=>λu hu=>by cases hu
 | y::xs,u::us,.cons r t,f=>λb hu=>by
  rw[SG,fT] at f;rcases cm.mp hu with rfl | hu
  .rw[Fc r f.1];exact Mu r a f.1 fx
  .exact tD a fx t f.2 b hu
noncomputable def inV (x:V)(xs:List V):Bool:=xs.any λy=>eqV y x
def rIn (K:Fg0)(a:Bool):R2:=λx y H Q=>∃ p xs,y=.ref p/\(SqL K H p xs\/SqT K H p xs)/\mW x=true/\xs.all mW=true/\Q (.bl (if a then !inV x xs else inV x xs)) H
theorem Cu:OpR X (DA .In) (rIn X.K false):=by
 intro e s i H x y v u Q I d f h;let#[p,j,rfl,hq,fx,fs,q]:=h;cases f;rcases hq with hq | hq
 .let#[a,r,b,g]:=I.list hq;refine Wz (eqU x) b.isList (λw c=>tD d fx r fs w (by simpa using c)) #[.bl _,H,I,rfl,?_];rw[show a.toArray.any (eqU x)=a.any (eqU x) by simp,xh r fs];exact q
 .let#[a,r,b,g]:=I.tuple hq;refine SeqAt.in_tupleAt (eqU x) b (λw c=>tD d fx r fs w (by simpa using c)) #[.bl _,H,I,rfl,?_];rw[show a.toArray.any (eqU x)=a.any (eqU x) by simp,xh r fs];exact q
theorem w8:ck X (.builtin "len") (λxs H Q=>∃ p ys,xs=[.ref p]/\(SqL X.K H p ys\/SqT X.K H p ys)/\Q (.int ys.length) H):=by
 intro e s i H xs j Q I r h;let#[p,ys,rfl,hq,q]:=h;let#[u,rfl,f]:=vals1 r;cases f;have k:=p6;rcases hq with hq | hq
 .let#[d,b,c,g]:=I.list hq;have a:=b.length;exact Calls.call_len_list c.isList (by simp -iota only[gT] <;> lia) #[.int ys.length,H,I.tok _,#[s.toks + 1,by rw[gT,a]],q]
 .let#[d,b,c,g]:=I.tuple hq;have a:=b.length;exact len_tuple c (by simp -iota only[gT] <;> lia) #[.int ys.length,H,I.tok _,#[s.toks + 1,by rw[gT,a]],q]
theorem w6:ck X (.builtin "len") (λxs H Q=>∃ z,xs=[.str z]/\z.length<=sizeLine/\Q (.int z.length) H):=by
 intro a s b H xs c Q I r h;let#[z,rfl,d,q]:=h;let#[u,rfl,t,rfl]:=vals1 r;have e:=p6;exact len_str (by lia) #[.int z.length,H,I.tok _,#[_,rfl],q]
theorem ck.or{f:Value}{r e:List V->Hp->VK->Prop}(h:ck X f r)(h':ck X f e):ck X f (λxs H Q=>r xs H Q\/e xs H Q):=by
 intro a s b H xs c Q I d q;rcases q with q | q
 .exact h a s b H xs c Q I d q
 .exact h' a s b H xs c Q I d q
theorem uE:ck X (.type "tuple") (λxs H Q=>∃ p ys,xs=[.ref p]/\((SqL X.K H p ys/\∀ l,H l=none->Q (.ref l) (upd H l (.tup ys)))\/(SqT X.K H p ys/\Q (.ref p) H))):=by
 intro a s j H xs x Q I r h;let#[p,ys,rfl,h]:=h;let#[u,rfl,t]:=vals1 r;cases t;rcases h with ⟨i,q⟩ | ⟨i,q⟩
 .let#[c,f,g,k]:=I.list i;have m:=f.length;refine call_tuple_list g.isList (λd v=>?_) (by simp_all);have n:Inv X a j H { s with heap:=d }:=I.kept (t':=s.toks) v;have w:Inv X a j (upd H d.objs.size (.tup ys)) { s with heap:=d.push { cls:=.type "tuple",data:=.seq c.toArray } }:=
   n.laid (t':=s.toks) (λb o e=>bc _ e) (cb _) (show b8 X.prog X.w _ _ _ (.tup ys) from #[k,c,f,IsTup.new _ _])
  exact#[.ref d.objs.size,_,w,rfl,q _ (n.hok.fresh (cb _))]
 .let#[c,f,g,k]:=I.tuple i;exact call_tuple_same g #[.ref p,H,I,rfl,q]
def tyV (K:Fg0)(T:String)(x:V)(H:Hp):Prop:=match x with
 | .str _=>T="str"
 | .int _=>T="int"
 | .ref p=>(T="list"/\∃ xs,SqL K H p xs)\/(T="tuple"/\∃ o,K.lookup p=some o/\o.cls=.type "tuple"/\o.dict=none)\/
   (T="dict"/\((∃ kvs,H p=some (.dK kvs))\/∃ kvs,H p=some (.dT kvs)))\/(T="set"/\∃ S n,H p=some (.set S n))
 | _=>False
theorem Ki{d:Pn0}{s:Shared}{T:String}{x:V}(I:Inv X d σ H s)(r:RelV x v)(ty:tyV X.K T x H) :
  s.TypeIs v T/\∀ a,v=.ref a->∃ j,s.heap.get? a=some j/\j.dict=none:=by
 cases x with
 | str z=>
  let#[t,rfl]:=r;cases (show T="str" from ty);exact#[typeIs_str s z t,λ_ e=>nomatch e]
 | int i=>
  let#[t,rfl]:=r;cases (show T="int" from ty);exact#[WT s i t,λ_ e=>nomatch e]
 | ref p=>
  cases r;rcases ty with ⟨rfl,q,l⟩ | ⟨rfl,o,hk,m,hd⟩ | ⟨rfl,hk⟩ | ⟨rfl,S,n,hk⟩
  .let#[k,_,h,_]:=I.list l;refine#[h.isList.typeIs,λa e=>?_];cases e;let#[o,n,e,c,hd,_]:=h;exact#[o,e,hd]
  .refine#[#[o,I.kIn p o hk,m],λa e=>?_];cases e;exact#[o,I.kIn _ o hk,hd]
  .have z:∃ o,s.heap.get? p=some o/\o.ExactDict:=by
    rcases hk with ⟨f,hk⟩ | ⟨f,hk⟩
    .let#[_,_,_,_,o,_,_,e,b,_]:=I.hok p _ hk;exact#[o,e,b]
    .let#[_,_,_,_,o,_,_,e,b,_]:=I.hok p _ hk;exact#[o,e,b]
   let#[o,e,b]:=z;refine#[#[o,e,b.1],λa g=>?_];cases g;exact#[o,e,b.2.1]
  .let#[o,_,_,_,e,b,_]:=I.hok p _ hk;refine#[#[o,e,b.1],λa g=>?_];cases g;exact#[o,e,b.2.1]
 | _=>exact mC ty
def tBM (K:Fg0)(T:String)(r:V->List V->Hp->VK->Prop)(a:TE)(t:TA):TE:=λσ H Q=>a σ H λx H1=>tyV K T x H1/\t σ H1 λxs H2=>r x xs H2 Q
variable {o e:Expr}{to:TE}{t:TA}{T id:String}{r:V->List V->Hp->VK->Prop}
theorem Ju(A:PlainAttrs T)(f:Slot T name id)(j:typeOf (.builtin id)=pure (.type "method_descriptor"))(C:MtR X id r)(B:PE X o to)(D:PA X (e::es) t)(d:autoParam (O8 o name X.env (eval o X.env)=eval o X.env) wE)(g:autoParam (((backTo cpos (ed (e::es) X.env)).all (λx=>!x.1) && (SJ cpos (Ql [] X.env)).all (λx=>x.1.isSome)
   && decide ((e::es).length + ([]:List VR).length + (if ([]:List VR).isEmpty then 0 else 1) < 30))=true) wE)(c:autoParam ((apos.endLine == cpos.line)=true) wE)(hs:autoParam (Yl X e es) wE)(b:autoParam ((backTo cpos (ed es X.env)).any (·.1)=false) wE) :
  PE X (.Call (.Attribute o name apos) (e::es) [] cpos) (tBM X.K T r to t):=by
 intro a s i H Q I h;refine wpAny_Call_method_late d g c rfl (thn (B a s i H _ I h) λv u Z=>?_);let#[x,K,m,k,ty,z]:=Z;let#[F,E]:=Ki m k ty;refine#[T,id,A,f,j,F,E,?_];have l:=D cpos a u i K _ m z;rw[hs] at l ⊢;refine Us (by show (false || (backTo cpos (ed es X.env)).any (·.1))=false;rw[b] <;> rfl) (UP ?_);exact thn l λp q ⟨n,J,G,w,y⟩=>C a q i J x n v p Q G k w y
end
def MtM (X:Cx)(id:String)(r:V->List V->Hp->VK->Prop):Prop:=
 ∀ (pins:Pn0) (s:Shared) (σ:St) (H:Hp) (x:V) (xs:List V) (v:Value) (us:Lv0) (Q:VK),Inv X pins σ H s->RelV x v->Vals xs us->r x xs H Q->
  wpAny (model X.prog X.w) X.A (call (.builtin id) (v::us)) (EP X pins σ Q) X.xe s
theorem Vals.one{x:V}(h:Vals [x] us):∃ u,us=[u]/\RelV x u:=by
 cases h with
 | cons r t=>cases t;exact#[_,rfl,r]
theorem Vals.rep{xs:List V}(h:Vals xs us):∀ k:Nat,Vals (ji k xs).flatten (ji k us).flatten
 | 0=>.nil
 | k + 1=>by
  rw[HT,HT,ly,ly];exact Vals.append h (Vals.rep h k)
theorem foldl_rep (a:Lv0):∀ (k:Nat) (acc:Lv0),
  Vo (λc b=>c++b) acc.toArray (ji k a.toArray)=(acc++(ji k a).flatten).toArray
 | 0,acc=>by simp
 | k + 1,acc=>by
  have e:acc.toArray++a.toArray=(acc++a).toArray:=by simp
  have d:(acc++a)++(ji k a).flatten=acc++(ji (k + 1) a).flatten:=by
   rw[HT,ly,fq]
  rw[<- d,<- foldl_rep a k (acc++a),<- e,HT,Mt]
section
variable {pins:Pn0}{s:Shared}{b:Addr}{xs ys zs:List V}
theorem Inv.Ox{n:Nat}{f:Array Value->Array Value}(I:Inv X pins σ H s)(h:H l=some (.lst xs))(e:s.heap.get? l=some { cls:=.type "list",data:=.seq its.toArray n })(d:f its.toArray=its'.toArray)(b:Vals ys its')(a:ys.length<=sizeLine) :
  Inv X pins σ (upd H l (.lst ys)) { s with heap:=s.heap.update l (R4 f),toks:=t' }:=by
 have q:=PySem.IsL.update e f;rw[d] at q;refine I.write (x:=l) (e:=l) (by rw[h];exact trivial) (.inl rfl) (λi u g c=>(gD s.heap (R4 f) (lj g)).trans c) #[_,q] ?_;exact#[a,its',_,b,q]
theorem Inv.Oy(I:Inv X pins σ H s)(b:Vals ys its)(a:ys.length<=sizeLine) :
  Inv X pins σ (upd H s.heap.objs.size (.lst ys)) { s with heap:=s.heap.push { cls:=.type "list",data:=.seq its.toArray },toks:=t' }:=
 I.laid (λ_ _ q=>bc _ q) (cb _) #[a,its,0,b,en _ rfl]
theorem Inv.fresh(I:Inv X pins σ H s):H s.heap.objs.size=none:=I.hok.fresh (cb _)
theorem Inv.CD(I:Inv X pins σ H s)(a:H l=some (.lst xs)):xs.length<=sizeLine/\∃ (its:Lv0) (n:Nat),Vals xs its/\xs.length=its.length/\s.heap.get? l=some { cls:=.type "list",data:=.seq its.toArray n }:=by
 let#[z,its,n,r,e]:=I.hok l _ a;exact#[z,its,n,r,r.length,e]
theorem xY{n:Nat}(h:n<=sizeLine):PP n=false:=by
 delta PP;exact decide_eq_false (by lia)
end
noncomputable def wk:V->List V->Hp->VK->Prop:=λx vs H Q=>∃ l xs y,x=.ref l/\vs=[y]/\H l=some (.lst xs)/\xs.length < sizeLine/\Q .non (upd H l (.lst (xs++[y])))
theorem CA:MtM X "list.append" wk:=by
 intro b s j H x m v o Q I d f h;let#[l,k,y,rfl,rfl,c,i,q]:=h;cases d;let#[u,rfl,g]:=f.one;let#[z,a,n,r,p,e]:=I.CD c;refine Ut UF #[_,e,rfl] F.entry_list_append (F.args_list_append_2 _ _) (PySem.list_append l a.toArray n u (by simp_all)) #[e,?_];refine#[.non,_,I.Ox (its':=a++[u]) c e (by simp) (r.append (.cons g .nil)) ?_,rfl,q];rw[dV,UG];exact Yb i
noncomputable def wj:V->List V->Hp->VK->Prop:=λx vs H Q=>∃ l b xs zs,x=.ref l/\vs=[.ref b]/\H l=some (.lst xs)/\H b=some (.lst zs)/\xs.length + zs.length<=sizeLine/\Q .non (upd H l (.lst (xs++zs)))
theorem Cz:MtM X "list.extend" wj:=by
 intro g s A H x D v E Q I j k h;let#[l,b,C,B,rfl,rfl,i,w,G,q]:=h;cases j;let#[u,rfl,m]:=k.one;cases m;let#[z,c,n,r,J,e]:=I.CD i;let#[z2,a,p,o,t,y]:=I.CD w;have f:c.toArray.size + a.toArray.size<=sizeLine:=by rw[gT,gT];lia
 have d:¬ (!c.toArray.isEmpty && PP (c.toArray.size + a.toArray.size))=true:=by
  rw[xY f,Rx];exact jt
 refine Ut UH #[_,e,rfl] F.entry_list_extend (F.args_list_extend_2 _ _)
  (AutoSeq1.list_extend_list_list_0 l c.toArray n b a.toArray p d (by grind) (by lia)) #[e,y,?_]
 refine#[.non,_,I.Ox (its':=c++a) i e (by simp) (r.append o) ?_,rfl,q];rw[dV];lia
def NZ:R2:=λx y H Q=>∃ l b xs zs,x=.ref l/\y=.ref b/\H l=some (.lst xs)/\H b=some (.lst zs)/\xs.length + zs.length<=sizeLine/\∀ p,H p=none->Q (.ref p) (upd H p (.lst (xs++zs)))
theorem Ln:OpR X (Q5 .Add) NZ:=by
 intro d s t H x y v u Q I g f h;let#[l,b,A,w,rfl,rfl,k,m,C,q]:=h;cases g;cases f;let#[z,c,n,r,D,e]:=I.CD k;let#[z2,a,B,i,j,p]:=I.CD m;refine PySem.P.add_list e p ?_ (by rw[gT,gT];lia);have o:c.toArray++a.toArray=(c++a).toArray:=by simp
 rw[o];exact#[.ref _,_,I.Oy (t':=s.toks) (r.append i) (by rw[dV];lia),rfl,q _ I.fresh]
def KO:R2:=λx y H Q=>∃ l k xs,x=.ref l/\y=.int k/\H l=some (.lst xs)/\-(2 ^ 63)<=k/\k < 2 ^ 63/\xs.length * k.toNat<=sizeLine/\
 ∀ p,H p=none->Q (.ref p) (upd H p (.lst (ji k.toNat xs).flatten))
theorem len_rep{a:Type}(xs:List a)(k:Nat):(ji k xs).flatten.length=k * xs.length:=by simp_all
theorem Le:OpR X (Q5 .Mult) KO:=by
 intro p s L H x y v u Q I C B h;let#[l,k,M,rfl,rfl,E,J,G,w,q]:=h;cases C;let#[t,rfl]:=B;let#[z,b,n,r,D,e]:=I.CD E;have f:b.toArray.size * k.toNat<=sizeLine:=by rw[gT,<- D];exact w
 have i:¬ b.toArray.size * k.toNat > (2 ^ 63 - 1) / 8:=by
  have:(sizeLine:Nat)<=(2 ^ 63 - 1) / 8:=by decide
  lia
 have g:¬ (!Builtin.List.listFitsIndex k)=true:=by
  rw[fitsIndex_both J G];exact jt
 have c:¬ PP (b.toArray.size * k.toNat)=true:=by
  rw[xY f];exact jt
 have d:Vo (λo j=>o++j) #[] (ji (if b.toArray.isEmpty=true then 0 else k.toNat) b.toArray)=(ji k.toNat b).flatten.toArray:=by
  have K:∀ m:Nat,Vo (λo j=>o++j) #[] (ji m b.toArray)=(ji m b).flatten.toArray:=λm=>by
   have:=foldl_rep b m [];rw[Gh] at this;exact this
  rw[K];cases b with
  | nil=>simp
  | cons a N=>rw[if_neg (by simp)]
 refine wpAny_binaryOp_repeat_ref (T:="list") (U:="int") (by decide) #[_,e,rfl] (λA=>WT A k t) noFill_list_mul F.fills_int_mul WA repeat_list F.slot_int_index.lookup
  (Ut WA (WT s k t) F.entry_int_rmul (F.args_int_rmul_2 _ _) (int___rmul___int_list k t l b.toArray n)
   #[e,rfl,#[_,e,rfl],Ut F.slot_list_mul #[_,e,rfl] F.entry_list_mul (F.args_list_mul_2 _ _) (AutoListH.list___mul___list_int_3 l b.toArray n k t g i c) #[e,?_]])
 rw[d];exact#[.ref _,_,I.Oy (t':=s.toks) (r.rep k.toNat) (by rw[len_rep,Xo];exact w),rfl,q _ I.fresh]
section
variable {κ:Type}[DecidableEq κ]
noncomputable def iF (a:List (κ×V))(k:κ):Option V:=(a.find? λb=>decide (b.1=k)).map (·.2)
noncomputable def putK (a:List (κ×V))(k:κ)(v:V):List (κ×V):=
 if (a.any λb=>decide (b.1=k))=true then a.map (λb=>if b.1=k then (b.1,v) else b) else a++[(k,v)]
theorem dm{p:κ×V}{r:List (κ×V)}{k:κ}(e:p.1=k):iF (p::r) k=some p.2:=by simp -iota [iF,GM,e]
theorem dq{p:κ×V}{r:List (κ×V)}{k:κ}(e:¬ p.1=k):iF (p::r) k=iF r k:=by simp -iota [iF,GM,e]
theorem nY (k:κ):∀ kvs:List (κ×V),(kvs.any λa=>decide (a.1=k))=(iF kvs k).isSome
 | []=>rfl
 | p::r=>by
  rw[Rj];by_cases e:p.1=k
  .simp -iota only[dm e,decide_eq_true e,Bool.true_or,Vp]
  .rw[dq e,decide_eq_false e,Bool.false_or];exact nY k r
theorem xo (k j:κ)(y:V):∀ kvs:List (κ×V),iF (kvs.map λa=>if a.1=k then (a.1,y) else a) j=(iF kvs j).map λx=>if j=k then y else x
 | []=>rfl
 | p::r=>by
  have b:=xo k j y r;rw[eN];by_cases h:p.1=k
  .rw[if_pos h];by_cases e:p.1=j
   .rw[dm (p:=(p.1,y)) e,dm e,SW,if_pos (e.symm.trans h)]
   .rw[dq (p:=(p.1,y)) e,dq e,b]
  .rw[if_neg h];by_cases e:p.1=j
   .rw[dm (p:=p) e,dm e,SW,if_neg (λz=>h (e.trans z))]
   .rw[dq (p:=p) e,dq e,b]
theorem uK (k j:κ)(y:V):∀ kvs:List (κ×V),iF kvs k=none->iF (kvs++[(k,y)]) j=if j=k then some y else iF kvs j
 | [],_=>by
  by_cases e:k=j
  .rw[if_pos e.symm];exact dm (p:=(k,y)) e
  .rw[if_neg (λz=>e z.symm)];exact dq (p:=(k,y)) e
 | p::r,a=>by
  rw[KI];have hk:¬ p.1=k:=λz=>by rw[dm z] at a;cases a
  rw[dq hk] at a;have b:=uK k j y r a;by_cases e:p.1=j
  .rw[dm e,dm e,if_neg (λz=>hk (e.trans z))]
  .rw[dq e,dq e,b]
theorem Dr(b:List (κ×V))(k j:κ)(y:V):iF (putK b k y) j=if j=k then some y else iF b j:=by
 delta putK;by_cases a:(b.any λc=>decide (c.1=k))=true
 .rw[if_pos a,xo];rw[nY] at a;by_cases e:j=k
  .let#[x,d]:=wh.mp a;rw[if_pos e,e,d,SW,if_pos rfl]
  .simp_all
 .rw[if_neg a];refine uK k j y b ?_;rw[nY] at a;cases q:iF b k with
  | none=>rfl
  | some x=>rw[q] at a;exact(a rfl).elim
theorem lh(a:List (κ×V))(k:κ)(v:V):(putK a k v).length<=a.length + 1:=by
 delta putK;split
 .rw[lM0];lia
 .simp_all
theorem iH.CN{u:Option Value}(r:iH o u):o.isSome=u.isSome:=by
 cases o with
 | none=>cases u with
  | none=>rfl
  | some _=>exact(show False from r).elim
 | some _=>cases u with
  | none=>exact(show False from r).elim
  | some _=>rfl
theorem KV.val{a:List (κ×V)}{vs:List (κ×Value)}(r:KV a vs)(k:κ):iH (iF a k) (UZ vs k):=by
 delta KV at r
 induction r with
 | nil=>exact yv
 | @cons p q j c h t g=>
  let#[f,i]:=h;by_cases e:p.1=k
  .have d:q.1=k:=f.symm.trans e;have b:UZ (q::c) k=some q.2:=by simp -iota [UZ,GM,d]
   rw[dm e,b];exact i
  .have d:¬ q.1=k:=λz=>e (f.trans z);have b:UZ (q::c) k=UZ c k:=by simp -iota [UZ,GM,d]
   rw[dq e,b];exact g
theorem KV.any{a:List (κ×V)}{vs:List (κ×Value)}(r:KV a vs)(k:κ):(a.any λb=>decide (b.1=k))=vs.any λb=>decide (b.1=k):=by
 delta KV at r
 induction r with
 | nil=>rfl
 | cons h t c=>rw[Rj,Rj,c,h.1]
theorem KV.KJ{b:List (κ×V)}{vs:List (κ×Value)}(r:KV b vs)(k:κ)(d:RelV y u) :
  KV (b.map λa=>if a.1=k then (a.1,y) else a) (vs.map λa=>if a.1=k then (a.1,u) else a):=by
 delta KV at r ⊢
 induction r with
 | nil=>exact .nil
 | @cons p q j i h t f=>
  rw[eN,eN];refine .cons ?_ f;let#[c,g]:=h;by_cases e:p.1=k
  .rw[if_pos e,if_pos (c.symm.trans e)];exact#[c,d]
  .rw[if_neg e,if_neg (λz=>e (c.trans z))];exact#[c,g]
theorem KV.put{a:List (κ×V)}{vs:List (κ×Value)}(r:KV a vs)(k:κ)(b:RelV y u):KV (putK a k y) (stored vs k u):=by
 delta putK stored;rw[r.any k];by_cases e:(vs.any λc=>decide (c.1=k))=true
 .rw[if_pos e,if_pos e];exact r.KJ k b
 .rw[if_neg e,if_neg e];exact XF r #[rfl,b]
theorem KV.length{a:List (κ×V)}{vs:List (κ×Value)}(r:KV a vs):a.length=vs.length:=TL r
end
theorem EV{k:Key}(r:RelV (kV k) u):(cL P w).is k u=true:=by
 cases k with
 | inl i=>let#[t,e]:=(show ∃ t,u=Cs i t from r);subst e;exact x6 P w i t
 | inr x=>let#[t,e]:=(show ∃ t,u=Rg x t from r);subst e;exact xZ P w x t
theorem mi {P:vn}{w:World}:∀ {a:List Key} {us:Lv0},Vals (a.map kV) us->ItemsAre (cL P w) a us
 | [],_,r=>by rw[Uu] at r;cases r;exact .nil
 | k::a,_,r=>by
  rw[eN] at r;cases r with
  | cons h t=>exact .cons (EV h) (mi t)
noncomputable abbrev KT (H:Hp):List (List Key×V)->List (List Key×Addr×Value)->Prop:=Paired λp q=>p.1=q.1/\H q.2.1=some (.tup (p.1.map kV))/\RelV p.2 q.2.2
theorem KT.val(r:KT H kvs xs)(k:List Key):iH (iF kvs k) ((atKey xs k).map (·.2)):=by
 induction r with
 | nil=>exact yv
 | @cons p q i a h t f=>
  let#[d,_,g]:=h;by_cases e:p.1=k
  .have c:q.1=k:=d.symm.trans e;have b:atKey (q::a) k=some q.2:=by simp -iota [atKey,GM,c]
   rw[dm e,b];exact g
  .have c:¬ q.1=k:=λz=>e (d.trans z);have b:atKey (q::a) k=atKey a k:=by simp -iota [atKey,GM,c]
   rw[dq e,b];exact f
theorem KT.KJ(r:KT H kvs xs)(k:List Key)(d:RelV y u) :
  KT H (kvs.map λb=>if b.1=k then (b.1,y) else b) (xs.map (putAt k u)):=by
 induction r with
 | nil=>exact .nil
 | @cons p q j i h t f=>
  rw[eN,eN];refine .cons ?_ f;let#[a,c,g]:=h;delta putAt;by_cases e:p.1=k
  .rw[if_pos e,if_pos (a.symm.trans e)];exact#[a,c,d]
  .rw[if_neg e,if_neg (λz=>e (a.trans z))];exact#[a,c,g]
theorem KT.put(r:KT H kvs xs)(k:List Key){b:Addr}(d:H b=some (.tup (k.map kV)))(a:RelV y u) :
  KT H (putK kvs k y) (storedH xs k b u):=by
 have e:(kvs.any λc=>decide (c.1=k))=(atKey xs k).isSome:=by
  rw[nY,(r.val k).CN,Option.isSome_map]
 delta putK storedH;rw[e];by_cases q:(atKey xs k).isSome=true
 .rw[if_pos q,if_pos q];exact r.KJ k a
 .rw[if_neg q,if_neg q];exact XF r #[rfl,d,a]
theorem KT.keeps(r:KT H kvs xs)(a:∀ b ys,H b=some (.tup ys)->H' b=some (.tup ys)):KT H' kvs xs:=
 Paired.Lz r λ_ _ z=>#[z.1,a _ _ z.2.1,z.2.2]
section
variable {h:Heap}
theorem Jr{u:HO}(ok:HOk P w H h)(e:Rd H a u):b8 P w H h a u:=e.ok ok
theorem Fp{b:List (Key×V)}(ok:HOk P w H h)(e:Rd H a (.dK b)):b.length<=sizeLine/\(a == O6)=false/\∃ vs,KV b vs/\h.DictOf (cL P w) a vs:=
 show b8 P w H h a (.dK b) from Jr ok e
theorem Fq{b:List (Key×V)}(ok:HOk P w H h)(e:H a=some (.dK b)):b.length<=sizeLine/\(a == O6)=false/\∃ vs,KV b vs/\h.DictOf (cL P w) a vs:=Fp ok (.inl e)
theorem tN{ks:List Key}(ok:HOk P w H h)(e:H a=some (.tup (ks.map kV))):(TZ (cL P w)).is h ks a:=by
 let#[_,b,r,o,f,d,n,c]:=(show b8 P w H h a (.tup (ks.map kV)) from ok a _ e);exact#[o,b.toArray,n,f,d,c,by simpa using mi r]
theorem Fl(ok:HOk P w H h)(e:Rd H a (.dT kvs)):kvs.length<=sizeLine/\(a == O6)=false/\
  ∃ xs,KT H kvs xs/\h.DictOfH (TZ (cL P w)) a xs:=by
 let#[z,y,xs,r,o,k,n,j,i,g,f,d]:=(show b8 P w H h a (.dT kvs) from Jr ok e);refine#[z,y,xs,r,o,k,n,j,i,g,f,λx hx=>?_,d];have all:∀ {l:List (List Key×V)} {m:List (List Key×Addr×Value)},KT H l m->∀ x∈m,(TZ (cL P w)).is h x.1 x.2.1:=by
  intro l m q
  induction q with
  | nil=>intro x hx;exact nomatch hx
  | @cons p q u s b t c=>
   intro x hx;rcases cm.mp hx with e | hx
   .subst e;exact tN ok (by rw[<- b.1];exact b.2.1)
   .exact c x hx
 exact all r x hx
theorem Pe(ok:HOk P w H h)(e:H a=some (.dT kvs)):kvs.length<=sizeLine/\(a == O6)=false/\
  ∃ xs,KT H kvs xs/\h.DictOfH (TZ (cL P w)) a xs:=Fl ok (.inl e)
end
def AK (H:Hp)(a:Addr)(y:V)(r:Option V):Prop:=
 (∃ kvs k,Rd H a (.dK kvs)/\y=kV k/\r=iF kvs k)\/∃ kvs k b,Rd H a (.dT kvs)/\y=.ref b/\H b=some (.tup (k.map kV))/\r=iF kvs k
def GB (H:Hp)(a:Addr)(y v:V)(H':Hp):Prop:=
 (∃ kvs k,H a=some (.dK kvs)/\y=kV k/\kvs.length < sizeLine/\H'=upd H a (.dK (putK kvs k v)))\/
 ∃ kvs k b,H a=some (.dT kvs)/\y=.ref b/\H b=some (.tup (k.map kV))/\kvs.length < sizeLine/\H'=upd H a (.dT (putK kvs k v))
theorem AK.t{b:Addr}{k:List Key}(e:H a=some (.dT kvs))(c:H b=some (.tup (k.map kV))):AK H a (.ref b) (iF kvs k):=.inr #[kvs,k,b,.inl e,rfl,c,rfl]
theorem GB.t{b:Addr}{k:List Key}{v:V}(e:H a=some (.dT kvs))(d:H b=some (.tup (k.map kV)))(c:kvs.length < sizeLine) :
  GB H a (.ref b) v (upd H a (.dT (putK kvs k v))):=.inr #[kvs,k,b,e,rfl,d,c,rfl]
section
variable {pins:Pn0}{s:Shared}{v:V}{r:Value}
theorem Inv.big(I:Inv X pins σ H s):O6 < s.heap.objs.size:=by
 have h:eW < s.heap.objs.size:=(I.mod.glob.keeps I.bk).lt;exact VT (by decide) h
theorem CV(x:A.units + 1 < cLine)(I:Inv X pins σ H s)(g:AK H a y (some v))(r:RelV y u)(h:∀ f s',Inv X pins σ H s'->RelV v f->Q f s') :
  wpAny (model X.prog X.w) A (Uq (.ref a) u) Q E s:=by
 rcases g with ⟨i,k,e,n,l⟩ | ⟨i,k,b,e,n,C,l⟩
 .subst n;let#[z,hd,w,d,q]:=Fp I.hok e;let#[f,j,c]:=iH.some_of (v:=v) (o:=UZ w k) (by rw[l];exact d.val k);exact wpAny_getItem_of (EV r) q.mapOf j (h f _ (I.tok _) c)
 .subst n;cases (show u=fC b from r);let#[z,hd,t,d,q]:=Fl I.hok e;let#[f,j,c]:=iH.some_of (v:=v) (o:=(atKey t k).map (·.2)) (by rw[l];exact d.val k);let#[p,B,m]:=Jv.mp j;refine wpAny_getItem_heap (Ti x) (tN I.hok C) q B ?_;rw[m];exact h f _ (I.tok _) c
theorem BI{c:HO}(I:Inv X pins σ H s)(f:Mut (H a))(hs:Se a s.heap h')(g:∃ q,h'.get? a=some q)(d:b8 X.prog X.w (upd H a c) h' a c) :
  Inv X pins σ (upd H a c) { s with heap:=h',toks:=t' }:=
 I.write (x:=a) (e:=a) f (.inl rfl) (λb q h z=>(hs.2 b h).trans z) g d
theorem Mw{b:List (Key×V)}{vs:List (Key×Value)}(z:b.length<=sizeLine)(hd:(a == O6)=false)(c:KV b vs)(d:h'.DictOf (cL P w) a vs) :
  b8 P w H' h' a (.dK b):=#[z,hd,vs,c,d]
theorem CU{Q:Unit->Shared->Prop}(J:A.units + 1 < cLine)(I:Inv X pins σ H s)(g:GB H a y v H')(w:RelV y u)(x:RelV v r)(h:∀ s',Inv X pins σ H' s'->Q () s') :
  wpAny (model X.prog X.w) A (VB (.ref a) u r) Q E s:=by
 rcases g with ⟨f,k,e,o,l,p⟩ | ⟨f,k,b,e,o,D,l,p⟩
 .subst o p;let#[z,hd,G,d,t]:=Fq I.hok e;have m:G.length<=sizeLine:=by rw[<- d.length];exact z
  have n:(putK f k v).length<=sizeLine:=by have:=lh f k v;exact YQ l this
  refine wpAny_setItem_pairs (hsz:=m) (EV w) t λB i hs=>h _ ?_;have K:∃ q,B.get? a=some q:=let ⟨q,_,_,j,_⟩:=i;#[q,j]
  exact BI I (by rw[e];exact yv) hs K (Mw n hd (d.put k x) i)
 .subst o p;cases (show u=fC b from w);let#[z,hd,F,d,t]:=Pe I.hok e;have m:F.length<=sizeLine:=by rw[<- TL d];exact z
  have n:(putK f k v).length<=sizeLine:=by have:=lh f k v;exact YQ l this
  refine wpAny_setItem_heap (hsz:=m) (Ti J) (tN I.hok D) t λB i hs=>h _ ?_;let#[q,P,R,j,O,N,M,_,L]:=i;refine BI I (by rw[e];exact yv) hs #[q,j] #[n,hd,_,(d.put k D x).keeps λc S C=>?_,q,P,R,j,O,N,M,L];rw[ao (s_ C e (λz=>nomatch z))];exact C
end
def M0 (i:Expr):Prop:=∀ a b,subscripted i false a b=operate [a,b] (Uq a b)
theorem GV{s:Shared}{slice:Expr}{T id:String}(g:Vn (.type T) "__getitem__"=pure (some (.builtin id)))(hs:M0 slice)(h:wpAny (model prog w) A (eval value env) (λo c=>wpAny (model prog w) A (eval slice env) (λi s₂=>s₂.TypeIs o T/\wpAny (model prog w) A (Uq o i) Q E s₂) E c) E s) :
  wpAny (model prog w) A (eval (.Subscript value slice pos) env) Q E s:=by
 refine WS (Cy h (λo c e=>Cy e (λi s₂ a=>?_) λ_ _ x=>x) λ_ _ x=>x);let#[f,a]:=a;delta subscriptTail;refine ba ?_;rw[getitemInPython_of_ne f.not_modules];refine ba (wpAny_specialOf f g ?_);have fin:wpAny (model prog w) A (subscripted slice false o i) (λr b=>wpAny (model prog w) A (letTemporaryGo value o r >>= λ_=>pure r) Q E b) E s₂:=by
  rw[hs o i];exact wpAny_operating (Cy a (λr b d=>ba (wpAny_letTemporaryGo (bq d))) λ_ _ x=>x)
 first
  | exact bq (ba fin)
  | exact ba (bq (ba fin))
  | exact ba fin
theorem yH{c:Pn0}{s:Shared}(I:Inv X c σ H s)(g:AK H a y o):s.TypeIs (.ref a) "dict":=by
 rcases g with ⟨d,k,e,_,_⟩ | ⟨d,k,b,e,_,_,_⟩
 .let#[_,_,i,_,f]:=Fp I.hok e;exact f.typeIs
 .let#[_,_,h,_,f]:=Fl I.hok e;exact f.typeIs
def NA (b ty:TE):TE:=λσ H Q=>b σ H λx H1=>ty σ H1 λy H2=>∃ a v,x=.ref a/\AK H2 a y (some v)/\Q v H2
def DP (d ty c:TE):TS:=λD σ H=>c σ H λv H1=>d σ H1 λx H2=>ty σ H2 λy e=>∃ a b,x=.ref a/\GB e a y v b/\D.nx σ b
section
variable {o i e:Expr}{pos' tpos:Pos}{td ty tv:TE}
theorem Hy(n:X.A.units + 1 < cLine)(p:PE X o td)(hi:PE X i ty)(hs:M0 i):PE X (.Subscript o i pos) (NA td ty):=by
 intro b s d H Q I h;refine GV PySem.F.slot_dict_getitem.lookup hs (thn (p b s d H _ I h) λu f ⟨x,z,t,k,m⟩=>thn (hi b f d z _ t m) λD C Z=>?_);let#[y,w,e,j,a,v,q,g,l]:=Z;subst q;obtain rfl:u=fC a:=k;exact#[yH e g,CV n e g j λA B r c=>#[v,w,r,c,l]]
theorem Hn(q:X.A.units + 1 < cLine)(t:PE X o td)(hi:PE X i ty)(p:PE X value tv)(hs:Do value (some (.Subscript o i pos')) pos.line X.env=pure false) :
  PS X (.Assign [.Subscript o i pos'] value pos) (DP td ty tv):=by
 intro b s c H D I h;refine wpAny_Assign_Subscript (thn (p b s c H _ I h) λr e ⟨v,G,C,k,n⟩=>thn (t b e c G _ C n) λu d ⟨x,F,B,j,m⟩=>thn (hi b d c F _ B m) λL K Z=>?_) hs;let#[y,M,A,f,a,E,w,g,l]:=Z;subst w;obtain rfl:u=fC a:=j;exact CU q A g f k λJ z=>#[c,E,z,l]
end
theorem Fm(h:Heap)(a:O6 < h.objs.size):b8 P w H (h.push { cls:=.type "dict",data:=.dict #[] }) h.objs.size (.dT []):=
 #[eA _,beq_eq_false_iff_ne.mpr (lj (gm a)),[],.nil,_,#[],0,en _ rfl,#[rfl,rfl,rfl],rfl,rfl,Qe]
def zb:TE:=λ_ H Q=>∀ p,H p=none->Q (.ref p) (upd H p (.dT []))
theorem Ei:PE X (.Dict [] [] pos) zb:=λb s c H Q I h=>
 wpAny_Dict_empty #[.ref s.heap.objs.size,_,I.laid (a:=s.heap.objs.size) (o:=.dT []) (t':=s.toks) (λ_ _ q=>bc _ q) (cb _) (Fm s.heap I.big),rfl,h _ (I.hok.fresh (cb _))]
end _2
namespace _a
open PySem PySem.W PySem.Calls PyProof.Rows
theorem q8{P:Params}{h:Heap}:∀ (ns:Li0) (vs:Lv0),WellAll P h vs (ns.map WData.int)->SF vs ns:=by
 intro ns
 induction ns with
 | nil=>
  intro vs w;rw[Uu] at w;cases w;exact .nil
 | cons n ns c=>
  intro vs w;rw[eN] at w;cases w with
  | cons a b=>
   cases a;exact .cons _ _ (c _ b)
theorem Cf{l:SL}{n:Nat}(u:l.most=some n){P:Params}{h:Heap}{args:List WData}{b:Lv0}(c:l.row.toRowW.claim.pre args=true)(j:WellAll P h b args) :
  ∃ a vs ns,b=[fC a]/\args=[WData.list (ns.map WData.int)]/\h.get? a=some { cls:=.type "list",data:=.seq vs.toArray }/\SF vs ns/\ns.length<=n:=by
 have k:WShape.hasAll [] args [.list .int]=true:=(pre_splitW c).1;have m:l.pre.holds [] { args:=args }=true:=(pre_splitW c).2;let#[d,r,rfl,x,w]:=hasAllW_cons k;obtain rfl:=hasAllW_nil w;let#[y,rfl,v]:=hasW_list x;let#[ns,rfl]:=items_int v;have e:ns.length<=n:=by
  delta OpenLaw.pre at m;have i:(WTm.not (.lt (.lit (.int (n:Int))) (.len (.arg 0)))).holds [] { args:=[.list (ns.map .int)] }=true:=by
   have i:=(holds_andW m).1;rw[u] at i;exact i
  have g:=condW_of i (w_not (w_lt w_lit (w_len_list (w_arg rfl))));rw[lM0] at g;refine Nat.le_of_not_lt λq=>?_;have s:(n:Int) < ((ns.length:Nat):Int):=by lia
  first
   | (rw[decide_eq_true s] at g;exact absurd g (by decide))
   | (simp at g;lia)
 cases j with
 | cons p o=>
  cases o;cases p with
  | list t f=>exact#[_,_,ns,rfl,rfl,t,q8 ns _ f,e]
theorem Cn(l:SL)(args:List WData):l.row.toRowW.claim.post args (.bool true) args=true:=
 postW_of (r:=l.row.toRowW) (X:=(true == true))
  (show XI [] (.bool true) .bool=true by first | rfl | decide | simp [XI,WShape.arms,WShape.armsAll])
  (show (WTm.eq .res (.lit (.bool true))).value [] { args:=args,res:=some (.bool true),after:=args }=some (.bool (true == true)) from w_eq_bool (w_res rfl) w_lit) rfl
theorem yO{l:SL}{n:Nat}{q:vn}{c:Ls0}{XP:(SV)->Heap->Prop}{A:World->Heap->Prop}{d:DefRec}(E:l.most=some n)(u:d.params.defaults=[])(call:∀ (w:World) (av b:Shared) (mg p:SV) (k:Addr) (o:Obj) (m cd g:Value) (a:Addr) (vs:Lv0) (ns:Li0),
   Ground q c [] XP w av mg p b.heap->A w b.heap->
   b.heap.get? k=some o->o.data=.func (docDef d.name d.params d.body d.scope m cd g)->b.heap.CodeRec cd d.name->mg d.name=some (.ref k)->
   b.heap.get? a=some { cls:=.type "list",data:=.seq vs.toArray }->SF vs ns->ns.length<=n->b.gens=#[]->
   xb (model l.prog w) U0 (.call (.ref k) #[[.ref a],[]]) (λr s'=>r=.ok (.ret (.bool true))/\OldK b.heap s'.heap/\s'.os=b.os/\Sd s'.gens) b) :
  WalkO q c XP A l.row.toRowW d [] (λf vs=>WU f vs):=by
 intro w av b mg p G Y k o m cd g M kV D hd v z t I args x N h y B s H;obtain rfl:M=.none:=Dflts.none z u;obtain rfl:kV=.none:=Dflts.noKw z;let#[a,vs,ns,rfl,rfl,i,e,j]:=Cf E h s;refine enter_call (QC (call w av b mg p k o m cd g a vs ns G Y D (fd_plain hd) v t i e j I) λr s' C=>?_);let#[rfl,L,K,J]:=C;exact#[.inl #[.bool true,.bool true,[],rfl,λ_=>rfl,.bool true,Cn l _,λ_=>#[Gg,λ_ F=>(nomatch F)]],L,K,J]
end _a
namespace _2
open PySem PySem.Spec PyProof.Rows
theorem uJ:∀ {vs:Lv0} {ns:Li0},SF vs ns->Vals (ns.map V.int) vs
 | _,_,.nil=>.nil
 | _,_,.cons n t h=>.cons #[t,rfl] (uJ h)
def MZ (H:Hp):Prop:=∀ b,H b=none\/(∃ o xs,H b=some (.frz o (.lst xs)))\/∃ ps,H b=some (.tbl ps)
noncomputable def inClass (s:Stmt)(j:Nat):Stmt:=match s with
 | .ClassDef _ _ _ body _ _ _ _ _ _ _=>body.getD j (.Pass #[0,0,0,0])
 | _=>.Pass #[0,0,0,0]
noncomputable def mj (s:Stmt):Arguments:=match s with
 | .FunctionDef _ a _ _ _ _ _ _ _ _=>a
 | _=>{ posonlyargs:=[],args:=[],vararg:=none,kwonlyargs:=[],kw_defaults:=[],kwarg:=none,defaults:=[] }
noncomputable def gO (s:Stmt):List Stmt:=match s with
 | .FunctionDef _ _ b _ _ _ _ _ _ _=>b
 | _=>[]
noncomputable def ai (s:Stmt):Scope:=match s with
 | .FunctionDef _ _ _ _ _ _ sc _ _ _=>sc
 | _=>{ kind:=.function,names:=[],isGenerator:=false,isCoroutine:=false }
abbrev CX0:CXT:=λ_ _ _ _ _ _=>False
abbrev E0:XK:=λ_ _ _=>False
theorem sJ:Passes CX0 X E0:=λ_ _ _ _ _ _ _ h=>h.elim
structure Fun (K:Fg0) (x qual:Str) (st:Stmt) (f:Addr) (fd:eK):Prop where
 ex:∃ (oc:Value) (od:Option Addr) (kV doc pm:Value) (an:Option Addr) (cdv ct:Value) (osl:Array (Option Value)),
  fd=QD x qual (mj st) (gO st) (ai st) .none kV doc pm an cdv ct/\K.lookup f=some #[oc,od,.func fd,osl]/\UO K cdv qual=true
 kp:kx K (.ref f)=true
theorem Fun.ok{x:Str}{sp:Sp}(F:Fun K x qual st f fd)(S:az N ps (ai st))(len:∀ vs H Q E,sp vs H Q E->vs.length=ps.length)(hbody:∀ (a:Value) (A:Around) (outer:List Env) (s:Shared) (H:Hp) (vs:List V) (Q:VK) (E:XK),bH k (A.deeper (envOfC qual (ai st) s.heap.objs.size f a))->sp vs H Q E->
   ∃ t,PSs (mw CX0 P w K mg base N qual (ai st) f a A outer s H E).nox (gO st) t/\t { nx:=λ_ H'=>Q .non H',rt:=Q } (start N vs) H):aM P w K mg base CX0 (k + 1) f fd ps sp:=by
 let#[l,j,kV,g,i,n,a,m,d,rfl,lk,c]:=F.ex;refine JP lk c S len λA outer s H vs Q E e b=>?_;let#[t,h,q]:=hbody a A outer s H vs Q E e b;exact#[t,h.nox,q]
theorem Fun.binds{x:Str}(F:Fun K x qual st f fd)(h:∀ (kV a c:Value) (e:Option Addr) (b d:Value) (us:Lv0),us.length=ps.length->WQ (QD x qual (mj st) (gO st) (ai st) .none kV a c e b d) #[us,[]]=pure (ps.zip us)):Binds K fd ps []:=by
 let#[k,j,kV,a,c,e,b,d,g,rfl,lk,i]:=F.ex;exact .all (h kV a c e b d)
theorem E6{x:Str}{h:Value}{od g:Option Addr}{kV b d a e:Value}(l:K.lookup f=some #[h,od,.func (QD x qual (mj st) (gO st) (ai st) .none kV b d g a e),osl])(c:UO K a qual=true)(k:kx K (.ref f)=true):Fun K x qual st f (QD x qual (mj st) (gO st) (ai st) .none kV b d g a e):=#[#[h,od,kV,b,d,g,a,e,osl,rfl,l,c],k]
theorem JK(a:bH k A):A.units + 1 < cLine:=Tj (Nat.add_le_add_left (by decide:1<=64) _) a.units
theorem pv(i:Nat){x:Str}(c:autoParam (X.N[i]?=some x) wE)(b:autoParam (Vis X.env.scope x) wq1)(hd:autoParam (Yk x) wP)(a:autoParam ((x == ("__classdict__":Str))=false) wP):PE X (.Name x pos) (eE i):=i8 c b hd a
theorem zY{A B:Prop}(h:B):if false=true then A else B:=by
 rw[if_neg jt];exact h
theorem zX{A B:Prop}(h:A):if true=true then A else B:=by
 rw[if_pos rfl];exact h
def aB (H H':Hp):Prop:=∀ b o,H b=some o->H' b=some o
theorem aB.refl(H:Hp):aB H H:=λ_ _ h=>h
theorem aB.trans(a:aB H H1)(b:aB H1 H2):aB H H2:=λc o h=>b c o (a c o h)
theorem aB.seq{xs:List V}(e:aB H H')(h:SqL K H a xs):SqL K H' a xs:=by
 rcases h with (h | ⟨o,h⟩) | h
 .exact .inl (.inl (e _ _ h))
 .exact .inl (.inr #[o,e _ _ h])
 .exact .inr h
noncomputable def takes (cells:List (Str×Addr)):List (Str×yC)->List (Str×Addr)->List (Str×Addr)
 | [],acc=>acc
 | (n,k)::r,acc=>takes cells r (if k=jk then (n,(cells.lookup n).getD 0)::acc else acc)
theorem uD(h:∀ y∈sc.names,y.2=.free->∃ c,env.cells.lookup y.1=some c):WV sc env=pure (takes env.cells sc.names []):=by
 have m:∀ (l:List (Str×yC)) (acc:List (Str×Addr)),(∀ y∈l,y.2=.free->∃ c,env.cells.lookup y.1=some c)->
   (forIn l acc (λ(x:Str×yC) (b:List (Str×Addr))=>match x with
    | (name,kind)=>if (kind == jk)=true then do let c <- cellOf env name;pure (MT ((name,c)::b)) else pure (MT b)):Sem (List (Str×Addr)))=pure (takes env.cells l acc):=by
  intro l
  induction l with
  | nil=>intro acc _;rfl
  | cons x l g=>
   intro acc e;let#[n,k]:=x;rw[R0];by_cases hk:k=jk
   .subst hk;let#[c,i]:=e (n,.free) nA rfl;have a:env.cells.lookup n=some c:=i;have o:cellOf env n=pure c:=by delta cellOf;rw[a]
    have f:takes env.cells ((n,jk)::l) acc=takes env.cells l ((n,c)::acc):=by
     show takes env.cells l (if jk=jk then (n,(env.cells.lookup n).getD 0)::acc else acc)=_;rw[if_pos rfl,a]
     rfl
    rw[f,<- g ((n,c)::acc) λy d=>e y (ei _ d)];show ((if (jk == jk)=true then (do let c <- cellOf env n;pure (MT ((n,c)::acc))) else pure (MT acc)) >>= _)=_;rw[if_pos (by decide),o,pure_bind,pure_bind]
   .have f:takes env.cells ((n,k)::l) acc=takes env.cells l acc:=by
     show takes env.cells l (if k=jk then _ else acc)=_;rw[if_neg hk]
    have j:(k == jk)=false:=by simpa using hk
    rw[f,<- g acc λy d=>e y (ei _ d)];show ((if (k == jk)=true then _ else pure (MT acc)) >>= _)=_;rw[j,if_neg jt,pure_bind]
 have:=m sc.names [] h;delta WV
 first
  | exact(congrArg (λz=>z >>= λb=>pure b) this).trans (pure_bind _ _)
  | exact this
  | simpa using this
theorem uL {cells:List (Str×Addr)}{n:Str}{c:Addr}:∀ (a:List (Str×yC)) (acc:List (Str×Addr)),(takes cells a acc).lookup n=some c->
  acc.lookup n=some c\/((n,jk)∈a/\c=(cells.lookup n).getD 0)
 | [],_,h=>.inl h
 | (m,k)::r,acc,h=>by
  rcases uL r _ h with q | ⟨d,b⟩
  .by_cases hk:k=jk
   .rw[if_pos hk] at q;subst hk;by_cases e:n=m
    .subst e;rw[ff,beq_self_eq_true] at q;exact .inr #[nA,(fS q).symm]
    .have:(n == m)=false:=by simpa using e
     rw[ff,this] at q;exact .inl q
   .rw[if_neg hk] at q;exact .inl q
  .exact .inr #[ei _ d,b]
theorem uM {cells:List (Str×Addr)}{n:Str}:∀ (a:List (Str×yC)) (acc:List (Str×Addr)),(acc.lookup n).isSome=true->((takes cells a acc).lookup n).isSome=true
 | [],_,h=>h
 | (m,k)::r,acc,h=>by
  refine uM r _ ?_;by_cases hk:k=jk
  .rw[if_pos hk];cases e:n == m with
   | true=>rw[ff,e];rfl
   | false=>rw[ff,e];exact h
  .rw[if_neg hk];exact h
theorem pP {cells:List (Str×Addr)}{n:Str}:∀ (a:List (Str×yC)) (acc:List (Str×Addr)),(n,jk)∈a->((takes cells a acc).lookup n).isSome=true
 | [],_,h=>by simp -iota at h
 | (m,k)::r,acc,h=>by
  rcases cm.mp h with e | h
  .cases e;refine uM r _ ?_;rw[if_pos rfl,ff,beq_self_eq_true]
   rfl
  .exact pP r _ h
structure Blk (N:Ls0) (osc sc:Scope) (Nc:Ls0) (fr:On):Prop where
 kind:sc.kind=.function
 own:∀ y∈sc.names,y.2=.cell->sc.names.lookup y.1=some .cell
 free:∀ y∈sc.names,y.2=.free->osc.names.lookup y.1=some .cell\/osc.names.lookup y.1=some .free
 locs:∀ y∈sc.names,y.2=.local->sc.names.lookup y.1=some .local
 nd:Nc.Nodup
 len:Nc.length=fr.length
 whence:∀ p∈Nc.zip fr,(p.2.all λj=>decide (N[j]?=some p.1) && decide (sc.names.lookup p.1=some .free))=true
noncomputable abbrev bcl (cells:List (Str×Addr))(a:Scope)(C:Addr):List (Str×Addr):=Av (C + 1) a.names (takes cells a.names [])
theorem BR {x:Str}{c:Addr}:∀ (a:List (Str×yC)) (n:Nat) (acc:List (Str×Addr)),(Av n a acc).lookup x=some c->acc.lookup x=some c\/(n<=c/\(x,ri)∈a)
 | [],_,_,h=>.inl h
 | (y,k)::r,n,acc,h=>by
  unfold Av at h;split at h
  .rename_i hk;have f:k=ri:=by simpa using hk
   rcases BR r _ _ h with q | ⟨d,b⟩
   .rw[ff] at q;cases e:x == y with
    | true=>simp_all
    | false=>rw[e] at q;exact .inl q
   .exact .inr #[Sm d,ei _ b]
  .rcases BR r _ _ h with q | ⟨d,b⟩
   .exact .inl q
   .exact .inr #[d,ei _ b]
theorem An {x:Str}{c:Addr}:∀ (a:List (Str×yC)) (n:Nat) (acc:List (Str×Addr)),(x,ri)∈a->(Av n a acc).lookup x=some c->n<=c
 | [],_,_,m,_=>nomatch m
 | (y,k)::r,n,acc,m,h=>by
  unfold Av at h;by_cases b:(x,ri)∈r
  .split at h
   .exact Sm (An r _ _ b h)
   .exact An r _ _ b h
  .have e:(x,ri)=(y,k):=(cm.mp m).resolve_right b;cases e;rw[if_pos (by rfl)] at h;rcases BR r _ _ h with q | ⟨d,_⟩
   .grind
   .exact Sm d
theorem Am {x:Str}:∀ (a:List (Str×yC)) (n:Nat) (acc:List (Str×Addr)),(x,ri)∉a->(Av n a acc).lookup x=acc.lookup x
 | [],_,_,_=>rfl
 | (y,k)::r,n,acc,m=>by
  unfold Av;have b:(x,ri)∉r:=λz=>m (ei _ z);split
  .rename_i hk;have c:k=ri:=by simpa using hk
   rw[Am r _ _ b,ff];have:(x == y)=false:=by simp_all
   rw[this]
  .exact Am r _ _ b
theorem Ao:∀ (b:List (Str×yC)) (n:Nat) (acc:List (Str×Addr)),(∀ x y c,acc.lookup x=some c->acc.lookup y=some c->x=y)->(∀ x c,acc.lookup x=some c->c < n)->
  ∀ x y c,(Av n b acc).lookup x=some c->(Av n b acc).lookup y=some c->x=y
 | [],_,_,h,_=>h
 | (z,k)::r,n,acc,h,lt=>by
  unfold Av;split
  .refine Ao r (n + 1) ((z,n)::acc) (λx y c a e=>?_) λx c a=>?_
   .rw[ff] at a e;cases d:x == z with
    | true=>
     cases f:y == z with
     | true=>rw[beq_iff_eq.mp d,beq_iff_eq.mp f]
     | false=>
      rw[d] at a;rw[f] at e;cases a;exact absurd (lt y n e) (iD _)
    | false=>
     cases f:y == z with
     | true=>
      rw[d] at a;rw[f] at e;cases e;exact absurd (lt x n a) (iD _)
     | false=>rw[d] at a;rw[f] at e;exact h x y c a e
   .rw[ff] at a;cases d:x == z with
    | true=>rw[d] at a;cases a;exact KB _
    | false=>rw[d] at a;exact Sn (lt x c a)
  .exact Ao r n acc h lt
theorem Cw{s:Shared}{g:Addr}{f:List (Str×Addr)}{i:Env}{Q:Env->Shared->Prop}(t:∀ h':Heap,h'.Ns s.heap.objs.size (λ_=>none)->(∀ b o,s.heap.get? b=some o->h'.get? b=some o)->(∀ n c,(Av (s.heap.objs.size + 1) sc.names f).lookup n=some c->f.lookup n=some c\/h'.IsCell c none)->
   Q { scope:=sc,locals:=s.heap.objs.size,globals:=g,cells:=Av (s.heap.objs.size + 1) sc.names f,qual:=qual,func:=none,code:=i.code,frame:=i.frame,builtins:=i.builtins } { s with heap:=h' }) :
  wpAny M A (Tn sc g f [] qual none .none (some i)) Q E s:=by
 simp only[Tn,Vp,if_true];refine ba (wpAny_alloc ?_);refine ba (wpAny_layCells _ (λname kind cells=>by cases j:kind == ri <;> simp -iota [j]) _ _ _ _ ?_);have u:∀ (a:List (Str×yC)) (h:Heap) (d:List (Str×Addr)) (P:Str->Addr->Prop),(∀ n c,d.lookup n=some c->P n c\/h.IsCell c none)->∀ n c,(Av h.objs.size a d).lookup n=some c->P n c\/(pushCells h a).IsCell c none:=by
  intro a
  induction a with
  | nil=>intro h d P x;exact x
  | cons p r l=>
   intro h d P x;let#[y,k]:=p;unfold Av pushCells;split
   .have:=l (h.push { cls:=.type "cell",data:=.cell none }) ((y,h.objs.size)::d) P λn c e=>by
     rw[ff] at e;cases m:n == y with
     | true=>rw[m] at e;cases e;exact .inr #[_,en _ rfl,rfl]
     | false=>
      rw[m] at e;rcases x n c e with q | q
      .exact .inl q
      .exact .inr (q.keeps λb o e=>bc _ e)
    rwa [ru] at this
   .exact l h d P x
 have ok:=u sc.names (s.heap.push { cls:=.type "dict",data:=.dict #[] }) f (λn c=>f.lookup n=some c) λn c e=>.inl e;rw[ru] at ok;rw[show ({ s with heap:=s.heap.push { cls:=.type "dict",data:=.dict #[] } }:Shared).heap.objs.size=s.heap.objs.size + 1 from ru ..];refine ba ?_;rw[UQ];exact bq (bq (t _ ((Heap.Ns.new s.heap (.type "dict")).keeps (pushCells_keeps _ _)) (λb o e=>pushCells_keeps _ _ b o (bc _ e)) ok))
noncomputable abbrev aT (X:Cx)(a:Scope)(b:Ls0)(av:Shared)(ax:Hp)(C:Addr)(ex:La0)(pn:Pn0):Cx where
 prog:=X.prog
 w:=X.w
 K:=X.K
 mg:=X.mg
 base:=X.base
 A:=X.A
 N:=b
 av:=av
 ax:=ax
 env:=compEnvC a (bcl X.env.cells a C) C X.env
 outer:=X.stack
 stack:=X.stack
 ex:=ex
 fn:=λx=>a.names.lookup x == some .cell
 calm:=X.calm
 pn:=pn
 xe:=λ_ _=>False
noncomputable def pE (a:On)(σ:St):St:=a.map λo=>o.bind λj=>(σ[j]?).join
theorem kX{x:Str}{k:yC}(h:(relabel sc env).names.lookup x=some k):sc.names.lookup x=some k\/(k=.cell/\sc.names.lookup x=some .free):=by
 have i:∀ l:List (Str×yC),(l.map λ(n,k)=>if (k == jk && env.scope.kind == .function && env.kindOf n == some .cell) then (n,ri) else (n,k)).lookup x=some k->l.lookup x=some k\/(k=.cell/\l.lookup x=some .free):=by
  intro l
  induction l with
  | nil=>intro h;simp -iota at h
  | cons p r g=>
   intro h;let#[n,d]:=p;rw[eN] at h;by_cases e:(d == jk && env.scope.kind == .function && env.kindOf n == some .cell)=true
   .have b:Kk x ((n,ri)::r.map λ(n,k)=>if (k == jk && env.scope.kind == .function && env.kindOf n == some .cell) then (n,ri) else (n,k))=some k:=by
     have c:=h;simp only[e,if_true] at c;exact c
    have hk:d=.free:=by
     simp -iota only[fT] at e;simpa using e.1.1
    subst hk;cases a:x == n with
    | true=>simp_all
    | false=>
     rw[ff,a] at b;rw[ff,a];exact g b
   .have f:(d == jk && env.scope.kind == .function && env.kindOf n == some .cell)=false:=by simpa using e
    have b:Kk x ((n,d)::r.map λ(n,k)=>if (k == jk && env.scope.kind == .function && env.kindOf n == some .cell) then (n,ri) else (n,k))=some k:=by
     have c:=h;simp only[f,ky,if_false] at c;exact c
    cases a:x == n with
    | true=>
     rw[ff,a] at b;rw[ff,a];exact .inl b
    | false=>
     rw[ff,a] at b;rw[ff,a];exact g b
 exact i _ h
theorem wg{x:Str}(h:sc.names.lookup x=some .free):(relabel sc env).names.lookup x=some .cell\/(relabel sc env).names.lookup x=some .free:=by
 have f:∀ l:List (Str×yC),l.lookup x=some .free->(l.map λ(n,k)=>if (k == jk && env.scope.kind == .function && env.kindOf n == some .cell) then (n,ri) else (n,k)).lookup x=some .cell\/(l.map λ(n,k)=>if (k == jk && env.scope.kind == .function && env.kindOf n == some .cell) then (n,ri) else (n,k)).lookup x=some .free:=by
  intro l
  induction l with
  | nil=>intro h;simp -iota at h
  | cons p r d=>
   intro h;let#[n,c]:=p;rw[eN];by_cases e:(c == jk && env.scope.kind == .function && env.kindOf n == some .cell)=true
   .simp only[e,if_true];cases a:x == n with
    | true=>left;simp [ff,a]
    | false=>
     rw[ff,a] at h;simp only[ff,a];exact d h
   .have b:(c == jk && env.scope.kind == .function && env.kindOf n == some .cell)=false:=by simpa using e
    simp only[b,ky,if_false];cases a:x == n with
    | true=>
     rw[ff,a] at h
     right
     simp only[ff,a];exact h
    | false=>
     rw[ff,a] at h;simp only[ff,a];exact d h
 exact f _ h
section
variable {pins:Pn0}
theorem gU(B:Blk X.N X.env.scope sc Nc fr)(ok:X.Ok){n:Str}{c:Addr}(h:(takes X.env.cells sc.names []).lookup n=some c):X.env.cells.lookup n=some c:=by
 rcases uL _ _ h with q | ⟨d,b⟩
 .simp -iota at q
 .let#[e,a]:=ok.has n (B.free _ d rfl);rw[a] at b;rw[a,b]
  rfl
theorem vA(B:Blk X.N X.env.scope sc Nc fr)(ok:X.Ok){n:Str}{c:Addr}(h:(bcl X.env.cells sc C).lookup n=some c):X.env.cells.lookup n=some c\/C < c:=by
 rcases BR _ _ _ h with q | ⟨q,_⟩
 .exact .inl (gU B ok q)
 .exact .inr q
theorem eT{n:Str}{k:yC}:∀ {l:List (Str×yC)},l.lookup n=some k->(n,k)∈l:=λh=>HR h
theorem MJ(B:Blk X.N X.env.scope sc Nc fr){g:Pn0}(I:Inv X pins σ ax av)(d:av.heap.objs.size<=C)(hex:∀ b∈ex,b < av.heap.objs.size/\b∉X.fs/\b≠X.env.locals/\(∀ x c,X.env.cells.lookup x=some c->c≠b)/\∀ o,X.base.get? b≠some o):(aT X sc Nc av ax C ex g).Ok where
 mod:=I.ok.mod
 kind:=B.kind
 glob:=I.ok.glob
 blt:=I.ok.blt
 above:=d
 inj:=Ao _ _ _ (λx y c j i=>I.ok.inj x y c (gU B I.ok j) (gU B I.ok i)) λx c h=>by
  let#[v,o,e,_]:=I.cell x c (gU B I.ok h);exact Sn (da (ec e) d)
 has:=λx hx=>by
  have f:sc.names.lookup x=some .cell\/sc.names.lookup x=some .free:=by
   rcases hx with hx | hx
   .rcases kX hx with q | ⟨_,q⟩
    .exact .inl q
    .exact .inr q
   .rcases kX hx with q | ⟨_,q⟩
    .exact .inr q
    .exact .inr q
  refine wh.mp (Sj _ _ _ ?_);rcases f with q | q
  .exact .inl q
  .exact .inr (pP _ _ (eT q))
 cab:=λx c h e=>by
  have k:sc.names.lookup x=some .cell:=by simpa using h
  exact eH d (Sm (An _ _ _ (eT k) e))
 hd:=I.ok.hd
 frames:=I.ok.frames
 stk:=.inl rfl
 exf:=λb a=>#[λe=>by have:=(hex b a).1;rw[e] at this;exact absurd (da this d) (iD _),λx c h=>by
  rcases vA B I.ok h with q | q
  .exact(hex b a).2.2.2.1 x c q
  .exact λz=>absurd (VT (da (hex b a).1 d) q) (by rw[z];exact iD _)]
 bs:=λb o e=>I.bs b o e
 bsz:=eH I.ok.bsz I.sz
 noex:=λb o e a=>(hex b a).2.2.2.2 o e
 exfs:=λb a f=>by
  rcases cm.mp (I.vT b f) with e | e
  .exact(hex b a).2.2.1 e
  .exact(hex b a).2.1 e
 kC:=I.stack
 frf:=λb a=>I.vU b a
 tb:=I.tb
end
noncomputable abbrev p5 (us:Lv0)(n:Nat):Obj:={ cls:=.type "list",data:=.seq us.toArray n }
theorem zV{a:Type}{fr:List a}{x:Str}{o:a}(h1:Nc[i]?=some x)(c:fr[i]?=some o):(x,o)∈Nc.zip fr:=by
 have b:(Nc.zip fr)[i]?=some (x,o):=by
  rw[Tx];exact#[h1,c]
 exact ek b
theorem ID{a:Pn0}(B:Blk X.N X.env.scope sc Nc fr){ak:Shared}{D:Addr}{o:Obj}{W:SV}(ok:(aT X sc Nc av ax C ex (X.pn++a)).Ok)(I:Inv X a σ ax av)(T:av.heap.objs.size<=C)(ho:ak.os=av.os)(hg:ak.gens=av.gens)(hk:∀ b u,av.heap.get? b=some u->ak.heap.get? b=some u)(hn:ak.heap.Ns C W)(hw:∀ x c,(bcl X.env.cells sc C).lookup x=some c->(takes X.env.cells sc.names []).lookup x=some c\/ak.heap.IsCell c none)(Y:av.heap.get? D=some o)(S:ax D=none)(R:D≠X.env.locals)(P:D∉X.fs)(Q:∀ v,o.data≠.cell v) :
  Inv (aT X sc Nc av ax C ex (X.pn++a)) [(D,o)] (pE fr σ) ax ak:=by
 have s:∀ b,b≠X.env.locals->b∉X.fs->b∉frs X.stack:=λb G F h3=>by
  rcases cm.mp (I.vT b h3) with e | e
  .exact G e
  .exact F e
 have t:∀ {b:Addr} {u:Obj},av.heap.get? b=some u->b≠C:=λe z=>absurd (da (ec e) (by rw[z];exact T)) (iD _);refine#[ok,ho,by rw[hg];exact I.bare,Un.kept hk,#[W,hn,λi x v G F h3=>?_],λx c h=>?_,I.hok.fresh T,λx c h=>?_,λp hp=>?_,I.hok.kept hk,?_]
 .have d:(fr.map λo=>o.bind λj=>(σ[j]?).join)[i]?=some (some v):=F;rw[ef] at d;cases U:fr[i]? with
  | none=>rw[U] at d;cases d
  | some V=>
   rw[U] at d;have Z:(V.bind λj=>(σ[j]?).join)=some v:=fS d;cases V with
   | none=>cases Z
   | some j=>
    have hz:=B.whence _ (zV G U);have f:(decide (X.N[j]?=some x) && decide (sc.names.lookup x=some .free))=true:=hz;rw[fT] at f;have K:X.N[j]?=some x:=of_decide_eq_true f.1;have n:sc.names.lookup x=some .free:=of_decide_eq_true f.2;have h5:σ[j]?=some (some v):=by
     have H:(σ[j]?).join=some v:=Z;cases J:σ[j]? with
     | none=>rw[J] at H;cases H
     | some y=>rw[J] at H;exact congrArg some H
    have w:=B.free _ (eT n) rfl;let#[m,hm,hl]:=I.loc;have L:Vis X.env.scope x:=by rcases w with k | k;exact .inr (.inl k);exact .inr (.inr k)
    let#[u,r,l]:=hl j x v K h5 L;refine#[u,r,.inr #[wg n,?_]];rcases l with ⟨k,_⟩ | ⟨_,c,hc,g⟩
    .have k':X.env.scope.names.lookup x=some .local:=k;rcases w with q | q
     .simp_all
     .simp_all
    .let#[c',E]:=wh.mp (pP (cells:=X.env.cells) sc.names [] (eT n));have A:=gU B I.ok E;rw[hc] at A;cases A;let#[M,O,N]:=g;exact#[c,(Am _ _ _ λz=>by have:=B.own _ z rfl;rw[n] at this;cases this).trans E,M,hk _ _ O,N]
 .rcases hw x c h with q | q
  .let#[v,M,G,F]:=I.cell x c (gU B I.ok q);exact#[v,M,hk _ _ G,F]
  .exact#[_,q]
 .rcases vA B I.ok h with q | q
  .exact I.freeC x c q
  .exact I.hok.fresh (eH T (Fn q))
 .rcases gs.mp hp with hp | hp
  .let#[K,n,J,e4,e5]:=I.pin p hp;exact#[hk _ _ K,n,t K,s _ J e4,e5]
  .have e:p=(D,o):=by simpa using hp
   subst e;exact#[hk _ _ Y,S,t Y,s _ R P,Q]
 .show (fr.map _).length=Nc.length;rw[lM0,B.len]
theorem BP{a:Pn0}{s:Shared}(B:Blk X.N X.env.scope sc Nc fr)(I:Inv X a σ H s):WV sc X.env=pure (takes X.env.cells sc.names []):=
 uD λy b c=>I.ok.has y.1 (B.free y b c)
structure gR (K:Fg0):Prop where
 bb:bp K (.type "bool") (.type "bool")=some true
 bi:bp K (.type "bool") (.type "int")=some true
 bl:bp K (.type "bool") (.type "list")=some false
 bt:bp K (.type "bool") (.type "tuple")=some false
 ib:bp K (.type "int") (.type "bool")=some false
 ii:bp K (.type "int") (.type "int")=some true
 il:bp K (.type "int") (.type "list")=some false
 it:bp K (.type "int") (.type "tuple")=some false
 nb:bp K (.type "NoneType") (.type "bool")=some false
 ni:bp K (.type "NoneType") (.type "int")=some false
 nl:bp K (.type "NoneType") (.type "list")=some false
 nt:bp K (.type "NoneType") (.type "tuple")=some false
 sb:bp K (.type "str") (.type "bool")=some false
 si:bp K (.type "str") (.type "int")=some false
 sl:bp K (.type "str") (.type "list")=some false
 st:bp K (.type "str") (.type "tuple")=some false
 lb:bp K (.type "list") (.type "bool")=some false
 li:bp K (.type "list") (.type "int")=some false
 ll:bp K (.type "list") (.type "list")=some true
 lt:bp K (.type "list") (.type "tuple")=some false
 tb:bp K (.type "tuple") (.type "bool")=some false
 ti:bp K (.type "tuple") (.type "int")=some false
 tl:bp K (.type "tuple") (.type "list")=some false
 tt:bp K (.type "tuple") (.type "tuple")=some true
 db:bp K (.type "dict") (.type "bool")=some false
 di:bp K (.type "dict") (.type "int")=some false
 dl:bp K (.type "dict") (.type "list")=some false
 dt:bp K (.type "dict") (.type "tuple")=some false
inductive Kn (H:Hp):V->Prop where
 | non:Kn H .non
 | bl (b:Bool):Kn H (.bl b)
 | int (i:Int):Kn H (.int i)
 | str (x:Str):Kn H (.str x)
 | lst {a:Addr} {xs:List V} (e:H a=some (.lst xs)):Kn H (.ref a)
 | tup {a:Addr} {xs:List V} (e:H a=some (.tup xs)):Kn H (.ref a)
 | dK {a:Addr} {kvs:List (Key×V)} (e:H a=some (.dK kvs)):Kn H (.ref a)
noncomputable def isB:V->Bool
 | .bl _=>true
 | _=>false
noncomputable def isI:V->Bool
 | .bl _=>true
 | .int _=>true
 | _=>false
noncomputable def isL (H:Hp):V->Bool
 | .ref a=>match H a with
  | some (.lst _)=>true
  | _=>false
 | _=>false
noncomputable def isT (H:Hp):V->Bool
 | .ref a=>match H a with
  | some (.tup _)=>true
  | _=>false
 | _=>false
theorem Bv{xs:List V}(h:H a=some (.lst xs)):isL H (.ref a)=true:=by simp only[isL,h]
theorem Bu{xs:List V}(h:H a=some (.tup xs)):isL H (.ref a)=false:=by simp only[isL,h]
theorem z8{xs:List (Key×V)}(h:H a=some (.dK xs)):isL H (.ref a)=false:=by simp only[isL,h]
theorem Bt{xs:List V}(h:H a=some (.lst xs)):isT H (.ref a)=false:=by simp only[isT,h]
theorem Br{xs:List V}(h:H a=some (.tup xs)):isT H (.ref a)=true:=by simp only[isT,h]
theorem zZ{xs:List (Key×V)}(h:H a=some (.dK xs)):isT H (.ref a)=false:=by simp only[isT,h]
theorem ay{a:Pn0}{s:Shared}{x:V}{c:String}{t:Value}{b f:Bool}{Q:VK}(I:Inv X a σ H s)(r:Vals [x,.ty c] us)(ty:qi X.K H x t)(e:bp X.K t (.type c)=some b)(i:f=b)(q:Q (.bl f) H) :
  wpAny (model X.prog X.w) X.A (call (.builtin "isinstance") us) (EP X a σ Q) X.xe s:=by
 let#[u,g,rfl,h,d]:=vals2 r;obtain rfl:g=Qv c:=d;subst i;exact CM I h ty e λj=>#[.bl f,H,I.tok _,rfl,q]
theorem FU(F:gR X.K):ck X (.builtin "isinstance") (λxs H Q=>∃ x,xs=[x,.ty "bool"]/\Kn H x/\Q (.bl (isB x)) H):=by
 intro a s c H xs d Q I r h;let#[x,rfl,k,q]:=h;cases k with
 | non=>exact ay I r .non F.nb rfl q
 | bl b=>exact ay I r (.bl b) F.bb rfl q
 | int i=>exact ay I r (.int i) F.ib rfl q
 | str y=>exact ay I r (.str y) F.sb rfl q
 | lst e=>exact ay I r (.lst e) F.lb rfl q
 | tup e=>exact ay I r (.tup e) F.tb rfl q
 | dK e=>exact ay I r (.dK e) F.db rfl q
theorem FT(F:gR X.K):ck X (.builtin "isinstance") (λxs H Q=>∃ x,xs=[x,.ty "int"]/\Kn H x/\Q (.bl (isI x)) H):=by
 intro a s c H xs d Q I r h;let#[x,rfl,k,q]:=h;cases k with
 | non=>exact ay I r .non F.ni rfl q
 | bl b=>exact ay I r (.bl b) F.bi rfl q
 | int i=>exact ay I r (.int i) F.ii rfl q
 | str y=>exact ay I r (.str y) F.si rfl q
 | lst e=>exact ay I r (.lst e) F.li rfl q
 | tup e=>exact ay I r (.tup e) F.ti rfl q
 | dK e=>exact ay I r (.dK e) F.di rfl q
theorem FR(F:gR X.K):ck X (.builtin "isinstance") (λxs H Q=>∃ x,xs=[x,.ty "list"]/\Kn H x/\Q (.bl (isL H x)) H):=by
 intro a s c H xs d Q I r h;let#[x,rfl,k,q]:=h;cases k with
 | non=>exact ay I r .non F.nl rfl q
 | bl b=>exact ay I r (.bl b) F.bl rfl q
 | int i=>exact ay I r (.int i) F.il rfl q
 | str y=>exact ay I r (.str y) F.sl rfl q
 | lst e=>exact ay I r (.lst e) F.ll (Bv e) q
 | tup e=>exact ay I r (.tup e) F.tl (Bu e) q
 | dK e=>exact ay I r (.dK e) F.dl (z8 e) q
theorem FP(F:gR X.K):ck X (.builtin "isinstance") (λxs H Q=>∃ x,xs=[x,.ty "tuple"]/\Kn H x/\Q (.bl (isT H x)) H):=by
 intro a s c H xs d Q I r h;let#[x,rfl,k,q]:=h;cases k with
 | non=>exact ay I r .non F.nt rfl q
 | bl b=>exact ay I r (.bl b) F.bt rfl q
 | int i=>exact ay I r (.int i) F.it rfl q
 | str y=>exact ay I r (.str y) F.st rfl q
 | lst e=>exact ay I r (.lst e) F.lt (Bt e) q
 | tup e=>exact ay I r (.tup e) F.tt (Br e) q
 | dK e=>exact ay I r (.dK e) F.dt (zZ e) q
mutual
inductive Dt (K:Fg0) (H:Hp):V->PyData->Prop where
 | non:Dt K H .non .none
 | bl (b:Bool):Dt K H (.bl b) (.bool b)
 | int (i:Int):Dt K H (.int i) (.int i)
 | str (x:Str):Dt K H (.str x) (.str x)
 | lst {a:Addr} {xs:List V} {ds:List PyData}:SqL K H a xs->dC K H xs ds->Dt K H (.ref a) (.list ds)
 | tup {a:Addr} {xs:List V} {ds:List PyData}:SqT K H a xs->dC K H xs ds->Dt K H (.ref a) (.tuple ds)
 | dct {a:Addr}:H a=some (.dK [])->Dt K H (.ref a) (.dict [])
 | dcs {a:Addr} (y:Str) (i:Int):H a=some (.dK [(.inr y,.int i)])->Dt K H (.ref a) (.dict [(.str y,.int i)])
inductive dC (K:Fg0) (H:Hp):List V->List PyData->Prop where
 | nil:dC K H [] []
 | cons {x:V} {xs:List V} {d:PyData} {ds:List PyData}:Dt K H x d->dC K H xs ds->dC K H (x::xs) (d::ds)
end
theorem Ah{b:Pn0}{s:Shared}(I:Inv X b σ H s)(h:H a=some (.dK [])):∃ o n,s.heap.get? a=some o/\o.cls=.type "dict"/\o.data=.dict #[] n/\(a == O6)=false:=by
 let#[_,q,f,g,o,c,n,k,j,i,_,d,_]:=Fq I.hok h;have:f=[]:=by cases g;rfl
 subst this;have:c.toList=[]:=by cases e:c.toList with
  | nil=>rfl
  | cons x l=>rw[e] at d;cases d
 have:c=#[]:=by cases c;simp_all
 subst this;exact#[o,n,k,j.1,i,q]
theorem Ai{c:Pn0}{s:Shared}{y:Str}{i:Int}(I:Inv X c σ H s)(h:H a=some (.dK [(.inr y,.int i)])) :
  ∃ o es n t u q,s.heap.get? a=some o/\o.cls=.type "dict"/\o.data=.dict es n/\(a == O6)=false/\es.toList=[#[q,.str y t,.int i u]]:=by
 let#[_,q,L,v,o,es,n,J,G,F,_,d,_]:=Fq I.hok h;cases v with
 | @cons p r N M E g=>
  cases g;let#[l,k]:=r;let#[hk,u,D]:=E;cases (show (Vy y:Key)=l from hk);cases (show k=Cs i u from D);cases b:es.toList with
  | nil=>rw[b] at d;cases d
  | cons x K=>
   rw[b] at d;cases d with
   | cons B A w=>
    cases w;let#[C,m,f]:=x;rcases bZ (show tO (.inr y) m=true from B) with ⟨j,t,z,_⟩ | ⟨z,t,e,rfl⟩
    .cases z
    .cases e;cases (show f=Cs i u from A);exact#[o,es,n,t,u,C,J,G.1,F,q,b]
theorem dC.reads{g:Pn0}{s:Shared}(I:Inv X g σ H s){xs:List V}{ds:List PyData}(h:dC X.K H xs ds):Vals xs us->∃ as,ReadsAll s.heap us ds as:=by
 revert us
 refine dC.rec (motive_1:=λx d _=>∀ u,RelV x u->∃ as,Reads s.heap u d as) (motive_2:=λxs ds _=>∀ {us},Vals xs us->∃ as,ReadsAll s.heap us ds as) ?_ ?_ ?_ ?_ ?_ ?_ ?_ ?_ ?_ ?_ h
 .intro u r;cases r;exact#[_,.none]
 .intro b u r;cases r;exact#[_,.bool b]
 .intro i u r;let#[t,rfl]:=r;exact#[_,.int i t]
 .intro y u r;let#[t,rfl]:=r;exact#[_,.str y t]
 .intro a xs ds c hs m u r
  cases r;let#[l,k,#[o,n,f,e,j,p],B]:=I.list c;let#[as,h]:=m k;exact#[_,.list f e p (by simpa using h)]
 .intro a xs ds c hs m u r
  cases r;let#[l,k,#[o,f,e,n,p],B]:=I.tuple c;let#[as,h]:=m k;exact#[_,.tuple f e p (by simpa using h)]
 .intro a c u r
  cases r;let#[o,n,f,e,j,_]:=Ah I c;exact#[_,.dict f e j .nil .nil]
 .intro a y i c u r
  cases r;let#[o,E,n,t,u,q,f,e,j,_,v]:=Ai I c;exact#[_,.dict f e j (by rw[v];exact .cons (.str y t) .nil) (by rw[v];exact .cons (.int i u) .nil)]
 .intro us r;cases r;exact#[_,.nil]
 .intro x xs d ds D C A i2 us r;cases r with
  | cons z w=>
   let#[as,a]:=A _ z;let#[F,b]:=i2 w;exact#[_,.cons a b]
structure Shw (d:PyData):Prop where
 sh:d.showable=true
 dp:d.depth<=20
 sz:d.shown.length<=sizeLine
def MW (X:Cx)(h:Heap)(u:Value)(d:PyData):Prop:=∃ a,ReadAtMost h d.depth a/\ReprK X.prog X.w a h d.depth u d.shown
def IV (X:Cx)(h:Heap)(us:Lv0)(ds:List PyData):Prop:=∃ a,ReadAtMost h (ov ds) a/\ReprAllK X.prog X.w a h (ov ds) us (nr ds)
theorem MW.is{h:Heap}{d:PyData}(k:ReprIs X.prog X.w u d.shown):MW X h u d:=#[[],by (intro _ z;cases z),.of_is k _ _ _]
theorem ub(y:Str)(i:Int):(Q6 y).length<=(hF (.dict [(.str y,.int i)])).length:=by
 have e:hF (.dict [(.str y,.int i)])=dictText [Q6 y++": "++hF (.int i)]:=by simp only[hF,So]
 have h:=dictText_mem_le (ih.mpr (rfl:Q6 y++": "++hF (.int i)=_));rw[strLen_append,strLen_append] at h;rw[e];exact WF 0xe4e9bab862a38 h
theorem BH{y:Str}{i:Int}(h:ue (.dict [(.str y,.int i)])=true):i.natAbs.log2 < 1920:=by
 simp [ue,VU] at h;exact h
theorem dC.says{A:Pn0}{s:Shared}(I:Inv X A σ H s){xs:List V}{ds:List PyData}(h:dC X.K H xs ds):Vals xs us->QP ds=true->(∀ t∈nr ds,t.length<=sizeLine)->IV X s.heap us ds:=by
 revert us
 refine dC.rec (motive_1:=λx d _=>∀ u,RelV x u->d.showable=true->d.shown.length<=sizeLine->MW X s.heap u d) (motive_2:=λxs ds _=>∀ {us},Vals xs us->QP ds=true->(∀ t∈nr ds,t.length<=sizeLine)->IV X s.heap us ds) ?_ ?_ ?_ ?_ ?_ ?_ ?_ ?_ ?_ ?_ h
 .intro u r _ _;cases r;exact .is (by simp only[hF];exact .none)
 .intro b u r _ _;cases r;exact .is (by simp only[hF];exact .bool b)
 .intro i u r q _;let#[t,rfl]:=r;exact .is (by simp only[hF];exact .int t (by simpa [ue] using q))
 .intro y u r _ z;let#[t,rfl]:=r;exact .is (by simp only[hF] at z ⊢;exact .str y t z)
 .intro a xs ds j hs F u r q z
  cases r;let#[B,l,#[o,n,f,c,m,g],_]:=I.list j;let#[as,D]:=dC.reads I hs l;have p:Reads s.heap (.ref a) (.list ds) _:=.list f c g (by simpa using D);simp only[hF] at z;let#[C,k,b2]:=F l (by simpa [ue] using q) λt G=>eH (listText_mem_le G) z;have E:=Sq p (n:=ov ds) (by simp only[lq];lia) k;refine#[a::C,WB p (by simp only[lq];lia) k,?_];simp only[hF,lq];cases B with
  | nil=>cases l;cases hs;simp -iota only[nr,listText_nil];exact .listEmpty f c g
  | cons y Y=>exact .list f c g E (by rw[b2.length_eq];simp) λi v e=>b2.item i v (by simpa using e)
 .intro a xs ds j hs F u r q z
  cases r;let#[B,l,#[o,f,c,n,g],_]:=I.tuple j;let#[as,D]:=dC.reads I hs l;have p:Reads s.heap (.ref a) (.tuple ds) _:=.tuple f c g (by simpa using D);simp only[hF] at z;let#[C,k,b2]:=F l (by simpa [ue] using q) λt G=>eH (We G) z;have E:=Sq p (n:=ov ds) (by simp only[lq];lia) k;refine#[a::C,WB p (by simp only[lq];lia) k,?_];simp only[hF,lq];exact .tuple f c g E (by simpa using b2)
 .intro a j u r _ _
  cases r;let#[o,n,f,c,m,g]:=Ah I j;refine#[[a],λb J=>?_,?_]
  .cases ih.mp J;exact#[_,_,.dict f c m .nil .nil,cb _]
  .have:=XJ (prog:=X.prog) (w:=X.w) (as:=[]) (d:=0) (ps:=[]) f c m g (by intro z;cases z) .nil;simp only[hF,lq,So,Ry];exact this
 .intro a y i j u r N z
  cases r;let#[o,es,n,t,u,q,f,c,m,g,K]:=Ai I j;have Q:(Q6 y).length<=sizeLine:=eH (ub y i) z;refine#[[a],λb J=>?_,?_]
  .cases ih.mp J;exact#[_,_,.dict f c m (by rw[K];exact .cons (.str y t) .nil) (by rw[K];exact .cons (.int i u) .nil),cb _]
  .have S:ReprK X.prog X.w [] s.heap 0 (.str y t) (Q6 y):=.of_is (.str y t Q) _ _ _;have R:ReprK X.prog X.w [] s.heap 0 (.int i u) (hF (.int i)):=.of_is (by simp only[hF];exact .int u (BH N)) _ _ _;have:=XJ (prog:=X.prog) (w:=X.w) (as:=[]) (d:=0) (ps:=_) f c m g (by intro z;cases z) (by rw[K];exact .cons S R .nil);simp only[hF,lq,So,Ry];exact this
 .intro us r _ _;cases r;exact#[[],by (intro _ z;cases z),.nil]
 .intro x xs d ds h1 Z T i2 us r q z;cases r with
  | cons P O=>
   simp -iota only[QP,fT] at q;simp -iota only[nr,cm,forall_eq_or_imp] at z;let#[as,W,U]:=T _ P q.1 z.1;let#[C,k,b2]:=i2 O q.2 z.2;have M:d.depth<=ov (d::ds):=by simp -iota only[ov];exact Nat.le_max_left _ _
   have L:ov ds<=ov (d::ds):=by simp -iota only[ov];exact Wf _ _
   exact#[as++C,(W.mono M).append (k.mono L),.cons ((U.more λ_ h=>oD _ h).level_le M) (b2.more_le (λ_ h=>eB _ h) L)]
theorem Ar(B:bH k X.A):ck X (.builtin "repr") (λxs H Q=>∃ a d,xs=[.ref a]/\Dt X.K H (.ref a) d/\Shw d/\Q (.str d.shown) H):=by
 intro w s P H xs us Q I r h;let#[a,d,rfl,hd,S,q]:=h;let#[u,rfl,R]:=vals1 r;cases R;have j:X.A.units + (d.depth + 1) < cLine:=by have:=B.units;have:=S.dp;lia
 have fin:∀ M u O,(∀ b o,s.heap.get? b=some o->M.get? b=some o)->∃ x t,Rg d.shown u=.str x t/\EP X w P Q (.str d.shown u) { s with heap:=M,toks:=O }:=λM u O hk=>#[_,_,rfl,.str d.shown,H,I.kept hk,#[_,rfl],q];have E:=S.sh;have g:=S.sz;cases hd with
 | @lst _ xs C m hs=>
  let#[A,p,#[o,n,c,f,D,l],_]:=I.list m;let#[as,J]:=dC.reads I hs p;have G:Reads s.heap (.ref a) (.list C) _:=.list c f l (by simpa using J);simp only[hF] at g fin;simp only[lq] at j;let#[Y,N,b2]:=dC.says I hs p (by simpa [ue] using E) λt L=>eH (listText_mem_le L) g;have K:=Sq G (n:=ov C) (by simp only[lq];lia) N;refine To (by exact YN j) #[o,c,f] F.slot_list_repr.toG ?_;cases A with
  | nil=>cases p;cases hs;simp -iota only[nr,listText_nil] at fin;exact call_list_repr_empty #[o,c,f] c l (fin s.heap _ _ λ_ _ e=>e)
  | cons y Z=>exact call_list_reprK c f l K (by rw[b2.length_eq];simp) (λi v e=>b2.item i v (by simpa using e)) B.gd (λb _=>Wg b) (by show X.A.units + 1 + _ < _;exact WF 0x8fd0089d2c85c92ccb j) (λ_ _ e=>e) fin g
 | @tup _ xs C m hs=>
  let#[A,p,#[o,c,f,n,l],_]:=I.tuple m;let#[as,J]:=dC.reads I hs p;have G:Reads s.heap (.ref a) (.tuple C) _:=.tuple c f l (by simpa using J);simp only[hF] at g fin;simp only[lq] at j;let#[Y,N,b2]:=dC.says I hs p (by simpa [ue] using E) λt L=>eH (We L) g;have K:=Sq G (n:=ov C) (by simp only[lq];lia) N;exact To (by lia) #[o,c,f] F.slot_tuple_repr (call_tuple_reprK c f l K (by simpa using b2) B.gd (λb _=>Wg b) (by show X.A.units + 1 + _ < _;lia) (λ_ _ e=>e) fin g)
 | dct m=>
  let#[o,n,c,f,D,l]:=Ah I m;simp only[hF,So] at g fin;simp only[lq,Ry] at j;exact To (by exact WF 0x2ef733f0ac1f04fe j) #[o,c,f] Wh (call_dict_reprK (as:=[]) (d:=0) (ps:=[]) c f D l (by intro z;cases z) .nil B.gd (λb _=>Wg b) (by show X.A.units + 1 + _ < _;exact WF 0x1b86ce3a43328699f04fe j) (λ_ _ e=>e) fin g)
 | dcs y i m=>
  let#[o,es,n,t,u,q,c,f,D,l,W]:=Ai I m;have T:(Q6 y).length<=sizeLine:=eH (ub y i) g;have V:ReprK X.prog X.w [] s.heap 0 (.str y t) (Q6 y):=.of_is (.str y t T) _ _ _;have U:ReprK X.prog X.w [] s.heap 0 (.int i u) (hF (.int i)):=.of_is (by simp only[hF];exact .int u (BH E)) _ _ _;simp only[hF,So] at g fin;simp only[lq,Ry] at j;exact To (by exact YN j) #[o,c,f] Wh (call_dict_reprK (as:=[]) (d:=0) c f D l (by intro z;cases z) (by rw[W];exact .cons V U .nil) B.gd (λb _=>Wg b) (by show X.A.units + 1 + _ < _;exact WF 0xfbabefcb9071f192ccb j) (λ_ _ e=>e) fin g)
section
variable {pins:Pn0}{s:Shared}
theorem Inv.moved(I:Inv X pins σ H s)(a:∀ b∈ch,iI X pins H b)(hk:∀ b o,b∉ch->s.heap.get? b=some o->h'.get? b=some o):Inv X pins σ H { s with heap:=h',toks:=t' }:=by
 have g:∀ {b:Addr} {u:HO},H b=some u->b∉ch:=λe d=>by rw[(a _ d).1] at e;cases e
 refine I.step (g':=s.gens) (d':=s.drawn) (ch:=ch) (λb d=>#[(a b d).2.2.2.1,(a b d).2.1,(a b d).2.2.2.2.1,(a b d).2.2.2.2.2]) (λb o _ _ f e _=>hk b o f e) (λb o _ _ f e _=>#[o.slots,hk b o f e]) (λ_ _ _ _ n=>n)
  (λb o f e=>#[o,hk b o f e]) (λ_ _ e=>e) (λ_ _ _ e=>e) (λb l e=>#[#[],by rw[e];simp]) (λm i=>?_) (λb u e=>?_) I.bare
 .let#[o,j,k,h,r]:=i;exact#[o,j,k,hk _ o (λd=>(a _ d).2.1 rfl) h,r]
 .exact(I.hok b u e).pQ (λc v f q=>hk c v (by rcases f with z | z <;> first | (rw[z];exact g e) | exact g z) q) (λ_ q=>q) λ_ _ q=>q
theorem Inv.HE{T:Addr}{x:V}(I:Inv X pins σ H s)(d:∀ b∈ch,iI X pins H b)(j:s.heap.objs.size<=T)(hk:∀ b o,b∉ch->s.heap.get? b=some o->h'.get? b=some o)(t:IsTup h' T (Vz9 [u,v]))(p:RelV x u)(l:RelV y v):Inv X pins σ (upd H T (.tup [x,y])) { s with heap:=h',toks:=t' }:=by
 have i:∀ {b:Addr} {u:HO},H b=some u->b∉ch:=λe f=>by rw[(d _ f).1] at e;cases e
 have B:H T=none:=I.hok.fresh j;have neT:∀ {b:Addr} {o:Obj},s.heap.get? b=some o->b≠T:=λe=>gm (da (ec e) j);have a:∀ {b:Addr} {u:HO},H b=some u->b≠T:=λe z=>by rw[z,B] at e;cases e
 refine I.step (g':=s.gens) (d':=s.drawn) (ch:=ch) (λb f=>#[(d b f).2.2.2.1,(d b f).2.1,(d b f).2.2.2.2.1,(d b f).2.2.2.2.2]) (λb o _ _ g e _=>hk b o g e) (λb o _ _ g e _=>#[o.slots,hk b o g e]) (λb o _ e n=>by rw[ao (neT e)];exact n)
  (λb o g e=>#[o,hk b o g e]) (λb h e=>by rw[ao (a e)];exact e) (λb o h e=>by rw[ao (a e)];exact e) (λb F e=>#[#[],by rw[ao (a e),e];simp]) (λm A=>?_) (λb o e=>?_) I.bare
 .let#[o,C,D,w,r]:=A;exact#[o,C,D,hk _ o (λf=>(d _ f).2.1 rfl) w,r]
 .by_cases f:b=T
  .subst f;rw[aw] at e;cases e;exact#[(by show 2<=sizeLine;decide),[u,v],.cons p (.cons l .nil),t]
  .rw[ao f] at e;exact(I.hok b o e).pQ (λc k g q=>hk c k (by rcases g with z | z <;> first | (rw[z];exact i e) | exact i z) q) (λc q=>by rw[ao (a q)];exact q) (λc h q=>by rw[ao (a q)];exact q) λc o E q=>by rw[ao (a q)];exact q
end
structure IU (z TI TO i1 i2:Addr):Prop where
 TIz:TI≠z
 TOz:TO≠z
 i1z:i1≠z
 i2z:i2≠z
 TITO:TI≠TO
 TIi1:TI≠i1
 TIi2:TI≠i2
 TOi1:TO≠i1
 TOi2:TO≠i2
 i12:i1≠i2
section
variable {pins:Pn0}{s:Shared}
theorem Inv.adopt{S:Addr}{xs:List V}{c:Nat}(I:Inv X pins σ H s)(f:iI X pins H S)(v:s.heap.get? S=some (p5 us c))(r:Vals xs us)(t:xs.length<=sizeLine):Inv X pins σ (upd H S (.lst xs)) s:=by
 have a:∀ {b:Addr} {u:HO},H b=some u->b≠S:=λe z=>by rw[z,f.1] at e;cases e
 refine#[I.ok,I.os,I.bare,#[I.base.keep,I.base.slot,λb o e n h=>?_,I.base.there,λb g e=>?_,λb o u e=>?_,λb k e=>?_],I.loc,I.cell,?_,λx d e=>?_,λp i=>?_,λb u e=>?_,I.len]
 .have l:b≠S:=λz=>by
   rcases f.2.2.2.1 with q | q
   .exact h (by rw[z];exact q)
   .exact absurd (da (ec e) (by rw[z];exact q)) (iD _)
  rw[ao l];exact I.base.free b o e n h
 .have q:=I.base.tups b g e;rw[ao (a q)];exact q
 .have q:=I.base.frzs b o u e;rw[ao (a q)];exact q
 .let#[m,q]:=I.base.tbls b k e;exact#[m,by rw[ao (a q)];exact q]
 .rw[ao (lj f.2.1)];exact I.free
 .rw[ao (f.2.2.2.2.1 x d e)];exact I.freeC x d e
 .let#[A,y,w]:=I.pin p i;exact#[A,by rw[ao (f.2.2.2.2.2 p i)];exact y,w]
 .by_cases j:b=S
  .subst j;rw[aw] at e;cases e;exact#[t,us,c,r,v]
  .rw[ao j] at e;exact(I.hok b u e).pQ (λ_ _ _ q=>q) (λd q=>by rw[ao (a q)];exact q) (λd g q=>by rw[ao (a q)];exact q) λd o B q=>by rw[ao (a q)];exact q
theorem iI.heap{b:Addr}(f:iI X pins H b)(h:H' b=none):iI X pins H' b:=#[h,f.2]
end
section
variable {x:Str}{p:Pos}
structure Mk0 (K:Fg0) (C:Addr):Prop where
 makes:AC K C=true
 init:ez K (.ref C) "__init__"=some (some (.builtin "object.__init__"))
 kp:kx K (.ref C)=true
def AY (C:Addr):TE:=λ_ H Q=>∀ x dx,H x=none->H dx=none->dx≠x->Q (.ref x) (upd (upd H dx (.own x)) x (.ins C dx []))
theorem Cq(M:Mk0 X.K C)(k:Gl X x)(j:X.mg x=some (.ref C))(c:autoParam (Yk x) wP):PE X (.Call (.Name x p) [] [] pos) (AY C):=by
 intro d s n H Q I h;refine tu (gN I k j ?_ c);refine S1 I.kIn M.kp (Pb ?_);have i:=h (s.heap.objs.size + 1) s.heap.objs.size (I.hok.fresh (SK _)) (I.hok.fresh (cb _)) (gm (KB _));have m:=Inv.made (C:=C) I;have Y:=T6 (M:=model X.prog X.w) I.kIn M.makes;refine CB I.kIn M.makes M.init (λa=>Rt (PySem.W.oi_bind a)) ?_;have l:((s.heap.push hD).push (oj C s.heap.objs.size)).get? (s.heap.objs.size + 1)=some (oj C s.heap.objs.size):=by
  have:=en (s.heap.push hD) (o:=oj C s.heap.objs.size) rfl
  rwa [ru] at this
 have g:JN (model X.prog X.w) ((s.heap.push hD).push (oj C s.heap.objs.size)) (typeOf (.ref (s.heap.objs.size + 1))) (.ref C):=(Ru l).andThen .now;have f:JN (model X.prog X.w) ((s.heap.push hD).push (oj C s.heap.objs.size)) (SB (.ref (s.heap.objs.size + 1)) (.type "object")) true:=g.andThen (Y.top.keeps λb o e=>bc _ (bc _ e));refine N9 PySem.W.oi_plain PySem.W.entry_oi (@Tp (model X.prog X.w) _ _ _ "object.__init__" "object" "__init__" (.ref (s.heap.objs.size + 1)) [] [] _ PySem.W.oi_kind PySem.W.oi_split f (PySem.W.oi_args (.ref (s.heap.objs.size + 1))) ?_);rw[PySem.W.oi_run];exact bq (And.intro rfl ⟨V.ref (s.heap.objs.size + 1),_,m,rfl,i⟩)
end
noncomputable def M3 (lo c:Int)(n:Nat):It:=#[λi _=>i < n,λi H x H'=>H'=H/\x=.int (lo + i * c),λi _=>n<=i]
theorem xp(it:Addr)(lo c:Int)(n:Nat):Turn P w K tg (M3 lo c n) [it] it (λi h=>IsRangeIter h it (lo + (i:Nat) * c) ((n:Int) - (i:Nat)) c) where
 mem:=by simp
 obj:=λi h st b d=>by
  obtain rfl:b=it:=by simpa using d
  exact#[_,st,λv z=>by cases (show Xz _=Data.cell v from z)]
 keep:=λi h j st k=>k it (by simp) _ st
 item:=by
  intro X q l r p i a s C H E I g st m;subst q l r;let#[B,A,L,y,x,u]:=g it (by simp);refine(XA (prog:=X.prog) (w:=X.w) (I.ok.hd p) it lo c n).item i s _ _ m st λv j D G f F=>?_;let#[t,rfl]:=G;have N:Inv X a C H { s with heap:=j,toks:=D }:=I.turned (λb o d e=>F b o (by simpa using d) e) B A y x u;exact#[_,rfl,yo (s:={ s with heap:=j,toks:=D }) (n:="range_iterator") f rfl rfl #[.int (lo + i * c),H,N,#[t,rfl],#[rfl,rfl],f,λb d=>(g b d).1]]
 done:=by
  intro X q l r p i a s C H E I g st m;subst q l r;let#[B,A,L,y,x,u]:=g it (by simp);have J:n<=i:=m;exact Um (I.ok.hd p) st (by lia) λj M=>#[rfl,I.turned (t':=s.toks) (λb o d e=>M b o d e) B A y x u]
 self:=λ_ _ _ _ _ st h=>Sg st h
noncomputable def sgn (c:Nat):Str:=#[(Vz9 [c])]
noncomputable def Its (x:Str):It:=#[λi _=>i < x.cps.size,λi H v H'=>H'=H/\∃ c,x.cps[i]?=some c/\v=.str (sgn c),λi _=>x.cps.size<=i]
theorem Dy(it:Addr)(x:Str)(t:Tok):Turn P w K tg (Its x) [it] it (λi h=>h.IsStrIter it "str_ascii_iterator" x t i) where
 mem:=by simp
 obj:=λi h st b g=>by
  obtain rfl:b=it:=by simpa using g
  let#[o,e,c,d]:=st;exact#[o,e,λv z=>by rw[d] at z;cases z]
 keep:=λi h m st k=>let ⟨o,e,r⟩:=st;#[o,k it (by simp) o e,r]
 item:=by
  intro X G F J C i f s B H E I l st n;let#[A,y,L,u,q,p]:=l it (by simp);have a:i < x.cps.size:=n;refine wpAny_pyNext_ascii_item st (c:=x.cps[i]) (by simp -iota [a]) λm j D=>?_;have N:Inv X f B H { s with heap:=m,toks:=s.toks + 1 }:=I.turned (λb o g e=>(D.2 b g).trans e) A y u q p;let#[o,e,c,d]:=id j;exact#[_,rfl,yo (s:={ s with heap:=m,toks:=s.toks + 1 }) e c d #[.str (sgn x.cps[i]),H,N,#[_,rfl],#[rfl,_,by simp -iota [a],rfl],j,λb g=>(l b g).1]]
 done:=by
  intro X G F J C i f s B H E I l st n;let#[A,y,L,u,q,p]:=l it (by simp);have a:x.cps.size<=i:=n;exact wpAny_pyNext_ascii_end (I.ok.hd C) st (by simpa using a) λm M=>#[rfl,I.turned (t':=s.toks) (λb o g e=>M b o g e) A y u q p]
 self:=λ_ _ _ _ _ st h=>wpAny_pyIter_striter_ascii st h
def OQ (tl:TE):TI:=λσ H R=>tl σ H λx H1=>∃ z,x=.str z/\z.cps.all (· < 128)=true/\R (Its z) H1
theorem K2{l:Expr}{tl:TE}(j:PE X l tl):PI X tg l (OQ tl):=by
 intro a s f H R I h;refine thn (j a s f H _ I h) λv c Z=>?_;let#[x,n,d,g,i]:=Z;let#[z,rfl,m,q]:=i;let#[t,rfl]:=g;refine Vq m ?_;refine#[c.heap.objs.size,[c.heap.objs.size],_,_,n,rfl,d.kept (t':=c.toks) λb o e=>bc _ e,Dy _ z t,#[_,en _ rfl,rfl,rfl],λb k=>?_,q];obtain rfl:b=c.heap.objs.size:=by simpa using k
 exact d.uC (cb _) (d.hok.fresh (cb _))
def DZ:R2:=λx y H Q=>∃ z n,x=.str z/\y=.int n/\(n=0\/n=1)/\z.length<=sizeLine/\Q (.str (if n=0 then DJ else z)) H
theorem HK:OpR X (Q5 .Mult) DZ:=by
 intro a s e H x y v u Q I c b h;let#[z,n,rfl,rfl,d,g,q]:=h;let#[t,rfl]:=c;let#[f,rfl]:=b;rcases d with rfl | rfl
 .refine PySem.P.mul_str_none (by decide) (by decide) #[.str DJ,H,I.tok _,#[_,rfl],by simpa using q]
 .refine PySem.P.mul_str (by decide) (λ_ h=>absurd h (by simp)) (λ_ h=>absurd h (by simp)) ?_;rw[if_neg (by decide),if_pos (by simp)];exact#[.str z,H,I,#[_,rfl],by simpa using q]
structure TyS (K:Fg0):Prop where
 bs:bp K (.type "bool") (.type "str")=some false
 is:bp K (.type "int") (.type "str")=some false
 ns:bp K (.type "NoneType") (.type "str")=some false
 ss:bp K (.type "str") (.type "str")=some true
 ls:bp K (.type "list") (.type "str")=some false
 ts:bp K (.type "tuple") (.type "str")=some false
 ds:bp K (.type "dict") (.type "str")=some false
noncomputable def isS:V->Bool
 | .str _=>true
 | _=>false
theorem FQ(F:TyS X.K):ck X (.builtin "isinstance") (λxs H Q=>∃ x,xs=[x,.ty "str"]/\Kn H x/\Q (.bl (isS x)) H):=by
 intro a s c H xs d Q I r h;let#[x,rfl,k,q]:=h;cases k with
 | non=>exact ay I r .non F.ns rfl q
 | bl b=>exact ay I r (.bl b) F.bs rfl q
 | int i=>exact ay I r (.int i) F.is rfl q
 | str y=>exact ay I r (.str y) F.ss rfl q
 | lst e=>exact ay I r (.lst e) F.ls rfl q
 | tup e=>exact ay I r (.tup e) F.ts rfl q
 | dK e=>exact ay I r (.dK e) F.ds rfl q
section
variable {s:Shared}
noncomputable abbrev A4 (n:Int):Obj:={ cls:=.type "range_iterator",data:=.fields (Vz9 [rawInt (n - 1),rawInt n,rawInt (-1)]) }
theorem NI{n:Int}(h:0<=n):R8 0 n 1=n:=by
 delta R8;rw[if_pos (by decide),Xn];split <;> lia
theorem mB{r:Addr}{n:Int}{t u v:Tok}(b:IsRange s.heap r 0 n 1 t u v)(d:0<=n)(h1:n < 2 ^ 62)(h:Q (.ref s.heap.objs.size) { s with heap:=s.heap.push (A4 n) }):wpAny (model prog w) A (call (.builtin "range.__reversed__") [.ref r]) Q E s:=by
 have c:s.TypeIs (.ref r) "range":=#[_,b,rfl];have f:(qp 0 && qp n && qp 1 && qp (-1) && qp (0 - 1) && qp n)=true:=by
  simp -iota only[qp,fT,decide_eq_true_eq];lia
 refine Qb Sx c F.entry_range_reversed ?_ (F.args_range_reversed_1 _);delta RE.«range.__reversed__»;refine ba (Qm (a:=fC r) rfl ?_);refine ba ?_;delta W4;refine ba (ng b rfl (x:=.int 0 t) rfl ?_);refine ba (Qm (a:=some (0:Int)) rfl ?_);refine ba (ng b rfl (x:=.int n u) rfl ?_);refine ba (Qm (a:=some n) rfl ?_);refine ba (ng b rfl (x:=.int 1 v) rfl ?_);refine ba (Qm (a:=some (1:Int)) rfl ?_);refine bq ?_;dsimp only;rw[NI d,f];simp -iota only[RU,ky,if_false,if_true];have e:(0:Int) + (n - 1) * 1=n - 1:=by lia
 rw[e]
 first
 | exact ba (zl (bq #[_,rfl,h]))
 | exact ba (bq (ba (zl (bq #[_,rfl,h]))))
theorem qN:RF (.type "range_iterator") (.type "reversed")=pure false:=by rw[isSubtype_type];kernel_rfl
theorem my{r:Addr}{n:Int}{t u v:Tok}{Q₁:VS}(c:IsRange s.heap r 0 n 1 t u v)(e:0<=n)(h1:n < 2 ^ 62)(h:Q₁ (.ref s.heap.objs.size) { s with heap:=s.heap.push (A4 n) }) :
  xb (model prog w) A (.call (.builtin "reversed.__new__") #[[.type "reversed",.ref r],[]]) (wants Q₁ E) s:=by
 have d:s.TypeIs (.ref r) "range":=#[_,c,rfl];refine UA ?_;refine ba (Qm (F.newCall_reversed_1 _) (bq #[Vb UR _,UB F.entry_reversed_new ?_]));rw[SM UR _];delta RE.«reversed.__new__»;refine ba (Qm (newClass_reversed _) ?_)
 try dsimp only
 refine ba (Qm (a:=()) (by first | rfl | kernel_rfl) ?_);refine ba (Qm (a:=()) (by first | rfl | kernel_rfl) ?_)
 try dsimp only
 refine ba (wpAny_specialOf d Sx.lookup ?_)
 try dsimp only
 refine ba (Qm (Sx.bind _) ?_)
 try dsimp only
 have b:¬ ((wI "range.__reversed__" == pL)=true):=jt
 first
 | rw[if_neg b]
 | (show wpAny _ _ (if (wI "range.__reversed__" == pL)=true then _ else _) _ _ _;rw[if_neg b])
 refine ba (Tq ?_);refine ba (m:=runValue (.call (.builtin "range.__reversed__") #[[.ref r],[]])) (show wpAny _ _ (call (.builtin "range.__reversed__") [.ref r]) _ _ _ from mB c e h1 ?_)
 first
 | exact bq h
 | exact ba (bq (bq h))
theorem mz{r:Addr}{n:Int}{t u v:Tok}(c:IsRange s.heap r 0 n 1 t u v)(d:0<=n)(h1:n < 2 ^ 62)(h:Q (.ref s.heap.objs.size) { s with heap:=s.heap.push (A4 n) }):wpAny (model prog w) A (call (.type "reversed") [.ref r]) Q E s:=by
 refine callType_other (U:="range_iterator") (Q₁:=λb a=>b=.ref s.heap.objs.size/\a={ s with heap:=s.heap.push (A4 n) }) (by decide +kernel) F.create_reversed #[_,_,F.mro_reversed] F.made_reversed qN (F.typeCall_reversed_1 _) (my c d h1 #[rfl,rfl]) ?_;rintro b a ⟨rfl,rfl⟩;exact#[#[_,en _ rfl,rfl],h]
end
def OT (ta:TA):TI:=λσ H R=>ta σ H λvs H1=>∃ j:Int,vs=[.int j]/\0<=j/\j < 2 ^ 62/\R (M3 (j - 1) (-1) j.toNat) H1
theorem K3{a:Expr}{ta:TA}{p F c:Pos}(m:Gl X "reversed")(l:X.mg "reversed"=none)(K:Gl X "range")(J:X.mg "range"=none)(M:PA X [a] ta)(hs:autoParam (ed [a] X.env=[(false,eval a X.env)]) wE)(g:autoParam (ed [.Call (.Name "range" p) [a] [] pos] X.env=[(false,eval (.Call (.Name "range" p) [a] [] pos) X.env)]) wE) :
  PI X tg (.Call (.Name "reversed" F) [.Call (.Name "range" p) [a] [] pos] [] c) (OT ta):=by
 intro f s r H R I h;refine Call_ (i9 I m l (by decide +kernel:xa "reversed"=some (.type "reversed")) (qe ?_ g rfl));rw[g];have k:∀ (q:Sem Value) (Q:Lv0->Shared->Prop) (s:Shared),wpAny (model X.prog X.w) X.A q (λv w=>Q [v] w) X.xe s->wpAny (model X.prog X.w) X.A (spliced (backTo c [(false,q)])) Q X.xe s:=λq Q s G=>by
  show wpAny _ _ (spliced ((false,q)::backTo c [])) _ _ s;exact Vl (thn G λv w z=>VO z)
 refine k _ _ _ ?_;refine Call_ (i9 I K J WO (qe (thn (M pos f s r H _ I h) λS d Z=>?_) hs rfl));let#[P,y,O,B,D]:=Z;let#[j,e,E,C,q]:=D;subst e;let#[u,rfl,A]:=vals1 B;let#[t,rfl]:=A;refine call_range_1 ?_;have n:Inv X f r y { d with heap:=d.heap.push { cls:=.type "range",data:=.fields (Vz9 [.int 0 d.toks,.int j t,.int 1 (d.toks + 1)]) },toks:=d.toks + 1 + 1 }:=O.kept λb o e=>bc _ e;refine mz (XB ..) E C ?_;refine Sg (x:=j - 1) (left:=j) (step:=-1) (en _ rfl) ?_;refine#[_,_,_,_,y,rfl,n.kept (t':=d.toks + 1 + 1) λb o e=>bc _ e,xp _ (j - 1) (-1) j.toNat,?_,λb L=>?_,q]
 .rw[show j - 1 + ((0:Nat):Int) * (-1)=j - 1 by simp,show ((j.toNat:Nat):Int) - ((0:Nat):Int)=j by simp;lia];exact en _ rfl
 .have N:b=d.heap.objs.size + 1:=by simpa using L
  have i:(d.heap.push { cls:=.type "range",data:=.fields (Vz9 [.int 0 d.toks,.int j t,.int 1 (d.toks + 1)]) }).objs.size<=b:=by rw[ru,N];exact cb _
  exact n.uC i (n.hok.fresh i)
section
variable {s:Shared}
theorem GP{it:Addr}{x:Value}(d:s.heap.IsTupleIter it p i)(k:s.heap.IsTuple p items)(j:items[i]?=some x)(h:∀ h',h'.IsTupleIter it p (i + 1)->Se it s.heap h'->Q x { s with heap:=h' }):wpAny (model prog w) A (Tz (.ref it)) Q E s:=by
 let#[m,c,g,b]:=id d;let#[l,e,_,n,f]:=k;delta Tz;refine ba (P9 (name:=jx "__next__") d.typeIs Tr (Qb Tr d.typeIs F.entry_tuple_iterator_next ?_ (F.args_tuple_iterator_next_1 _)));show wpAny _ _ (field (.ref it) 0 >>= λa=>_) _ _ s;refine ba (ng c b (x:=.ref p) rfl ?_);rw[if_neg (show ¬ ((fC p == pL)=true) from jt)];refine ba (ng c b (x:=.int i 0) rfl ?_);refine ba (Qf e f ?_);simp only[fL,j];refine ba (Sr c b (by simp) (bq #[x,rfl,?_]))
 first
 | refine bq (h _ ?_ (U5 ..))
 | refine h _ ?_ (U5 ..)
 exact#[_,sr _ c (Mh (xt b _)),(VV ..).trans g,by rw[xt b];simp -iota [rawInt]]
structure ZsD (z TI TO i1 i2 p:Addr):Prop extends IU z TI TO i1 i2 where
 pz:p≠z
 pTO:p≠TO
 pi1:p≠i1
 pi2:p≠i2
theorem GC{z TI TO B i2:Addr}{xs:Str}{c:Nat}{y a b:Value}(D:ZsD z TI TO B i2 p)(K:IsZip s.heap z TI TO .none)(X:IsPair s.heap TI (.ref B) (.ref i2))(W:IsPair s.heap TO a b)(h1:s.heap.IsStrIter B "str_ascii_iterator" xs tk0 k)(h2:s.heap.IsTupleIter i2 p k)(hp:s.heap.IsTuple p ys)(hx:xs.cps[k]?=some c)(hy:ys[k]?=some y)(hQ:∀ h' u,IsZip h' z TI TO (rawInt s.heap.objs.size)->IsPair h' TO (.str #[(Vz9 [c])] u) y->h'.IsStrIter B "str_ascii_iterator" xs tk0 (k + 1)->h'.IsTupleIter i2 p (k + 1)->IsPair h' s.heap.objs.size (.str #[(Vz9 [c])] u) y->
   (∀ d o,d≠z->d≠TO->d≠B->d≠i2->s.heap.get? d=some o->h'.get? d=some o)->Q (.ref s.heap.objs.size) { s with heap:=h',toks:=s.toks + 1 }) :
  wpAny (model prog w) A (RE.«zip.__next__» #[[.ref z],[]]) (λfin s'=>∃ v,fin=.done (.ret v)/\Q v s') E s:=by
 show wpAny _ _ (field (.ref z) 2 >>= λa=>_) _ _ _;refine ba (ng K rfl (x:=.bool false) rfl ?_);refine ba (ng K rfl (x:=.ref TI) rfl (ba (Qf X rfl ?_)));refine ba ?_;delta RW;refine ba (ng K rfl (x:=.none) rfl (bq ?_));simp only[if_true];refine ba (Tq (ba (ng K rfl (x:=.ref TO) rfl ?_)));refine ba (Q1 K (by simp) λg1 T i=>?_);refine ba ?_;simp -iota only[T7,WC,R0,UQ];refine ba (ba (Vc ?_));refine ba (wpAny_nextOf_ascii_item (h1.extBut i.extBut D.i1z) hx λg2 a4 h=>bq ?_);have t:IsPair g2 TO a b:=h.extBut _ _ D.TOi1 (i.extBut _ _ D.TOz W);refine ba (Qf t rfl (ba (US t λg3 M g=>?_)));refine ba (wpAny_letGo (bq (ba (ba (Vc ?_)))));have a1:g3.IsTupleIter i2 p k:=h2.at λo e=>g.extBut _ _ D.TOi2.symm (h.extBut _ _ D.i12.symm (i.extBut _ _ D.i2z e));have U:g3.IsTuple p ys:=((hp.extBut i.extBut D.pz).extBut h.extBut D.pi1).extBut g.extBut D.pTO;refine ba (GP a1 U hy λg4 Z m=>bq ?_);have q:IsPair g4 TO (.str #[(Vz9 [c])] s.toks) b:=m.extBut _ _ D.TOi2 M;refine ba (Qf q rfl (ba (US q λj f l=>?_)));replace f:IsPair j TO (.str #[(Vz9 [c])] s.toks) y:=f;refine ba (wpAny_letGo (bq (bq (ba (Qf f rfl (ba (wpAny_newTuple ?_)))))));have L:j.objs.size=s.heap.objs.size:=by rw[l.1,m.1,g.1,h.1,i.1]
 have J:IsZip j z TI TO .ellipsis:=l.extBut _ _ D.TOz.symm (m.extBut _ _ D.i2z.symm (g.extBut _ _ D.TOz.symm (h.extBut _ _ D.i1z.symm T)));have V:∀ d o,d≠z->d≠TO->d≠B->d≠i2->s.heap.get? d=some o->j.get? d=some o:=λd o F R c3 c4 e=>l.extBut _ _ R (m.extBut _ _ c4 (g.extBut _ _ R (h.extBut _ _ c3 (i.extBut _ _ F e))));have a2:j.IsStrIter B "str_ascii_iterator" xs tk0 (k + 1):=((a4.extBut g.extBut D.TOi1.symm).extBut m.extBut D.i12).extBut l.extBut D.TOi1.symm;have Y:j.IsTupleIter i2 p (k + 1):=Z.at λo e=>l.extBut _ _ D.TOi2.symm e;have G:z < j.objs.size:=ec J;refine ba ?_;delta U6;have S:IsZip (j.push { cls:=.type "tuple",data:=.seq (Vz9 [.str #[(Vz9 [c])] s.toks,y]) }) z TI TO .ellipsis:=bc _ J;refine ba (Q1 S (by simp) λg7 C I=>?_);replace C:IsZip g7 z TI TO (rawInt j.objs.size):=C;refine Q1 C (by simp) λP n H=>?_;replace n:IsZip P z TI TO (rawInt j.objs.size):=n;have O:∀ d o,d≠z->j.get? d=some o->P.get? d=some o:=λd o F e=>H.extBut _ _ F (I.extBut _ _ F (bc _ e));have N:IsPair P j.objs.size (.str #[(Vz9 [c])] s.toks) y:=H.extBut _ _ (IY G) (I.extBut _ _ (IY G) (en _ rfl));rw[L] at n N;refine bq #[_,rfl,?_];rw[L];exact hQ P _ n (O _ _ D.TOz f) (let ⟨o,e,r⟩:=a2;#[o,O _ o D.i1z e,r]) (Y.at λo e=>O _ o D.i2z e) N λd o F R c3 c4 e=>O d o F (V d o F R c3 c4 e)
theorem J4{z TI TO m i2:Addr}{xs:Str}{a b:Value}{Q:Fin->Shared->Prop}(hh:A.handled=none)(D:ZsD z TI TO m i2 p)(j:IsZip s.heap z TI TO .none)(t:IsPair s.heap TI (.ref m) (.ref i2))(C:IsPair s.heap TO a b)(h1:s.heap.IsStrIter m "str_ascii_iterator" xs tk0 k)(y:xs.cps[k]?=none)(F:∀ h' e,(∀ d o,d≠z->d≠TO->d≠m->d≠i2->s.heap.get? d=some o->h'.get? d=some o)->(∃ o,h'.get? e=some o/\o.cls=.type "StopIteration")->E (.ref e) { s with heap:=h' }) :
  wpAny (model prog w) A (RE.«zip.__next__» #[[.ref z],[]]) Q E s:=by
 show wpAny _ _ (field (.ref z) 2 >>= λa=>_) _ _ _;refine ba (ng j rfl (x:=.bool false) rfl ?_);refine ba (ng j rfl (x:=.ref TI) rfl (ba (Qf t rfl ?_)));refine ba ?_;delta RW;refine ba (ng j rfl (x:=.none) rfl (bq ?_));simp only[if_true];refine ba (Tq (ba (ng j rfl (x:=.ref TO) rfl ?_)));refine ba (Q1 j (by simp) λJ n h=>?_);refine ba ?_;simp -iota only[T7,WC,R0,UQ];refine ba (ba (Vc ?_));refine ba (wpAny_nextOf_ascii_end hh (h1.extBut h.extBut D.i1z) y λH e g B=>?_);let#[v,c,l]:=B;have i:IsZip H z TI TO .ellipsis:=g _ _ D.i1z.symm n;have r:e≠z:=λq=>by subst q;rw[i] at c;cases c;simp -iota at l
 exact Q1 i (by simp) λG _ f=>F G e (λd o u _ I _ q=>f.extBut _ _ u (g _ _ I (h.extBut _ _ u q))) #[v,f.extBut _ _ r c,l]
end
noncomputable def PZ (K:Fg0)(x:Str)(p:Addr):It:=
 #[λi H=>∃ ys y,SqT K H p ys/\i < x.cps.size/\ys[i]?=some y,
  λi H v H'=>∃ t y c,H t=none/\(∀ ys,SqT K H p ys->ys[i]?=some y)/\x.cps[i]?=some c/\v=.ref t/\H'=upd H t (.tup [.str (sgn c),y]),
  λi _=>x.cps.size<=i]
def Q9 (z TI TO c i2:Addr)(x:Str)(d:Tok)(p:Addr)(i:Nat)(h:Heap):Prop:=IsZip h z TI TO .none/\IsPair h TI (.ref c) (.ref i2)/\(∃ a b,IsPair h TO a b)/\h.IsStrIter c "str_ascii_iterator" x d i/\h.IsTupleIter i2 p i
theorem GO{kt:Nat}{tp:Pos}(z TI TO m i2 p:Addr)(x:Str)(tk:Tok)(D:ZsD z TI TO m i2 p) :
  Turn P w K (.Tuple es kt tp) (PZ K x p) [z,TI,TO,m,i2] z (Q9 z TI TO m i2 x tk p) where
 mem:=by simp
 obj:=λi h st b G=>by
  let#[l,f,#[a,c,g],#[L,B,_,d1],#[o2,Z,_,d2]]:=st;simp -iota only[cm,ey,or_false] at G;rcases G with rfl | rfl | rfl | rfl | rfl
  .exact#[_,l,λv q=>by cases q]
  .exact#[_,f,λv q=>by cases q]
  .exact#[_,g,λv q=>by cases q]
  .exact#[_,B,λv q=>by rw[d1] at q;cases q]
  .exact#[_,Z,λv q=>by rw[d2] at q;cases q]
 keep:=λi h h' st k=>by
  let#[l,f,#[a,c,g],#[L,B,r1],A]:=st;exact#[k z (by simp) _ l,k TI (by simp) _ f,#[a,c,k TO (by simp) _ g],#[L,k m (by simp) _ B,r1],A.at λo e=>k i2 (by simp) o e]
 item:=by
  intro X W Q Y hc i n s σ H E I C st U;subst W Q Y;let#[ys,y,hq,hx,hy]:=U;let#[l,f,#[a0,b0,g],J,A]:=st;let#[M,r,ht,a6]:=I.tuple hq;let#[v,hv,rv]:=r.get hy;have nf:∀ b∈[z,TI,TO,m,i2],H b=none:=λb G=>(C b G).1;have t:s.TypeIs (.ref z) "zip":=#[_,l,rfl];delta pyNext;refine ba (RX (P9 (name:=jx "__next__") t SX (Qb SX t Wi
   (GC D l f g J A (show s.heap.IsTuple p M.toArray from ht) (c:=x.cps[i]) (by simp -iota [hx]) (y:=v) (by simpa using hv) λh' u a1 a2 a3 a4 a5 hk=>bq ?_) (VW _))))
  refine#[_,rfl,wpAny_letOwnedTupleGo_zip a1 λa7 O j=>?_];have zT:s.heap.objs.size≠z:=IY (ec l);refine#[.ref s.heap.objs.size,upd H s.heap.objs.size (.tup [.str (sgn x.cps[i]),y]),?_,rfl,#[_,y,x.cps[i],I.hok.fresh (cb _),λzs N=>by rw[I.B_ N hq];exact hy,by simp -iota [hx],rfl,rfl],?_,λb d=>?_]
  .refine I.HE (t':=s.toks + 1) (ch:=[z,TO,m,i2]) (u:=.str (sgn x.cps[i]) u) (v:=v) (λb d=>C b (by simp -iota at d ⊢;rcases d with e | e | e | e <;> simp -iota [e])) (cb _) (λb o d e=>?_) #[_,j.extBut _ _ zT a5,rfl,_,rfl] #[_,rfl] rv;simp -iota only[cm,ey,or_false,not_or] at d;exact j.extBut b o d.1 (hk b o d.1 d.2.1 d.2.2.1 d.2.2.2 e)
  .exact#[O,j.extBut _ _ D.TIz (hk _ _ D.TIz D.TITO D.TIi1 D.TIi2 f),#[_,_,j.extBut _ _ D.TOz a2],a3.extBut j.extBut D.i1z,a4.at λo e=>j.extBut _ _ D.i2z e]
  .rw[ao]
   .exact nf b d
   .have R:∃ o,s.heap.get? b=some o:=by
     let#[L,B,_]:=J;let#[o2,Z,_]:=A;simp -iota only[cm,ey,or_false] at d;rcases d with rfl | rfl | rfl | rfl | rfl
     .exact#[_,l]
     .exact#[_,f]
     .exact#[_,g]
     .exact#[_,B]
     .exact#[_,Z]
    let#[o,e]:=R;exact gm (ec e)
 done:=by
  intro X W Q Y hc i n s σ H E I C st U;subst W Q Y;let#[l,f,#[a0,b0,g],J,A]:=st;have S:x.cps.size<=i:=U;have t:s.TypeIs (.ref z) "zip":=#[_,l,rfl];delta pyNext;refine ba (RX (P9 (name:=jx "__next__") t SX (Qb SX t Wi
   (J4 (I.ok.hd hc) D l f g J (by simpa using S) λh' e hk he=>?_) (VW _))))
  let#[o,ho,V]:=he;refine ba (wpAny_isInstance (T:="StopIteration") (b:=true) #[o,ho,V] isSubtype_stop ?_);refine bq #[rfl,I.moved (t':=s.toks) (ch:=[z,TO,m,i2]) (λb d=>C b (by grind)) λb o d e=>?_];simp -iota only[cm,ey,or_false,not_or] at d;exact hk b o d.1 d.2.1 d.2.2.1 d.2.2.2 e
 self:=λ_ _ _ _ _ st h=>Wj st.1 h
noncomputable abbrev zs1 (h:Heap)(x:Str)(t:Tok):Heap:=h.push { cls:=.type "str_ascii_iterator",data:=.fields (Vz9 [.str x t,.int 0 0]) }
noncomputable abbrev zs2 (h:Heap)(x:Str)(t:Tok)(p:Addr):Heap:=(zs1 h x t).push { cls:=.type "tuple_iterator",data:=.fields (Vz9 [.ref p,.int 0 0]) }
noncomputable abbrev zs3 (h:Heap)(x:Str)(t:Tok)(p:Addr):Heap:=(zs2 h x t p).push { cls:=.type "tuple",data:=.seq (Vz9 [.ref h.objs.size,.ref (zs1 h x t).objs.size]) }
noncomputable abbrev zs4 (h:Heap)(x:Str)(t:Tok)(p:Addr):Heap:=(zs3 h x t p).push { cls:=.type "tuple",data:=.seq (Vz9 [.none,.none]) }
noncomputable abbrev zs5 (h:Heap)(x:Str)(t:Tok)(p:Addr):Heap:=(zs4 h x t p).push { cls:=.type "zip",data:=.fields (Vz9 [.none,.bool false,.bool false,.ref (zs2 h x t p).objs.size,.ref (zs3 h x t p).objs.size]) }
set_option maxHeartbeats 4000000 in
theorem EG(x:Str)(t:Tok)(p:Addr)(ys:Array Value)(j:x.cps.all (· < 128)=true) :
  Meets (RE.«zip.__new__» #[[.type "zip",.str x t,.ref p],[]]) (λ_ R s=>s.heap.IsTuple p ys/\R (.ok (.ret (.ref (zs4 s.heap x t p).objs.size))) { s with heap:=zs5 s.heap x t p }):=
 .of_wp λa w A R s h=>by
  let#[f,g,d,c,os]:=s;let#[i,h]:=h;have b:=sub_zip;have k:Heap.IsTuple (Shared.heap #[f.push { cls:=.type "str_ascii_iterator",data:=.fields (Vz9 [.str x t,.int 0 0]) },g,d,c,os]) p ys:=let ⟨o,e,r⟩:=i;#[o,bc _ e,r]
  wp_walk using Vq j,wpAny_pyIter_tuple k
  exact#[_,rfl,h]
section
variable {s:Shared}
theorem Iz{x:Str}{t:Tok}(j:x.cps.all (· < 128)=true)(i:s.heap.IsTuple p ys)(h:∀ h',IsZip h' (s.heap.objs.size + 4) (s.heap.objs.size + 2) (s.heap.objs.size + 3) .none->IsPair h' (s.heap.objs.size + 2) (.ref s.heap.objs.size) (.ref (s.heap.objs.size + 1))->IsPair h' (s.heap.objs.size + 3) .none .none->
   h'.IsStrIter s.heap.objs.size "str_ascii_iterator" x t 0->h'.IsTupleIter (s.heap.objs.size + 1) p 0->(∀ c o,s.heap.get? c=some o->h'.get? c=some o)->Q (.ref (s.heap.objs.size + 4)) { s with heap:=h' }) :
  wpAny (model prog w) A (call (.type "zip") [.str x t,.ref p]) Q E s:=by
 refine callType_new F.called_zip (by decide) (F.typeCall_zip_2 _ _) (F.newCall_zip_2 _ _) (λa=>F.args_object_init_3 a _ _) F.entry_zip_new (EG x t p ys j) #[i,?_];have z1:(zs1 s.heap x t).objs.size=s.heap.objs.size + 1:=ru ..;have z2:(zs2 s.heap x t p).objs.size=s.heap.objs.size + 2:=by rw[ru,z1]
 have z3:(zs3 s.heap x t p).objs.size=s.heap.objs.size + 3:=by rw[ru,z2]
 have z4:(zs4 s.heap x t p).objs.size=s.heap.objs.size + 4:=by rw[ru,z3]
 have b:(zs5 s.heap x t p).get? (zs4 s.heap x t p).objs.size=some _:=en _ rfl;have d:(zs5 s.heap x t p).get? (zs3 s.heap x t p).objs.size=some _:=bc _ (en _ rfl);have e:(zs5 s.heap x t p).get? (zs2 s.heap x t p).objs.size=some _:=bc _ (bc _ (en _ rfl));have f:(zs5 s.heap x t p).get? (zs1 s.heap x t).objs.size=some _:=bc _ (bc _ (bc _ (en _ rfl)));have g:(zs5 s.heap x t p).get? s.heap.objs.size=some _:=bc _ (bc _ (bc _ (bc _ (en _ rfl))));rw[z2,z3,z4] at b;rw[z1,z2] at e;rw[z3] at d;rw[z1] at f;rw[z4];exact#[#[_,b,rfl],h _ b e d #[_,g,rfl,rfl] #[_,f,rfl,rfl] λc o q=>bc _ (bc _ (bc _ (bc _ (bc _ q))))]
end
def iZs (K:Fg0)(ta:TA):TI:=λσ H R=>ta σ H λvs H1=>∃ (x:Str) (q:Addr) (ys:List V),vs=[.str x,.ref q]/\x.cps.all (· < 128)=true/\SqT K H1 q ys/\R (PZ K x q) H1
theorem N3{a b:Expr}{ta:TA}{kt:Nat}{E p:Pos}(M:Gl X "zip")(L:X.mg "zip"=none)(N:PA X [a,b] ta)(hs:autoParam (ed [a,b] X.env=[(false,eval a X.env),(false,eval b X.env)]) wE)(k:autoParam (ed [b] X.env=[(false,eval b X.env)]) wE) :
  PI X (.Tuple es kt E) (.Call (.Name "zip" p) [a,b] [] pos) (iZs X.K ta):=by
 intro f s A H R I h;refine Call_ (i9 I M L (by decide +kernel:xa "zip"=some (.type "zip")) (qe (thn (N pos f s A H _ I h) λV c ⟨U,C,m,G,J⟩=>?_) (by rw[hs,k]) (by rw[k];rfl)));let#[x,l2,S,e,has,O,q]:=J;subst e;let#[u,T,rfl,F,n]:=vals2 G;let#[t,rfl]:=F;cases n;let#[o,W,K,r]:=m.tuple O;have g:c.heap.IsTuple l2 o.toArray:=K;refine Iz has g λP r z y w v hk=>Wj r ?_;have Q:Inv X f A C { c with heap:=P }:=m.kept (t':=c.toks) hk;have lt:∀ i j:Nat,i < j->c.heap.objs.size + i≠c.heap.objs.size + j:=λi j h e=>by lia
 have d:l2 < c.heap.objs.size:=by let#[_,e,_]:=g;exact ec e
 have D:ZsD (c.heap.objs.size + 4) (c.heap.objs.size + 2) (c.heap.objs.size + 3) c.heap.objs.size (c.heap.objs.size + 1) l2:=
  #[#[lt 2 4 (by decide),lt 3 4 (by decide),lt 0 4 (by decide),lt 1 4 (by decide),lt 2 3 (by decide),(lt 0 2 (by decide)).symm,(lt 1 2 (by decide)).symm,(lt 0 3 (by decide)).symm,(lt 1 3 (by decide)).symm,lt 0 1 (by decide)],gm (da d (T8 _ _)),gm (da d (T8 _ _)),gm d,gm (da d (T8 _ _))]
 refine#[_,_,_,_,C,rfl,Q,GO _ _ _ _ _ l2 x t D,#[r,z,#[_,_,y],w,v],λb B=>?_,q];have l:c.heap.objs.size<=b:=by
  simp -iota only[cm,ey,or_false] at B;rcases B with rfl | rfl | rfl | rfl | rfl <;> lia
 exact m.uC l (m.hok.fresh l)
structure ExcAt (n:Nat) (H:Hp) (h:Heap) (e:Addr) (cls:Value) (dx:Option Addr):Prop where
 ge:n<=e
 free:H e=none
 rcd:∃ oe vs,h.get? e=some oe/\oe.cls=cls/\oe.dict=dx/\oe.data=.fields vs/\1 < vs.size/\
  (vs[1]?=some .none\/∃ T oT ts,vs[1]?=some (.ref T)/\n<=T/\T≠e/\H T=none/\h.get? T=some oT/\oT.data=.fields ts/\ts[3]?=some .none)
structure Lv (n:Nat) (H:Hp) (fs:La0) (h h':Heap):Prop where
 keep:∀ b o,h.get? b=some o->b∉fs->(b < n\/H b≠none)->h'.get? b=some o
 slot:∀ b o,h.get? b=some o->b∈fs->∃ sl,h'.get? b=some { o with slots:=sl }
 there:∀ b o,h.get? b=some o->∃ o',h'.get? b=some o'
theorem Lv.trans{n:Nat}{fs:La0}{h h1 e:Heap}(x:Lv n H fs h h1)(y:Lv n H fs h1 e):Lv n H fs h e where
 keep:=λb o q d a=>y.keep b o (x.keep b o q d a) d a
 slot:=λb o q a=>by
  let#[g,c]:=x.slot b o q a;let#[sl2,f]:=y.slot b _ c a;exact#[sl2,f]
 there:=λb o q=>let ⟨_,c⟩:=x.there b o q;y.there b _ c
section
variable {s:Shared}{n:Nat}{cls:Value}
theorem yF{a:Value}{g:Bool}{Q:Unit->Shared->Prop}(G:A.frames=some (env::outer))(F:s.heap.FunFrames base (env::outer))(hf:env.frame=some L)(hn:n<=s.heap.objs.size)(hH:∀ b,s.heap.objs.size<=b->H b=none)(T:n<=e)(U:H e=none)(I:s.heap.get? e=some oe)(hc:oe.cls=cls)(Z:oe.dict=dx)(hd:oe.data=.fields vs)(B:1 < vs.size)(h:∀ h',Lv n H (frs (env::outer)) s.heap h'->ExcAt n H h' e cls dx->h'.FunFrames base (env::outer)->Q () { s with heap:=h' }) :
  wpAny M A (frameOf env >>= λfo=>entryPlaceOf L g >>= λj=>U7 a fo .none (rawInt L) .none j >>= setField (.ref e) 1) (λ_ s'=>wpAny M A (T9 (.ref e) none) Q E s') E s:=by
 have V:e∉frs (env::outer):=λm=>by
  let#[_,o,S,p]:=F.mem m;rw[I] at S;cases S;exact p vs hd
 refine ba (wpAny_frameOf_fun G F hf λc so=>ba (wpAny_entryPlaceOf λl D=>?_));delta U7 newFields;have u:=D.sizeOk5 a (.ref L) .none (rawInt L) .none;refine ba (zl ?_ u);generalize t:({ cls:=.type "traceback",dict:=none,data:=.fields ([a,.ref L,.none,rawInt L,.none]++(if l.isEmpty then ji 6 pL else l)).toArray }:Obj)=y;have k:y.data=.fields ([a,.ref L,.none,rawInt L,.none]++(if l.isEmpty then ji 6 pL else l)).toArray:=by rw[<- t]
 have bf:y.isFreed=false:=by rw[<- t];rfl
 have X:c.get? e=some oe:=(so.2.1 e V).trans I;have W:=bc (h:=c) y X;refine Sr W hd B ?_;have C:c.objs.size≠e:=IY (ec X);have O:=xt hd (·.setIfInBounds 1 (fC c.objs.size));have K:=sr (FB (·.setIfInBounds 1 (fC c.objs.size))) W (Mh O);have R:=(gD (c.push y) (FB (·.setIfInBounds 1 (fC c.objs.size))) (lj C)).trans (en c bf);delta T9;refine ba (ng K O (x:=.ref c.objs.size) (by simp -iota [B]) ?_);rw[if_pos (show (fC c.objs.size != pL)=true by simp)];have P:3 < ([a,.ref L,.none,rawInt L,.none]++(if l.isEmpty then ji 6 pL else l)).toArray.size:=by simp_all
 refine Sr R k P (h _ #[λb o q p J=>?_,λb o q J=>?_,λb o q=>?_] #[T,U,?_] ?_)
 .have d:c.get? b=some o:=(so.2.1 b p).trans q;have i:c.objs.size≠b:=IY (ec d);have r:e≠b:=λz=>by
   subst z;rcases J with w | w
   .exact iD _ (da w T)
   .exact w U
  rw[gD _ _ i,gD _ _ r];exact bc _ d
 .let#[v,d]:=so.2.2 b o q;have i:c.objs.size≠b:=IY (ec d);have r:e≠b:=λz=>V (by rw[z];exact J);refine#[v,?_];rw[gD _ _ i,gD _ _ r];exact bc _ d
 .let#[v,d]:=so.2.2 b o q;have i:c.objs.size≠b:=IY (ec d);by_cases z:b=e
  .subst z;exact#[_,by rw[gD _ _ i];exact K]
  .exact#[_,by rw[gD _ _ i,gD _ _ (lj z)];exact bc _ d]
 .have Y:=sr (FB (·.setIfInBounds 3 ((none:Option Addr).elim pL λf=>rawInt f))) R (Mh (xt k _));refine#[_,_,by rw[gD _ _ C];exact K,by rw[VV];exact hc,?_,O,by simpa using B,.inr #[c.objs.size,_,_,by simp -iota [B],by rw[so.1];exact hn,C,hH _ (by rw[so.1];exact cb _),Y,xt k _,?_]]
  .rw[<- Z];let#[c0,d0,N,s0]:=oe;cases N <;> rfl
  .rw[Rv P];rfl
 .refine F.of_keeps λb o q p=>?_;let#[v,d]:=so.2.2 b o q;have i:c.objs.size≠b:=IY (ec d);have r:e≠b:=λz=>by
   subst z;rw[I] at q;cases q;exact p vs hd
  exact#[{ o with slots:=v },by rw[gD _ _ i,gD _ _ r];exact bc _ d,rfl]
theorem yf{Q:Unit->Shared->Prop}(i:A.frames=some (env::outer))(p:s.heap.FunFrames base (env::outer))(k:env.frame=some L)(P:n<=s.heap.objs.size)(D:∀ b,s.heap.objs.size<=b->H b=none)(x:ExcAt n H s.heap e cls dx)(h:∀ h',Lv n H (frs (env::outer)) s.heap h'->ExcAt n H h' e cls dx->h'.FunFrames base (env::outer)->Q () { s with heap:=h' }):wpAny M A (Ua (.ref e) env) (λ_ s'=>wpAny M A (T9 (.ref e) none) Q E s') E s:=by
 let#[G,I,Y,t,l,C,y,hd,v,J]:=x;rcases J with h1 | ⟨T,Z,u,h1,R,N,U,j,c,F⟩
 .delta Ua;simp only[k];refine ba (ng l hd h1 ?_);rw[if_neg (by decide)];exact yF i p k P D G I l C y hd v h
 .delta Ua;simp only[k];refine ba (ng l hd h1 ?_);rw[if_pos (show (fC T != pL)=true by simp)];refine ba (ng j c F ?_);rw[if_neg (show ¬ ((pL == rawInt L)=true) by simp -iota [rawInt])];have d:=(tq.mp F).1;refine ba (Sr j c d ?_);have g:∀ b,b≠T->(s.heap.update T (FB (·.setIfInBounds 3 pL))).get? b=s.heap.get? b:=λb a=>gD _ _ (lj a);have W:=sr (FB (·.setIfInBounds 3 pL)) j (Mh (xt c _));have K:∀ b o,s.heap.get? b=some o->(∀ t,o.data≠.fields t)->b≠T:=λb o a f z=>by
   rw[z,j] at a;cases a;exact f u c
  have X:(s.heap.update T (FB (·.setIfInBounds 3 pL))).objs.size=s.heap.objs.size:=Heap.size_after_update ..;have r:T∉frs (env::outer):=λm=>by
   let#[_,o,B,f]:=p.mem m;rw[j] at B;cases B;exact f u c
  refine yF (s:={ s with heap:=s.heap.update T (FB (·.setIfInBounds 3 pL)) }) i (p.of_keeps λb o a f=>#[o,(g b (K b o a f)).trans a,rfl]) k (by simp_all) (λb a=>D b (by simp_all)) G I ((g e (lj N)).trans l) C y hd v λh' O V S=>h h' ?_ V S;refine Lv.trans (h1:=s.heap.update T (FB (·.setIfInBounds 3 pL))) #[λb o q f a=>(g b λz=>?_).trans q,λb o q a=>#[o.slots,(g b λz=>r (by rw[<- z];exact a)).trans q],λb o q=>?_] O
  .subst z;rcases a with w | w
   .exact iD _ (da w R)
   .exact w U
  .by_cases z:b=T
   .simp_all
   .exact#[o,(g b z).trans q]
theorem ET{Q:Unit->Shared->Prop}(a:A.frames=some (env::outer))(d:s.heap.FunFrames base (env::outer))(f:env.frame=some L)(c:n<=s.heap.objs.size)(g:∀ b,s.heap.objs.size<=b->H b=none)(x:ExcAt n H s.heap e cls dx)(h:∀ h',Lv n H (frs (env::outer)) s.heap h'->ExcAt n H h' e cls dx->h'.FunFrames base (env::outer)->Q () { s with heap:=h' }):wpAny M A (leaving env (.ref e)) Q E s:=by
 delta leaving;exact ba (yf a d f c g x h)
def CX1 (P:vn)(w:World)(base:Heap):CXT:=λouter H s E ev s'=>∃ e cls dx H',ev=.ref e/\s'.os=s.os/\Sd s'.gens/\Un (frs outer) [] H H' s.heap s'.heap/\HOk P w H' s'.heap/\s'.heap.FunFrames base outer/\ExcAt s.heap.objs.size H' s'.heap e cls dx/\E cls dx H'
end
section
variable {s:Shared}{E:XK}
theorem Dh{CX:CXT}{C:Pn0}{x:Shared}{cls:Value}(I:Inv (mw (CX1 P w base) P w K mg base N qual scope f cd A outer s H E) C σ H1 x)(os:s'.os=x.os)(bare:Sd s'.gens)(i:Un (frs (envOfC qual scope s.heap.objs.size f cd::outer)) [] H1 H' x.heap s'.heap)(D:HOk P w H' s'.heap)(T:s'.heap.FunFrames base (envOfC qual scope s.heap.objs.size f cd::outer))(U:ExcAt s.heap.objs.size H' s'.heap e cls dx)(hE:E cls dx H') :
  (mw (CX1 P w base) P w K mg base N qual scope f cd A outer s H E).xe (.ref e) s':=by
 have V:s.heap.objs.size<=x.heap.objs.size:=I.sz;have hL:(envOfC qual scope s.heap.objs.size f cd).frame=some s.heap.objs.size:=rfl;have v:∀ b,b∈frs (envOfC qual scope s.heap.objs.size f cd::outer)->b=s.heap.objs.size\/b∈frs outer:=λb k=>by
  exact cm.mp k
 have p:∀ b o,s.heap.get? b=some o->b < s.heap.objs.size:=λb o q=>ec q;have l:∀ b,b < s.heap.objs.size->b∉frs outer->b∉frs (envOfC qual scope s.heap.objs.size f cd::outer):=λb lt r m=>by
  rcases v b m with z | z
  .rw[z] at lt;exact iD _ lt
  .exact r z
 have d:Un (frs outer) [] H H1 s.heap x.heap:=I.base;have t:∀ b,b∈frs (envOfC qual scope s.heap.objs.size f cd::outer)->H' b=none:=λb k=>by
  have y:H1 b=none:=by
   rcases v b k with z | z
   .subst z;exact I.free
   .let#[_,o,J,_]:=I.ok.kC.mem z;exact d.free b o J (I.ok.frf b z) (by simp)
  let#[_,o,J,_]:=T.mem k;have:∃ o1,x.heap.get? b=some o1:=by
   rcases v b k with z | z
   .let#[m,#[o1,_,_,h,_],_]:=I.loc;exact#[o1,by rw[z];exact h]
   .let#[_,o,J,_]:=I.ok.kC.mem z;exact d.there b o J (by simp)
  let#[o1,h]:=this;exact i.free b o1 h y (by simp)
 have L:s.heap.objs.size<=s'.heap.objs.size:=by
  let#[m,#[o1,_,_,h,_],_]:=I.loc;let#[R,M]:=i.there _ o1 h (by simp);exact Fn (ec (a:=s.heap.objs.size) M)
 refine ET (n:=s.heap.objs.size) I.ok.frames T hL L (λb k=>D.fresh k) U λh' G ex O=>#[e,cls,dx,H',rfl,os.trans I.os,bare,?_,?_,O.2.2,ex,hE]
 .have Z:∀ b o,s.heap.get? b=some o->H b=none->b∉frs outer->s'.heap.get? b=some o/\H' b=none:=λb o q nn r=>by
   have j:=d.keep b o q nn r (by simp);have y:=d.free b o q nn (by simp);exact#[i.keep b o j y (l b (p b o q) r) (by simp),i.free b o j y (by simp)]
  refine#[λb o q nn r _=>?_,λb o q nn k _=>?_,λb o q nn _=>?_,λb o q _=>?_,λb Q q=>i.tups b Q (d.tups b Q q),λb o u q=>i.frzs b o u (d.frzs b o u q),λb X q=>?_]
  .exact G.keep b o (Z b o q nn r).1 (l b (p b o q) r) (.inl (p b o q))
  .let#[sl,j]:=d.slot b o q nn k (by simp);have y:=d.free b o q nn (by simp);have F:b∈frs (envOfC qual scope s.heap.objs.size f cd::outer):=ei s.heap.objs.size k;let#[sl2,B]:=i.slot b _ j y F (by simp);let#[sl3,W]:=G.slot b _ B F;exact#[sl3,W]
  .let#[o1,j]:=d.there b o q (by simp);exact i.free b o1 j (d.free b o q nn (by simp)) (by simp)
  .let#[o1,j]:=d.there b o q (by simp);let#[R,B]:=i.there b o1 j (by simp);exact G.there b R B
  .let#[m1,j]:=d.tbls b X q;let#[Y,B]:=i.tbls b _ j;exact#[m1++Y,by rw[B,Vk]]
 .intro b o q;refine(D b o q).pQ (λc u hc g=>?_) (λ_ z=>z) λ_ _ z=>z;have S:H' c≠none:=by
   rcases hc with z | z
   .rw[z,q];simp
   .rw[z];simp
  exact G.keep c u g (λm=>S (t c m)) (.inr S)
theorem Nb{CX:CXT}{c:Pn0}{b:Shared}{cls:Value}(I:Inv (mw (CX1 P w base) P w K mg base N qual scope f cd A outer s H E) c σ H1 b)(os:s'.os=b.os)(bare:Sd s'.gens)(i:Un (frs (envOfC qual scope s.heap.objs.size f cd::outer)) [] H1 H' b.heap s'.heap)(d:HOk P w H' s'.heap)(y:s'.heap.FunFrames base (envOfC qual scope s.heap.objs.size f cd::outer))(x:ExcAt b.heap.objs.size H' s'.heap e cls dx)(n:E cls dx H') :
  (mw (CX1 P w base) P w K mg base N qual scope f cd A outer s H E).xe (.ref e) s':=by
 have a:s.heap.objs.size<=b.heap.objs.size:=I.sz;have g:ExcAt s.heap.objs.size H' s'.heap e cls dx:=by
  let#[u,v,l,h,t,r,q,p,o,k]:=x;refine#[eH a u,v,l,h,t,r,q,p,o,k.imp id ?_];rintro⟨T,m,j,C,B,z⟩;exact#[T,m,j,C,eH a B,z]
 exact Dh (CX:=CX) I os bare i d y g n
theorem Bc:Passes (CX1 P w base) (mw (CX1 P w base) P w K mg base N qual scope f cd A outer s H E) E:=λb j o k m l I h=>by
 let#[e,i,n,p,rfl,os,bare,c,a,g,x,d]:=h;exact Nb (CX:=CX0) I os bare c a g x d
end
open PySem PySem.Spec PyProof.Rows PySem.W
noncomputable def gW (K:Frag)(C:Addr)(B a:String):Bool:=match K.lookup C with
 | some ⟨c,_,.cls cd,b⟩=>c == .type "type" && !cd.hasDel && (b.toList[4]?).join == some (.builtin a) && !cd.mro.isEmpty && cd.mro.contains (.ref C) && cd.mro.contains (.type B) && !cd.mro.contains (.type "AttributeError") && !cd.mro.contains (.type "NameError") &&
   cd.mro.contains (.type "BaseException") && Lu K (.ref C) "__call__" == some (some (.builtin "type.__call__")) && instIn K (.ref C) (.type "type") == some true
 | _=>false
structure eX (M:Model) (h:Heap) (C:Addr) (B newId:String):Prop where
 obj:∃ oc od cd sl,h.get? C=some #[oc,od,.cls cd,sl]/\oc=.type "type"/\cd.hasDel=false/\cd.mro.isEmpty=false
 made:Looks M h (Ws (.ref C)) (some newId)
 base:Looks M h (UC (.ref C)) (.ref C)
 under:∀ b r,(b,r)∈[(fC C,true),(.type B,true),(.type "BaseException",true),(.type "AttributeError",false),(.type "NameError",false)]->Looks M h (RF (.ref C) b) r
 dunder:Looks M h (Xg (.ref C) ("__call__":Str)) (some (wI "type.__call__"))
 isTy:Looks M h (SB (.ref C) (.type "type")) true
theorem pN{K:Frag}{h:Heap}(X:K.In h)(e:gW K C B newId=true):eX M h C B newId:=by
 delta gW at e;split at e
 case h_2=>cases e
 rename_i D y cd v o;rw[fT,fT,fT,fT,fT,fT,fT,fT,fT,fT] at e;let#[#[#[#[#[#[#[#[#[#[T,S],R],P],O],N],I],G],H],L],J]:=e;have a:cd.mro.isEmpty=false:=by simpa using P
 have f:clsIn K C=some cd:=by delta clsIn;rw[o]
 have j:Looks M h (mroOf (.ref C)) cd.mro:=TM (RK X f) .now;have four:v[4]?.join=some (.builtin newId):=by simpa using R
 have i:Looks M h (Ws (.ref C)) (some newId):=λA Q E s k q=>by
  have F:=k C _ (X C _ o);let#[x,g,d,t,os]:=s;delta Ws;refine ba (j A _ E _ k ?_)
  match p:cd.mro with
  | []=>rw[p] at a;cases a
  | c::l=>
   rw[R0];have n:∀ {u:Option Value->Shared->Prop},u (some (.builtin newId)) #[x,g,d,t,os]->wpAny M A (slotAt C 4) u E #[x,g,d,t,os]:=λ{u} z=>by
    rw[<- four] at z;exact ba (Rq F (bq z))
   refine ba (ba (ba (n ?_)))
   repeat (with_reducible refine bq ?_)
   exact q
 have m:Looks M h (UC (.ref C)) (.ref C):=λA Q E s k q=>by
  delta UC;refine ba (j A _ E s k ?_)
  match p:cd.mro with
  | []=>rw[p] at a;cases a
  | c::l=>
   rw[R0];refine ba (ba (ba (i A _ E s k ?_)));rw[if_pos (show (some newId).isSome=true from rfl)]
   repeat (with_reducible refine bq ?_)
   exact q
 have sub:∀ b r,cd.mro.contains b=r->Looks M h (RF (.ref C) b) r:=λb r q=>RG X (by rw[mroIn,f,EO,a,q];rfl);refine#[#[D,y,cd,v,X C _ o,by simpa using T,by simpa using S,a],i,m,λb r w=>sub b r ?_,looks_specialIn X (by simpa using L),looks_instIn X (by simpa using J)];simp -iota only[cm,W6,ey,or_false] at w;rcases w with ⟨rfl,rfl⟩ | ⟨rfl,rfl⟩ | ⟨rfl,rfl⟩ | ⟨rfl,rfl⟩ | ⟨rfl,rfl⟩
 .exact O
 .exact N
 .exact H
 .simpa using I
 .simpa using G
theorem eX.self{h:Heap}(y:eX M h C B newId):Looks M h (RF (.ref C) (.ref C)) true:=y.under _ _ (by simp)
theorem eX.top{h:Heap}(y:eX M h C B newId):Looks M h (RF (.ref C) (.type B)) true:=y.under _ _ (by simp)
theorem eX.exc{h:Heap}(y:eX M h C B newId):Looks M h (RF (.ref C) (.type "BaseException")) true:=y.under _ _ (by simp)
theorem eX.noA{h:Heap}(y:eX M h C B newId):Looks M h (RF (.ref C) (.type "AttributeError")) false:=y.under _ _ (by simp)
theorem eX.noN{h:Heap}(y:eX M h C B newId):Looks M h (RF (.ref C) (.type "NameError")) false:=y.under _ _ (by simp)
noncomputable abbrev gQ (vs:Lv0):Obj:={ cls:=.type "tuple",data:=.seq vs.toArray }
noncomputable abbrev j7 (C t:Addr):Obj:={ cls:=.ref C,data:=.fields (Vz9 [.ref t,.none,.none,.none,.bool false,.none]) }
theorem Nf(C:Addr)(rest:Lv0):Bind.checkArgs "ValueError.__new__" #[.any,"ValueError","ValueError",.cls,[#["args",.varPos,false],#["kwargs",.varKw,false]]] #[.ref C::rest,[]]=pure ():=by kernel_rfl
section
variable {K:Frag}{h:Heap}{g:Array GenState}{d:Drawn}{t:Nat}{os:OsState}
theorem P7{rest:Lv0}(Y:eX (model prog w) h C "ValueError" "ValueError.__new__")(v:rest.length<=sizeLine)(n:R (.ok (.ret (.ref (h.objs.size + 1)))) #[(h.push (gQ rest)).push (j7 C h.objs.size),g,d,t,os]) :
  xb (model prog w) A (.call (.builtin "ValueError.__new__") #[.ref C::rest,[]]) R #[h,g,d,t,os]:=by
 have top:=Y.top;have m:=Y.noA;have l:=Y.noN;have i:=Y.self;let#[#[u,s,z,r,o,y,q,x],a,base,_,dunder,j]:=Y;have F:=Ts;have e:=F.ends;have k:Looks (model prog w) h (W7 "ValueError.__new__" (.ref C)) ():=base.andThen (a.andThen (Rt (by simp_all)));have c:Looks (model prog w) h (W7 "BaseException.__new__" (.ref C)) ():=base.andThen (a.andThen (Rt (by simp -iota only[SW,F.canon,bne_self_eq_false,ky,if_false])));have b:(Xp "ValueError.__new__" #[.ref C::rest,[]]).quiet=true:=Vr _ F.quiet;refine codeAny_call_builtin_code b ?_;delta Wk;simp only[F.newRow,F.newSplit,F.newKind,Nf]
 repeat (first | lk | simp only[bne_self_eq_false,if_false,ky])
 refine codeAny_builtinAt F.entry ?_;delta RE.«BaseException.__new__»;refine WD ?_;refine WD (PySem.wpAt_stack λp f=>U8 ?_)
 wp_walk
 refine U8 ?_;rw[F.owner]
 repeat (first | simp only[bne_self_eq_false,ky,if_false] | lk | wp_step)
 refine WM (bc _ (bc _ o)) ?_;dsimp only;rw[q];refine bq ?_;rw[if_neg (by decide)];refine bq (bq ?_);show R _ _;rw[ru];exact n
theorem yW{rest:Lv0}{f:Value}(Y:eX (model prog w) h C "ValueError" "ValueError.__new__")(p:rest.length<=sizeLine)(hi:Looks (model prog w) h (Vn (.ref C) "__init__") (some f))(x:∀ c,Looks (model prog w) h (bindSpecial f c) (f,[c]))(u:xb (model prog w) (A.under (.builtin "type.__call__" #[.ref C::rest,[]])) (.call f #[.ref (h.objs.size + 1)::rest,[]]) (Uo (h.objs.size + 1) R) #[(h.push (gQ rest)).push (j7 C h.objs.size),g,d,t,os]) :
  xb (model prog w) A (.call (.ref C) #[rest,[]]) R #[h,g,d,t,os]:=by
 have E:=Y;have c:=Y.self;let#[#[K,J,D,G,n,N,M,B],l,base,_,dunder,i]:=Y;refine UA ?_;show wpAny _ _ (callAny (.ref C) _) _ _ _;refine nd_load n ?_;show wpAny _ _ (VX (.ref C) _) _ _ _;delta VX;refine ba (dunder.at ?_);dsimp only;rw[tc_bind];refine ba (bq (ba (bq ?_)));refine bq (a:=Fin.again (.call (.builtin "type.__call__") #[.ref C::rest,[]])) (And.intro rfl ?_);have j:(Xp "type.__call__" #[.ref C::rest,[]]).quiet=true:=Vr _ (by decide +kernel);refine codeAny_call_builtin_at j entry_typeCall (Tp tc_kind tc_split i (tc_args _ _ _) ?_);delta RE.«type.__call__»;have m:Looks (model prog w) h (mroOf (.ref C)) D.mro:=TM (TM (Ru (part:=none) n) .now) .now
 repeat (first | with_reducible refine Pb ?_ | lk | simp -iota only[ky,if_false,B])
 refine P7 E p ?_;have k:∀ b o,h.get? b=some o->((h.push (gQ rest)).push (j7 C h.objs.size)).get? b=some o:=λb o e=>bc _ (bc _ e);have q:((h.push (gQ rest)).push (j7 C h.objs.size)).get? (h.objs.size + 1)=some (j7 C h.objs.size):=by heap_get
 have F:Looks (model prog w) ((h.push (gQ rest)).push (j7 C h.objs.size)) (typeOf (.ref (h.objs.size + 1))) (.ref C):=(Ru q).andThen .now;have H:=c.keeps k;have L:=hi.keeps k;have O:=(x (.ref (h.objs.size + 1))).keeps k;delta SB callSpecial? Xg
 repeat (first | with_reducible refine Pb ?_ | lk)
 refine QC u λr I z=>?_;cases r with
 | error e=>exact z
 | ok y=>
  cases y with
  | ret v=>
   let#[s,z2]:=z;subst s;exact bq (bq z2)
  | next=>exact z.elim
  | brk=>exact z.elim
  | cont=>exact z.elim
theorem B6{s:Shared}{vs:Lv0}(X:K.In s.heap)(c:gW K C "ValueError" "ValueError.__new__"=true)(b:vs.length<=sizeLine)(hi:findIn K (.ref C) "__init__"=some (some (.ref f)))(e:typeIn K (.ref f)=some (.type "function"))(h:xb (model prog w) (A.under (.builtin "type.__call__" #[.ref C::vs,[]])) (.call (.ref f) #[.ref (s.heap.objs.size + 1)::vs,[]]) (Uo (s.heap.objs.size + 1) R)
   { s with heap:=(s.heap.push (gQ vs)).push (j7 C s.heap.objs.size) }) :
  xb (model prog w) A (.call (.ref C) #[vs,[]]) R s:=by
 let#[i,g,d,t,os]:=s;exact yW (pN X c) b (Rm X hi) (λa=>bind_fn X a e) h
end
noncomputable def e9 (e C:Addr)(a:Option Addr):HO:=HO.ext λh=>∃ t,h.get? e=some { cls:=.ref C,dict:=a,data:=.fields (Vz9 [.ref t,.none,.none,.none,.bool false,.none]) }
noncomputable def del (H:Hp)(a:Addr):Hp:=λb=>if b=a then none else H b
theorem pf:del H a a=none:=by delta del;rw[if_pos rfl]
theorem j8{b:Addr}(h:b≠a):del H a b=H b:=by delta del;rw[if_neg h]
theorem wY{h:Heap}{t:Addr}(q:h.get? e=some { cls:=.ref C,dict:=dx,data:=.fields (Vz9 [.ref t,.none,.none,.none,.bool false,.none]) }):b8 P w H h e (e9 e C dx):=
 #[#[t,q],#[_,q],λ_ _ ⟨t,q⟩ k=>#[t,k _ q]]
theorem lQ{h:Heap}(ok:HOk P w H h)(q:H e=some (e9 e C dx)):∃ t,h.get? e=some { cls:=.ref C,dict:=dx,data:=.fields (Vz9 [.ref t,.none,.none,.none,.bool false,.none]) }:=
 (show b8 P w H h e (e9 e C dx) from ok e _ q).1
theorem HOk.del {P:vn}{w:World}{H:Hp}{h:Heap}{e C:Addr}{f:Option Addr}(ok:HOk P w H h)(q:H e=some (e9 e C f)):HOk P w (del H e) h:=λb u a=>by
 have d:b≠e:=λz=>by rw[z,pf] at a;cases a
 rw[j8 d] at a;refine(ok b u a).pQ (λ_ _ _ r=>r) (λc r=>?_) (λc i r=>?_) λc o g r=>?_
 .rw[j8 (s_ r q (by intro z;cases z))];exact r
 .rw[j8 (s_ r q (by intro z;cases z))];exact r
 .rw[j8 (s_ r q (by intro z;cases z))];exact r
theorem Un.del {fs:La0}{H:Hp}{h:Heap}{e C:Addr}{a:Option Addr}(q:H e=some (e9 e C a)):Un fs [] H (del H e) h h where
 keep:=λb o g _ _ _=>g
 slot:=λb o g _ _ _=>#[o.slots,g]
 free:=λb o g n _=>by
  by_cases z:b=e
  .rw[z,pf]
  .rw[j8 z];exact n
 there:=λb o g _=>#[o,g]
 tups:=λb c r=>by rw[j8 (s_ r q (by intro z;cases z))];exact r
 frzs:=λb o u r=>by rw[j8 (s_ r q (by intro z;cases z))];exact r
 tbls:=λb d r=>#[#[],by rw[j8 (s_ r q (by intro z;cases z)),Vs];exact r]
section
variable {s:Shared}{E:XK}
theorem Nd{a:Pn0}(I:Inv (mw (CX1 P w base) P w K mg base N qual scope f cd A outer s H E) a σ H2 s')(c:s.heap.objs.size<=e)(q:H2 e=some (e9 e C dx))(b:E (.ref C) dx (del H2 e)):(mw (CX1 P w base) P w K mg base N qual scope f cd A outer s H E).xe (.ref e) s':=by
 let#[t,g]:=lQ I.hok q;refine Dh (CX:=CX0) I rfl I.bare (Un.del q) (HOk.del I.hok q) ?_ #[c,pf,_,_,g,rfl,rfl,rfl,(show 1 < 6 by decide),.inl rfl] b;exact I.stack
end
def Raises (X:Cx)(E:XK):Prop:=∀ (pins:Pn0) (σ:St) (H2:Hp) (s':Shared) (e C:Addr) (dx:Option Addr),Inv X pins σ H2 s'->X.av.heap.objs.size<=e->H2 e=some (e9 e C dx)->E (.ref C) dx (del H2 e)->X.xe (.ref e) s'
theorem Hf{s:Shared}{E:XK} :
  Raises (mw (CX1 P w base) P w K mg base N qual scope f cd A outer s H E) E:=λ_ _ _ _ _ _ _ I b q a=>Nd I b q a
structure XMk (K:Fg0) (C f:Addr):Prop where
 makes:gW K C "ValueError" "ValueError.__new__"=true
 init:ez K (.ref C) "__init__"=some (some (.ref f))
 fn:Si K (.ref f)=true
 kp:kx K (.ref C)=true
section
variable {CX:CXT}{sp:Sp}{ds:Lv0}{E E':XK}{x m:Str}{p:Pos}{e o:Expr}{t:TA}
theorem Cg{c:Pn0}{s:Shared}{Q:Addr->Hp->Prop}{vs:List V}(M:XMk X.K C f)(F:aM X.prog X.w X.K X.mg X.base CX k f fd ps sp)(w:bH (k + 1) X.A)(y:Binds X.K fd ps ds)(hd:Vals dvs ds)(q:Passes CX X E')(p:ps.length<=sizeLine)(I:Inv X c σ H s)(r:Vals vs us)(h:∀ x,H x=none->sp (.ref x::(vs++dvs)) (upd H x (e9 x C none)) (λv H2=>v=.non/\Q x H2) E') :
  wpAny (model X.prog X.w) X.A (call (.ref C) us) (λu s'=>∃ e H',u=.ref e/\X.av.heap.objs.size<=e/\Inv X c σ H' s'/\Q e H') X.xe s:=by
 have m:=h (s.heap.objs.size + 1) (I.hok.fresh (SK _));have D:=I.kept (t':=s.toks) (h':=s.heap.push (gQ us)) λb u e=>bc _ e;have g:Inv X c σ (upd H (s.heap.objs.size + 1) (e9 (s.heap.objs.size + 1) C none)) { s with heap:=(s.heap.push (gQ us)).push (j7 C s.heap.objs.size),toks:=s.toks }:=
  D.laid (t':=s.toks) (h':=(s.heap.push (gQ us)).push (j7 C s.heap.objs.size)) (a:=s.heap.objs.size + 1) (λb u e=>bc _ e) (by simp_all)
   (wY (t:=s.heap.objs.size) (by heap_get))
 have l:Vals (V.ref (s.heap.objs.size + 1)::(vs++dvs)) (fC (s.heap.objs.size + 1)::(us++ds)):=.cons rfl (r.append hd);have j:(fC (s.heap.objs.size + 1)::us++ds).length=ps.length:=by
  have e:=l.length;rw[F.len _ _ _ _ m] at e;exact e.symm
 have i:us.length<=sizeLine:=by
  simp -iota only[KI,eh,dV] at j;exact WF 0x2c09a40b630c2cb8 p j
 refine Pb (B6 (f:=f) I.kIn M.makes i M.init (beq_iff_eq.mp M.fn) (QC (F.run _ X.stack _ _ #[fC (s.heap.objs.size + 1)::us,[]] (fC (s.heap.objs.size + 1)::(us++ds)) _ _ E' (w.make C us [])
  (g.Ip.make C us []) (y _ (fC (s.heap.objs.size + 1)::us) g.kIn j) l m) λr s' d=>?_))
 cases r with
 | error e=>exact q c σ _ _ e s' g d
 | ok z=>
  cases z with
  | ret u=>
   let#[v,H',B,n,A,o]:=g.after d;subst A;exact#[n,s.heap.objs.size + 1,H',rfl,eH I.sz (SK _),B,o]
  | next=>exact mC d
  | brk=>exact mC d
  | cont=>exact mC d
def za (C:Addr)(sp:Sp)(dvs:List V)(a E:XK)(t:TA):TS:=λ_ σ H=>t σ H λvs H1=>∀ x,H1 x=none->sp (.ref x::(vs++dvs)) (upd H1 x (e9 x C none)) (λv H2=>v=.non/\∃ dx,H2 x=some (e9 x C dx)/\E (.ref C) dx (del H2 x)) a
theorem D6(M:XMk X.K C f)(F:aM X.prog X.w X.K X.mg X.base CX k f fd ps sp)(w:bH (k + 1) X.A)(K:Gl X x)(G:X.mg x=some (.ref C))(N:Binds X.K fd ps ds)(hd:Vals dvs ds)(B:Passes CX X E')(hR:Raises X E)(A:ps.length<=sizeLine)(O:PA X (e::es) t)(m:autoParam (Yk x) wP)(L:autoParam (Yl X e es) wE)(l:autoParam ((backTo cpos (ed es X.env)).any (·.1)=false) wE) :
  PS X (.Raise (some (.Call (.Name x p) (e::es) [] cpos)) none pos) (za C sp dvs E' E t):=by
 intro a s d H D I h;rw[arm_exec_Raise];rw[show evalOpt (some _) X.env=some _ from rfl,show evalOpt none X.env=none from rfl];dsimp only[Vt];refine ba (Rh ?_);delta raiseStmt;refine ba (thn (Q:=λu i=>∃ e c b,u=.ref e/\X.av.heap.objs.size<=e/\Inv X a d c i/\c e=some (e9 e C b)/\E (.ref C) b (del c e)) ?_ λu s1 j=>?_)
 .refine ba (thn (Q:=λu i=>∃ e c b,u=.ref e/\X.av.heap.objs.size<=e/\Inv X a d c i/\c e=some (e9 e C b)/\E (.ref C) b (del c e)) ?_ λu s1 j=>ba (Rh (bq j)));refine tu (gN I K G ?_ m);refine Ma (h₀:=X.base) I.ok.mod.kin M.kp (thn (O cpos a s d H _ I h) λus s1 ⟨vs,H1,y,r,q⟩=>#[y.kIn,?_]) L l;refine thn (Cg (Q:=λe z=>∃ b,z e=some (e9 e C b)/\E (.ref C) b (del z e)) M F w N hd B A y r q) λu i ⟨e,c,Z,W,V,b,U,T⟩=>#[e,c,b,Z,W,V,U,T]
 .let#[e,c,b,rfl,R,n,q,P]:=j;let#[tt,g]:=lQ n.hok q;have Y:=pN (M:=model X.prog X.w) n.kIn M.makes;have S:=Y.exc;let#[#[oc,od,cd,sl,hC,rfl,e2,e4],o,base,_,dunder,v]:=Y;have f1:JN (model X.prog X.w) s1.heap (typeOf (.ref e)) (.ref C):=(Ru g).andThen .now;have done:X.xe (.ref e) s1:=hR a d c s1 e C b n R q P;have J:=w.hd;let#[hp,gg,dd,tk,os]:=s1
  repeat (first | with_reducible exact wpAny_raiseNew_none J done | lk | with_reducible refine Rq g ?_ | wp_step)
end
open Builtin Builtin.ObjectAttr
noncomputable def pO:Lv0->Bool
 | .ref _::r=>pO r
 | l=>l == [.type "ValueError",.type "Exception",.type "BaseException",.type "object"]
theorem zm(a:Value):refuseLoop a "__setattr__" [.type "ValueError",.type "Exception",.type "BaseException",.type "object"]=pure ():=by kernel_rfl
theorem uT (a:Value):∀ {l:Lv0},pO l=true->refuseLoop a "__setattr__" l=pure ()
 | [],e=>by cases beq_iff_eq.mp (show ([] == [Qv "ValueError",.type "Exception",.type "BaseException",.type "object"])=true from e)
 | x::r,e=>by
  cases x with
  | ref c=>rw[refuseLoop_ref];exact uT a (l:=r) e
  | type n=>rw[beq_iff_eq.mp (show ((Qv n::r) == [Qv "ValueError",.type "Exception",.type "BaseException",.type "object"])=true from e)];exact zm a
  | _=>cases (W8 (beq_iff_eq.mp e)).1
theorem y4:∀ {l:Lv0},pO l=true->l.contains (.type "object")=true
 | [],e=>by cases beq_iff_eq.mp (show ([] == [Qv "ValueError",.type "Exception",.type "BaseException",.type "object"])=true from e)
 | x::r,e=>by
  cases x with
  | ref c=>rw[List.contains_cons,y4 (l:=r) e,Bool.or_true]
  | type n=>rw[beq_iff_eq.mp (show ((Qv n::r) == [Qv "ValueError",.type "Exception",.type "BaseException",.type "object"])=true from e)];decide +kernel
  | _=>cases (W8 (beq_iff_eq.mp e)).1
theorem GN{l:Lv0}(h:pO l=true):l.isEmpty=false:=by
 match l with
 | []=>cases y4 h
 | _::_=>rfl
abbrev O_ (prog:vn)(w:World)(A:Around)(R:Result->Shared->Prop)(fin:PySem.Fin)(b:Shared):Prop:=match fin with
 | .done c=>R (.ok c) b
 | .again a=>a.quiet=true/\xb (model prog w) A a R b
structure AE (K:Fg0) (C:Addr):Prop where
 hd:rd K C=true
 po:(Rk K C).any (λcd=>pO cd.mro)=true
 sa:ez K (.ref C) "__setattr__"=some (some (.builtin "object.__setattr__"))
section
variable {s:Shared}
open PySem.W in
theorem uH {ox:Obj}{od:Option Obj}{l:Tok}{r:Option Value}(X:K.In s.heap)(I:InstAt s.heap e ox C od)(c:AE K C)(u:vy K C name=some none)(h:∀ b,wpAny (model prog w) A.in1 (storeInOwnDict (.ref e) (.ref C) (.str name l) name v b) (O_ prog w A R) (λx q=>R (.error x) q) s) :
  xb (model prog w) A (.call (.builtin "object.__setattr__") #[[.ref e,.str name l,v],[]]) R s:=by
 have k:=PySem.F.store_object;let#[D,p,o]:=RT c.po;have g:Looks (model prog w) s.heap (mroOf (.ref C)) D.mro:=TM (RK X p) .now;have f:mroIn K C (.type "object")=some true:=by rw[mroIn,p,EO,GN o,y4 o];rfl
 have inst:Looks (model prog w) s.heap (SB (.ref e) (.type "object")) true:=I.type.andThen (RG X f);refine N9 k.slot.plain k.entry ?_;refine Tp (i:="object.__setattr__") (owner:="object") (n:="__setattr__") (rest:=[.str name l,v]) (kw:=[]) k.kind k.split inst (k.args (.ref e) (.str name l) v) ?_;let#[d,z,m]:=Ub.mp u;have j:Looks (model prog w) s.heap (storeTaker? d) none:=by
  match d,m with
  | none,_=>exact .now
  | some a,m=>
   let#[t,y,B]:=Jv.mp m
   match t,B with
   | false,_=>exact(looks_takesIn X y).andThen .now
 rw[osa_eq,refuse_eq];refine ba ?_;refine ba (I.type.here ?_);refine ba (g.here ?_);rw[uT _ o];refine bq ?_;refine ba (I.type.here ?_);refine ba ((Rm X z).here ?_);exact ba (j.here (h _))
theorem De{Q:Unit->Shared->Prop}(X:K.In s.heap)(g:s.heap.get? e=some { cls:=.ref C,data:=.fields vs })(c:AE K C)(x:vy K C name=some none)(h:∀ h' tk,h'.get? e=some { cls:=.ref C,dict:=some s.heap.objs.size,data:=.fields vs }->h'.Ns1 s.heap.objs.size (λy=>if y=name then some v else none)->(∀ b o,b≠e->s.heap.get? b=some o->h'.get? b=some o)->
   Q () { s with heap:=h',toks:=tk }):wpAny (model prog w) A (VF (.ref e) name v) Q E s:=by
 have I:Tc s.heap e { cls:=.ref C,data:=.fields vs } C none:=#[g,rfl,rfl,yv];refine TH X I c.sa (uH (s:={ s with toks:=s.toks + 1 }) (r:=none) X I c x λb=>?_);let#[L,B,l]:=RT c.hd;have i:e≠s.heap.objs.size:=gm (ec g);refine ba (bq (ba (ba (Td (s:={ s with toks:=s.toks + 1 }) g (ba (Te (s:={ s with toks:=s.toks + 1 }) (RK X B) ?_))))));rw[l];have t:(s.heap.push hD).get? e=some { cls:=.ref C,data:=.fields vs }:=bc _ g;refine ba (wpAny_alloc (ba (wpAny_update t ?_)));refine bq (a:=some s.heap.objs.size) ?_;have F:((s.heap.push hD).update e λo=>{ o with dict:=some s.heap.objs.size }).get? s.heap.objs.size=some hD:=(RP _ _ _ _ i.symm).trans (Heap.get?_push_at rfl rfl);have u:((s.heap.push hD).update e λo=>{ o with dict:=some s.heap.objs.size }).Ns s.heap.objs.size (λ_=>none):=#[_,#[],_,F,rfl,λe z=>absurd z (by simp),λ_=>rfl];have G:((s.heap.push hD).update e λo=>{ o with dict:=some s.heap.objs.size }).get? e=some { cls:=.ref C,dict:=some s.heap.objs.size,data:=.fields vs }:=sr _ t rfl;delta storeInDict newKeyGuard;refine ba (bq (ba (VG (s:={ s with heap:=((s.heap.push hD).update e λo=>{ o with dict:=some s.heap.objs.size }),toks:=s.toks + 1 }) (VI u) λh' f d=>?_)));let#[J,p,H,j,k,m]:=f.count (TJ name v PySem.Within.nil);have n:p.size<=sizeLine:=eH m (show 1<=sizeLine by rw[ea];decide);refine ba (T4 j (k ▸ T5 (VY n)) ?_);exact bq (h h' _ ((d.2 e i).trans G) f λb o D q=>(d.2 b (gm (ec q))).trans ((RP _ _ _ _ D).trans (bc _ q)))
theorem Dd{d:Addr}{ns:Ls0}{Q:Unit->Shared->Prop}(X:K.In s.heap)(g:s.heap.get? e=some { cls:=.ref C,dict:=some d,data:=.fields vs })(n:s.heap.Ns1 d mA)(t:d≠e)(c:AE K C)(x:vy K C name=some none)(u:RC mA ns)(hsz:ns.length + 1<=sizeLine)(h:∀ h' tk,h'.get? e=some { cls:=.ref C,dict:=some d,data:=.fields vs }->h'.Ns1 d (λy=>if y=name then some v else mA y)->Se d s.heap h'->Q () { s with heap:=h',toks:=tk }):wpAny (model prog w) A (VF (.ref e) name v) Q E s:=by
 let#[q,z,_]:=mh n;have I:Tc s.heap e { cls:=.ref C,dict:=some d,data:=.fields vs } C (some q):=#[g,rfl,rfl,z];refine TH X I c.sa (uH (s:={ s with toks:=s.toks + 1 }) (r:=none) X I c x λb=>?_);let#[G,B,l]:=RT c.hd;refine ba (bq (ba (ba (Td (s:={ s with toks:=s.toks + 1 }) g (ba (Te (s:={ s with toks:=s.toks + 1 }) (RK X B) ?_))))));rw[l];refine bq (a:=some d) ?_;refine ba (bq ?_);refine ba ?_;refine VG (s:={ s with toks:=s.toks + 1 }) n λh' i f=>?_;let#[F,p,D,j,k,m]:=i.count (TJ name v u);have o:p.size<=sizeLine:=eH m (by simpa using hsz);refine ba (T4 j (k ▸ T5 (VY o)) ?_);exact bq (h h' _ ((f.2 _ (lj t)).trans g) i f)
end
noncomputable def XdO (d:Addr)(fs:List (Str×V)):HO:=HO.ext λh=>∃ mA,h.Ns1 d mA/\(∀ f,iH (fs.lookup f) (mA f))/\RC mA (fs.map (·.1))
theorem Di{h:Heap}{d:Addr}{fs:List (Str×V)}(n:h.Ns1 d mA)(r:∀ f,iH (fs.lookup f) (mA f))(a:RC mA (fs.map (·.1))):b8 P w H h d (XdO d fs):=
 #[#[mA,n,r,a],let ⟨o,_,_,q,_⟩:=n;#[o,q],λ_ _ ⟨mA,n,r,a⟩ k=>#[mA,n.at k,r,a]]
theorem vN{h:Heap}{d:Addr}{fs:List (Str×V)}(ok:HOk P w H h)(q:H d=some (XdO d fs)):∃ mA,h.Ns1 d mA/\(∀ f,iH (fs.lookup f) (mA f))/\RC mA (fs.map (·.1)):=
 (show b8 P w H h d (XdO d fs) from ok d _ q).1
section
variable {pins:Pn0}{s:Shared}{d:Addr}{f:Str}{fs:List (Str×V)}
theorem vM{Q:Unit->Shared->Prop}(I:Inv X pins σ H s)(q:H e=some (e9 e C none))(c:AE X.K C)(n:vy X.K C f=some none)(D:RelV y u)(h:∀ d s',H d=none->d≠e->Inv X pins σ (upd (upd H d (XdO d [(f,y)])) e (e9 e C (some d))) s'->Q () s'):wpAny (model X.prog X.w) A (VF (.ref e) f u) Q E s:=by
 let#[t,g]:=lQ I.hok q;have i:s.heap.objs.size≠e:=IY (ec g);refine De I.kIn g c n λh' B w r k=>h s.heap.objs.size _ (I.hok.fresh (cb _)) i ?_;let#[od,L,M,v,l]:=id r;have m:od.isFreed=false:=(Heap.get?_some_iff.mp v).2;have J:(s.heap.push od).get? s.heap.objs.size=some od:=en _ m;have F:(s.heap.push od).Ns1 s.heap.objs.size (λy=>if y=f then some u else none):=r.at λo q=>by rw[v] at q;cases q;exact J
 have K:=I.laid (a:=s.heap.objs.size) (o:=XdO s.heap.objs.size [(f,y)]) (h':=s.heap.push od) (t':=s.toks) (λb u q=>bc _ q) (cb _) (Di F (λg=>?_) λg G=>?_)
 .refine K.write (t':=B) (h':=h') (x:=e) (e:=e) (o:=e9 e C (some s.heap.objs.size)) (by rw[ao (lj i),q];exact yv) (.inl rfl) (λb u j z=>?_) #[_,w] (wY w);by_cases p:b=s.heap.objs.size
  .grind
  .refine k b u j ?_;have:(s.heap.push od).get? b=s.heap.get? b:=Heap.get?_push_ne s.heap b od p;rw[<- this];exact z
 .by_cases z:g=f
  .have j:(g == f)=true:=beq_iff_eq.mpr z;simp only[Kk,j,if_pos z];exact D
  .have j:(g == f)=false:=beq_eq_false_iff_ne.mpr z;simp only[Kk,j,if_neg z];exact yv
 .by_cases z:g=f
  .simp -iota [z]
  .exact absurd (if_neg z) G
theorem vL{Q:Unit->Shared->Prop}(I:Inv X pins σ H s)(q:H e=some (e9 e C (some d)))(i:H d=some (XdO d fs))(p:d≠e)(J:fs.length < 1000)(c:AE X.K C)(n:vy X.K C f=some none)(m:RelV y u)(h:∀ s',Inv X pins σ (upd H d (XdO d (jh f y fs))) s'->Q () s'):wpAny (model X.prog X.w) A (VF (.ref e) f u) Q E s:=by
 let#[t,g]:=lQ I.hok q;let#[G,v,r,a]:=vN I.hok i;have w:(fs.map (·.1)).length + 1<=sizeLine:=by rw[lM0,ea];lia
 refine Dd I.kIn g v p c n a w λK k L j l=>h _ ?_;refine I.write (t':=k) (x:=d) (e:=d) (by rw[i];exact yv) (.inl rfl) (λb q D z=>(l.2 b D).trans z) (let ⟨o,_,_,F,_⟩:=j;#[o,F]) (Di j (λg=>?_) λg B=>?_)
 .rw[lg];by_cases q:g=f
  .rw[if_pos q,if_pos q];exact m
  .rw[if_neg q,if_neg q];exact r g
 .by_cases q:g=f
  .rw[q];exact(jv f y fs).1
  .refine(jv f y fs).2 g (a g λz=>B ?_);rw[if_neg q];exact z
end
def NP (K:Fg0)(ta a:TE)(f:Str):TS:=λD σ H=>a σ H λy H1=>ta σ H1 λx H2=>∃ e C,x=.ref e/\AE K C/\vy K C f=some none/\
 ((H2 e=some (e9 e C none)/\∀ d,H2 d=none->d≠e->D.nx σ (upd (upd H2 d (XdO d [(f,y)])) e (e9 e C (some d))))\/
  ∃ d fs,H2 e=some (e9 e C (some d))/\H2 d=some (XdO d fs)/\d≠e/\fs.length < 1000/\D.nx σ (upd H2 d (XdO d (jh f y fs))))
section
variable {CX:CXT}{g:Addr}{sp:Sp}{ds:Lv0}{E:XK}{x m f:Str}{p pos':Pos}{e o:Expr}{tv:TE}{t:TA}{mc:Value}
theorem Hm(E:PE X o ta)(A:PE X value tv)(hs:Do value (some (.Attribute o f pos')) pos.line X.env=pure false):PS X (.Assign [.Attribute o f pos'] value pos) (NP X.K ta tv f):=by
 intro b s g H D I h;refine Sw (thn (A b s g H _ I h) λu r ⟨y,J,G,l,q⟩=>thn (E b r g J _ G q) λw K Z=>?_) hs;let#[x,L,m,t,a,C,F,c,n,e]:=Z;subst F;obtain rfl:w=fC a:=t;rcases e with ⟨i,e⟩ | ⟨d,fs,i,v,z,B,e⟩
 .exact vM m i c n l λd p hd j k=>#[g,_,k,e d hd j]
 .exact vL m i v z B c n l λp k=>#[g,_,k,e]
theorem HA{pl:Sem Bool}(c:UD X.K C mc=true)(i:Lu X.K (.ref C) "__getattribute__"=some (some (.builtin "type.__getattribute__")))(A:TQ X.K (.ref C) mc m=some (.val (.ref g)))(q:kx X.K (.ref g)=true)(z:Gl X x)(y:X.mg x=some (.ref C))(F:aM X.prog X.w X.K X.mg X.base CX k g fd ps sp)(w:bH k X.A)(B:Binds X.K fd ps ds)(hd:Vals dvs ds)(u:Passes CX X E)(D:PA X (e::es) t)(j:autoParam (Yk x) wP)(b:autoParam (Yl X e es) wE)(d:autoParam (Ym pos X es) wE)(v:autoParam (eval (.Call (.Attribute (.Name x p) m apos) (e::es) [] pos) X.env=(do
   let O <- eval (.Name x p) X.env
   IR apos.atName
   let (f,first) <- holding [O] (RD O m pl)
   UN pos f first (backTo pos (ed (e::es) X.env)) (SJ pos (Ql [] X.env)))) wE) :
  PE X (.Call (.Attribute (.Name x p) m apos) (e::es) [] pos) (uN sp dvs E t):=by
 intro a s n H Q I h;refine Rn (pl:=pl) (gN I z y ?_ j) v;refine PySem.W.method_cls I.kIn i (PySem.W.cls_value I.kIn c A rfl ?_);have G:=I.tok (s.toks + 1);refine Ma (first:=[]) (h₀:=X.base) I.ok.mod.kin q (thn (D pos a _ n H _ G h) λus J ⟨vs,K,l,r,o⟩=>#[l.kIn,?_]) b d;exact sj (us:=us) (vs:=vs) F w B hd u l r o
end
namespace _x
open PySem.W
theorem fc(K:Frag):TQ K (.type "ValueError") (.type "type") "__init__"=some (.val (.builtin "ValueError.__init__")):=by kernel_rfl
theorem fg(K:Frag):findIn K (.type "type") "__getattribute__"=some (some (.builtin "type.__getattribute__")):=by kernel_rfl
theorem fs(K:Frag):subIn K (.type "type") (.type "type")=some true:=by kernel_rfl
theorem hk{h:Heap}:Looks M h (Vu (.type "type")) none:=by
 delta Vu;rw[if_neg (by decide)];exact .now
theorem so{h:Heap}:Looks M h (Xg (.type "ValueError") "__getattribute__") (some (.builtin "type.__getattribute__")):=Rt (by kernel_rfl)
theorem oq{h:Heap}:Looks M h (opaqueClassAbove (.type "ValueError")) none:=Rt (by kernel_rfl)
theorem ty{h:Heap}:Looks M h (typeOf (.type "ValueError")) (.type "type"):=Rt (by kernel_rfl)
theorem hd{s:Shared}(h:Q (.builtin "ValueError.__init__") s):wpAny M A (Xh (.builtin "ValueError.__init__")) Q E s:=by
 rw[handedOut_of (by kernel_rfl)];exact bq h
end _x
section
variable {s:Shared}{t:Addr}
theorem GG{pl:Sem Bool}{Q:Value×Lv0->Shared->Prop}(X:K.In s.heap)(h:Q (.builtin "ValueError.__init__",[]) { s with toks:=s.toks + 1 }):wpAny (model prog w) A (RD (.type "ValueError") "__init__" pl) Q E s:=by
 delta RD;refine ba (_x.so.here ?_);dsimp only;rw[if_pos PySem.W.canon_tga];refine ba (PySem.W.cls_open X _x.oq _x.ty (_x.fg K) _x.hk (_x.fs K) (_x.fc K) (bq ?_));exact _x.hd (bq h)
theorem J9(Y:eX (model prog w) s.heap C "ValueError" "ValueError.__new__")(g:s.heap.get? e=some { cls:=.ref C,dict:=dx,data:=.fields (Vz9 [.ref t,.none,.none,.none,.bool false,.none]) })(h:∀ h' t',h'.get? e=some { cls:=.ref C,dict:=dx,data:=.fields (Vz9 [.ref t',.none,.none,.none,.bool false,.none]) }->(∀ b o,b≠e->s.heap.get? b=some o->h'.get? b=some o)->Q .none { s with heap:=h' }) :
  wpAny (model prog w) A (call (.builtin "ValueError.__init__") [.ref e,u]) Q E s:=by
 have F:=Ts;have i:JN (model prog w) s.heap (SB (.ref e) (.type "ValueError")) true:=((Ru g).andThen .now).andThen Y.top;refine Pb (N9 F.init.plain F.initEntry ?_);let#[#[r,p,D,n,l,z,y,x],c,base,_,dunder,d]:=Y;have a:=F.noStar;let#[j,v,B,m,os]:=s;dsimp only at *;delta Wk;simp only[F.initRow,F.initSplit,F.initKind];refine ba (i.here ?_)
 repeat (first | simp only[RU,ky,if_false] | with_reducible refine Rq g ?_ | with_reducible refine Rq l ?_ | lk | wp_step)
 have f:=bc { cls:=.type "tuple",data:=.seq (Vz9 [u]) } g;refine WM f ?_
 wp_walk
 refine h _ j.objs.size ?_ λb o k q=>?_
 .rw[sr _ f rfl];rfl
 .rw[gD _ _ (lj k)];exact bc _ q
end
def Km (K:Fg0)(t:TA):TE:=λσ H Q=>t σ H λvs H2=>∃ e C dx y,vs=[.ref e,y]/\gW K C "ValueError" "ValueError.__new__"=true/\H2 e=some (e9 e C dx)/\Q .non H2
section
variable {p:Pos}{a:Expr}{t:TA}
theorem Ed{pl:Sem Bool}(L:Gl X "ValueError")(K:X.mg "ValueError"=none)(M:PA X (a::es) t)(j:autoParam (ed (a::es) X.env=(false,eval a X.env)::ed es X.env) wE)(l:autoParam (Ym pos X es) wE)(J:autoParam (eval (.Call (.Attribute (.Name "ValueError" p) "__init__" apos) (a::es) [] pos) X.env=(do
   let O <- eval (.Name "ValueError" p) X.env
   IR apos.atName
   let (f,first) <- holding [O] (RD O "__init__" pl)
   UN pos f first (backTo pos (ed (a::es) X.env)) (SJ pos (Ql [] X.env)))) wE) :
  PE X (.Call (.Attribute (.Name "ValueError" p) "__init__" apos) (a::es) [] pos) (Km X.K t):=by
 intro c s A H Q I h;refine Rn (pl:=pl) (i9 (u:=.type "ValueError") I L K (by kernel_rfl) ?_) J;refine GG I.kIn ?_;have R:=I.tok (s.toks + 1);have n:=M pos c _ A H _ R h;rw[j] at n ⊢;refine Us (by show (false || (backTo pos (ed es X.env)).any (·.1))=false;rw[l] <;> rfl) (UP ?_);refine thn n λB E Z=>?_;let#[S,H2,m,F,e,C,v,y,P,mk,q,N]:=Z;subst P;obtain⟨D,i,rfl,G,r3⟩:∃ u us',B=u::us'/\RelV (.ref e) u/\Vals [y] us':=by cases F with | cons a b=>exact#[_,_,rfl,a,b]
 obtain⟨T,rfl,_⟩:∃ u,i=[u]/\RelV y u:=by cases r3 with | cons a b=>cases b;exact#[_,rfl,a]
 obtain rfl:D=fC e:=G;let#[U,g]:=lQ m.hok q;refine J9 (pN m.kIn mk) g λh' t' r k=>#[.non,H2,?_,rfl,N];have w:=m.write (t':=E.toks) (h':=h') (x:=e) (e:=e) (o:=e9 e C v) (by rw[q];exact yv) (.inl rfl) (λb o d z=>k b o d z) #[_,r] (wY r);have:upd H2 e (e9 e C v)=H2:=by
  funext b
  by_cases d:b=e
  .rw[d,aw,q]
  .rw[ao d]
 rw[this] at w;exact w
end
open PySem PySem.Spec PyProof.Rows
structure XAt (X:Cx) (pins:Pn0) (n:Nat):Prop where
 s0:X.av.heap.objs.size<=n
 loc:X.env.locals < n
 cel:∀ x c,X.env.cells.lookup x=some c->c < n
 pin:∀ p∈X.pn++pins,p.1 < n
section
variable {pins:Pn0}{s:Shared}{n:Nat}{cls:Value}
theorem Inv.xat(I:Inv X pins σ H s):XAt X pins s.heap.objs.size:=
 #[I.sz,I.lt,λx c q=>let ⟨_,_,b,_⟩:=I.cell x c q;ec b,λp a=>ec (I.pin p a).1]
theorem XAt.forget(a:XAt X pins n):XAt X [] n:=#[a.s0,a.loc,a.cel,λp b=>a.pin p (oD _ (by simpa using b))]
theorem Inv.lv(I:Inv X pins σ H s)(a:XAt X pins n)(l:Lv n H (frs X.stack) s.heap h'):Inv X pins σ H { s with heap:=h' }:=by
 have f:HOk X.prog X.w H h':=λb o q=>by
  refine(I.hok b o q).pQ (λc u r g=>?_) (λ_ z=>z) λ_ _ z=>z;have i:H c≠none:=by
   rcases r with z | z
   .rw[z,q];simp
   .rw[z];simp
  exact l.keep c u g (λm=>i (I.vU c m)) (.inr i)
 have d:∀ b,b∈(hV s.heap.objs.size).filter (λb=>decide (n<=b))↔b < s.heap.objs.size/\n<=b:=λb=>by simp -iota [WE,FS]
 refine I.call (g':=s.gens) (t':=s.toks) (d':=s.drawn) (ch:=(hV s.heap.objs.size).filter (λb=>decide (n<=b))) #[λb o q nn j e=>?_,λb o q nn h _=>l.slot b o q h,λb o _ nn _=>nn,λb o q _=>l.there b o q,λ_ _ z=>z,λ_ _ _ z=>z,λb t z=>#[#[],by simp_all]] f I.bare λb h=>?_
 .refine l.keep b o q j (.inl ?_);rcases VZ b n with z | z
  .exact z
  .exact absurd ((d b).mpr #[ec q,z]) e
 .have z:=((d b).mp h).2;refine#[.inr (eH a.s0 z),λy=>?_,λx c q y=>?_,λp k y=>?_]
  .exact iD b (da (by rw[y];exact a.loc) z)
  .exact iD b (da (by rw[<- y];exact a.cel x c q) z)
  .exact iD b (da (by rw[<- y];exact a.pin p k) z)
theorem land(I:Inv X pins σ H s)(a:XAt X pins n)(x:ExcAt n H s.heap e cls dx)(hs:X.stack=X.env::X.outer)(i:X.env.frame=some L){Q:Unit->Shared->Prop}(h:∀ h',Inv X pins σ H { s with heap:=h' }->ExcAt n H h' e cls dx->Q () { s with heap:=h' }) :
  wpAny M X.A (Ua (.ref e) X.env) (λ_ s'=>wpAny M X.A (T9 (.ref e) none) Q E s') E s:=by
 have d:=I.stack;have c:=I.ok.frames;rw[hs] at d c;have g:n<=s.heap.objs.size:=by
  let#[o,m,j,_]:=x.rcd;exact eH x.ge (Fn (ec j))
 refine yf (n:=n) (H:=H) c d i g (λb k=>I.hok.fresh k) x λh' l f _=>h h' (I.lv a ?_) f;rw[hs];exact l
end
def XP (X:Cx)(W:St->XK)(b:Value)(a:Shared):Prop:=∃ e cls dx H' aJ n,b=.ref e/\Inv X [] aJ H' a/\XAt X [] n/\ExcAt n H' a.heap e cls dx/\W aJ cls dx H'
def dR (CX:CXT)(X:Cx)(E:St->XK):Prop:=∀ (pins:Pn0) (σ:St) (H:Hp) (s:Shared) (e:Value) (s':Shared),Inv X pins σ H s->CX X.stack H s (E σ) e s'->X.xe e s'
theorem dR.of{CX:CXT}{E:XK}(h:Passes CX X E):dR CX X λ_=>E:=λa b H s e c I q=>h a b H s e c I q
theorem GF{a:Pn0}{s:Shared}{f:Value}(I:Inv X a σ H s)(h:CX1 X.prog X.w X.base X.stack H s (W σ) f s'):XP X W f s':=by
 let#[e,c,k,d,j,os,bare,g,b,n,x,i]:=h;have m:Inv X a σ d s':=I.FV (ch:=[]) os g b bare λ_ z=>nomatch z
 have l:Inv X [] σ d s':=m.l9 λ_ z=>nomatch z
 exact#[e,c,k,d,σ,s.heap.objs.size,j,l,I.xat.forget,x,i]
theorem Eo:dR (CX1 X.prog X.w X.base) (X.nX (XP X W)) W:=by
 intro a b H s d s' I h;have c:CX1 X.prog X.w X.base X.stack H s (W b) d s':=h;exact GF I.fu c
section
variable {pins:Pn0}{s:Shared}{n:Nat}{cls:Value}
theorem rD{x:Str}{Q:Unit->Shared->Prop}(I:Inv X pins σ H s)(U:X.N.Nodup)(hi:X.N[i]?=some x)(hk:X.env.kindOf x=some .local)(h:∀ s',Inv X pins (σ.set i none) H s'->Q () s'):wpAny M A (do bindName X.env x .none;unbindBehindTheSuite X.env x pos) Q E s:=by
 let#[m,R,S]:=id I.loc;have l:(X.env.scope.kind == .class || (X.env.scope.kind == .module && X.env.locals != X.env.globals))=false:=by rw[I.ok.kind];rfl
 have C:i < σ.length:=by rw[I.len];exact(gS0 hi).1
 refine wpAny_nameGoes_keeps hk R l λh' v r hs=>h _ ?_;have a:HOk X.prog X.w H h':=λb L e=>by
  refine(I.hok b L e).pQ (λc u T q=>(hs.2 c ?_).trans q) (λ_ q=>q) λ_ _ q=>q;intro z;have V:=I.free;rw[<- z] at V;rcases T with y | y
  .simp_all
  .simp_all
 refine#[I.ok,I.os,I.bare,#[λb o e n t g=>?_,λb o e n t g=>?_,I.base.free,λb o e g=>?_,I.base.tups,I.base.frzs,I.base.tbls],#[_,r,λj y F f D W=>?_],λy c e=>?_,I.free,I.freeC,λp P=>?_,a,by rw[rx];exact I.len]
 .exact(hs.2 b (gm (da (ec e) I.ok.above))).trans (I.base.keep b o e n t g)
 .let#[J,f]:=I.base.slot b o e n t g;exact#[J,(hs.2 b (gm (da (ec e) I.ok.above))).trans f]
 .let#[N,f]:=I.base.there b o e g;exact#[N,(hs.2 b (gm (da (ec e) I.ok.above))).trans f]
 .by_cases B:j=i
  .simp_all
  .rw[SI (lj B)] at D;let#[G,K,q]:=S j y F f D W;refine#[G,K,?_];rcases q with ⟨k,e⟩ | ⟨k,c,e,z⟩
   .refine .inl #[k,?_];have:y≠x:=λe=>B (sY U f (e ▸ hi));simp -iota [this,e]
   .exact .inr #[k,c,e,z.sameBut hs (I.cne y c e)]
 .let#[u,z]:=I.cell y c e;exact#[u,z.sameBut hs (I.cne y c e)]
 .let#[e,n,w,O,d]:=I.pin p P;exact#[(hs.2 p.1 w).trans e,n,w,O,d]
noncomputable def nU (e:Addr)(cls:Value)(a:Option Addr):HO:=HO.ext λh=>∃ o vs,h.get? e=some o/\o.cls=cls/\o.dict=a/\o.data=.fields vs
theorem yA{h:Heap}(ok:HOk P w H h)(q:H e=some (nU e cls dx)):∃ o vs,h.get? e=some o/\o.cls=cls/\o.dict=dx/\o.data=.fields vs:=
 (show b8 P w H h e (nU e cls dx) from ok e _ q).1
theorem Inv.MD(I:Inv X pins σ H s)(a:XAt X pins n)(x:ExcAt n H s.heap e cls dx):Inv X pins σ (upd H e (nU e cls dx)) s:=by
 let#[g,B,m,h,t,A,hd,l,D,_]:=x;have d:∀ b,H b≠none->b≠e:=λb f z=>f (by rw[z];exact B);have j:HOk X.prog X.w (upd H e (nU e cls dx)) s.heap:=λb o q=>by
  by_cases z:b=e
  .subst z;rw[aw] at q;cases q;exact#[#[m,h,t,A,hd,l],#[m,t],λ_ _ ⟨o,h,q,r⟩ k=>#[o,h,k _ q,r]]
  .rw[ao z] at q;exact(I.hok b o q).pQ (λ_ _ _ r=>r) (λc r=>by rw[ao (d c (by rw[r];simp))];exact r) λc v r=>by rw[ao (d c (by rw[r];simp))];exact r
 refine I.FV (ch:=[e]) rfl #[λb o q _ _ _=>q,λb o q _ _ _=>#[o.slots,q],λb o q nn i=>?_,λb o q _=>#[o,q],λb v r=>?_,λb o u r=>?_,λb C r=>#[#[],?_]] j I.bare λb f=>?_
 .rw[ao (λz=>i (by simp -iota [z]))];exact nn
 .rw[ao (d b (by rw[r];simp))];exact r
 .rw[ao (d b (by rw[r];simp))];exact r
 .rw[ao (d b (by rw[r];simp)),Vs];exact r
 .have f:b=e:=by simpa using f
  subst f;refine#[.inr (eH a.s0 g),λy=>?_,λx c q y=>?_,λp w y=>?_]
  .exact iD b (da (by rw[y];exact a.loc) g)
  .exact iD b (da (by rw[<- y];exact a.cel x c q) g)
  .exact iD b (da (by rw[<- y];exact a.pin p w) g)
theorem CS{Q:Unit->Shared->Prop}(I:Inv X pins σ H s)(a:XAt X pins n)(x:ExcAt n H s.heap e cls dx)(h:∀ h',Inv X pins σ H { s with heap:=h' }->ExcAt n H h' e cls dx->Q () { s with heap:=h' }):wpAny M A (T9 (.ref e) none) Q E s:=by
 let#[C,F,u,p,k,B,hd,c,y,K]:=x;delta T9;rcases K with i | ⟨T,N,J,i,D,v,G,m,d,L⟩
 .refine ba (ng k c i ?_);rw[if_neg (by decide)];exact bq (h s.heap I #[C,F,u,p,k,B,hd,c,y,.inl i])
 .refine ba (ng k c i ?_);rw[if_pos (show (fC T != pL)=true by simp)];have r:=(tq.mp L).1;refine Sr m d r ?_;have j:∀ b,b≠T->(s.heap.update T (FB (·.setIfInBounds 3 pL))).get? b=s.heap.get? b:=λb g=>gD _ _ (lj g);have t:=sr (FB (·.setIfInBounds 3 pL)) m (Mh (xt d _));refine h _ (I.lv a #[λb o q P g=>(j b λz=>?_).trans q,λb o q g=>#[o.slots,(j b λz=>?_).trans q],λb o q=>?_]) #[C,F,u,p,(j e (lj v)).trans k,B,hd,c,y,.inr #[T,_,_,i,D,v,G,t,xt d _,?_]]
  .subst z;rcases g with w | w
   .exact iD _ (da w D)
   .exact w G
  .subst z;let#[_,O,f,l]:=I.stack.mem g;rw[m] at f;cases f;exact l J d
  .by_cases z:b=T
   .subst z;exact#[_,t]
   .exact#[o,(j b z).trans q]
  .rw[Rv r]
end
structure Gz (K:Fg0) (C:Addr):Prop where
 ty:Rw K (.ref C)=some (.type "type")
 ex:rz K C (.type "BaseException")=some true
theorem Aj{a:ClassData}(h:Rk K C=some a):∃ c od b,K.lookup C=some #[c,od,.cls a,b]:=by
 delta Rk at h;split at h
 .rename_i q;cases h;exact#[_,_,_,q]
 .cases h
section
variable {s:Shared}{aK:Addr}{b:Bool}{Q:Bool->Shared->Prop}
theorem exm(X:K.In s.heap)(c:Gz K aK)(a:s.heap.get? e=some oe)(d:oe.cls=.ref C)(hs:rz K C (.ref aK)=some b)(h:Q b s):wpAny (model prog w) A (excMatches (.ref e) (.ref aK)) Q E s:=by
 have r:JN (model prog w) s.heap (typeOf (.ref aK)) (.type "type"):=PySem.W.looks_typeIn X c.ty;have q:JN (model prog w) s.heap (RF (.ref aK) (.type "BaseException")) true:=RG X c.ex;have p:JN (model prog w) s.heap (typeOf (.ref e)) (.ref C):=by rw[<- d];exact(Ru a).andThen .now
 have o:JN (model prog w) s.heap (RF (.ref C) (.ref aK)) b:=RG X hs;have f:=tc_notTuple;have v:=tc_sub;let#[y,j,_]:=Ub.mp c.ex;let#[n,m,l,i]:=Aj j;have g:=X _ _ i;delta excMatches;let#[t,u,x,k,os]:=s
 repeat (first | with_reducible refine Rq g ?_ | lk | wp_step)
 cases b <;> (wp_walk;exact h)
end
noncomputable abbrev Cx.nH (X:Cx)(a:Pn0):Cx:={ X with pn:=X.pn++a }
noncomputable abbrev Cx.sui (X:Cx)(e:Addr):Cx:={ X with A:=X.A.mark (some (.ref e)),calm:=false,xe:=λ_ _=>False }
section
variable {pins:Pn0}{s:Shared}
theorem Cx.Ok.nH(ok:X.Ok):(X.nH pins).Ok:=
 #[ok.mod,ok.kind,ok.glob,ok.blt,ok.above,ok.inj,ok.has,ok.cab,ok.hd,ok.frames,ok.stk,ok.exf,ok.bs,ok.bsz,ok.noex,ok.exfs,ok.kC,ok.frf,ok.tb]
theorem Cx.Ok.iW(ok:(X.nH pins).Ok):X.Ok:=
 #[ok.mod,ok.kind,ok.glob,ok.blt,ok.above,ok.inj,ok.has,ok.cab,ok.hd,ok.frames,ok.stk,ok.exf,ok.bs,ok.bsz,ok.noex,ok.exfs,ok.kC,ok.frf,ok.tb]
theorem Inv.nH(I:Inv X pins σ H s):Inv (X.nH pins) [] σ H s:=#[I.ok.nH,I.os,I.bare,I.base,I.loc,I.cell,I.free,I.freeC,λp a=>I.pin p (by rw[jn] at a;exact a),I.hok,I.len]
theorem Inv.iW(I:Inv (X.nH pins) [] σ H s):Inv X pins σ H s:=#[I.ok.iW,I.os,I.bare,I.base,I.loc,I.cell,I.free,I.freeC,λp a=>I.pin p (by rw[jn];exact a),I.hok,I.len]
theorem Cx.Ok.sui(ok:X.Ok)(e:Addr):(X.sui e).Ok:=
 #[ok.mod,ok.kind,ok.glob,ok.blt,ok.above,ok.inj,ok.has,ok.cab,λz=>(Bool.noConfusion z),ok.frames,ok.stk,ok.exf,ok.bs,ok.bsz,ok.noex,ok.exfs,ok.kC,ok.frf,ok.tb]
theorem Inv.sui(I:Inv X pins σ H s)(e:Addr):Inv (X.sui e) pins σ H s:=#[I.ok.sui e,I.os,I.bare,I.base,I.loc,I.cell,I.free,I.freeC,I.pin,I.hok,I.len]
theorem Inv.AR(ok:X.Ok)(I:Inv (X.sui e) pins σ H s):Inv X pins σ H s:=#[ok,I.os,I.bare,I.base,I.loc,I.cell,I.free,I.freeC,I.pin,I.hok,I.len]
end
noncomputable def Ends.wV (D:Ends)(i:Nat):Ends:=#[λσ H=>D.nx (σ.set i none) H,D.rt,λσ H=>D.bk (σ.set i none) H,λσ H=>D.ct (σ.set i none) H]
noncomputable def GQ (K:Fg0)(a:Addr)(i:Nat)(ts:TS)(D:Ends):St->XK:=λaJ cls dx H'=>∃ C,cls=.ref C/\rz K C (.ref a)=some true/\∀ e,H' e=none->ts (D.wV i) (aJ.set i (some (.ref e))) (upd H' e (nU e cls dx))
def Ko (K:Fg0)(a:Addr)(i:Nat)(b:(St->XK)->TS)(ts:TS):TS:=λD σ H=>b (GQ K a i ts D) D σ H
section
variable {x nm:Str}{aK:Addr}{body suite:List Stmt}{aL:Stmt}{np hpos:Pos}{tb:(St->XK)->TS}{ts:TS}
theorem FH{b:Pn0}{s:Shared}{n:Nat}{cls:Value}{D:Ends}(c:Gz X.K aK)(E:Gl X x)(B:X.mg x=some (.ref aK))(l:X.N.Nodup)(hi:X.N[i]?=some nm)(hk:X.env.kindOf nm=some .local)(hs:∀ e,PSs (X.sui e) (aL::suite) ts)(I:Inv X b σ H s)(a:XAt X b n)(y:ExcAt n H s.heap e cls dx)(w:GQ X.K aK i ts D σ cls dx H)(o:Yk x) :
  wpAny (model X.prog X.w) X.A (handleBy (.ref e) X.env [.ExceptHandler (some (.Name x np)) (some nm) (aL::suite) hpos]) (SP X b D) X.xe s:=by
 let#[C,rfl,k,A]:=w;let#[O,M,F,G,_]:=id y.rcd;refine wpAny_handleBy_cons (codeAny_handlers_test (gN (X:=X.sui e) (I.sui e) E B ?_ o)) (by intro q;cases q);refine exm I.kIn c F G k ?_;dsimp only;rw[if_pos rfl];refine codeAny_handlers_suite_as (CS I a y λP L p=>?_);have K:=L.MD a p;refine n8 (v:=.ref e) K l hi (.inl hk) rfl (λt J=>?_) (.inr hk);refine Cy ((hs e) b t _ _ (D.wV i) (J.sui e) (A e y.free)) (λf N q=>?_) λ_ _ z=>z.elim;have ok:=I.ok;cases f with
 | next=>
  let#[d,j,h,q]:=q;exact rD (h.AR ok) l hi hk λm g=>#[_,j,g,q]
 | brk=>
  let#[d,j,h,q]:=q;exact rD (h.AR ok) l hi hk λm g=>#[_,j,g,q]
 | cont=>
  let#[d,j,h,q]:=q;exact rD (h.AR ok) l hi hk λm g=>#[_,j,g,q]
 | ret u=>
  let#[v,d,j,h,r,q]:=q;exact rD (h.AR ok) l hi hk λm g=>#[v,_,j,g,r,q]
theorem KW(c:Gz X.K aK)(m:X.stack=X.env::X.outer)(o:X.env.frame=some L)(C:Gl X x)(B:X.mg x=some (.ref aK))(F:X.N.Nodup)(hi:X.N[i]?=some nm)(hk:X.env.kindOf nm=some .local)(E:∀ pins W,PSs ((X.nH pins).nX (XP (X.nH pins) W)) body (tb W))(hs:∀ pins e,PSs ((X.nH pins).sui e) (aL::suite) ts)(p:autoParam (Yk x) wP) :
  PS X (.Try body [.ExceptHandler (some (.Name x np)) (some nm) (aL::suite) hpos] [] [] pos) (Ko X.K aK i tb ts):=by
 intro pins s t H D I h;have J:=E pins (GQ X.K aK i ts D) [] s t H D (I.nH.nX _) h;refine wpAny_Try_except (Cy J (λf A q=>?_) λN A q=>?_)
 .cases f with
  | next=>
   let#[b,k,j,q]:=q;exact SU #[b,k,j.fu.iW,q]
  | brk=>
   let#[b,k,j,q]:=q;exact#[b,k,j.fu.iW,q]
  | cont=>
   let#[b,k,j,q]:=q;exact#[b,k,j.fu.iW,q]
  | ret u=>
   let#[v,b,k,j,r,q]:=q;exact#[v,b,k,j.fu.iW,r,q]
 .let#[e,G,O,k,b,n,rfl,j,a,y,w]:=q;refine land j a y m o λM g z=>?_;have r:=FH (X:=X.nH pins) (np:=np) (hpos:=hpos) (D:=D) c C B F hi hk (hs pins) g a z w p;refine thn r λf K q=>?_;cases f with
  | next=>
   let#[d,l,g,q]:=q;exact#[d,l,g.iW,q]
  | brk=>
   let#[d,l,g,q]:=q;exact#[d,l,g.iW,q]
  | cont=>
   let#[d,l,g,q]:=q;exact#[d,l,g.iW,q]
  | ret u=>
   let#[v,d,l,g,r,q]:=q;exact#[v,d,l,g.iW,r,q]
end
def vR (sp:Sp)(dvs:List V)(E:St->XK)(t:TA):TE:=λσ H Q=>t σ H λvs H1=>sp (vs++dvs) H1 Q (E σ)
section
variable {CX:CXT}{sp:Sp}{ds:Lv0}{E:St->XK}{x m:Str}{p:Pos}{e o:Expr}{t:TA}
theorem A5{a:Pn0}{s:Shared}{Q:VK}{vs:List V}(F:aM X.prog X.w X.K X.mg X.base CX k f fd ps sp)(i:bH k X.A)(l:Binds X.K fd ps ds)(hd:Vals dvs ds)(g:dR CX X E)(I:Inv X a σ H s)(r:Vals vs us)(h:sp (vs++dvs) H Q (E σ)):wpAny (model X.prog X.w) X.A (call (.ref f) us) (EP X a σ Q) X.xe s:=by
 have c:Vals (vs++dvs) (us++ds):=r.append hd;have j:(us++ds).length=ps.length:=by rw[<- c.length];exact F.len _ _ _ _ h
 refine Pb (QC (F.run X.A X.stack s H #[us,[]] (us++ds) (vs++dvs) Q (E σ) i I.Ip (l s us I.kIn j) c h) λr d b=>?_);cases r with
 | error e=>exact g a σ H s e d I b
 | ok m=>
  cases m with
  | ret u=>exact I.after b
  | next=>exact mC b
  | brk=>exact mC b
  | cont=>exact mC b
theorem Ek(F:aM X.prog X.w X.K X.mg X.base CX k f fd ps sp)(j:bH k X.A)(m:Gl X x)(l:X.mg x=some (.ref f))(hk:kx X.K (.ref f)=true)(o:Binds X.K fd ps ds)(hd:Vals dvs ds)(i:dR CX X E)(u:PA X (e::es) t)(c:autoParam (Yk x) wP)(n:autoParam (Yl X e es) wE)(b:autoParam (Ym pos X es) wE) :
  PE X (.Call (.Name x p) (e::es) [] pos) (vR sp dvs E t):=by
 intro a s g H Q I h;refine tu (gN I m l ?_ c);refine Ma (h₀:=X.base) I.ok.mod.kin hk (thn (u pos a s g H _ I h) λw y ⟨v,z,d,r,q⟩=>#[d.kIn,?_]) n b;exact A5 F j o hd i d r q
end
structure C9 (K:Fg0) (C:Addr):Prop where
 ga:ez K (.ref C) "__getattribute__"=some (some (.builtin "BaseException.__getattribute__"))
 gh:ez K (.ref C) "__getattr__"=some none
 hd:rd K C=true
 ex:rz K C (.type "BaseException")=some true
section
variable {s:Shared}{dx:Addr}
open PySem.W in
theorem Df {b:Bool}{Q:VS}(X:K.In s.heap)(y:s.heap.get? e=some oe)(z:oe.cls=.ref C)(i:oe.dict=some dx)(j:oe.data=.fields vs)(n:s.heap.Ns1 dx mA)(c:C9 K C)(D:findIn K (.ref C) name=some none)(p:mA name=some v)(f:U3 v=true)(h:Q v { s with toks:=s.toks + 1 }):wpAny (model prog w) A (Xm (.ref e) name b) Q E s:=by
 let#[k,q,r]:=mh n;have I:InstAt s.heap e oe C (some k):=#[y,z,by delta notCls;rw[j],by rw[i];exact q];have x:findObj K C (some k) name=some (.value v):=Wx c.hd D rfl (by rw[r,p]);have o:Looks (model prog w) s.heap (SB (.ref e) (.type "BaseException")) true:=I.type.andThen (RG X c.ex);have m:=I.type (M:=model prog w);have F:=looks_find (M:=model prog w) X I x;have B:Looks (model prog w) s.heap (Vu (.ref C)) none:=looks_hook X (show (if true=true then findIn K (.ref C) "__getattr__" else some none)=some none from c.gh);have l:=Uc.ga;refine ba (wpAny_mkText (ry (ba (m _ _ _ _ (λ_ _ e=>e) (ba (Rm X c.ga _ _ _ _ (λ_ _ e=>e) ?_))))));dsimp only;rw[show (Xi (fC C) && wI "BaseException.__getattribute__" == wI "object.__getattribute__")=false from by rw[show (wI "BaseException.__getattribute__" == wI "object.__getattribute__")=false from by decide +kernel,Rx],if_neg (by decide)];refine ba (B _ _ _ _ (λ_ _ e=>e) ?_);refine ba (RX (ry ?_));delta Wl;rw[show (b && Xi (wI "BaseException.__getattribute__"))=false from Rx _,if_neg (by decide)];delta boundAndCalled;rw[l.bind];refine ba (bq ?_);show wpAny _ _ (call (.builtin "BaseException.__getattribute__") [.ref e,.str name s.toks]) _ _ _;refine Pb ?_;refine N9 l.plain UI ?_;refine @Tp (model prog w) _ _ { s with toks:=s.toks + 1 } "BaseException.__getattribute__" "BaseException" "__getattribute__" (.ref e) [.str name s.toks] [] _ (by decide +kernel) (by decide +kernel) o (UT (.ref e) (.str name s.toks)) ?_;let#[u,g,d,t,os]:=s;delta RE.«object.__getattribute__»;refine ba (bq (a:=(fC e,[Rg name t])) ?_);refine ba (bq (a:=name) ?_);refine ba (m _ _ _ _ (λ_ _ e=>e) (ba (F _ _ _ _ (λ_ _ e=>e) (bq ?_))));show wpAny _ _ (Xh v) _ _ _;rw[handedOut_of f];exact bq h
end
def Jg (K:Fg0)(ta:TE)(f:Str):TE:=λσ H Q=>ta σ H λx H1=>∃ e C d fs v,x=.ref e/\H1 e=some (nU e (.ref C) (some d))/\H1 d=some (XdO d fs)/\C9 K C/\c9 K C f/\fs.lookup f=some v/\Q v H1
section
variable {o:Expr}{f:Str}
theorem Hv(z:PE X o ta)(B:O8 o f X.env (eval o X.env)=eval o X.env):PE X (.Attribute o f pos) (Jg X.K ta f):=by
 intro a s p H Q I h;refine BW B (thn (z a s p H _ I h) λu K Z=>?_);let#[x,G,b,t,e,C,d,fs,v,D,E,F,c,n,l,q]:=Z;subst D;obtain rfl:u=fC e:=t;let#[L,J,g,A,i,j]:=yA b.hok E;let#[M,w,r,_]:=vN b.hok F;have m:=r f;rw[l] at m;let#[u,y,k]:=iH.some_of m;exact Df b.kIn g A i j w c n y (vi k) #[v,G,b.tok _,k,q]
end
structure XIs (K:Fg0) (C:Addr):Prop extends C9 K C where
 ca:ez K (.ref C) "__class__"=some (some (.builtin "object.__class__"))
 cg:Lu K (.builtin "object.__class__") "__get__"=some (some (.builtin "getset_descriptor.__get__"))
 ct:Uy K (.builtin "object.__class__")=some true
 ob:rz K C (.type "object")=some true
section
variable {s:Shared}{od:Option Obj}
open PySem.W in
theorem yX {Q:Option Value->Shared->Prop}(c:XIs K C)(X:K.In s.heap)(I:InstAt s.heap e oe C od)(h:Q (some (.ref C)) { s with toks:=s.toks + 1 }):wpAny (model prog w) A (getAttr? (.ref e) "__class__") Q E s:=by
 have l:findObj K C od "__class__"=some (.bind (.builtin "getset_descriptor.__get__") (.builtin "object.__class__")):=by
  let#[p,f,_]:=RT c.hd;cases od with
  | some o=>exact findObj_data (by rw[f];rfl) c.ca c.cg c.ct
  | none=>simp [findObj,f,c.ca,c.cg,c.ct]
 have k:Looks (model prog w) s.heap (SB (.ref e) (.type "BaseException")) true:=I.type.andThen (RG X c.ex);have j:=I.type (M:=model prog w);have n:=looks_find (M:=model prog w) X I l;have m:Looks (model prog w) s.heap (Vu (.ref C)) none:=looks_hook X (show (if true=true then findIn K (.ref C) "__getattr__" else some none)=some none from c.gh);have i:=Uc.ga;refine ba (wpAny_mkText (ba (RX (ry (ba (j _ _ _ _ (λ_ _ e=>e) (ba (Rm X c.ga _ _ _ _ (λ_ _ e=>e) ?_))))))));dsimp only;rw[show (Xi (fC C) && wI "BaseException.__getattribute__" == wI "object.__getattribute__")=false from by rw[show (wI "BaseException.__getattribute__" == wI "object.__getattribute__")=false from by decide +kernel,Rx],if_neg (by decide)];refine ba (m _ _ _ _ (λ_ _ e=>e) ?_);refine ba (RX (ry ?_));delta Wl;rw[if_neg (by decide)];delta boundAndCalled;rw[i.bind];refine ba (bq ?_);show wpAny _ _ (call (.builtin "BaseException.__getattribute__") [.ref e,.str "__class__" s.toks]) _ _ _;refine Pb ?_;refine N9 i.plain UI ?_;refine @Tp (model prog w) _ _ { s with toks:=s.toks + 1 } "BaseException.__getattribute__" "BaseException" "__getattribute__" (.ref e) [.str "__class__" s.toks] [] _ (by decide +kernel) (by decide +kernel) k (UT (.ref e) (.str "__class__" s.toks)) ?_;let#[b,g,d,t,os]:=s;delta RE.«object.__getattribute__»;refine ba (bq (a:=(fC e,[Rg "__class__" t])) ?_);refine ba (bq (a:=("__class__":Str)) ?_);refine ba (j _ _ _ _ (λ_ _ e=>e) (ba (n _ _ _ _ (λ_ _ e=>e) ?_)));show wpAny _ _ (TC _ _ _ _) _ _ _;delta TC;refine ba (ry (Pb (class_get (s:=#[b,g,d,t + 1,os]) (ox:=oe) (od:=od) X I c.ob (bq ?_))));show wpAny _ _ (Xh (.ref C)) _ _ _;exact handed_on rfl (bq h)
open PySem.W in
theorem EU (c:XIs K C):KitX K (.ref e) (.ref C) (λh=>InstAt h e oe C od) where
 ty:=λ_ _ _ I=>I.type
 it:=λ_ _ X _=>by
  let#[f,a,_]:=RT c.hd;let#[_,_,_,d]:=Aj a;intro p m o j k q;delta isType loadHead;refine ba (Td (k _ _ (X _ _ d)) ?_);exact bq q
 ne:=λh tp l g n i X b=>by
  let#[f,a,_]:=RT c.hd;let#[_,_,_,d]:=Aj a;refine Bool.eq_false_iff.mpr λq=>?_;have e:C=tp:=Value.ref.inj (beq_iff_eq.mp q);subst e;cases (X _ _ d).symm.trans b
 ca:=λX I k=>yX c X I k
end
noncomputable def XDk (H:Hp):Option Addr->List (Str×V)->Prop
 | some d,a=>H d=some (XdO d a)
 | none,a=>a=[]
theorem XDk.mono(e:∀ b o,H b=some o->H' b=some o):∀ {dx:Option Addr} {a:List (Str×V)},XDk H dx a->XDk H' dx a
 | some _,_,h=>e _ _ h
 | none,_,h=>h
theorem Na{a:Pn0}{s:Shared}{k:List (Str×V)}(I:Inv X a σ H s)(j:H e=some (nU e (.ref C) dx))(hd:XDk H dx k):∃ oe od,Tc s.heap e oe C od:=by
 let#[oe,l,g,f,b,c]:=yA I.hok j;cases dx with
 | some d=>
  let#[m,h,_]:=vN I.hok hd;let#[od,i,_]:=mh h;exact#[oe,some od,g,f,by delta WW;rw[c],by rw[b];exact i]
 | none=>exact#[oe,none,g,f,by delta WW;rw[c],by rw[b];trivial]
noncomputable def vv:V->Value
 | .ref a=>.ref a
 | .ty n=>.type n
 | _=>.none
noncomputable def isC:V->Bool
 | .ref _=>true
 | .ty _=>true
 | _=>false
theorem Nr{x:V}(h:isC x=true)(r:RelV x u):u=vv x:=by
 cases x with
 | ref a=>exact r
 | ty n=>exact r
 | _=>cases h
theorem FO:ck X (.builtin "isinstance") (λxs H Q=>∃ e C d fs c b,xs=[.ref e,c]/\H e=some (nU e (.ref C) d)/\XDk H d fs/\XIs X.K C/\isC c=true/\bp X.K (.ref C) (vv c)=some b/\Q (.bl b) H):=by
 intro f s l H xs n Q I r h;let#[e,C,d,fs,c,b,rfl,j,hd,x,i,k,q]:=h;let#[u,m,rfl,g,a]:=vals2 r;obtain rfl:u=fC e:=g;obtain rfl:=Nr i a;let#[p,t,J]:=Na I j hd;exact tT (EU x) I.kIn J k (λz=>nomatch z) λo=>#[.bl b,H,I.tok _,rfl,q]
noncomputable abbrev cE (b:Bool)(elt:Expr)(a:List vd)(c:Scope)(pos:Pos):Expr:=match b with
 | false=>.ListComp elt a c pos
 | true=>.SetComp elt a c pos
theorem Fs{b:Bool}{a:List vd}{d:Nat}:(model prog w).den (.compLoop (cE b elt a sc pos) d it acc env)=(Ud (cE b elt a sc pos) d it acc env).onRaise (λx=>do Ua x env;theTreesLotGoes x):=by cases b <;> rfl
theorem Dv{b:Bool}{a:List vd}{d:Nat}:A.under (.compLoop (cE b elt a sc pos) d it acc env)=A:=by cases b <;> rfl
structure Acc {α:Type} (RO:List α->Obj->Prop) (Y:Cx) (D:Addr) (pl:Pn0) (ys:List α) (σ:St) (H:Hp) (s:Shared):Prop where
 us:∃ o,Inv Y ((D,o)::pl) σ H s/\RO ys o
 exD:D∈Y.ex
 nd:∀ p∈Y.pn++pl,p.1≠D
noncomputable abbrev TBg (a:Type):=List a->St->Hp->(List a->St->Hp->Prop)->Prop
abbrev TB:=TBg V
def RL (ys:List V)(o:Obj):Prop:=∃ us,o=p5 us us.length/\Vals ys us
def PB {b:Type}(RO:List b->Obj->Prop)(Y:Cx)(D:Addr)(m:Sem Fin->Sem Fin)(t:TBg b):Prop:=
 ∀ (k:Sem Fin) (c:Pn0) (s:Shared) (ys:List b) (σ:St) (H:Hp) (Q:List b->St->Hp->Prop) (R:Fin->Shared->Prop),Acc RO Y D c ys σ H s->t ys σ H Q->
  (∀ a aJ H' s',Acc RO Y D c a aJ H' s'->Q a aJ H'->wpAny (model Y.prog Y.w) Y.A k R (λ_ _=>False) s')->wpAny (model Y.prog Y.w) Y.A (m k) R (λ_ _=>False) s
section
variable {Y:Cx}{D:Addr}{α:Type}{RO:List α->Obj->Prop}
def iE (te:TE):TB:=λys σ H Q=>ys.length < sizeLine/\te σ H λy H'=>Q (ys++[y]) σ H'
noncomputable abbrev nq (elt:Expr)(D:Addr)(a:Env)(k:Sem Fin):Sem Fin:=(eval elt a >>= λx=>call (.builtin "list.append") [.ref D,x] >>= λ_=>pure ()) >>= λ_=>k
theorem Acc.pins{pl:Pn0}{ys:List α}{b:St}{s:Shared}{o:Obj}(a:Acc RO Y D pl ys σ H s)(I:Inv Y ((D,o)::pl) b H' s')(r:RO ys o):Acc RO Y D pl ys b H' s':=#[#[o,I,r],a.exD,a.nd]
theorem jU(L:Y.xe=λ_ _=>False)(M:PE Y elt te):PB RL Y D (nq elt D Y.env) (iE te):=by
 intro k u s r h H Q R a ⟨K,q⟩ hk;let#[_,I,d,rfl,t]:=a.us;have g:=M _ s h H _ I q;rw[L] at g;refine ba (ba (thn g λy s7 ⟨E,n,i,F,G⟩=>ba ?_));let#[pD,A,w,J,P]:=i.pin (D,p5 d d.length) (eB _ nA);have f:d.length=r.length:=t.length.symm;refine append_at (hsz:=by rw[gT,f];exact Fn K) pD λB j l=>bq ?_;have m:Inv Y u h n s7:=i.l9 λp z=>i.pin p (eB _ (ei _ z));have C:Inv Y u h n { s7 with heap:=B }:=m.turned (t':=s7.toks) (it:=D) (λb o N e=>(j.2 b N).trans e) A w (.inl a.exD) (λx c e=>(i.ok.exf D a.exD).2 x c e) a.nd;have O:B.get? D=some (p5 (d++[y]) (d++[y]).length):=by
  rw[l];simp
 refine hk (r++[E]) h n _ #[#[_,C.l9 λp z=>?_,d++[y],rfl,t.append (.cons F .nil)],a.exD,a.nd] G;rcases cm.mp z with e | z
 .subst e;exact#[O,A,w,J,λv z=>by cases z]
 .exact C.pin p (eB _ z)
noncomputable def bIf (a:TT)(t:TBg α):TBg α:=λys σ H Q=>a σ H λb H'=>if b=true then t ys σ H' Q else Q ys σ H'
noncomputable abbrev ifK (c:Expr)(a:Env)(m:Sem Fin->Sem Fin)(k:Sem Fin):Sem Fin:=(forIn [c] true λc r=>if r=true then do let ok <- isTrue c a (eval c a);pure (MT ok) else pure (MT r)) >>= λok=>if ok=true then m k else k
theorem N8{c:Expr}{g:TT}{m:Sem Fin->Sem Fin}{t:TBg α}(p:Y.xe=λ_ _=>False)(u:PT Y c g)(r:PB RO Y D m t):PB RO Y D (ifK c Y.env m) (bIf g t):=by
 intro k o s f e H Q R a q hk;let#[v,I,i]:=a.us;have d:=u _ s e H _ I q;rw[p] at d;refine ba (wpAny_tests_one (thn d λb h Z=>?_));let#[n,l,j]:=Z;cases b with
 | true=>exact r k o h f e n Q R (a.pins l i) (by simpa using j) hk
 | false=>exact hk f e n h (a.pins l i) (by simpa using j)
noncomputable def vH (J:It)(g:TG)(t:TBg α):TBg α:=λys σ H Q=>∃ W:Nat->Nat->List α->St->Hp->Prop,(∃ m,W 0 m ys σ H)/\∀ i m ys σ H,W i m ys σ H->
 (J.stop i H/\Q ys σ H)\/(J.go i H/\∀ x H',J.yld i H x H'->g x σ H' λa H2=>t ys a H2 λb aJ c=>∃ d,d < m/\W (i + 1) d b aJ c)
theorem JF{b:Bool}{w:List vd}{d:Nat}{it:Addr}{m:Sem Fin->Sem Fin}{t:TBg α}(hx:Y.xe=λ_ _=>False)(hc:Y.calm=true)(T:Turn Y.prog Y.w Y.K tg J fp it tn)(hg:PG Y tg g)(hm:PB RO Y D m t)(I:Ud (cE b elt w sc pos) d (.ref it) (.ref D) Y.env=(IR p0 >>= λ_=>pyNext (.ref it) >>= λr=>match r with
   | none=>pure (.done .next)
   | some v=>Ax tg (.ref it) v >>= λ_=>assign tg Y.env v >>= λ_=>m (again (.compLoop (cE b elt w sc pos) d (.ref it) (.ref D) Y.env)))){pl:Pn0}{ys:List α}{s:Shared}{Q:List α->St->Hp->Prop}(a:Acc RO Y D pl ys σ H s)(st:tn 0 s.heap)(f:∀ b∈fp,iI Y pl H b/\D≠b)(q:vH J g t ys σ H Q)(hR:∀ j aJ H' s',Acc RO Y D pl j aJ H' s'->Q j aJ H'->R (.ok .next) s'):xb (model Y.prog Y.w) Y.A (.compLoop (cE b elt w sc pos) d (.ref it) (.ref D) Y.env) R s:=by
 let#[W,#[m0,w0],N]:=q;have k:∀ {H':Hp} {o:Obj},(∀ b∈fp,H' b=none)->∀ b∈fp,iI Y ((D,o)::pl) H' b:=λhn b B=>by
  let#[#[_,f1,f2,f3,f4,f5],f6]:=f b B;refine#[hn b B,f1,f2,f3,f4,λp hp=>?_];rcases gs.mp hp with hp | hp
  .exact f5 p (oD _ hp)
  .rcases cm.mp hp with e | hp
   .subst e;exact f6
   .exact f5 p (eB _ hp)
 refine codeAny_loop rfl (λn s'=>∃ i j aJ H',Acc RO Y D pl j aJ H' s'/\tn i s'.heap/\(∀ b∈fp,H' b=none)/\W i n j aJ H') (λn s3 hI=>?_) m0 #[0,ys,σ,H,a,st,λb B=>(f b B).1.1,w0];rw[Fs,Dv];refine wpAny_noted ?_;rw[I];let#[i,y,c,V,a3,O,U,w3]:=hI;let#[a2,I3,P]:=a3.us;have l:∀ {M:Model} {A:Around} {α:Type} {t:Sem α} {Q:α->Shared->Prop} {E:VS} {s:Shared},wpAny M A t Q (λ_ _=>False) s->wpAny M A t Q E s:=λh=>Cy h (λ_ _ x=>x) λ_ _ x=>x.elim;refine ba (Rh (ba ?_));rcases N i n y c V w3 with ⟨stop,qn⟩ | ⟨go,step⟩
 .refine l (thn (T.done Y rfl rfl rfl hc i _ s3 c V _ I3 (k U) O stop) λr s4 Z=>?_);let#[hr,I4]:=Z;subst hr;exact bq (hR y c V s4 (a3.pins I4 P) qn)
 .refine l (thn (T.item Y rfl rfl rfl hc i _ s3 c V _ I3 (k U) O go) λr s4 Z=>?_);let#[u,hr,h4]:=Z;subst hr;refine ba (l (thn h4 λ_ s5 Z=>?_));let#[x,H5,I5,r5,y5,F,a5]:=Z;have a8:=I5.pinned (k a5) (T.obj _ _ F);have S:=hg _ s5 c H5 x u _ a8 r5 (step x H5 y5);rw[hx] at S;refine ba (l (thn S λ_ s6 Z=>?_));let#[L,H6,I6,q6]:=Z;have a6:Acc RO Y D (pl++sI fp s5.heap) y L H6 s6:=#[#[a2,I6,P],a.exD,λp hp=>by
   rcases gs.mp hp with hp | hp
   .exact a.nd p (oD _ hp)
   .rcases gs.mp hp with hp | hp
    .exact a.nd p (eB _ hp)
    .exact λz=>(f p.1 (vb hp).1).2 z.symm]
  refine l (hm _ _ s6 y L H6 _ _ a6 q6 λa1 X H7 s7 a7 ⟨m',a4,w7⟩=>bq #[rfl,m',a4,i + 1,a1,X,H7,?_,?_,?_,w7])
  .let#[C,K,G]:=a7.us;exact#[#[C,K.l9 λp hp=>K.pin p (eB _ (by
    rcases cm.mp hp with e | hp
    .subst e;exact nA
    .exact ei _ (oD _ hp))),G],a.exD,a.nd]
  .let#[C,K,G]:=a7.us;exact T.keep _ _ _ F λb B o e=>(K.pin (b,o) (eB _ (ei _ (eB _ (jX B e))))).1
  .intro b B;let#[C,K,G]:=a7.us;let#[o,e,d]:=T.obj _ _ F b B;exact(K.pin (b,o) (eB _ (ei _ (eB _ (jX B e))))).2.1
end
theorem CT{b:Bool}{a:List vd}{d:Nat}:(model prog w).den (.compStart (cE b elt a sc pos) d it acc env)=(Xj (cE b elt a sc pos) d it acc env).onRaise (λx=>do Ua x env;IR theWindowsPlace):=by cases b <;> rfl
theorem B8{b:Bool}{a:List vd}{d:Nat}:A.under (.compStart (cE b elt a sc pos) d it acc env)=A:=by cases b <;> rfl
theorem ph{s:Shared}{b:Bool}{a:List vd}{d:Nat}(f:a[d]?=some #[tg,iter,ifs,0])(same:xb (model prog w) A (.compLoop (cE b elt a sc pos) d it acc env) R s)(c:wpAny (model prog w) A (pyIter it) (λe s2=>xb (model prog w) A (.compLoop (cE b elt a sc pos) d e acc env) R s2) (notedBy (model prog w) A env λx s2=>R (.error x) s2) s) :
  xb (model prog w) A (.compStart (cE b elt a sc pos) d it acc env) R s:=by
 have g:(clausesOf (cE b elt a sc pos))[d]?=some #[tg,iter,ifs,0]:=by cases b <;> exact f
 apply UA;rw[CT,B8];apply wpAny_notedAt (pos:=theWindowsPlace) (m:=Xj (cE b elt a sc pos) d it acc env);simp only[Xj,g];apply ba;apply wpAny_askSetting;apply wpAny_ite;split
 .exact bq #[rfl,same]
 .apply ba;apply Tq;apply ba;apply Rh;exact ba (Cy c (λ_ _ q=>bq #[rfl,q]) λ_ _ q=>q)
section
variable {Y:Cx}{D:Addr}{α:Type}{RO:List α->Obj->Prop}
noncomputable def yN (a:TI)(g:TG)(t:TBg α):TBg α:=λys σ H Q=>a σ H λJ H1=>vH J g t ys σ H1 Q
noncomputable abbrev DS (b:Bool)(elt:Expr)(c:List vd)(f:Scope)(pos:Pos)(d:Nat)(iter:Expr)(D:Addr)(a:Env)(k:Sem Fin):Sem Fin:=
 eval iter a >>= λx=>IR iter.pos >>= λ_=>hB iter a x >>= λx=>holding [x] (pyIter x) >>= λe=>runOwn (.compStart (cE b elt c f pos) d e (.ref D) a) a >>= λ_=>k
theorem Ba{b:Bool}{c:List vd}{d:Nat}{m:Sem Fin->Sem Fin}{t:TBg α}(A:Y.xe=λ_ _=>False)(O:Y.calm=true)(z:c[d]?=some #[tg,iter,ifs,0])(hi:PI Y tg iter wi)(N:PG Y tg g)(M:PB RO Y D m t)(o:∀ it,Ud (cE b elt c sc pos) d (.ref it) (.ref D) Y.env=(IR p0 >>= λ_=>pyNext (.ref it) >>= λr=>match r with
   | none=>pure (.done .next)
   | some v=>Ax tg (.ref it) v >>= λ_=>assign tg Y.env v >>= λ_=>m (again (.compLoop (cE b elt c sc pos) d (.ref it) (.ref D) Y.env))))(hs:autoParam (∀ x,hB iter Y.env x=pure x) wT):PB RO Y D (DS b elt c sc pos d iter D Y.env) (yN wi g t):=by
 intro k G s ys C H Q R a q hk;let#[us,I,E]:=a.us;have w:=hi _ s C H _ I q;rw[A] at w;refine ba (thn w λv s1 U=>ba (Rh (ba ?_)));rw[hs];refine bq (ba (ry (thn U λL s2 S=>?_)));let#[it,fp,tn,J,H2,e,I2,T,u,Z,cw]:=S;subst e;have a2:=a.pins I2 E;refine ba (wpAny_runOwn ?_);have K:∀ {R:Result->Shared->Prop},(∀ l j y i,Acc RO Y D G l j y i->Q l j y->R (.ok .next) i)->xb (model Y.prog Y.w) Y.A (.compLoop (cE b elt c sc pos) d (.ref it) (.ref D) Y.env) R s2:=λhR=>
  JF A O T N M (o it) a2 u (λb P=>by
   let#[f0,f1,X,W,V,B]:=Z b P;exact#[#[f0,f1,X,W,V,λp hp=>B p (by
    rcases gs.mp hp with hp | hp
    .exact oD _ hp
    .exact eB _ (ei _ hp))],B (D,_) (eB _ nA)]) cw hR
 have fin:=K (R:=λr i=>match r with | .ok f=>wpAny (model Y.prog Y.w) Y.A k R (λ_ _=>False) i | .error e=>False) λl j y i a' F=>hk l j y i a' F;have n:xb (model Y.prog Y.w) Y.A (.compLoop (cE b elt c sc pos) d (.ref it) (.ref D) Y.env) (λr i=>match r with | .ok f=>wpAny (model Y.prog Y.w) Y.A k R (λ_ _=>False) i | .error e=>cameBackBy (model Y.prog Y.w) Y.A Y.env (λ_ _=>False) e i) s2:=
  QC fin λr i h=>by cases r with | ok f=>exact h | error e=>exact h.elim
 exact ph z n (Cy (T.self Y.A 0 _ _ (λ_ _=>False) u n) (λ_ _ h=>h) λ_ _ h=>h.elim)
end
theorem yJ{α:Type}{RO:List α->Obj->Prop}{b:Bool}{j:List vd}{m:Addr->Env->Sem Fin->Sem Fin}{t:TBg α}{a5:Sem Value}{o0:Obj}(b4:j[0]?=some #[tg,iter,ifs,0])(mk:∀ {P:VS} {E:VS} {s:Shared},P (.ref s.heap.objs.size) { s with heap:=s.heap.push o0 }->wpAny (model X.prog X.w) X.A a5 P E s)(a9:o0.isFreed=false)(a2:RO [] o0)(nc:∀ ys o,RO ys o->∀ v,o.data≠.cell v)(B:Blk X.N X.env.scope sc Nc fr)(hc:X.calm=true)(hg:∀ av ax C ex pn,PG (aT X sc Nc av ax C ex pn) tg g)(hm:∀ av ax C ex pn D,PB RO (aT X sc Nc av ax C ex pn) D (m D (aT X sc Nc av ax C ex pn).env) t)(R:∀ (it D:Addr) (env:Env),Ud (cE b elt j sc pos) 0 (.ref it) (.ref D) env=(IR p0 >>= λ_=>pyNext (.ref it) >>= λr=>match r with
   | none=>pure (.done .next)
   | some v=>Ax tg (.ref it) v >>= λ_=>assign tg env v >>= λ_=>m D env (again (.compLoop (cE b elt j sc pos) 0 (.ref it) (.ref D) env)))){a:Pn0}{it:Addr}(K:Inv X a σ H2 s2)(T:Turn X.prog X.w X.K tg J fp it tn)(N:tn 0 s2.heap)(V:∀ b∈fp,iI X a H2 b){QF:List α->St->Hp->Prop}(cw:vH J g t [] (pE fr σ) H2 QF)(b5:∀ D C s' H' ys o aJ,Inv X a σ H' s'->(∃ m,s'.heap.Ns C m)->C≠D->iI X a H' C->iI X a H' D->s'.heap.get? D=some o->RO ys o->QF ys aJ H'->RR (.ref D) C (.ok .next) s') :
  wpAny (model X.prog X.w) X.A a5 (λacc a1=>wpAny (model X.prog X.w) X.A (Tn sc X.env.globals (takes X.env.cells sc.names []) [] X.env.qual none .none (some X.env)) (λI Z=>
   xb (model X.prog X.w) X.A (.compStart (cE b elt j sc pos) 0 (.ref it) acc { I with scope:=relabel sc X.env }) (RR acc I.locals) Z) E a1) E s2:=by
 refine mk (Cw λl d f i=>?_);dsimp only at d f i ⊢;generalize U:s2.heap.push o0=q at d f i ⊢;have w:q.objs.size=s2.heap.objs.size + 1:=by rw[<- U,ru]
 generalize F:q.objs.size=C at d i ⊢;generalize k:s2.heap.objs.size=D at w ⊢;have b7:D≠C:=by rw[<- F,w];exact gm (KB _)
 have L:∀ b o,s2.heap.get? b=some o->q.get? b=some o:=λb o e=>by rw[<- U];exact bc _ e
 have b6:q.get? D=some o0:=by rw[<- U,<- k];exact en _ a9
 have I3:Inv X a σ H2 { s2 with heap:=q }:=K.kept (t':=s2.toks) L;have a7:H2 D=none:=K.hok.fresh (by rw[k];exact cb _);have fD:iI X a H2 D:=K.uC (by rw[k];exact cb _) a7;have b0:∀ b∈fp,∃ o,s2.heap.get? b=some o/\∀ v,o.data≠.cell v:=T.obj 0 _ N;have y:∀ b∈fp,b < D:=λb hb=>by let#[o,e,_]:=b0 b hb;rw[<- k];exact ec e
 have a6:D∉fp:=λhb=>iD _ (y D hb);have a8:C∉fp:=λhb=>by have:=y C hb;rw[<- F,w] at this;exact absurd (Nat.lt_of_succ_lt this) (iD _)
 have A:∀ b,(b∈X.ex\/X.av.heap.objs.size<=b)->∀ o,X.base.get? b≠some o:=λb h o e=>by
  rcases h with h | h
  .exact K.ok.noex b o e h
  .exact absurd (da (ec e) (eH K.ok.bsz h)) (iD _)
 have hex:∀ b∈D::fp,b < q.objs.size/\b∉X.fs/\b≠X.env.locals/\(∀ x c,X.env.cells.lookup x=some c->c≠b)/\∀ o,X.base.get? b≠some o:=λb hb=>by
  have fb:iI X a H2 b:=by
   rcases cm.mp hb with e | hb
   .rw[e];exact fD
   .exact V b hb
  refine#[?_,fb.2.2.1,fb.2.1,fb.2.2.2.2.1,A b fb.2.2.2.1];rcases cm.mp hb with e | hb
  .rw[e,w];exact KB _
  .rw[w];exact Sn (y b hb)
 have H:q.objs.size<=C:=by rw[F];exact cb _
 have ok:(aT X sc Nc { s2 with heap:=q } H2 C (D::fp) (X.pn++a)).Ok:=MJ B I3 H hex;have O:∀ b u,q.get? b=some u->l.get? b=some u:=f;have J0:Inv (aT X sc Nc { s2 with heap:=q } H2 C (D::fp) (X.pn++a)) [(D,o0)] (pE fr σ) H2 { s2 with heap:=l }:=
  ID B ok I3 H rfl rfl O d i b6 a7 fD.2.1 fD.2.2.1 (nc _ _ a2)
 have a0:Acc RO (aT X sc Nc { s2 with heap:=q } H2 C (D::fp) (X.pn++a)) D [] [] (pE fr σ) H2 { s2 with heap:=l }:=
  #[#[_,J0,a2],nA,λp S=>fD.2.2.2.2.2 p (by simpa using S)]
 have b':∀ b∈fp,iI (aT X sc Nc { s2 with heap:=q } H2 C (D::fp) (X.pn++a)) [] H2 b/\D≠b:=λb hb=>
  #[#[(V b hb).1,λe=>a8 (by have e':b=C:=e;rw[<- e'];exact hb),ok.exfs b (ei _ hb),.inl (ei _ hb),(ok.exf b (ei _ hb)).2,λp S=>(V b hb).2.2.2.2.2 p (by simpa using S)],λz=>a6 (by rw[z];exact hb)]
 have G:xb (model X.prog X.w) X.A (.compLoop (cE b elt j sc pos) 0 (.ref it) (.ref D) (compEnvC sc (bcl X.env.cells sc C) C X.env)) (RR (.ref D) C) { s2 with heap:=l }:=by
  refine JF (Y:=aT X sc Nc { s2 with heap:=q } H2 C (D::fp) (X.pn++a)) (D:=D) rfl hc T (hg _ _ _ _ _) (hm _ _ _ _ _ D) (R it D _) a0 (T.keep _ _ _ N (λb _ o e=>O b o (L b o e))) b' cw λys c1 H3 s4 a4 hq=>?_;let#[o4,W,rv]:=a4.us;let#[pD,pH,_,_,_]:=W.pin (D,o4) (eB _ nA);let#[a',b1,_]:=W.loc;have un:Un (frs X.stack) fp H2 H3 s2.heap s4.heap:=by
   have M:Un (frs X.stack) (D::fp) H2 H3 q s4.heap:=W.base;have nx:∀ {b:Addr} {o:Obj},s2.heap.get? b=some o->b∉fp->b∉D::fp:=λe h1 h2=>by
    rcases cm.mp h2 with z | z
    .exact gm (ec e) (by rw[k];exact z)
    .exact h1 z
   exact#[λb o e n hb Q=>M.keep b o (L b o e) n hb (nx e Q),λb o e n hb Q=>M.slot b o (L b o e) n hb (nx e Q),λb o e n Q=>M.free b o (L b o e) n (nx e Q),
    λb o e Q=>M.there b o (L b o e) (nx e Q),M.tups,M.frzs,M.tbls]
  have I5:Inv X a σ H3 s4:=K.FV W.os un W.hok W.bare λb hb=>#[(V b hb).2.2.2.1,(V b hb).2.1,(V b hb).2.2.2.2.1,(V b hb).2.2.2.2.2];exact b5 D C s4 _ ys o4 _ I5 #[a',b1] (lj b7) (K.uC (by rw[k,<- F,w];exact SK _) W.free) (K.uC (by rw[k];exact cb _) pH) pD rv hq
 exact ph b4 G (Cy (T.self X.A 0 _ _ (λ_ _=>False) (T.keep _ _ _ N (λb _ o e=>O b o (L b o e))) G) (λ_ _ h=>h) λ_ _ h=>h.elim)
theorem qG{c:List vd}{m:Addr->Env->Sem Fin->Sem Fin}{t:TB}(q:c[0]?=some #[tg,iter,ifs,0])(B:Blk X.N X.env.scope sc Nc fr)(L:X.calm=true)(K:∀ av ax C ex k,PG (aT X sc Nc av ax C ex k) tg g)(I:∀ av ax C ex k D,PB RL (aT X sc Nc av ax C ex k) D (m D (aT X sc Nc av ax C ex k).env) t)(f:∀ (it D:Addr) (env:Env),Ud (.ListComp elt c sc pos) 0 (.ref it) (.ref D) env=(IR p0 >>= λ_=>pyNext (.ref it) >>= λr=>match r with
   | none=>pure (.done .next)
   | some v=>Ax tg (.ref it) v >>= λ_=>assign tg env v >>= λ_=>m D env (again (.compLoop (.ListComp elt c sc pos) 0 (.ref it) (.ref D) env)))){a:Pn0}{it:Addr}(O:Inv X a σ H2 s2)(T:Turn X.prog X.w X.K tg J fp it tn)(n:tn 0 s2.heap)(M:∀ b∈fp,iI X a H2 b){Q:VK}(N:vH J g t [] (pE fr σ) H2 λys _ H'=>ys.length < sizeLine/\∀ l,H' l=none->Q (.ref l) (upd H' l (.lst ys)))(s:∀ D C s' H',Inv X a σ H' s'->(∃ m,s'.heap.Ns C m)->iI X a H' C->Q (.ref D) H'->RR (.ref D) C (.ok .next) s') :
  wpAny (model X.prog X.w) X.A (newList []) (λacc j=>wpAny (model X.prog X.w) X.A (Tn sc X.env.globals (takes X.env.cells sc.names []) [] X.env.qual none .none (some X.env)) (λd i=>
   xb (model X.prog X.w) X.A (.compStart (.ListComp elt c sc pos) 0 (.ref it) acc { d with scope:=relabel sc X.env }) (RR acc d.locals) i) E j) E s2:=by
 refine yJ (RO:=RL) (b:=false) (elt:=elt) (pos:=pos) (o0:=p5 [] 0) q (λh=>zl h) rfl #[[],rfl,.nil] (λys o ⟨y,e,_⟩ v z=>by subst e;cases z) B L K I f O T n M N λD C s' H' ys o x P H G w u pD ⟨y,e,A⟩ ⟨p,F⟩=>?_;subst e;exact s D C s' _ (P.adopt u pD A (Fn p)) H #[by rw[ao G];exact w.1,w.2] (F D u.1)
def dU (b:On)(a:TI)(g:TG)(t:TB):TE:=λσ H Q=>a σ H λJ H1=>vH J g t [] (pE b σ) H1 λys _ H'=>ys.length < sizeLine/\∀ l,H' l=none->Q (.ref l) (upd H' l (.lst ys))
theorem k7{rest:List vd}{m:Addr->Env->Sem Fin->Sem Fin}{t:TB}(z:X.calm=true)(hi:PI X tg iter wi)(B:Blk X.N X.env.scope sc Nc fr)(y:∀ av ax C ex f,PG (aT X sc Nc av ax C ex f) tg g)(w:∀ av ax C ex f D,PB RL (aT X sc Nc av ax C ex f) D (m D (aT X sc Nc av ax C ex f).env) t)(c:∀ (it D:Addr) (env:Env),Ud (.ListComp elt (#[tg,iter,ifs,0]::rest) sc pos) 0 (.ref it) (.ref D) env=(IR p0 >>= λ_=>pyNext (.ref it) >>= λr=>match r with
   | none=>pure (.done .next)
   | some v=>Ax tg (.ref it) v >>= λ_=>assign tg env v >>= λ_=>m D env (again (.compLoop (.ListComp elt (#[tg,iter,ifs,0]::rest) sc pos) 0 (.ref it) (.ref D) env))))(hs:autoParam (∀ x,hB iter X.env x=pure x) wT) :
  PE X (.ListComp elt (#[tg,iter,ifs,0]::rest) sc pos) (dU fr wi g t):=by
 intro a s l H Q I h;rw[eval_ListComp];refine TR (use:=none) rfl hs (BP B I) B.kind B.locs (thn (hi a s l H _ I h) λv R F=>thn F λu P E=>?_);let#[it,U,O,J,V,e,L,T,i,G,K]:=E;subst e;refine qG (RR:=λk C=>compPost (model X.prog X.w) X.A X.xe none (EP X a l Q) k C) rfl B z y w c L T i G K λD C p N M j d q=>?_;let#[m,j]:=j;exact#[m,j,λS n=>#[.ref D,N,M.turned (t':=p.toks) (λb o A e=>(n.2 b A).trans e) d.1 d.2.1 d.2.2.2.1 d.2.2.2.2.1 d.2.2.2.2.2,rfl,q]]
theorem kY{x:Str}{l d:Pos}{rest:List vd}{m:Addr->Env->Sem Fin->Sem Fin}{t:TB}(Z:X.N.Nodup)(E:X.N[i]?=some x)(M:X.env.scope.names.lookup x=some .local)(V:X.calm=true)(hi:PI X tg iter wi)(B:Blk X.N X.env.scope sc Nc fr)(U:∀ av ax C ex n,PG (aT X sc Nc av ax C ex n) tg g)(S:∀ av ax C ex n D,PB RL (aT X sc Nc av ax C ex n) D (m D (aT X sc Nc av ax C ex n).env) t)(f:∀ (it D:Addr) (env:Env),Ud (.ListComp elt (#[tg,iter,ifs,0]::rest) sc pos) 0 (.ref it) (.ref D) env=(IR p0 >>= λ_=>pyNext (.ref it) >>= λr=>match r with
   | none=>pure (.done .next)
   | some v=>Ax tg (.ref it) v >>= λ_=>assign tg env v >>= λ_=>m D env (again (.compLoop (.ListComp elt (#[tg,iter,ifs,0]::rest) sc pos) 0 (.ref it) (.ref D) env))))(w:autoParam (Do (.ListComp elt (#[tg,iter,ifs,0]::rest) sc pos) (some (.Name x l)) d.line X.env=pure true) wE)(hs:autoParam (∀ x,hB iter X.env x=pure x) wT) :
  PS X (.Assign [.Name x l] (.ListComp elt (#[tg,iter,ifs,0]::rest) sc pos) d) (gY (dU fr wi g t) (dE i)):=by
 intro c s K H D I h;rw[exec_Assign_Name_used _ _ _ _ w];refine ba (Rh (ba ?_));refine ba (Cy (TR (use:=some (assign (.Name x l) X.env)) (Q:=λ_ k=>SP X c D .next k) rfl hs (BP B I) B.kind B.locs
  (thn (hi c s K H _ I h) λv s1 h1=>thn h1 λP s2 h2=>?_)) (λ_ k R=>bq (bq R)) λ_ _ e=>e)
 let#[it,fp,tn,J,H2,e,I2,T,p,f2,cw]:=h2;subst e;refine qG (Q:=λx H1=>dE i x K H1 D.nx) (RR:=λG C=>compPost (model X.prog X.w) X.A X.xe (some (assign (.Name x l) X.env)) (λ_ k=>SP X c D .next k) G C) rfl B V U S f I2 T p f2 cw λL C k H' I' A j q=>?_;let#[m,A]:=A;refine VC (uP I' Z E (.inl M) (v:=.ref L) rfl (λO I3 y=>?_) (.inr M));let#[a,N,Y]:=y;have F:C≠a:=by
  rcases Y with e | e
  .rw[e];exact j.2.1
  .exact λz=>j.2.2.2.2.1 _ _ e (by rw[z])
 exact#[m,A.sameBut N F,λh' u=>#[_,H',I3.turned (t':=O.toks) (λb o W e=>(u.2 b W).trans e) j.1 j.2.1 j.2.2.2.1 j.2.2.2.2.1 j.2.2.2.2.2,q]]
end _2
namespace _3
open PySem _2
def P4 (o:Obj)(c:Addr)(q:Str):Prop:=∃ fd,o.data=.func fd/\fd.code=.ref c/\fd.qualname=q
set_option genSizeOf true in
inductive D where
 | non | bl (b:Bool) | int (i:Int) | str (x:Str) | lst (xs:List D) | tup (xs:List D) | ktup (xs:List D) | ins (C:Addr) (ns:Ls0) (xs:List D) | scr (ns:Li0) | ty (n:String) | adr (a:Addr) | cel (p:Addr) (xs:List D) | exc (C:Addr) (ns:Ls0) (xs:List D) | dct | dcs (k:Str) (i:Int) | mp (kvs:List (Int×Int×Int))
noncomputable def mpT (a:List (Int×Int×Int)):List (List Key×V):=a.map λq=>([.inl q.1,.inl q.2.1],.int q.2.2)
mutual
noncomputable def Rep (K:Fg0)(F:Hp):D->V->Prop
 | .non,v=>v=.non
 | .bl b,v=>v=.bl b
 | .int i,v=>v=.int i
 | .str x,v=>v=.str x
 | .ty n,v=>v=.ty n
 | .adr a,v=>v=.ref a
 | .cel p xs,v=>v=.ref p/\∃ vs,F p=some (.lst vs)/\aC K F xs vs
 | .scr ns,v=>∃ p,v=.ref p/\SqL K F p (ns.map V.int)
 | .lst xs,v=>∃ p vs,v=.ref p/\F p=some (.lst vs)/\aC K F xs vs
 | .tup xs,v=>∃ p vs,v=.ref p/\F p=some (.tup vs)/\aC K F xs vs
 | .ktup xs,v=>∃ p vs,v=.ref p/\SqT K F p vs/\aC K F xs vs
 | .ins C ns xs,v=>∃ p dx c,v=.ref p/\F p=some (.ins C dx c)/\c.map (·.1)=ns/\aC K F xs (c.map (·.2))
 | .dct,v=>∃ p,v=.ref p/\F p=some (.dK [])
 | .dcs k i,v=>∃ p,v=.ref p/\F p=some (.dK [(.inr k,.int i)])
 | .exc C ns xs,v=>∃ p d c,v=.ref p/\F p=some (nU p (.ref C) d)/\XDk F d c/\c.map (·.1)=ns/\aC K F xs (c.map (·.2))
 | .mp kvs,v=>∃ p,v=.ref p/\F p=some (.dT (mpT kvs))
noncomputable def aC (K:Fg0)(F:Hp):List D->List V->Prop
 | [],vs=>vs=[]
 | x::xs,vs=>∃ v ws,vs=v::ws/\Rep K F x v/\aC K F xs ws
end
theorem SqT.same{xs:List V}(e:aB H H')(h:SqT K H a xs):SqT K H' a xs:=by
 rcases h with (h | ⟨o,h⟩) | h
 .exact .inl (.inl (e _ _ h))
 .exact .inl (.inr #[o,e _ _ h])
 .exact .inr h
mutual
theorem Rep.mono {K:Fg0}{F l:Hp}(e:aB F l):∀ {d:D} {v:V},Rep K F d v->Rep K l d v
 | .non,_,h=>h
 | .bl _,_,h=>h
 | .int _,_,h=>h
 | .str _,_,h=>h
 | .ty _,_,h=>h
 | .adr _,_,h=>h
 | .cel _ _,_,⟨c,g,a,f⟩=>#[c,g,e _ _ a,aC.mono e f]
 | .scr _,_,⟨p,c,a⟩=>#[p,c,e.seq a]
 | .lst _,_,⟨p,g,c,a,f⟩=>#[p,g,c,e _ _ a,aC.mono e f]
 | .tup _,_,⟨p,g,c,a,f⟩=>#[p,g,c,e _ _ a,aC.mono e f]
 | .ktup _,_,⟨p,g,c,a,f⟩=>#[p,g,c,SqT.same e a,aC.mono e f]
 | .ins _ _ _,_,⟨p,k,j,c,a,f,i⟩=>#[p,k,j,c,e _ _ a,f,aC.mono e i]
 | .dct,_,⟨p,c,a⟩=>#[p,c,e _ _ a]
 | .dcs _ _,_,⟨p,c,a⟩=>#[p,c,e _ _ a]
 | .exc _ _ _,_,⟨p,k,j,c,a,m,f,i⟩=>#[p,k,j,c,e _ _ a,m.mono e,f,aC.mono e i]
 | .mp _,_,⟨p,c,a⟩=>#[p,c,e _ _ a]
theorem aC.mono {K:Fg0}{F a:Hp}(e:aB F a):∀ {xs:List D} {vs:List V},aC K F xs vs->aC K a xs vs
 | [],_,h=>h
 | _::_,_,⟨v,ws,d,c,b⟩=>#[v,ws,d,Rep.mono e c,aC.mono e b]
end
inductive Sl where
 | fz (d:D) | ow (d:D) | ln (d:D)
abbrev G:=List (Option Sl)
inductive RV where
 | fz (d:D) | fr (d:D) | two (xs ys:List D) | rws (xss:List (List D))
noncomputable def RV.pl:RV->Bool
 | .fz _=>true
 | .fr _=>true
 | _=>false
noncomputable def RV.d:RV->D
 | .fz d=>d
 | .fr d=>d
 | .two xs ys=>.tup [.lst xs,.lst ys]
 | .rws xss=>.lst (xss.map .lst)
set_option backward.eqns.nonrecursive false in
noncomputable def RV.sl:RV->Sl
 | .fz d=>.fz d
 | .fr d=>.ow d
 | .two xs ys=>.fz (.tup [.lst xs,.lst ys])
 | .rws xss=>.ow (.lst (xss.map .lst))
set_option genInjectivity false in
structure Bs where
 F:Hp
 H:Hp
 own:List (Nat×Addr)
noncomputable def Own (K:Fg0)(F H:Hp)(p:Addr):D->Prop
 | .lst xs=>∃ vs,H p=some (.lst vs)/\aC K F xs vs
 | .cel q xs=>p=q/\∃ vs,H p=some (.lst vs)/\aC K F xs vs
 | .ins C ns xs=>∃ dx a,H p=some (.ins C dx a)/\a.map (·.1)=ns/\aC K F xs (a.map (·.2))
 | _=>False
theorem Own.mono(e:aB F F')(h:H' p=H p):∀ {d:D},Own K F H p d->Own K F' H' p d
 | .lst _,⟨f,a,b⟩=>#[f,h.trans a,b.mono e]
 | .cel _ _,⟨z,f,a,b⟩=>#[z,f,h.trans a,b.mono e]
 | .ins _ _ _,⟨i,g,a,b,c⟩=>#[i,g,h.trans a,b,c.mono e]
theorem Own.some {K:Fg0}{F H:Hp}{p:Addr}:∀ {d:D},Own K F H p d->∃ o,H p=some o
 | .lst _,⟨_,a,_⟩=>#[_,a]
 | .cel _ _,⟨_,_,a,_⟩=>#[_,a]
 | .ins _ _ _,⟨_,_,a,_⟩=>#[_,a]
theorem Own.rep{o:HO}(h:F p=none)(g:H p=Option.some o):∀ {d:D},Own K F H p d->Rep K (upd F p o) d (.ref p)
 | .lst _,Z=>by
  let#[f,a,b]:=Z;rw[g] at a;cases a;exact#[p,f,rfl,aw,b.mono λx u e=>by rw[ao (aV e h)];exact e]
 | .cel _ _,Z=>by
  let#[z,f,a,b]:=Z;rw[g] at a;cases a;subst z;exact#[rfl,f,aw,b.mono λx u e=>by rw[ao (aV e h)];exact e]
 | .ins _ _ _,Z=>by
  let#[j,i,a,b,c]:=Z;rw[g] at a;cases a;exact#[p,j,i,rfl,aw,b,c.mono λx u e=>by rw[ao (aV e h)];exact e]
def Hld (Γ:G)(i:Nat)(d:D):Prop:=Γ[i]?=some (some (Sl.ow d))\/Γ[i]?=some (some (Sl.ln d))
structure En (K:Fg0) (B:Bs) (F:Hp) (σ:St) (H:Hp) (Γ:G):Prop where
 sub:aB F H
 len:σ.length=Γ.length
 fz:∀ (i:Nat) (d:D),Γ[i]?=some (some (Sl.fz d))->∃ v,σ[i]?=some (some v)/\Rep K F d v
 hl:∀ (i:Nat) (d:D),Hld Γ i d->∃ p,σ[i]?=some (some (V.ref p))/\F p=none/\Own K F H p d
 ow:∀ (i:Nat) (d:D) (p:Addr),Γ[i]?=some (some (Sl.ow d))->σ[i]?=some (some (V.ref p))->B.H p=none
 ln:∀ (i:Nat) (d:D) (p:Addr),Γ[i]?=some (some (Sl.ln d))->σ[i]?=some (some (V.ref p))->(i,p)∈B.own
 dis:∀ (i j:Nat) (d e:D) (p:Addr),Hld Γ i d->Hld Γ j e->σ[i]?=some (some (V.ref p))->σ[j]?=some (some (V.ref p))->i=j
 par:∀ (i:Nat) (p:Addr),(i,p)∈B.own->σ[i]?=some (some (V.ref p))/\∃ d,Γ[i]?=some (some (Sl.ln d))
 keep:aB B.F F
 new:∀ (b:Addr) (o:HO),F b=some o->B.F b=some o\/B.H b=none
 rest:∀ (b:Addr) (o:HO),B.H b=some o->(∀ i,(i,b)∉B.own)->H b=some o
 dom:∀ b,H b=none->B.H b=none
section
variable {B:Bs}{Γ:G}
theorem En.alloc(e:En K B F σ H Γ)(hl:H l=none)(o:HO):En K B F σ (upd H l o) Γ where
 sub:=λb u h=>by rw[ao (aV (e.sub b u h) hl)];exact e.sub b u h
 len:=e.len
 fz:=e.fz
 hl:=λi d h=>by
  let#[p,g,f,a]:=e.hl i d h;let#[u,c]:=a.some;exact#[p,g,f,a.mono (aB.refl F) (ao (aV c hl))]
 ow:=e.ow
 ln:=e.ln
 dis:=e.dis
 par:=e.par
 keep:=e.keep
 new:=e.new
 rest:=λb u h n=>by rw[ao (aV (e.rest b u h n) hl)];exact e.rest b u h n
 dom:=λb h=>by
  by_cases q:b=l
  .subst q;exact e.dom _ hl
  .rw[ao q] at h;exact e.dom b h
theorem aY{o:HO}(h:F l=none):aB F (upd F l o):=λb u e=>by rw[ao (aV e h)];exact e
theorem En.freeze(e:En K B F σ H Γ){o:HO}(c:F l=none)(j:H l=some o)(k:B.H l=none)(g:∀ (i:Nat) (d:D),Hld Γ i d->σ[i]?≠some (some (V.ref l))):En K B (upd F l o) σ H Γ where
 sub:=λb u h=>by
  by_cases q:b=l
  .subst q;rw[aw] at h;cases h;exact j
  .rw[ao q] at h;exact e.sub b u h
 len:=e.len
 fz:=λi d h=>by
  let#[v,a,f]:=e.fz i d h;exact#[v,a,f.mono (aY c)]
 hl:=λi d h=>by
  let#[p,a,f,m]:=e.hl i d h;have q:p≠l:=λz=>g i d h (z ▸ a);exact#[p,a,by rw[ao q];exact f,m.mono (aY c) rfl]
 ow:=e.ow
 ln:=e.ln
 dis:=e.dis
 par:=e.par
 keep:=e.keep.trans (aY c)
 new:=λb u h=>by
  by_cases q:b=l
  .subst q;exact .inr k
  .rw[ao q] at h;exact e.new b u h
 rest:=e.rest
 dom:=e.dom
noncomputable def eZ (K:Fg0)(F H:Hp):La0->List (List D)->Prop
 | [],xss=>xss=[]
 | q::qs,xss=>∃ xs a vs,xss=xs::a/\H q=some (.lst vs)/\aC K F xs vs/\eZ K F H qs a
theorem eZ.mono(s:aB F F'):∀ {qs:La0} {xss:List (List D)},(∀ q∈qs,H' q=H q)->eZ K F H qs xss->eZ K F' H' qs xss
 | [],_,_,h=>h
 | q::qs,_,e,⟨b,a,c,j,i,g,f⟩=>#[b,a,c,j,(e q (.head _)).trans i,g.mono s,eZ.mono s (λz d=>e z (.tail _ d)) f]
noncomputable def mJ (K:Fg0)(B:Bs)(F:Hp)(σ:St)(H:Hp)(Γ:G)(v:V):RV->Prop
 | .fz d=>Rep K F d v
 | .fr d=>∃ p,v=.ref p/\F p=none/\Own K F H p d/\B.H p=none/\∀ (i:Nat) (e:D),Hld Γ i e->σ[i]?≠some (some (V.ref p))
 | .rws xss=>∃ p qs,v=.ref p/\H p=some (.lst (qs.map V.ref))/\(p::qs).Nodup/\eZ K F H qs xss/\∀ z,z∈p::qs->F z=none/\B.H z=none/\∀ (i:Nat) (e:D),Hld Γ i e->σ[i]?≠some (some (V.ref z))
 | .two xs ys=>∃ t p q vs ws,v=.ref t/\H t=some (.tup [.ref p,.ref q])/\H p=some (.lst vs)/\H q=some (.lst ws)/\aC K F xs vs/\aC K F ys ws/\p≠q/\∀ z,z=t\/z=p\/z=q->F z=none/\B.H z=none/\∀ (i:Nat) (e:D),Hld Γ i e->σ[i]?≠some (some (V.ref z))
theorem En.Bx:∀ {qs:La0} {xss:List (List D)} {F:Hp},En K B F σ H Γ->eZ K F H qs xss->qs.Nodup->(∀ z∈qs,F z=none/\B.H z=none/\∀ (i:Nat) (e:D),Hld Γ i e->σ[i]?≠some (some (V.ref z)))->
  ∃ F',aB F F'/\En K B F' σ H Γ/\aC K F' (xss.map .lst) (qs.map V.ref)/\∀ z,z∉qs->F' z=F z
 | [],_,F,e,h,_,_=>by cases h;exact#[F,aB.refl F,e,rfl,λ_ _=>rfl]
 | q::qs,_,F,e,⟨J,I,g,v,u,t,s⟩,m,j=>by
  subst v;let#[p,n]:=jl.mp m;let#[k,G,E]:=j q (.head _);have x:=e.freeze k u G E;have d:=aY (o:=.lst g) k;let#[F',f,y,l,r]:=En.Bx (qs:=qs) x (s.mono d λ_ _=>rfl) n λz c=>by
   let#[C,b2,A]:=j z (.tail _ c);exact#[by rw[ao (a:=q) (b:=z) (λw=>p (by rw[<- w];exact c))];exact C,b2,A]
  refine#[F',d.trans f,y,#[_,_,rfl,#[q,g,rfl,f _ _ aw,t.mono (d.trans f)],l],λz c=>?_];rw[cm,not_or] at c;rw[r z c.2,ao c.1]
theorem En.A6(e:En K B F σ H Γ){qs:La0}{a:List (List D)}(l:H p=some (.lst (qs.map V.ref)))(f:(p::qs).Nodup)(r:eZ K F H qs a)(b:∀ z,z∈p::qs->F z=none/\B.H z=none/\∀ (i:Nat) (e:D),Hld Γ i e->σ[i]?≠some (some (V.ref z))) :
  ∃ F',aB F F'/\En K B F' σ H Γ/\F' p=none/\Own K F' H p (.lst (a.map .lst)):=by
 let#[h,g]:=jl.mp f;let#[F',c,m,d,j]:=e.Bx r g λz k=>b z (.tail _ k);exact#[F',c,m,(j p h).trans (b p (.head _)).1,_,l,d]
theorem En.frozen(e:En K B F σ H Γ){v:V}:∀ {r:RV},mJ K B F σ H Γ v r->∃ F',aB F F'/\En K B F' σ H Γ/\Rep K F' r.d v
 | .fz d,h=>#[F,aB.refl F,e,h]
 | .fr d,Z=>by
  let#[p,g,a,b,f,c]:=Z;subst g;let#[o,x]:=b.some;exact#[upd F p o,aY a,e.freeze a x f c,b.rep a x]
 | .rws E,Z=>by
  let#[p,Y,g,a,b,f,c]:=Z;subst g;let#[F',G,O,n,I]:=e.A6 a b f c;let#[_,b2,s]:=c p (.head _);exact#[_,G.trans (aY n),O.freeze n a b2 s,I.rep n a]
 | .two X W,Z=>by
  let#[t,p,q,i,ws,g,a,b,f,c,J,y,m]:=Z;subst g;let#[U,T,S]:=m t (.inl rfl);let#[D,b2,s]:=m p (.inr (.inl rfl));let#[R,Q,P]:=m q (.inr (.inr rfl));have w:t≠p:=λz=>by rw[z,b] at a;cases a
  have u:t≠q:=λz=>by rw[z,f] at a;cases a
  have N:=e.freeze D b b2 s;have C:upd F p (.lst i) q=none:=by rw[ao (lj y)];exact R
  have M:=N.freeze C f Q P;have A:upd (upd F p (.lst i)) q (.lst ws) t=none:=by rw[ao u,ao w];exact U
  have L:=M.freeze A a T S;have l:=aY (o:=.lst i) D;have k:=aY (o:=.lst ws) C;have j:=aY (o:=.tup [.ref p,.ref q]) A;exact#[_,(l.trans k).trans j,L,t,_,rfl,aw,#[_,_,rfl,#[p,i,rfl,by rw[ao (lj w),ao y];exact aw,(c.mono ((l.trans k).trans j))],_,_,rfl,#[q,ws,rfl,by rw[ao (lj u)];exact aw,J.mono ((l.trans k).trans j)],rfl]]
theorem En.norm(e:En K B F σ H Γ){v:V}:∀ {r:RV},mJ K B F σ H Γ v r->∃ F' b,aB F F'/\En K B F' σ H Γ/\mJ K B F' σ H Γ v b/\b.sl=r.sl/\b.pl=true
 | .fz d,h=>#[F,.fz d,aB.refl F,e,h,rfl,rfl]
 | .fr d,h=>#[F,.fr d,aB.refl F,e,h,rfl,rfl]
 | .rws a,Z=>by
  let#[p,u,l,o,n,m,f]:=Z;subst l;let#[F',j,c,q,k]:=e.A6 o n m f;let#[_,b2,t]:=f p (.head _);exact#[F',.fr (.lst (a.map .lst)),j,c,#[p,rfl,q,k,b2,t],rfl,rfl]
 | .two i g,h=>by
  let#[F',s,c,r]:=e.frozen h;exact#[F',.fz (.tup [.lst i,.lst g]),s,c,r,rfl,rfl]
def Po (K:Fg0)(B:Bs)(F:Hp)(σ:St)(Q:RV->G->Prop):VK:=λv H'=>∃ F' Γ' r,aB F F'/\En K B F' σ H' Γ'/\mJ K B F' σ H' Γ' v r/\Q r Γ'
abbrev TE3:=G->(RV->G->Prop)->Prop
def Ref (K:Fg0)(t:TE)(a:TE3):Prop:=∀ (B:Bs) (F:Hp) (σ:St) (H:Hp) (Γ:G) (Q:RV->G->Prop) (QQ:VK),En K B F σ H Γ->a Γ Q->(∀ v H',Po K B F σ Q v H'->QQ v H')->t σ H QQ
theorem Po.mono{Q:RV->G->Prop}{v:V}(s:aB F F')(h:Po K B F' σ Q v H):Po K B F σ Q v H:=by
 let#[F2,c,r,a,b]:=h;exact#[F2,c,r,s.trans a,b]
theorem iR(e:En K B F σ H Γ){Q:RV->G->Prop}{v:V}{d:D}(r:Rep K F d v)(q:Q (.fz d) Γ):Po K B F σ Q v H:=#[F,Γ,.fz d,aB.refl F,e,r,q]
theorem En.sX(e:En K B F σ H Γ)(b:H l=none):∀ (i:Nat) (d:D),Hld Γ i d->σ[i]?≠some (some (V.ref l)):=λi d h z=>by
 let#[p,f,g,c]:=e.hl i d h;rw[f] at z;cases z;let#[o,a]:=c.some;rw[b] at a;cases a
theorem En.nof(e:En K B F σ H Γ)(a:H l=none):F l=none:=by
 cases q:F l with
 | none=>rfl
 | some o=>have:=e.sub _ _ q;rw[a] at this;cases this
theorem l8(e:En K B F σ H Γ){Q:RV->G->Prop}{vs:List V}{xs:List D}(a:H l=none)(r:aC K F xs vs)(q:Q (.fr (.lst xs)) Γ):Po K B F σ Q (.ref l) (upd H l (.lst vs)):=
 #[F,Γ,.fr (.lst xs),aB.refl F,e.alloc a _,#[l,rfl,e.nof a,#[vs,aw,r],e.dom _ a,e.sX a],q]
theorem wo(e:En K B F σ H Γ){Q:RV->G->Prop}{vs:List V}{xs:List D}(a:H l=none)(r:aC K F xs vs)(q:Q (.fz (.tup xs)) Γ):Po K B F σ Q (.ref l) (upd H l (.tup vs)):=
 #[upd F l (.tup vs),Γ,.fz (.tup xs),aY (e.nof a),(e.alloc a _).freeze (e.nof a) aw (e.dom _ a) (e.sX a),#[l,vs,rfl,aw,r.mono (aY (e.nof a))],q]
set_option backward.eqns.nonrecursive false in
def iO (i:Nat)(Γ:G)(Q:RV->G->Prop):Prop:=match Γ[i]? with
 | some (some (.fz d))=>Q (.fz d) Γ
 | some (some (.ow d))=>Q (.fz d) (Γ.set i (some (Sl.fz d)))
 | _=>False
theorem bh{b:Type}{l:List b}{a:b}(h:i≠j):(l.set i a)[j]?=l[j]?:=by rw[Ss,if_neg h]
theorem tV{c:Type}{l:List c}{a b:c}(h:l[i]?=some b):(l.set i a)[i]?=some a:=by
 rw[Ss,if_pos rfl,if_pos (gS0 h).1]
theorem En.give(e:En K B F σ H Γ){d:D}(h:Γ[i]?=some (some (Sl.ow d))):∃ F' p,aB F F'/\σ[i]?=some (some (V.ref p))/\Rep K F' d (.ref p)/\En K B F' σ H (Γ.set i (some (Sl.fz d))):=by
 let#[p,m,l,s]:=e.hl i d (.inl h);let#[o,r]:=s.some;have n:=s.rep l r;have back:∀ {j u},j≠i->(Γ.set i (some (Sl.fz d)))[j]?=u->Γ[j]?=u:=λC q=>by rw[bh (lj C)] at q;exact q
 have f:∀ {j x},Hld (Γ.set i (some (Sl.fz d))) j x->j≠i/\Hld Γ j x:=λ{j x} q=>by
  by_cases z:j=i
  .subst z;rcases q with q | q <;> rw[tV h] at q <;> cases q
  .exact#[z,q.imp (back z) (back z)]
 refine#[upd F p o,p,aY l,m,n,?_,?_,?_,?_,?_,?_,?_,?_,?_,?_,e.rest,e.dom]
 .intro b u q;by_cases z:b=p
  .subst z;rw[aw] at q;cases q;exact r
  .rw[ao z] at q;exact e.sub b u q
 .rw[rx];exact e.len
 .intro j x q;by_cases z:j=i
  .subst z;rw[tV h] at q;cases q;exact#[_,m,n]
  .let#[v,a,b]:=e.fz j x (back z q);exact#[v,a,b.mono (aY l)]
 .intro j x q;let#[z,q]:=f q;let#[g,a,b,c]:=e.hl j x q;have A:g≠p:=λy=>z (e.dis j i x d p q (.inl h) (y ▸ a) m);exact#[g,a,by rw[ao A];exact b,c.mono (aY l) rfl]
 .intro j x g q a;let#[z,_]:=f (.inl q);exact e.ow j x g (back z q) a
 .intro j x g q a;let#[z,_]:=f (.inr q);exact e.ln j x g (back z q) a
 .intro j k x y g w t;exact e.dis j k x y g (f w).2 (f t).2
 .intro j g q;let#[a,y,b]:=e.par j g q;have z:j≠i:=λz=>by subst z;rw[h] at b;cases b
  exact#[a,y,by rw[bh (lj z)];exact b]
 .exact e.keep.trans (aY l)
 .intro b u q;by_cases z:b=p
  .subst z;exact .inr (e.ow i d _ h m)
  .rw[ao z] at q;exact e.new b u q
theorem G9(i:Nat):Ref K (eE i) (iO i):=by
 intro B F g H j Q l e h k;delta iO at h;split at h
 .rename_i d q;let#[v,b,a]:=e.fz i d q;exact#[v,b,k _ _ (iR e a h)]
 .rename_i d q;let#[f,p,s,b,a,c]:=e.give q;exact#[_,b,k _ _ #[f,_,.fz d,s,c,a,h]]
 .exact h.elim
def t3C (d:D)(Γ:G)(Q:RV->G->Prop):Prop:=Q (.fz d) Γ
theorem sC{v:V}{d:D}(h:∀ F,Rep K F d v):Ref K (tC v) (t3C d):=λB F a H b Q c e q k=>k _ _ (iR e (h F) q)
inductive Bo where
 | d (x:D) | v (i:Nat)
noncomputable def bare:D->D
 | .cel _ xs=>.lst xs
 | .non=>.non
 | .bl b=>.bl b
 | .int i=>.int i
 | .str x=>.str x
 | .lst xs=>.lst xs
 | .tup xs=>.tup xs
 | .ktup xs=>.ktup xs
 | .ins C ns xs=>.ins C ns xs
 | .scr ns=>.scr ns
 | .ty n=>.ty n
 | .adr a=>.adr a
 | .exc C ns xs=>.exc C ns xs
 | .dct=>.dct
 | .dcs k i=>.dcs k i
 | .mp k=>.mp k
set_option backward.eqns.nonrecursive false in
noncomputable def Gat (Γ:G)(i:Nat):Option D:=match Γ[i]? with
 | some (some (.fz d))=>some d
 | some (some (.ow d))=>some (bare d)
 | some (some (.ln d))=>some (bare d)
 | _=>none
set_option backward.eqns.nonrecursive false in
noncomputable def Bo.at (Γ:G):Bo->Option D
 | .d x=>some x
 | .v i=>Gat Γ i
noncomputable def qJ (K:Fg0)(F:Hp)(σ:St):Bo->V->Prop
 | .d x,v=>Rep K F x v
 | .v i,v=>σ[i]?=some (some v)
noncomputable def iG (K:Fg0)(F H:Hp):D->V->Prop
 | .lst xs,v=>∃ p vs,v=.ref p/\H p=some (.lst vs)/\aC K F xs vs
 | .cel q xs,v=>v=.ref q/\∃ vs,H q=some (.lst vs)/\aC K F xs vs
 | .ins C ns xs,v=>∃ p dx a,v=.ref p/\H p=some (.ins C dx a)/\a.map (·.1)=ns/\aC K F xs (a.map (·.2))
 | d,v=>Rep K F d v
theorem Rep.b(s:aB F H):∀ {d:D} {v:V},Rep K F d v->iG K F H d v
 | .non,_,h=>h
 | .bl _,_,h=>h
 | .int _,_,h=>h
 | .str _,_,h=>h
 | .ty _,_,h=>h
 | .adr _,_,h=>h
 | .exc _ _ _,_,h=>h
 | .dct,_,h=>h
 | .dcs _ _,_,h=>h
 | .mp _,_,h=>h
 | .cel _ _,_,⟨e,f,c,a⟩=>#[e,f,s _ _ c,a]
 | .scr _,_,h=>h
 | .tup _,_,h=>h
 | .ktup _,_,h=>h
 | .lst _,_,⟨p,f,e,c,a⟩=>#[p,f,e,s _ _ c,a]
 | .ins _ _ _,_,⟨p,j,i,e,c,a,g⟩=>#[p,j,i,e,s _ _ c,a,g]
theorem Own.b:∀ {d:D},Own K F H p d->iG K F H (bare d) (.ref p)
 | .lst _,⟨e,c,a⟩=>#[p,e,rfl,c,a]
 | .cel _ _,Z=>by let#[z,e,c,a]:=Z;exact#[_,e,rfl,c,a]
 | .ins _ _ _,⟨h,g,c,a,f⟩=>#[p,h,g,rfl,c,a,f]
theorem qJ.mono(s:aB F F'):∀ {a:Bo} {v:V},qJ K F σ a v->qJ K F' σ a v
 | .d _,_,h=>Rep.mono s h
 | .v _,_,h=>h
theorem En.get(e:En K B F σ H Γ){d:D}(h:Gat Γ i=some d):∃ v,σ[i]?=some (some v)/\iG K F H d v:=by
 delta Gat at h;split at h
 .cases h;rename_i q;let#[v,a,c]:=e.fz i _ q;exact#[v,a,c.b e.sub]
 .cases h;rename_i q;let#[p,a,c,b]:=e.hl i _ (.inl q);exact#[_,a,b.b]
 .cases h;rename_i q;let#[p,a,c,b]:=e.hl i _ (.inr q);exact#[_,a,b.b]
 .cases h
theorem En.bo (e:En K B F σ H Γ):∀ {bo:Bo} {v:V} {d:D},qJ K F σ bo v->bo.at Γ=some d->iG K F H d v
 | .d x,v,d,h,q=>by cases q;exact Rep.b e.sub h
 | .v i,v,d,h,q=>by
  let#[u,a,b]:=e.get q;rw[show σ[i]?=some (some v) from h] at a;cases a;exact b
abbrev Tag {a:Sort _}(_:a):Type:=Unit
def m1 (o:Option D)(k:D->Prop)(_:Tag k):Prop:=match o with
 | some d=>k d
 | none=>False
theorem oC{d:D}{k:D->Prop}{t:Tag k}:m1 (some d) k t=k d:=rfl
theorem oCi{d:D}{k:D->Prop}{t:Tag k}:m1 (some d) k t=k d:=id rfl
theorem cA{o:Option D}{k:D->Prop}{t:Tag k}:m1 o k t↔∃ d,o=some d/\k d:=by
 cases o with
 | none=>exact#[λh=>h.elim,λZ=>by let#[_,h,_]:=Z;cases h]
 | some d=>exact#[λh=>#[d,rfl,h],λZ=>by let#[_,h,q]:=Z;cases h;exact q]
def bT (c:Bool)(p q:Prop)(_:Tag p)(_:Tag q):Prop:=match c with
 | true=>p
 | false=>q
def mL (o:Option (List D))(k:List D->Prop)(_:Tag k):Prop:=match o with
 | some d=>k d
 | none=>False
def mI (o:Option D)(k:Int->Prop)(_:Tag k):Prop:=match o with
 | some (.int d)=>k d
 | _=>False
theorem cIa{o:Option D}{k:Int->Prop}{t:Tag k}(h:mI o k t):∃ j,o=some (.int j)/\k j:=by
 rcases o with _|d
 .exact h.elim
 cases d <;> first | exact h.elim | exact#[_,rfl,h]
noncomputable def o1a:List D->Option D
 | [d]=>some d
 | _=>none
theorem o1s{ds:List D}{d:D}(h:o1a ds=some d):ds=[d]:=by
 rcases ds with _|⟨a,_|⟨b,c⟩⟩
 .cases h
 .cases h;rfl
 .cases h
theorem o1b{d:D}:o1a [d]=some d:=rfl
noncomputable def ast:D->Option (List D)
 | .tup xs=>some xs
 | _=>none
theorem ast_{d:D}{xs:List D}(h:ast d=some xs):d=.tup xs:=by cases d <;> cases h;rfl
theorem astb{xs:List D}:ast (.tup xs)=some xs:=rfl
theorem cLa{o:Option (List D)}{k:List D->Prop}{t:Tag k}:mL o k t↔∃ d,o=some d/\k d:=by
 cases o with
 | none=>exact#[λh=>h.elim,λZ=>by let#[_,h,_]:=Z;cases h]
 | some d=>exact#[λh=>#[d,rfl,h],λZ=>by let#[_,h,q]:=Z;cases h;exact q]
abbrev TB3:=G->(Bo->G->Prop)->Prop
def PoB (K:Fg0)(B:Bs)(F:Hp)(σ:St)(Q:Bo->G->Prop):VK:=λv H'=>∃ F' Γ' a,aB F F'/\En K B F' σ H' Γ'/\qJ K F' σ a v/\Q a Γ'
def ug (K:Fg0)(t:TE)(a:TB3):Prop:=∀ (B:Bs) (F:Hp) (σ:St) (H:Hp) (Γ:G) (Q:Bo->G->Prop) (QQ:VK),En K B F σ H Γ->a Γ Q->(∀ v H',PoB K B F σ Q v H'->QQ v H')->t σ H QQ
def bor (i:Nat)(Γ:G)(Q:Bo->G->Prop):Prop:=m1 (Gat Γ i) (λ_=>Q (.v i) Γ) ⟨⟩
def bof (a:TE3)(Γ:G)(Q:Bo->G->Prop):Prop:=a Γ λx ak=>Q (.d x.d) ak
theorem DT(i:Nat):ug K (eE i) (bor i):=by
 intro B F c H b Q f e q k;let#[d,hd,q]:=cA.1 q;let#[v,a,_]:=e.get hd;exact#[v,a,k _ _ #[F,b,.v i,aB.refl F,e,a,q]]
theorem G8{t:TE}{g:TE3}(h:Ref K t g):ug K t (bof g):=by
 intro B F i H j Q p e q k;refine h B F i H j _ _ e q (λv r Z=>?_);let#[F1,a,x,l,o,m,n]:=Z;let#[f,b,d,c]:=o.frozen m;exact k _ _ #[f,a,.d x.d,l.trans b,d,c,n]
def jI (K:Fg0)(r:R2)(op:D->D->TE3):Prop:=∀ (B:Bs) (F:Hp) (σ:St) (H:Hp) (Γ:G) (x y:V) (dx a:D) (Q:RV->G->Prop) (QQ:VK),En K B F σ H Γ->iG K F H dx x->iG K F H a y->op dx a Γ Q->(∀ v H',Po K B F σ Q v H'->QQ v H')->r x y H QQ
def bU (op:D->D->TE3)(d c:TB3)(Γ:G)(Q:RV->G->Prop):Prop:=d Γ λx ak=>c ak λy a=>m1 (x.at a) (λdx=>m1 (y.at a) (λb=>op dx b a Q) ⟨⟩) ⟨⟩
theorem gq{r:R2}{f:TE}{j i:TB3}{op:D->D->TE3}(h:jI K r op)(A:ug K ta j)(w:ug K f i):Ref K (tOp r ta f) (bU op j i):=by
 intro B F a H l Q L e q k;refine A B F a H l _ _ e q (λv O Z=>?_);let#[F1,c,x,m,G,o,t]:=Z;refine w B F1 a O c _ _ G t (λu N Z=>?_);let#[F2,b,y,g,d,n,Z]:=Z;let#[J,E,Z]:=cA.1 Z;let#[I,C,s]:=cA.1 Z;exact h B F2 a N b v u J I Q L d (d.bo (o.mono g) E) (d.bo n C) s λz M p=>k z M (p.mono (m.trans g))
def Cb (op:D->TE3)(a:TB3)(Γ:G)(Q:RV->G->Prop):Prop:=a Γ λx ak=>m1 (x.at ak) (λdx=>op dx ak Q) ⟨⟩
def PN (K:Fg0)(r:V->Hp->VK->Prop)(op:D->TE3):Prop:=∀ (B:Bs) (F:Hp) (σ:St) (H:Hp) (Γ:G) (x:V) (dx:D) (Q:RV->G->Prop) (QQ:VK),En K B F σ H Γ->iG K F H dx x->op dx Γ Q->(∀ v H',Po K B F σ Q v H'->QQ v H')->r x H QQ
theorem zo{r:V->Hp->VK->Prop}{c:TB3}{op:D->TE3}(h:PN K r op)(j:ug K ta c):Ref K (λσ H Q=>ta σ H λx H1=>r x H1 Q) (Cb op c):=by
 intro B F σ H d Q n e q k;refine j B F σ H d _ _ e q (λv H1 Z=>?_);let#[F1,a,x,f,b,g,Z]:=Z;let#[m,l,i]:=cA.1 Z;exact h B F1 σ H1 a v m Q n b (b.bo g l) i λz o p=>k z o (p.mono f)
end
variable {a e:S9}{tc:_2.TT}{c3:List _3.D->_3.TE3}{e3:_3.TE3}{B:_3.Bs}{Γ aH Γ':_3.G}{Q:_3.RV->_3.G->Prop}{v:_2.V}{pos' px spos:Wc}{C:Int->Int->Prop}{op:Xx}{r:List _2.V->_2.Hp->_2.VK->Prop}{o3:_3.D->_3.D->_3.TE3}{vs:List _2.V}{xs ys:List _3.D}{ls:On}{aS:_2.St}{k3:_3.TB3}{QQ:List _2.V->_2.St->_2.Hp->Prop}{wi1:_2.TI}{g1:_2.TG}
open PySem _2 PySem.Spec PyProof.Rows
structure P3 (K:Fg0) (X:Cx) (e:Expr) (t:TE) (t3:TE3):Prop where
 pe:PE X e t
 rf:Ref K t t3
structure P3B (K:Fg0) (X:Cx) (e:Expr) (t:TE) (t3:TB3):Prop where
 pe:PE X e t
 rf:ug K t t3
section
variable {b c:Expr}{tb tc:TE}{a3 b3 c3:TB3}
theorem P3.opd(h:P3 K X a ta e3):P3B K X a ta (bof e3):=#[h.pe,G8 h.rf]
theorem bv(i:Nat){x:Str}(c:autoParam (X.N[i]?=some x) wE)(b:autoParam (Vis X.env.scope x) wq1)(hd:autoParam (Yk x) wP)(a:autoParam ((x == ("__classdict__":Str))=false) wP):P3B K X (.Name x pos) (eE i) (bor i):=#[i8 c b hd a,DT i]
theorem gr{i:Int}(e:En K B F σ H Γ)(q:Q (.fz (.int i)) Γ):Po K B F σ Q (.int i) H:=iR (d:=.int i) e rfl q
theorem jT{i:Str}(e:En K B F σ H Γ)(q:Q (.fz (.str i)) Γ):Po K B F σ Q (.str i) H:=iR (d:=.str i) e rfl q
theorem mP{i:Bool}(e:En K B F σ H Γ)(q:Q (.fz (.bl i)) Γ):Po K B F σ Q (.bl i) H:=iR (d:=.bl i) e rfl q
theorem p3v(i:Nat){x:Str}(c:autoParam (X.N[i]?=some x) wE)(b:autoParam (Vis X.env.scope x) wq1)(hd:autoParam (Yk x) wP)(a:autoParam ((x == ("__classdict__":Str))=false) wP):P3 K X (.Name x pos) (eE i) (iO i):=#[i8 c b hd a,G9 i]
theorem ae{i j pos}:P3 K X (.Constant (.int i) j pos) (tC (.int i)) (t3C (.int i)):=#[zC,sC λ_=>rfl]
theorem WZ{i j pos}:P3B K X (.Constant (.int i) j pos) (tC (.int i)) (bof (t3C (.int i))):=P3.opd ae
theorem jm{i j pos}:P3 K X (.Constant (.bool i) j pos) (tC (.bl i)) (t3C (.bl i)):=#[N7,sC λ_=>rfl]
theorem zE{j pos}:P3 K X (.Constant .none j pos) (tC .non) (t3C .non):=#[K7,sC λ_=>rfl]
theorem bE{x j pos}:P3 K X (.Constant (.str x) j pos) (tC (.str x)) (t3C (.str x)):=#[Ee,sC λ_=>rfl]
theorem wA{x:Str}{i:Int}(b:Gl X x)(a:∃ t,X.mg x=some (.int i t))(hd:autoParam (Yk x) wP):P3 K X (.Name x pos) (tC (.int i)) (t3C (.int i)):=
 #[let ⟨t,a⟩:=a;wt (v:=.int i) b a #[t,rfl] hd,sC λ_=>rfl]
theorem Lb{x y v:Int}{a:Pos}(h:x ^ y.toNat=v)(b:yV x y):P3 K X (.BinOp (.Constant (.int x) j pos') .Pow (.Constant (.int y) k a) pos) (tOp (rI yV λi j=>.int (i ^ j.toNat)) (tC (.int x)) (tC (.int y))) (t3C (.int v)):=
 #[mQ Lf zC zC,λB F d H f Q c e q k=>#[x,y,rfl,rfl,b,by show c (.int (x ^ y.toNat)) H;rw[h];exact k _ _ (gr e q)]]
set_option backward.eqns.nonrecursive false in
def i2 (C:Int->Int->Prop)(f:Int->Int->D)(x y:D)(Γ:G)(Q:RV->G->Prop):Prop:=match x,y with
 | .int i,.int j=>C i j/\Q (.fz (f i j)) Γ
 | _,_=>False
set_option backward.eqns.nonrecursive false in
def i2' (f:Int->Int->D)(x y:D)(Γ:G)(Q:RV->G->Prop):Prop:=match x,y with
 | .int i,.int j=>Q (.fz (f i j)) Γ
 | _,_=>False
theorem opI{f:Int->Int->D}{g:Int->Int->V}(h:∀ F i j,Rep K F (f i j) (g i j)):jI K (rI C g) (i2 C f):=by
 intro B F c H d x y m l Q n e b a q k;delta i2 at q;split at q
 .cases b;cases a;exact#[_,_,rfl,rfl,q.1,k _ _ (iR e (h F _ _) q.2)]
 .exact q.elim
theorem xT{f:Int->Int->D}{g:Int->Int->V}(h:∀ F i j,Rep K F (f i j) (g i j)):jI K (rI0 g) (i2' f):=by
 intro B F c H d x y m l Q n e b a q k;delta i2' at q;split at q
 .cases b;cases a;exact#[_,_,rfl,rfl,k _ _ (iR e (h F _ _) q)]
 .exact q.elim
set_option backward.eqns.nonrecursive false in
def q9 (x y:D)(Γ:G)(Q:RV->G->Prop):Prop:=match x,y with
 | .int i,.int j=>Q (.fz (.int (i + j))) Γ
 | .lst xs,.lst ys=>xs.length + ys.length<=sizeLine/\Q (.fr (.lst (xs++ys))) Γ
 | .str i,.str j=>i.length + j.length<=sizeLine/\Q (.fz (.str (i++j))) Γ
 | _,_=>False
theorem aC.length:∀ {xs:List D} {vs:List V},aC K F xs vs->vs.length=xs.length
 | [],_,h=>by cases h;rfl
 | _::_,_,Z=>by let#[v,ws,b,c,a]:=Z;subst b;simp -iota [a.length]
theorem aC.append:∀ {xs ys:List D} {vs ws:List V},aC K F xs vs->aC K F ys ws->aC K F (xs++ys) (vs++ws)
 | [],_,_,_,h,a=>by cases h;exact a
 | _::_,_,_,_,⟨v,ws,d,c,b⟩,a=>by subst d;exact#[v,_,rfl,c,b.append a]
theorem aC.get:∀ {xs:List D} {vs:List V},aC K F xs vs->∀ {i:Nat} {d:D},xs[i]?=some d->∃ v,vs[i]?=some v/\Rep K F d v
 | [],_,_,i,d,e=>by simp -iota at e
 | x::xs,_,⟨v,ws,c,g,f⟩,0,d,e=>by subst c;simp -iota at e;subst e;exact#[v,rfl,g]
 | x::xs,_,⟨v,ws,c,g,f⟩,i + 1,d,e=>by
  subst c;let#[u,a,b]:=f.get (i:=i) (d:=d) (by simpa using e);exact#[u,by simpa using a,b]
theorem aC.E5:∀ {xs:List D} {vs:List V},aC K F xs vs->∀ {i:Nat} {v:V},vs[i]?=some v->∃ d,xs[i]?=some d/\Rep K F d v:=λ{xs vs} h {i v} e=>by
 have c:i < vs.length:=(gS0 e).1;rw[h.length] at c;let#[u,a,b]:=h.get (gE0 c);rw[e] at a;cases a;exact#[_,gE0 c,b]
theorem aC.take:∀ {xs:List D} {vs:List V} (n:Nat),aC K F xs vs->aC K F (xs.take n) (vs.take n)
 | _,_,0,_=>by simp -iota [aC]
 | [],_,n + 1,h=>by cases h;simp -iota [aC]
 | x::xs,_,n + 1,Z=>by let#[v,ws,c,b,a]:=Z;subst c;exact#[v,_,rfl,b,aC.take n a]
theorem aC.drop:∀ {xs:List D} {vs:List V} (n:Nat),aC K F xs vs->aC K F (xs.drop n) (vs.drop n)
 | _,_,0,h=>h
 | [],_,n + 1,h=>by cases h;simp -iota [aC]
 | x::xs,_,n + 1,Z=>by let#[v,ws,b,c,a]:=Z;subst b;exact aC.drop n a
theorem aC.set{d:D}(r:Rep K F d v):∀ {xs:List D} {vs:List V} (n:Nat),aC K F xs vs->aC K F (xs.set n d) (vs.set n v)
 | [],_,_,h=>by cases h;simp -iota [aC]
 | x::xs,_,0,Z=>by let#[u,ws,b,c,a]:=Z;subst b;exact#[v,ws,rfl,r,a]
 | x::xs,_,n + 1,Z=>by let#[u,ws,b,c,a]:=Z;subst b;exact#[u,_,rfl,c,aC.set r n a]
theorem aC.ints:∀ (ns:Li0),aC K F (ns.map D.int) (ns.map V.int)
 | []=>rfl
 | n::ns=>#[_,_,rfl,rfl,aC.ints ns]
theorem aC.fZ:∀ {ns:Li0} {vs:List V},aC K F (ns.map D.int) vs->vs=ns.map V.int
 | [],_,h=>h
 | n::ns,_,Z=>by
  let#[v,ws,c,b,a]:=Z;rw[c,aC.fZ a];have:v=.int n:=b;rw[this];rfl
abbrev Cm:R2:=λx y H Q=>rI0 (λi j=>.int (i + j)) x y H Q\/NZ x y H Q\/(∃ i j,x=.str i/\y=.str j/\i.length + j.length<=sizeLine/\Q (.str (i++j)) H)
theorem HM:OpR X (Q5 .Add) Cm:=Lo.or (Ln.or zF)
theorem addRef:jI K Cm q9:=by
 intro B F m H n x y r o Q s e b a q k;delta q9 at q;split at q
 .cases b;cases a;exact .inl #[_,_,rfl,rfl,k _ _ (gr e q)]
 .let#[p,f,rfl,j,d]:=b;let#[g,ws,rfl,i,c]:=a;refine .inr (.inl #[p,g,f,ws,rfl,rfl,j,i,by rw[d.length,c.length];exact q.1,λl h=>k _ _ (l8 e h (d.append c) q.2)])
 .cases b;cases a;exact .inr (.inr #[_,_,rfl,rfl,q.1,k _ _ (jT e q.2)])
 .exact q.elim
theorem aZ(d:P3B K X a ta a3)(c:P3B K X b tb b3):P3 K X (.BinOp a .Add b pos) (tOp Cm ta tb) (bU q9 a3 b3):=#[mQ HM d.pe c.pe,gq addRef d.rf c.rf]
theorem cy(d:P3B K X a ta a3)(c:P3B K X b tb b3):P3 K X (.BinOp a .Sub b pos) (tOp (rI0 λi j=>.int (i - j)) ta tb) (bU (i2' λi j=>.int (i - j)) a3 b3):=#[mQ Ld d.pe c.pe,gq (xT λ_ _ _=>rfl) d.rf c.rf]
theorem bO(d:P3B K X a ta a3)(c:P3B K X b tb b3):P3 K X (.BinOp a .Mult b pos) (tOp (rI uj λi j=>.int (i * j)) ta tb) (bU (i2 uj λi j=>.int (i * j)) a3 b3):=#[mQ Lh d.pe c.pe,gq (opI λ_ _ _=>rfl) d.rf c.rf]
theorem gM(d:P3B K X a ta a3)(c:P3B K X b tb b3):P3 K X (.BinOp a .FloorDiv b pos) (tOp (rI M8 λi j=>.int (i / j)) ta tb) (bU (i2 M8 λi j=>.int (i / j)) a3 b3):=#[mQ HL d.pe c.pe,gq (opI λ_ _ _=>rfl) d.rf c.rf]
theorem pX(d:P3B K X a ta a3)(c:P3B K X b tb b3):P3 K X (.BinOp a .Mod b pos) (tOp (rI (λ_ j=>0 < j) λi j=>.int (i % j)) ta tb) (bU (i2 (λ_ j=>0 < j) λi j=>.int (i % j)) a3 b3):=#[mQ Lj d.pe c.pe,gq (opI λ_ _ _=>rfl) d.rf c.rf]
def qa (f:Int->Int->Bool)(x y:D)(Γ:G)(Q:RV->G->Prop):Prop:=i2' (λi j=>.bl (f i j)) x y Γ Q
noncomputable abbrev wX (i j:Int):Bool:=decide (i < j)
noncomputable abbrev E_ (i j:Int):Bool:=decide (i<=j)
noncomputable abbrev Io (i j:Int):Bool:=decide (j < i)
noncomputable abbrev oV (i j:Int):Bool:=decide (j<=i)
structure C3 (K:Fg0) (X:Cx) (op:CmpOp) (r:R2) (o3:D->D->TE3):Prop where
 op:OpR X (DA op) r
 rf:jI K r o3
theorem yL:C3 K X .Lt (rI0 λi j=>.bl (decide (i < j))) (qa wX):=#[Ob,xT λ_ _ _=>rfl]
theorem F_:C3 K X .LtE (rI0 λi j=>.bl (decide (i<=j))) (qa E_):=#[Oc,xT λ_ _ _=>rfl]
theorem yM:C3 K X .Gt (rI0 λi j=>.bl (decide (j < i))) (qa Io):=#[Od,xT λ_ _ _=>rfl]
theorem qI:C3 K X .GtE (rI0 λi j=>.bl (decide (j<=i))) (qa oV):=#[Oe,xT λ_ _ _=>rfl]
theorem cW{r:R2}(h:C3 K X op r o3)(d:P3B K X a ta a3)(c:P3B K X b tb b3)(e:SE op b=false):P3 K X (.Compare a [op] [b] pos) (tOp r ta tb) (bU o3 a3 b3):=#[Hz h.op d.pe c.pe e,gq h.rf d.rf c.rf]
set_option backward.eqns.nonrecursive false in
def vS (g e:D->D->TE3)(j i h:TB3)(Γ:G)(Q:RV->G->Prop):Prop:=j Γ λx ak=>i ak λy b=>∃ dx d,x.at b=some dx/\y.at b=some d/\g dx d b λz c=>match z with
 | .fz (.bl true)=>h c λw a=>∃ d f,y.at a=some d/\w.at a=some f/\e d f a Q
 | .fz (.bl false)=>Q (.fz (.bl false)) c
 | _=>False
theorem Ck{r C:R2}{d:D->D->TE3}(h:jI K r o3)(h':jI K C d)(S:ug K ta a3)(R:ug K tb b3)(P:ug K tc c3):Ref K (zc r C ta tb tc) (vS o3 d a3 b3 c3):=by
 intro B F c H G Q QQ e q k;refine S B F c H G _ _ e q (λv H1 Z=>?_);let#[F1,j,x,I,X,L,O]:=Z;refine R B F1 c H1 j _ _ X O (λu H2 Z=>?_);let#[F2,i,y,t,m,A,Y,n,W,V,N]:=Z;refine h B F2 c H2 i v u Y n _ _ m (m.bo (L.mono t) W) (m.bo A V) N λz H3 Z=>?_;let#[F3,g,z3,s,E,r3,b]:=Z;have a:=(I.trans t).trans s
 revert r3 b
 split
 .intro r3 b;refine#[true,r3,?_];rw[if_pos rfl];refine P B F3 c H3 g _ _ E b (λw H4 Z=>?_);let#[F4,f,w3,o,l,J,n,dw,U,T,M]:=Z;exact h' B F4 c H4 f u w n dw Q QQ l (l.bo (A.mono (s.trans o)) U) (l.bo J T) M λz H5 p=>k z H5 (p.mono (a.trans o))
 .intro r3 b;refine#[false,r3,?_];rw[if_neg (by simp)];exact k _ _ (Po.mono a (mP E b))
 .intro _ b;exact b.elim
theorem Et{d:CmpOp}{r f:R2}{e:D->D->TE3}(h:C3 K X op r o3)(h':C3 K X d f e)(j:P3B K X a ta a3)(i:P3B K X b tb b3)(g:P3B K X c tc c3)(k:autoParam (lastMarks [op,d] [b,c]=false) wq3) :
  P3 K X (.Compare a [op,d] [b,c] pos) (zc r f ta tb tc) (vS o3 e a3 b3 c3):=#[Ej h.op h'.op j.pe i.pe g.pe k,Ck h.rf h'.rf j.rf i.rf g.rf]
set_option backward.eqns.nonrecursive false in
def Lw (x:D)(Γ:G)(Q:RV->G->Prop):Prop:=match x with
 | .int i=>Q (.fz (.int (-i))) Γ
 | _=>False
theorem wx(b:P3B K X a ta a3):P3 K X (.UnaryOp .USub a pos) (tUn (rU λi=>.int (-i)) ta) (Cb Lw a3):=#[N4 Kh b.pe,zo (r:=rU λi=>.int (-i)) (ta:=ta) (by
 intro B F d H f x g Q h e c q k;delta Lw at q;split at q
 .cases c;exact#[_,rfl,k _ _ (gr e q)]
 .exact q.elim) b.rf]
end
abbrev TT3:=G->(Bool->G->Prop)->Prop
noncomputable def PoT (K:Fg0)(B:Bs)(F:Hp)(σ:_2.St)(Q:Bool->G->Prop):Bool->Hp->Prop:=λb H'=>∃ F' Γ',aB F F'/\En K B F' σ H' Γ'/\Q b Γ'
def q_ (K:Fg0)(t:TT)(a:TT3):Prop:=∀ (B:Bs) (F:Hp) (σ:_2.St) (H:Hp) (Γ:G) (Q:Bool->G->Prop) (QQ:Bool->Hp->Prop),En K B F σ H Γ->a Γ Q->(∀ b H',PoT K B F σ Q b H'->QQ b H')->t σ H QQ
structure P3T (K:Fg0) (X:Cx) (e:Expr) (t:TT) (t3:TT3):Prop where
 pe:PT X e t
 rf:q_ K t t3
structure P3W (K:Fg0) (X:Cx) (e:Expr) (t:TT) (t3:TT3):Prop where
 pe:PW X e t
 rf:q_ K t t3
section
variable {b c:Expr}{tb tc:TE}{a3 b3 c3:TE3}{a3' b3' c3':TB3}{tA tB':TT}{A3 B3:TT3}{rest:List Expr}
def tst (a:TE3)(Γ:G)(Q:Bool->G->Prop):Prop:=a Γ λx ak=>match x.d with
 | .bl k=>Q k ak
 | _=>False
theorem PoT.mono{Q:Bool->G->Prop}{k:Bool}(s:aB F F')(h:PoT K B F' σ Q k H):PoT K B F σ Q k H:=by
 let#[F2,c,a,b]:=h;exact#[F2,c,s.trans a,b]
theorem Jq(h:Ref K ta a3):q_ K (λσ H Q=>ta σ H λx H1=>∃ c,x=.bl c/\Q c H1) (tst a3):=by
 intro B F σ H j Q p e q k;refine h B F σ H j _ _ e q (λv H1 Z=>?_);let#[F1,d,x,l,o,m,b]:=Z;let#[i,f,g,a]:=o.frozen m
 revert a b
 split
 .rename_i n;intro b a;rw[n] at a;exact#[_,a,k _ _ #[i,d,l.trans f,g,b]]
 .intro b;exact b.elim
theorem bX{t:TE}(h:P3 K X e t e3)(b:autoParam (∀ a,isTrue e X.env a=(do let v <- a;IR e.pos;holding [v] (truthy v))) wT):P3T K X e (tB t) (tst e3):=#[KS h.pe b,Jq h.rf]
theorem aP{r:R2}(h:C3 K X op r o3)(d:P3B K X a ta a3')(c:P3B K X b tb b3')(e:SE op b=false):P3T K X (.Compare a [op] [b] pos) (Jh (tOp r ta tb)) (tst (bU o3 a3' b3')):=
 #[Hk h.op d.pe c.pe e,Jq (gq h.rf d.rf c.rf)]
def MN (a B3:TT3)(Γ:G)(Q:Bool->G->Prop):Prop:=a Γ λc ak=>bT c (B3 ak Q) (Q false ak) ⟨⟩ ⟨⟩
def or3 (a B3:TT3)(Γ:G)(Q:Bool->G->Prop):Prop:=a Γ λc ak=>bT c (Q true ak) (B3 ak Q) ⟨⟩ ⟨⟩
def Lr (a:TT3)(Γ:G)(Q:Bool->G->Prop):Prop:=a Γ λc ak=>Q (!c) ak
theorem He(j:q_ K tA A3)(i:q_ K tB' B3):q_ K (Ks tA tB') (MN A3 B3):=by
 intro B F b H h Q m e q k;refine j B F b H h _ _ e q (λc l Z=>?_);let#[F1,a,d,g,f]:=Z;cases c with
 | true=>exact zX (i B F1 b l a _ _ g f λc n p=>k _ _ (p.mono d))
 | false=>exact zY (k _ _ #[F1,a,d,g,f])
theorem KL(j:q_ K tA A3)(i:q_ K tB' B3):q_ K (tOr tA tB') (or3 A3 B3):=by
 intro B F b H h Q m e q k;refine j B F b H h _ _ e q (λc l Z=>?_);let#[F1,a,d,g,f]:=Z;cases c with
 | true=>exact zX (k _ _ #[F1,a,d,g,f])
 | false=>exact zY (i B F1 b l a _ _ g f λc n p=>k _ _ (p.mono d))
theorem Ha(h:q_ K tA A3):q_ K (Kp tA) (Lr A3):=by
 intro B F b H d Q j e q k;exact h B F b H d _ _ e q (λc l ⟨F1,a,f,i,g⟩=>k _ _ #[F1,a,f,i,g])
theorem sL(b:P3T K X a tA A3):P3W K X (.BoolOp .And [a] pos) tA A3:=#[Hh b.pe,b.rf]
theorem iS(b:P3T K X a tA A3):P3W K X (.BoolOp .Or [a] pos) tA A3:=#[KP b.pe,b.rf]
theorem wu(d:P3T K X a tA A3)(c:P3W K X (.BoolOp .And (b::rest) pos) tB' B3):P3W K X (.BoolOp .And (a::b::rest) pos) (Ks tA tB') (MN A3 B3):=#[KQ d.pe c.pe,He d.rf c.rf]
theorem k8(d:P3T K X a tA A3)(c:P3W K X (.BoolOp .Or (b::rest) pos) tB' B3):P3W K X (.BoolOp .Or (a::b::rest) pos) (tOr tA tB') (or3 A3 B3):=#[N0 d.pe c.pe,KL d.rf c.rf]
theorem P3W.pt(h:P3W K X e tA A3):P3T K X e tA A3:=#[h.pe.pt,h.rf]
theorem cu(b:P3T K X a tA A3):P3T K X (.UnaryOp .Not a pos) (Kp tA) (Lr A3):=#[KU b.pe,Ha b.rf]
set_option backward.eqns.nonrecursive false in
def vI (b a:TE3)(Γ:G)(Q:RV->G->Prop):Prop:=b Γ λx ak=>match x.d with
 | .bl true=>a ak Q
 | .bl false=>Q (.fz (.bl false)) ak
 | _=>False
set_option backward.eqns.nonrecursive false in
def Oa (b a:TE3)(Γ:G)(Q:RV->G->Prop):Prop:=b Γ λx ak=>match x.d with
 | .bl true=>Q (.fz (.bl true)) ak
 | .bl false=>a ak Q
 | _=>False
set_option backward.eqns.nonrecursive false in
def EB (a:TE3)(Γ:G)(Q:RV->G->Prop):Prop:=a Γ λx ak=>match x.d with
 | .bl k=>Q (.fz (.bl (!k))) ak
 | _=>False
theorem sN{op}(h:P3 K X a ta a3):P3 K X (.BoolOp op [a] pos) ta a3:=#[K5 h.pe,h.rf]
theorem sP(o:P3 K X a ta a3)(n:P3 K X (.BoolOp .And (b::rest) pos) tb b3):P3 K X (.BoolOp .And (a::b::rest) pos) (Jk ta tb) (vI a3 b3):=#[K_ o.pe n.pe,by
 intro B F l H r Q w e q k;refine o.rf B F l H r _ _ e q (λv u Z=>?_);let#[F1,h,x,m,t,s,d]:=Z;let#[j,f,g,c]:=t.frozen s
 revert c d
 split
 .rename_i i;intro d c;rw[i] at c;exact#[true,c,zX (n.rf B j l u h _ _ g d λv y p=>k _ _ (p.mono (m.trans f)))]
 .rename_i i;intro d c;rw[i] at c;exact#[false,c,zY (k _ _ (Po.mono (m.trans f) (mP g d)))]
 .intro d;exact d.elim]
theorem N_(o:P3 K X a ta a3)(n:P3 K X (.BoolOp .Or (b::rest) pos) tb b3):P3 K X (.BoolOp .Or (a::b::rest) pos) (Nx ta tb) (Oa a3 b3):=#[N5 o.pe n.pe,by
 intro B F l H r Q w e q k;refine o.rf B F l H r _ _ e q (λv u Z=>?_);let#[F1,h,x,m,t,s,d]:=Z;let#[j,f,g,c]:=t.frozen s
 revert c d
 split
 .rename_i i;intro d c;rw[i] at c;exact#[true,c,zX (k _ _ (Po.mono (m.trans f) (mP g d)))]
 .rename_i i;intro d c;rw[i] at c;exact#[false,c,zY (n.rf B j l u h _ _ g d λv y p=>k _ _ (p.mono (m.trans f)))]
 .intro d;exact d.elim]
theorem Lc(g:P3 K X a ta a3):P3 K X (.UnaryOp .Not a pos) (Jj ta) (EB a3):=#[K6 g.pe,by
 intro B F h H j Q r e q k;refine g.rf B F h H j _ _ e q (λv s Z=>?_);let#[F1,i,x,l,o,m,c]:=Z;let#[p,d,f,b]:=o.frozen m
 revert b c
 split
 .rename_i n;intro c b;rw[n] at b;exact#[_,b,k _ _ (Po.mono (l.trans d) (mP f c))]
 .intro c;exact c.elim]
def if3 (d:TT3)(b a:TE3)(Γ:G)(Q:RV->G->Prop):Prop:=d Γ λc ak=>bT c (b ak Q) (a ak Q) ⟨⟩ ⟨⟩
theorem k9{c:Expr}(i:P3T K X c tA A3)(l:P3 K X a ta a3)(j:P3 K X b tb b3):P3 K X (.IfExp c a b pos) (tIf tA ta tb) (if3 A3 a3 b3):=#[Eh i.pe l.pe j.pe,by
 intro B F f H o Q s e q k;refine i.rf B F f H o _ _ e q (λc n Z=>?_);let#[F1,d,g,m,h]:=Z;cases c with
 | true=>exact zX (l.rf B F1 f n d _ _ m h λv r p=>k _ _ (p.mono g))
 | false=>exact zY (j.rf B F1 f n d _ _ m h λv r p=>k _ _ (p.mono g))]
end
abbrev TA3:=G->(List D->G->Prop)->Prop
noncomputable def PoA (K:Fg0)(B:Bs)(F:Hp)(σ:_2.St)(Q:List D->G->Prop):List V->Hp->Prop:=λvs H'=>∃ F' Γ' ds,aB F F'/\En K B F' σ H' Γ'/\aC K F' ds vs/\Q ds Γ'
def MX (K:Fg0)(t:TA)(a:TA3):Prop:=∀ (B:Bs) (F:Hp) (σ:_2.St) (H:Hp) (Γ:G) (Q:List D->G->Prop) (QQ:List V->Hp->Prop),En K B F σ H Γ->a Γ Q->(∀ vs H',PoA K B F σ Q vs H'->QQ vs H')->t σ H QQ
structure P3A (K:Fg0) (X:Cx) (es:List Expr) (t:TA) (t3:TA3):Prop where
 pe:PA X es t
 rf:MX K t t3
section
variable {t:TA}{t3:TA3}
def qX (Γ:G)(Q:List D->G->Prop):Prop:=Q [] Γ
def eU (c:TE3)(b:TA3)(Γ:G)(Q:List D->G->Prop):Prop:=c Γ λx ak=>b ak λxs a=>Q (x.d::xs) a
theorem ah:P3A K X [] rO qX:=#[pW,λB F b H a Q c e q k=>k _ _ #[F,a,[],aB.refl F,e,rfl,q]]
theorem ab(l:P3 K X e te e3)(j:P3A K X es t t3)(hs:autoParam (Yl X e es) wE):P3A K X (e::es) (ql te t) (eU e3 t3):=#[gK l.pe j.pe hs,by
 intro B F h H m Q C e q k;refine l.rf B F h H m _ _ e q (λv A Z=>?_);let#[F1,b,x,o,y,r,u]:=Z;let#[g,c,f,d]:=y.frozen r;refine j.rf B g h A b _ _ f u (λn D Z=>?_);let#[F2,a,z,i,w,p,s]:=Z;exact k _ _ #[F2,a,x.d::z,(o.trans c).trans i,w,#[v,n,rfl,d.mono i,p],s]]
def Ow (a:TA3)(Γ:G)(Q:RV->G->Prop):Prop:=a Γ λxs ak=>xs.length<=sizeLine/\Q (.fr (.lst xs)) ak
def y9 (a:TA3)(Γ:G)(Q:RV->G->Prop):Prop:=a Γ λxs ak=>xs.length<=sizeLine/\Q (.fz (.tup xs)) ak
theorem bF(h:P3A K X es t t3):P3 K X (.List es pos) (Ny t) (Ow t3):=#[K8 h.pe,by
 intro B F c H f Q n e q k;refine h.rf B F c H f _ _ e q (λl o Z=>?_);let#[F1,d,m,g,j,a,b]:=Z;exact#[by rw[a.length];exact b.1,λp i=>k _ _ (Po.mono g (l8 j i a b.2))]]
theorem aF{O}(h:P3A K X es t t3):P3 K X (.Tuple es O pos) (Nw t) (y9 t3):=#[K4 h.pe,by
 intro B F c H f Q n e q k;refine h.rf B F c H f _ _ e q (λl o Z=>?_);let#[F1,d,m,g,j,a,b]:=Z;exact#[by rw[a.length];exact b.1,λp i=>k _ _ (Po.mono g (wo j i a b.2))]]
end
noncomputable abbrev eY:=G->(List Bo->G->Prop)->Prop
noncomputable def cq (K:Fg0)(F:Hp)(σ:_2.St):List Bo->List V->Prop
 | [],vs=>vs=[]
 | b::a,vs=>∃ v ws,vs=v::ws/\qJ K F σ b v/\cq K F σ a ws
noncomputable def qK (K:Fg0)(F H:Hp):List D->List V->Prop
 | [],vs=>vs=[]
 | d::ds,vs=>∃ v ws,vs=v::ws/\iG K F H d v/\qK K F H ds ws
noncomputable def ats (Γ:G):List Bo->Option (List D)
 | []=>some []
 | b::a=>match b.at Γ,ats Γ a with
  | some d,some ds=>some (d::ds)
  | _,_=>none
noncomputable def Ra (K:Fg0)(B:Bs)(F:Hp)(σ:_2.St)(Q:List Bo->G->Prop):List V->Hp->Prop:=λvs H'=>∃ F' Γ' a,aB F F'/\En K B F' σ H' Γ'/\cq K F' σ a vs/\Q a Γ'
def yT (K:Fg0)(t:TA)(a:eY):Prop:=∀ (B:Bs) (F:Hp) (σ:_2.St) (H:Hp) (Γ:G) (Q:List Bo->G->Prop) (QQ:List V->Hp->Prop),En K B F σ H Γ->a Γ Q->(∀ vs H',Ra K B F σ Q vs H'->QQ vs H')->t σ H QQ
structure uG (K:Fg0) (X:Cx) (es:List Expr) (t:TA) (t3:eY):Prop where
 pe:PA X es t
 rf:yT K t t3
section
variable {e3:TB3}{t:TA}{t3:eY}
theorem En.bos(e:En K B F σ H Γ):∀ {c:List Bo} {vs:List V} {ds:List D},cq K F σ c vs->ats Γ c=some ds->qK K F H ds vs
 | [],_,_,h,q=>by cases q;exact h
 | b::c,_,_,⟨v,ws,i,g,f⟩,q=>by
  unfold ats at q;split at q
  .rename_i d ds hd a;cases q;exact#[v,ws,i,e.bo g hd,e.bos f a]
  .cases q
def oA (Γ:G)(Q:List Bo->G->Prop):Prop:=Q [] Γ
def f_ (c:TB3)(b:eY)(Γ:G)(Q:List Bo->G->Prop):Prop:=c Γ λx ak=>b ak λxs a=>Q (x::xs) a
theorem af:uG K X [] rO oA:=#[pW,λB F b H a Q c e q k=>k _ _ #[F,a,[],aB.refl F,e,rfl,q]]
theorem aa(g:P3B K X e te e3)(f:uG K X es t t3)(hs:autoParam (Yl X e es) wE):uG K X (e::es) (ql te t) (f_ e3 t3):=#[gK g.pe f.pe hs,by
 intro B F c H h Q w e q k;refine g.rf B F c H h _ _ e q (λv u Z=>?_);let#[F1,b,x,j,r,m,o]:=Z;refine f.rf B F1 c u b _ _ r o (λi y Z=>?_);let#[F2,a,s,d,p,l,n]:=Z;exact k _ _ #[F2,a,x::s,j.trans d,p,#[v,i,rfl,m.mono d,l],n]]
theorem Yj{x:TE3}(g:P3 K X e te x)(f:uG K X es t t3)(hs:autoParam (Yl X e es) wE):uG K X (e::es) (ql te t) (f_ (bof x) t3):=aa (P3.opd g) f hs
def B5 (K:Fg0)(r:List V->Hp->VK->Prop)(a:List D->TE3):Prop:=∀ (B:Bs) (F:Hp) (σ:_2.St) (H:Hp) (Γ:G) (vs:List V) (ds:List D) (Q:RV->G->Prop) (QQ:VK),En K B F σ H Γ->qK K F H ds vs->a ds Γ Q->(∀ v H',Po K B F σ Q v H'->QQ v H')->r vs H QQ
def nu (b:List D->TE3)(a:eY)(Γ:G)(Q:RV->G->Prop):Prop:=a Γ λc ak=>mL (ats ak c) (λds=>b ds ak Q) ⟨⟩
theorem DX(h:B5 K r c3)(l:yT K t t3):Ref K (tCB r t) (nu c3 t3):=by
 intro B F b H d Q n e q k;refine l B F b H d _ _ e q (λf o Z=>?_);let#[F1,a,s,g,c,i,Z]:=Z;let#[m,hd,j]:=cLa.1 Z;exact h B F1 b o a f m Q n c (c.bos i hd) j λv u p=>k _ _ (p.mono g)
structure B3 (K:Fg0) (X:Cx) (f:Value) (r:List V->Hp->VK->Prop) (c3:List D->TE3):Prop where
 op:ck X f r
 rf:B5 K r c3
variable {x:Str}{p:Pos}{id T:String}
theorem aN(c:B3 K X (.builtin id) r c3)(h:X.mg x=none)(d:uG K X (e::es) t t3)(g:autoParam (x≠"__name__") wP)(b:autoParam (Yk x) wP)(j:autoParam (Yl X e es) wE)(a:autoParam (Ym pos X es) wE)(i:autoParam (Gl X x) wE)(f:autoParam (xa x=some (.builtin id)) wK9):P3 K X (.Call (.Name x p) (e::es) [] pos) (tCB r t) (nu c3 t3):=
 #[xP c.op i h f d.pe g b j a,DX c.rf d.rf]
theorem bQ(c:B3 K X (.type T) r c3)(h:X.mg x=none)(d:uG K X (e::es) t t3)(g:autoParam (x≠"__name__") wP)(b:autoParam (Yk x) wP)(j:autoParam (Yl X e es) wE)(a:autoParam (Ym pos X es) wE)(i:autoParam (Gl X x) wE)(f:autoParam (xa x=some (.type T)) wK9):P3 K X (.Call (.Name x p) (e::es) [] pos) (tCB r t) (nu c3 t3):=
 #[Cr c.op i h f d.pe g b j a,DX c.rf d.rf]
set_option backward.eqns.nonrecursive false in
def mx3 (f:Int->Int->Int)(ds:List D)(Γ:G)(Q:RV->G->Prop):Prop:=match ds with
 | [.int i,.int j]=>Q (.fz (.int (f i j))) Γ
 | _=>False
theorem qK.one{d:D}(h:qK K F H [d] vs):∃ v,vs=[v]/\iG K F H d v:=by
 let#[v,ws,rfl,b,a]:=h;cases a;exact#[v,rfl,b]
theorem qK.two{d e:D}(h:qK K F H [d,e] vs):∃ v w,vs=[v,w]/\iG K F H d v/\iG K F H e w:=by
 let#[v,ws,rfl,c,b]:=h;let#[w,rfl,a]:=qK.one b;exact#[v,w,rfl,c,a]
noncomputable abbrev fmax (i j:Int):Int:=if j > i then j else i
noncomputable abbrev fmin (i j:Int):Int:=if j < i then j else i
theorem JW(a:X.calm=true):B3 K X (.builtin "max") (λxs H Q=>∃ i j,xs=[.int i,.int j]/\Q (.int (if j > i then j else i)) H) (mx3 fmax):=#[C2 a,by
 intro B F c H d f g Q l e r q k;delta mx3 at q;split at q
 .let#[v,w,rfl,h,b]:=r.two;cases h;cases b;exact#[_,_,rfl,k _ _ (gr e q)]
 .exact q.elim]
theorem JV(a:X.calm=true):B3 K X (.builtin "min") (λxs H Q=>∃ i j,xs=[.int i,.int j]/\Q (.int (if j < i then j else i)) H) (mx3 fmin):=#[C1 a,by
 intro B F c H d f g Q l e r q k;delta mx3 at q;split at q
 .let#[v,w,rfl,h,b]:=r.two;cases h;cases b;exact#[_,_,rfl,k _ _ (gr e q)]
 .exact q.elim]
set_option backward.eqns.nonrecursive false in
def wQ (ds:List D)(Γ:G)(Q:RV->G->Prop):Prop:=match ds with
 | [.int i]=>Q (.fz (.int i)) Γ
 | [.bl k]=>Q (.fz (.int (if k then 1 else 0))) Γ
 | _=>False
theorem ku:B3 K X (.type "int") (λxs H Q=>(∃ i,xs=[.int i]/\Q (.int i) H)\/∃ k,xs=[.bl k]/\Q (.int (if k then 1 else 0)) H) wQ:=#[C4,by
 intro B F a H b c d Q f e r q k;delta wQ at q;split at q
 .let#[v,rfl,h]:=r.one;cases h;exact .inl #[_,rfl,k _ _ (gr e q)]
 .let#[v,rfl,h]:=r.one;cases h;exact .inr #[_,rfl,k _ _ (gr e q)]
 .exact q.elim]
set_option backward.eqns.nonrecursive false in
noncomputable def H_:D->Option Nat
 | .lst xs=>some xs.length
 | .tup xs=>some xs.length
 | .ktup xs=>some xs.length
 | .scr ns=>some ns.length
 | _=>none
set_option backward.eqns.nonrecursive false in
def wN (ds:List D)(Γ:G)(Q:RV->G->Prop):Prop:=match ds with
 | [.str z]=>z.length<=sizeLine/\Q (.fz (.int z.length)) Γ
 | [d]=>∃ n,H_ d=some n/\Q (.fz (.int n)) Γ
 | _=>False
noncomputable abbrev Qd (K:Fg0):List V->Hp->VK->Prop:=λxs H Q=>(∃ p ys,xs=[.ref p]/\(SqL K H p ys\/SqT K H p ys)/\Q (.int ys.length) H)\/(∃ z,xs=[.str z]/\z.length<=sizeLine/\Q (.int z.length) H)
theorem ck.or'{f:Value}{e:List V->Hp->VK->Prop}(h:ck X f r)(h':ck X f e):ck X f (λxs H Q=>r xs H Q\/e xs H Q):=by
 intro a s b H xs c Q I d q;rcases q with q | q
 .exact h a s b H xs c Q I d q
 .exact h' a s b H xs c Q I d q
theorem H9{d:D}{n:Nat}(s:aB F H)(h:iG K F H d v)(a:H_ d=some n):∃ p ys,v=.ref p/\(SqL K H p ys\/SqT K H p ys)/\ys.length=n:=by
 delta H_ at a;split at a
 .cases a;let#[p,c,rfl,b,e]:=h;exact#[p,c,rfl,.inl (SqL.of b),e.length]
 .cases a;let#[p,c,rfl,b,e]:=h;exact#[p,c,rfl,.inr (.inl (.inl (s _ _ b))),e.length]
 .cases a;let#[p,c,rfl,b,e]:=h;exact#[p,c,rfl,.inr (SqT.same s b),e.length]
 .cases a;let#[p,rfl,b]:=h;exact#[p,_,rfl,.inl (s.seq b),by simp]
 .cases a
theorem kr(d:autoParam (X.K=K) wE):B3 K X (.builtin "len") (Qd K) wN:=#[by subst d;exact ck.or' w8 w6,by
 intro B F f H g i j Q l e r q k;delta wN at q;split at q
 .let#[v,rfl,h]:=r.one;cases h;exact .inr #[_,rfl,q.1,k _ _ (gr e q.2)]
 .let#[v,rfl,h]:=r.one;let#[n,b,q]:=q;let#[p,a,rfl,hs,c]:=H9 e.sub h b;subst c;exact .inl #[p,a,rfl,hs,k _ _ (gr e q)]
 .exact q.elim]
end
section
variable {b c:Expr}{tb tc:TE}{a3 b3 c3:TB3}
theorem aC.atI(h:aC K F xs vs){i:Int}{d:D}(e:atI xs i=some d):∃ v,_2.atI vs i=some v/\Rep K F d v:=by
 delta _2.atI at e ⊢;rw[h.length];cases q:ixN xs.length i with
 | none=>rw[q] at e;cases e
 | some j=>
  rw[q] at e;exact h.get e
def ix3 (x y:D)(Γ:G)(Q:RV->G->Prop):Prop:=match x,y with
 | .lst xs,.int i=>m1 (atI xs i) (λd=>Q (.fz d) Γ) ⟨⟩
 | .tup xs,.int i=>m1 (atI xs i) (λd=>Q (.fz d) Γ) ⟨⟩
 | .ktup xs,.int i=>∃ d,atI xs i=some d/\Q (.fz d) Γ
 | .scr ns,.int i=>∃ n,atI ns i=some n/\Q (.fz (.int n)) Γ
 | .str z,.int i=>z.length<=sizeLine/\∃ c,atI z.cps.toList i=some c/\Q (.fz (.str #[(Vz9 [c])])) Γ
 | _,_=>False
theorem BX{a b:Type}{f:a->b}{xs:List a}{i:Int}{d:a}(e:atI xs i=some d):atI (xs.map f) i=some (f d):=by
 delta _2.atI at e ⊢;rw[lM0];cases q:ixN xs.length i with
 | none=>rw[q] at e;cases e
 | some j=>
  rw[q] at e;show (xs.map f)[j]?=_;rw[ef,show xs[j]?=some d from e]
  rfl
theorem OF:jI K (rIx K) ix3:=by
 intro B F m H n x y s o Q t e g f q k;delta ix3 at q;split at q
 .let#[d,hd,q]:=cA.1 q;let#[p,b,rfl,a,i]:=g;cases f;let#[v,h,r]:=i.atI hd;exact .inl #[p,b,_,v,rfl,rfl,SqL.of a,h,k _ _ (iR e r q)]
 .let#[d,hd,q]:=cA.1 q;let#[p,b,rfl,a,i]:=g;cases f;let#[v,h,r]:=i.atI hd;exact .inr (.inl #[p,b,_,v,rfl,rfl,.inl (.inl (e.sub _ _ a)),h,k _ _ (iR e r q)])
 .let#[d,hd,q]:=q;let#[p,b,rfl,a,i]:=g;cases f;let#[v,h,r]:=i.atI hd;exact .inr (.inl #[p,b,_,v,rfl,rfl,SqT.same e.sub a,h,k _ _ (iR e r q)])
 .let#[d,hd,q]:=q;let#[p,rfl,a]:=g;cases f;exact .inl #[p,_,_,.int d,rfl,rfl,e.sub.seq a,BX hd,k _ _ (gr e q)]
 .cases g;cases f;let#[j,c,l,q]:=q;exact .inr (.inr #[_,_,c,rfl,rfl,j,l,k _ _ (jT e q)])
 .exact q.elim
theorem aA(d:P3B K X a ta a3)(c:P3B K X b tb b3)(e:autoParam (X.K=K) wE)(hs:autoParam (B4 b) wL9):P3 K X (.Subscript a b pos) (tOp (rIx K) ta tb) (bU ix3 a3 b3):=#[N6 (by subst e;exact LU) d.pe c.pe hs,gq OF d.rf c.rf]
noncomputable def cut {α:Type}(xs:List α)(lo hi:Option Int):List α:=(xs.drop (_h.sIx xs.length 0 lo)).take (_h.sIx xs.length xs.length hi - _h.sIx xs.length 0 lo)
noncomputable def pk {α:Type}(xs:List α)(lo hi st:Option Int):List α:=(sliceRange (Wt lo hi st xs.length).1 (Wt lo hi st xs.length).2.1 (Wt lo hi st xs.length).2.2).filterMap (xs[·]?)
theorem aC.cut {xs:List D}{vs:List V}(h:aC K F xs vs)(lo hi:Option Int):aC K F (cut xs lo hi) (CW vs lo hi):=by
 delta _3.cut CW;rw[h.length];exact(h.drop _).take _
abbrev TO3:=G->(Option Int->G->Prop)->Prop
def Q_ (K:Fg0)(t:TO)(a:TO3):Prop:=∀ (B:Bs) (F:Hp) (σ:_2.St) (H:Hp) (Γ:G) (Q:Option Int->G->Prop) (QQ:Option Int->Hp->Prop),En K B F σ H Γ->a Γ Q->(∀ o H',(∃ F' Γ',aB F F'/\En K B F' σ H' Γ'/\Q o Γ')->QQ o H')->t σ H QQ
structure P3O (K:Fg0) (X:Cx) (e:Option Expr) (t:TO) (t3:TO3):Prop where
 pe:PO X e t
 rf:Q_ K t t3
def Jw (Γ:G)(Q:Option Int->G->Prop):Prop:=Q none Γ
def Jl (a:TB3)(Γ:G)(Q:Option Int->G->Prop):Prop:=a Γ λx ak=>∃ i,x.at ak=some (.int i)/\Q (some i) ak
theorem xS:P3O K X none AX Jw:=#[Hq,λB F b H a Q c e q k=>k _ _ #[F,a,aB.refl F,e,q]]
theorem xR(h:P3B K X a ta a3):P3O K X (some a) (Ji ta) (Jl a3):=#[Ho h.pe,by
 intro B F d H f Q n e q k;refine h.rf B F d H f _ _ e q (λv o Z=>?_);let#[F1,b,x,g,c,j,i,m,l]:=Z;have:v=.int i:=c.bo j m;exact#[i,this,k _ _ #[F1,b,g,c,l]]]
def sl3 (e:TB3)(c d:TO3)(Γ:G)(Q:RV->G->Prop):Prop:=e Γ λx ak=>c ak λlo b=>d b λhi a=>∃ xs,x.at a=some (.lst xs)/\Q (.fr (.lst (cut xs lo hi))) a
def NG (e:TB3)(c d:TO3)(Γ:G)(Q:RV->G->Prop):Prop:=e Γ λx ak=>c ak λlo b=>d b λhi a=>∃ xs,x.at a=some (.tup xs)/\¬ (_h.sIx xs.length 0 lo=0/\_h.sIx xs.length xs.length hi=xs.length)/\Q (.fz (.tup (cut xs lo hi))) a
theorem uY{lo hi:Option Expr}{tl i:TO}{n c:TO3}{p2:Pos}(E:X.K=K)(o:P3B K X a ta a3)(b:P3O K X lo tl n)(hh:P3O K X hi i c):P3 K X (.Subscript a (.Slice lo hi none p2) pos) (tSl (NT K) ta tl i) (NG a3 n c):=
 #[Ef (by subst E;exact Ku) o.pe b.pe hh.pe,by
 intro B F d H t Q O e q k;refine o.rf B F d H t _ _ e q (λv M Z=>?_);let#[F1,g,x,w,J,y,C]:=Z;refine b.rf B F1 d M g _ _ J C (λlo L Z=>?_);let#[F2,f,m,I,A]:=Z;refine hh.rf B F2 d L f _ _ I A (λhi P Z=>?_);let#[R,s,j,h,N,c,D,z]:=Z;let#[p,u,rfl,G,r]:=h.bo (y.mono (m.trans j)) c;exact#[p,u,rfl,.inl (.inl (h.sub _ _ G)),by rw[r.length];exact D,λl b=>k _ _ (Po.mono ((w.trans m).trans j) (wo h b (r.cut lo hi) z))]]
set_option backward.eqns.nonrecursive false in
noncomputable def tP:D->Option (List D)
 | .lst xs=>some xs
 | .tup xs=>some xs
 | .ktup xs=>some xs
 | .scr ns=>some (ns.map .int)
 | _=>none
theorem CL{d:D}(s:aB F H)(h:iG K F H d v)(a:tP d=some xs):∃ p ys,v=.ref p/\(SqL K H p ys\/SqT K H p ys)/\aC K F xs ys:=by
 delta tP at a;split at a
 .cases a;let#[p,c,rfl,b,e]:=h;exact#[p,c,rfl,.inl (SqL.of b),e]
 .cases a;let#[p,c,rfl,b,e]:=h;exact#[p,c,rfl,.inr (.inl (.inl (s _ _ b))),e]
 .cases a;let#[p,c,rfl,b,e]:=h;exact#[p,c,rfl,.inr (SqT.same s b),e]
 .cases a;let#[p,rfl,b]:=h;exact#[p,_,rfl,.inl (s.seq b),aC.ints _]
 .cases a
set_option backward.eqns.nonrecursive false in
def y8 (ds:List D)(Γ:G)(Q:RV->G->Prop):Prop:=match ds with
 | [.lst xs]=>Q (.fz (.tup xs)) Γ
 | _=>False
theorem IB(b:X.K=K):B3 K X (.type "tuple") (λxs H Q=>∃ p ys,xs=[.ref p]/\((SqL K H p ys/\∀ l,H l=none->Q (.ref l) (upd H l (.tup ys)))\/(SqT K H p ys/\Q (.ref p) H))) y8:=#[by subst b;exact uE,by
 intro B F f H g h i Q j e r q k;delta y8 at q;split at q
 .let#[v,rfl,p,ys,rfl,d,c]:=r.one;exact#[p,ys,rfl,.inl #[SqL.of d,λl a=>k _ _ (wo e a c q)]]
 .exact q.elim]
set_option backward.eqns.nonrecursive false in
noncomputable def knD:D->Bool
 | .non=>true | .bl _=>true | .int _=>true | .str _=>true | .lst _=>true | .tup _=>true | .dct=>true | .dcs _ _=>true | _=>false
theorem LM{d:D}(s:aB F H)(h:iG K F H d v)(hk:knD d=true):Kn H v:=by
 delta knD at hk;split at hk
 .cases h;exact .non
 .cases h;exact .bl _
 .cases h;exact .int _
 .cases h;exact .str _
 .let#[p,b,rfl,a,_]:=h;exact .lst a
 .let#[p,b,rfl,a,_]:=h;exact .tup (s _ _ a)
 .let#[p,rfl,a]:=h;exact .dK (s _ _ a)
 .let#[p,rfl,a]:=h;exact .dK (s _ _ a)
 .cases hk
set_option backward.eqns.nonrecursive false in
noncomputable def dB:D->Bool
 | .bl _=>true | _=>false
set_option backward.eqns.nonrecursive false in
noncomputable def dI:D->Bool
 | .bl _=>true | .int _=>true | _=>false
set_option backward.eqns.nonrecursive false in
noncomputable def dL:D->Bool
 | .lst _=>true | _=>false
set_option backward.eqns.nonrecursive false in
noncomputable def dT:D->Bool
 | .tup _=>true | _=>false
set_option backward.eqns.nonrecursive false in
def is3 (t:String)(f:D->Bool)(ds:List D)(Γ:G)(Q:RV->G->Prop):Prop:=match ds with
 | [d,.ty t']=>t'=t/\knD d=true/\Q (.fz (.bl (f d))) Γ
 | _=>False
theorem FZ{t:String}{f:D->Bool}{g:Hp->V->Bool}(h:ck X (.builtin "isinstance") (λxs H Q=>∃ x,xs=[x,.ty t]/\Kn H x/\Q (.bl (g H x)) H))(b:∀ {F H:Hp} {d:D} {v:V},aB F H->iG K F H d v->knD d=true->g H v=f d):B3 K X (.builtin "isinstance") (λxs H Q=>∃ x,xs=[x,.ty t]/\Kn H x/\Q (.bl (g H x)) H) (is3 t f):=#[h,by
 intro B F i H j l m Q n e r q k;delta is3 at q;split at q
 .let#[v,w,rfl,a,c]:=r.two;let#[rfl,hk,q]:=q;cases c;exact#[v,rfl,LM e.sub a hk,by rw[b e.sub a hk];exact k _ _ (mP e q)]
 .exact q.elim]
theorem JY(T:gR X.K):B3 K X (.builtin "isinstance") (λxs H Q=>∃ x,xs=[x,.ty "bool"]/\Kn H x/\Q (.bl (isB x)) H) (is3 "bool" dB):=FZ (g:=λ_ v=>isB v) (FU T) λs h hk=>by
 delta knD at hk;split at hk
 .cases h;rfl
 .cases h;rfl
 .cases h;rfl
 .cases h;rfl
 .let#[p,b,rfl,a,_]:=h;rfl
 .let#[p,b,rfl,a,_]:=h;rfl
 .let#[p,rfl,a]:=h;rfl
 .let#[p,rfl,a]:=h;rfl
 .cases hk
theorem JX(T:gR X.K):B3 K X (.builtin "isinstance") (λxs H Q=>∃ x,xs=[x,.ty "int"]/\Kn H x/\Q (.bl (isI x)) H) (is3 "int" dI):=FZ (g:=λ_ v=>isI v) (FT T) λs h hk=>by
 delta knD at hk;split at hk
 .cases h;rfl
 .cases h;rfl
 .cases h;rfl
 .cases h;rfl
 .let#[p,b,rfl,a,_]:=h;rfl
 .let#[p,b,rfl,a,_]:=h;rfl
 .let#[p,rfl,a]:=h;rfl
 .let#[p,rfl,a]:=h;rfl
 .cases hk
theorem Pp(T:gR X.K):B3 K X (.builtin "isinstance") (λxs H Q=>∃ x,xs=[x,.ty "list"]/\Kn H x/\Q (.bl (isL H x)) H) (is3 "list" dL):=FZ (FR T) λs h hk=>by
 delta knD at hk;split at hk
 .cases h;rfl
 .cases h;rfl
 .cases h;rfl
 .cases h;rfl
 .let#[p,b,rfl,a,_]:=h;exact Bv a
 .let#[p,b,rfl,a,_]:=h;exact Bu (s _ _ a)
 .let#[p,rfl,a]:=h;exact z8 (s _ _ a)
 .let#[p,rfl,a]:=h;exact z8 (s _ _ a)
 .cases hk
theorem Pm(T:gR X.K):B3 K X (.builtin "isinstance") (λxs H Q=>∃ x,xs=[x,.ty "tuple"]/\Kn H x/\Q (.bl (isT H x)) H) (is3 "tuple" dT):=FZ (FP T) λs h hk=>by
 delta knD at hk;split at hk
 .cases h;rfl
 .cases h;rfl
 .cases h;rfl
 .cases h;rfl
 .let#[p,b,rfl,a,_]:=h;exact Bt a
 .let#[p,b,rfl,a,_]:=h;exact Br (s _ _ a)
 .let#[p,rfl,a]:=h;exact zZ (s _ _ a)
 .let#[p,rfl,a]:=h;exact zZ (s _ _ a)
 .cases hk
noncomputable def flD:D->Bool
 | .non=>true | .bl _=>true | .int _=>true | .str _=>true | _=>false
noncomputable def toV:D->V
 | .bl b=>.bl b | .int i=>.int i | .str x=>.str x | _=>.non
theorem JS{d:D}(h:iG K F H d v)(hk:flD d=true):v=toV d/\mW v=true:=by
 delta flD at hk;split at hk
 .cases h;exact#[rfl,rfl]
 .cases h;exact#[rfl,rfl]
 .cases h;exact#[rfl,rfl]
 .cases h;exact#[rfl,rfl]
 .cases hk
theorem JR (s:aB F H):∀ {xs:List D} {vs:List V},aC K F xs vs->xs.all flD=true->vs=xs.map toV/\vs.all mW=true
 | [],_,h,_=>by cases h;exact#[rfl,rfl]
 | x::xs,_,⟨v,ws,g,f,e⟩,hk=>by
  rw[SG,fT] at hk;let#[a,b]:=JR s e hk.2;let#[c,d]:=JS (Rep.b s f) hk.1;subst g a c;refine#[rfl,?_];rw[SG,d,b];rfl
def in3 (a:Bool)(x y:D)(Γ:G)(Q:RV->G->Prop):Prop:=∃ xs,tP y=some xs/\flD x=true/\xs.all flD=true/\Q (.fz (.bl (if a then !inV (toV x) (xs.map toV) else inV (toV x) (xs.map toV)))) Γ
theorem OL(f:Bool):jI K (rIn K f) (in3 f):=by
 intro B F n H o x y u t Q v e h g q k;let#[s,i,m,l,q]:=q;let#[p,r,rfl,hs,j]:=CL e.sub g i;let#[a,b]:=JR e.sub j l;let#[c,d]:=JS h m;subst a c;exact#[p,_,rfl,hs,d,b,k _ _ (mP e q)]
theorem nv(a:autoParam (X.K=K) wE):C3 K X .In (rIn K false) (in3 false):=#[by subst a;exact Cu,OL false]
theorem aC.lookup:∀ {ns:Ls0} {xs:List D} {c:List (Str×V)} {f:Str} {d:D},c.map (·.1)=ns->aC K F xs (c.map (·.2))->(ns.zip xs).lookup f=some d->∃ v,c.lookup f=some v/\Rep K F d v
 | [],_,[],f,d,_,_,h=>by simp -iota at h
 | n::ns,xs,(m,u)::c,f,d,b,g,a=>by
  simp -iota only[eN,WG] at b;let#[rfl,b]:=b;cases xs with
  | nil=>simp -iota at a
  | cons x xs=>
   let#[v,ws,e,r,g]:=g;simp -iota only[eN,WG] at e;let#[rfl,rfl]:=e;rw[EN,ff] at a;rw[ff];cases q:f == m with
   | true=>rw[q] at a;cases a;exact#[_,rfl,r]
   | false=>rw[q] at a;exact aC.lookup b g a
end
set_option genInjectivity false in
structure E3 where
 nx:G->Prop
 rt:RV->G->Prop
 bk:G->Prop:=λ_=>False
 ct:G->Prop:=λ_=>False
abbrev TS3:=E3->G->Prop
structure qM (K:Fg0) (B:Bs) (F:Hp) (D:Ends) (D3:E3):Prop where
 nx:∀ F' aJ H' Γ',aB F F'->En K B F' aJ H' Γ'->D3.nx Γ'->D.nx aJ H'
 rt:∀ F' aJ H' Γ' v r,aB F F'->En K B F' aJ H' Γ'->mJ K B F' aJ H' Γ' v r->D3.rt r Γ'->D.rt v H'
 bk:∀ F' aJ H' Γ',aB F F'->En K B F' aJ H' Γ'->D3.bk Γ'->D.bk aJ H'
 ct:∀ F' aJ H' Γ',aB F F'->En K B F' aJ H' Γ'->D3.ct Γ'->D.ct aJ H'
theorem qM.mono{F1:Hp}{D:Ends}{D3:E3}(h:qM K B F D D3)(s:aB F F1):qM K B F1 D D3:=
 #[λe a d b c=>h.nx e a d b (s.trans c),λe a d b v r c=>h.rt e a d b v r (s.trans c),λe a d b c=>h.bk e a d b (s.trans c),λe a d b c=>h.ct e a d b (s.trans c)]
def IW (K:Fg0)(t:TS)(b:TS3):Prop:=∀ (B:Bs) (F:Hp) (σ:_2.St) (H:Hp) (Γ:G) (D:Ends) (a:E3),En K B F σ H Γ->qM K B F D a->b a Γ->t D σ H
structure P3S (K:Fg0) (X:Cx) (st:Stmt) (t:TS) (t3:TS3):Prop where
 pe:PS X st t
 rf:IW K t t3
structure uh (K:Fg0) (X:Cx) (st:List Stmt) (t:TS) (t3:TS3):Prop where
 pe:PSs X st t
 rf:IW K t t3
section
def bq0:Option Sl->Bool
 | some (.ln _)=>false
 | _=>true
def bqa:G->Nat->Bool
 | s::_,0=>bq0 s
 | _::Γ,i + 1=>bqa Γ i
 | [],_=>false
def bP (Γ:G)(i:Nat):Prop:=match Γ[i]? with
 | some (some (.ln _))=>False
 | some _=>True
 | none=>False
theorem bqP:∀ {Γ:G} {i:Nat},bqa Γ i=true->bP Γ i
 | [],_,h=>by cases h
 | s::_,0,h=>by rcases s with _|s;trivial;cases s;trivial;trivial;cases h
 | _::Γ,i + 1,h=>bqP (Γ:=Γ) h
theorem bTq{c:Bool}{p:Prop}{s:Tag p}{t:Tag False}(h:bT c p False s t):c=true/\p:=by cases c;exact h.elim;exact#[rfl,h]
theorem lB(h:bP Γ i):i < Γ.length:=by
 delta bP at h;split at h
 .exact h.elim
 .rename_i q;exact(gS0 q).1
 .exact h.elim
theorem aG{b:Type}{l:List b}{a:b}(h:i < l.length):(l.set i a)[i]?=some a:=by
 rw[Ss,if_pos rfl,if_pos h]
theorem En.set(e:En K B F σ H Γ)(hi:bP Γ i){r:RV}(n:mJ K B F σ H Γ v r)(y:autoParam (r.pl=true) wE):En K B F (σ.set i (some v)) H (Γ.set i (some r.sl)):=by
 have il:=lB hi;have m:i < σ.length:=by rw[e.len];exact il
 have I:∀ d,Γ[i]?≠some (some (Sl.ln d)):=λd q=>by delta bP at hi;rw[q] at hi;exact hi
 have c:∀ {j:Nat},j≠i->(Γ.set i (some r.sl))[j]?=Γ[j]?/\(σ.set i (some v))[j]?=σ[j]?:=λh=>#[bh (lj h),bh (lj h)];have f:∀ {j x},Hld (Γ.set i (some r.sl)) j x->(j=i/\r=.fr x)\/(j≠i/\Hld Γ j x):=λ{j x} q=>by
  by_cases z:j=i
  .subst z
   left
   refine#[rfl,?_];rcases q with q | q <;> rw[aG il] at q <;> cases r <;> first | (cases y;done) | (cases q;done) | (cases q;rfl)
  .right
   exact#[z,by delta Hld at q ⊢;rw[(c z).1] at q;exact q]
 refine#[e.sub,by rw[rx,rx];exact e.len,?_,?_,?_,?_,?_,?_,e.keep,e.new,e.rest,e.dom]
 .intro j d q;by_cases z:j=i
  .subst z;rw[aG il] at q;cases r with
   | fz x=>cases q;exact#[v,aG m,n]
   | fr x=>cases q
   | two M L=>cases y
   | rws E=>cases y
  .rw[(c z).1] at q;rw[(c z).2];exact e.fz j d q
 .intro j d q;rcases f q with ⟨rfl,rfl⟩ | ⟨z,q⟩
  .let#[p,rfl,u,t,s,o]:=n;exact#[p,aG m,u,t]
  .rw[(c z).2];exact e.hl j d q
 .intro j d p q a;rcases f (.inl q) with ⟨rfl,rfl⟩ | ⟨z,_⟩
  .let#[D,rfl,u,t,s,o]:=n;rw[aG m] at a;cases a;exact s
  .rw[(c z).1] at q;rw[(c z).2] at a;exact e.ow j d p q a
 .intro j d p q a;rcases f (.inr q) with ⟨rfl,rfl⟩ | ⟨z,_⟩
  .rw[aG il] at q;cases q
  .rw[(c z).1] at q;rw[(c z).2] at a;exact e.ln j d p q a
 .intro j k d J p G C l g;rcases f G with ⟨rfl,rfl⟩ | ⟨z1,A⟩
  .rcases f C with ⟨rfl,h⟩ | ⟨z2,w⟩
   .rfl
   .let#[D,rfl,u,t,s,o]:=n;rw[aG m] at l;cases l;rw[(c z2).2] at g;exact absurd g (o k _ w)
  .rcases f C with ⟨rfl,h⟩ | ⟨z2,w⟩
   .subst h;let#[D,rfl,u,t,s,o]:=n;rw[aG m] at g;cases g;rw[(c z1).2] at l;exact absurd l (o j _ A)
   .rw[(c z1).2] at l;rw[(c z2).2] at g;exact e.dis j k d J p A w l g
 .intro j p q;let#[a,d,b]:=e.par j p q;have z:j≠i:=λz=>by subst z;exact I d b
  rw[(c z).1,(c z).2];exact#[a,d,b]
theorem En.forget(e:En K B F σ H Γ)(hi:bP Γ i):En K B F σ H (Γ.set i none):=by
 have l:∀ d,Γ[i]?≠some (some (Sl.ln d)):=λd q=>by delta bP at hi;rw[q] at hi;exact hi
 have il:=lB hi;have f:∀ {j:Nat} {s:Sl},(Γ.set i none)[j]?=some (some s)->j≠i/\Γ[j]?=some (some s):=λ{j s} q=>by
  by_cases z:j=i
  .simp_all
  .exact#[z,by rw[bh (lj z)] at q;exact q]
 have c:∀ {j x},Hld (Γ.set i none) j x->Hld Γ j x:=λq=>q.imp (λq=>(f q).2) (λq=>(f q).2);exact#[e.sub,by rw[rx];exact e.len,λj d q=>e.fz j d (f q).2,λj d q=>e.hl j d (c q),λj d p q=>e.ow j d p (f q).2,λj d p q=>e.ln j d p (f q).2,λj k d m p h g=>e.dis j k d m p (c h) (c g),
  λj p q=>by
   let#[a,d,b]:=e.par j p q;have z:i≠j:=λz=>by subst z;exact l d b
   exact#[a,d,by rw[bh z];exact b],e.keep,e.new,e.rest,e.dom]
set_option backward.eqns.nonrecursive false in
def GU (i:Nat)(Γ:G)(Q:RV->G->Prop):Prop:=match Γ[i]? with
 | some (some (.fz d))=>Q (.fz d) Γ
 | some (some (.ow d))=>Q (.fr d) (Γ.set i none)
 | _=>False
theorem KN(i:Nat):Ref K (eE i) (GU i):=by
 intro B F o H g Q r e h k;delta GU at h;split at h
 .rename_i d q;let#[v,c,f]:=e.fz i d q;exact#[v,c,k _ _ (iR e f h)]
 .rename_i d q;let#[p,c,f,m]:=e.hl i d (.inl q);have l:bP g i:=by delta bP;rw[q];trivial
  have n:=e.forget l;refine#[_,c,k _ _ #[F,_,.fr d,aB.refl F,n,#[p,rfl,f,m,e.ow i d p q c,λj x hj=>?_],h]];intro a;have b:j≠i/\Hld g j x:=by
   by_cases z:j=i
   .subst z;rcases hj with hj | hj <;> rw[aG (lB l)] at hj <;> cases hj
   .exact#[z,by delta Hld at hj ⊢;rw[bh (lj z)] at hj;exact hj]
  exact b.1 (e.dis j i x d p b.2 (.inl q) a c)
 .exact h.elim
theorem uv(i:Nat){x:Str}(c:autoParam (X.N[i]?=some x) wE)(b:autoParam (Vis X.env.scope x) wq1)(hd:autoParam (Yk x) wP)(a:autoParam ((x == ("__classdict__":Str))=false) wP):P3 K X (.Name x pos) (eE i) (GU i):=#[i8 c b hd a,KN i]
variable {rest:List Stmt}{t u:TS}{t3 u3:TS3}
def Jy (D:E3)(Γ:G):Prop:=D.nx Γ
def Kx (t u:TS3)(D:E3)(Γ:G):Prop:=t { D with nx:=u D } Γ
def G7 (a:TE3)(D:E3)(Γ:G):Prop:=a Γ D.rt
def Fo (a:TE3)(D:E3)(Γ:G):Prop:=a Γ λ_ ak=>D.nx ak
theorem br:uh K X [] DB Jy:=#[A8,λB F a H b D c e k q=>k.nx F a H b (aB.refl F) e q]
theorem ag(h1:P3S K X st t t3)(d:uh K X rest u u3):uh K X (st::rest) (Ca t u) (Kx t3 u3):=#[jj h1.pe d.pe,λB F f H g D c e k q=>
 h1.rf B F f H g _ { c with nx:=u3 c } e #[λl a j b s i h=>d.rf B l a j b _ c i (k.mono s) h,k.rt,k.bk,k.ct] q]
theorem au(h1:P3S K X st t t3):uh K X [st] t t3:=#[l7 h1.pe,h1.rf]
theorem aD(h:P3 K X e te e3):P3S K X (.Return (some e) pos) (GR te) (G7 e3):=#[zu h.pe,λB F b H c D l e k q=>
 h.rf B F b H c _ _ e q λv i ⟨j,a,r,s,g,d,f⟩=>k.rt j b i a v r s g d f]
theorem c_(h:P3 K X e te e3)(hs:autoParam (Do e none pos.line X.env=pure false) wE):P3S K X (.Expr e pos) (DF te) (Fo e3):=#[rm h.pe hs,λB F b H c D l e k q=>
 h.rf B F b H c _ _ e q λv g ⟨i,a,r,s,f,j,d⟩=>k.nx i b g a s f d]
def bG (c:Bool)(t u:TS3)(a:E3)(Γ:G)(_:Tag (t,u,a)):Prop:=match c with
 | true=>t a Γ
 | false=>u a Γ
def L6 (a:TT3)(t u:TS3)(D:E3)(Γ:G):Prop:=a Γ λc ak=>bG c t u D ak ⟨⟩
theorem cf{c:Expr}{a b:List Stmt}{p:TT3}(h:P3T K X c tc p)(j:uh K X a t t3)(i:uh K X b u u3):P3S K X (.If c a b pos) (GS tc t u) (L6 p t3 u3):=#[D8 h.pe j.pe i.pe,λB F f H r D o e k q=>
 h.rf B F f H r _ _ e q λc m Z=>by
  let#[n,d,s,l,g]:=Z;cases c with
  | true=>exact zX (j.rf B n f m d D o l (k.mono s) g)
  | false=>exact zY (i.rf B n f m d D o l (k.mono s) g)]
theorem h_:P3S K X st DC (λ_ _=>False):=#[D7,λB F a H b D c e k q=>q]
def rX (i:Nat)(a:TE3)(D:E3)(Γ:G):Prop:=a Γ λr ak=>bT (bqa ak i) (D.nx (ak.set i (some r.sl))) False ⟨⟩ ⟨⟩
theorem l6(h:Ref K te e3):IW K (gY te (dE i)) (rX i e3):=λB F c H f D w e k q=>
 h B F c H f _ _ e q λv p Z=>by
  let#[u,d,r,s,o,j,b]:=Z;let#[hf,b]:=bTq b;replace hf:=bqP hf;let#[F2,t,g,n,a,m,l]:=o.norm j;exact k.nx F2 _ p _ (s.trans g) (by have:=n.set hf a l;rw[m] at this;exact this) b
theorem aI{x:Str}(d:X.N.Nodup)(hi:X.N[i]?=some x)(b:Loc X.env.scope x)(a:P3 K X e te e3)(hs:autoParam (Do e (some (.Name x pos')) pos.line X.env=pure false) wE)(c:autoParam (X.fn x=true\/X.env.scope.names.lookup x=some .local) wq0) :
  P3S K X (.Assign [.Name x pos'] e pos) (gY te (dE i)) (rX i e3):=#[zt d hi b a.pe hs c,l6 a.rf]
noncomputable def gives (Γ:G):List Nat->List D->Option G
 | [],[]=>some Γ
 | i::is,d::ds=>gives (Γ.set i (some (.fz d))) is ds
 | _,_=>none
noncomputable def frees (Γ:G):List Nat->List D->Prop
 | [],_=>True
 | i::is,d::ds=>bP Γ i/\frees (Γ.set i (some (.fz d))) is ds
 | _,_=>True
noncomputable def gFa:G->List Nat->List D->(G->Prop)->Prop
 | Γ,[],[],Q=>Q Γ
 | Γ,i::is,d::ds,Q=>bT (bqa Γ i) (gFa (Γ.set i (some (.fz d))) is ds Q) False ⟨⟩ ⟨⟩
 | _,_,_,_=>False
theorem gFs:∀ {is:List Nat} {ds:List D} {Γ:G} {Q:G->Prop},gFa Γ is ds Q->∃ Γ',gives Γ is ds=some Γ'/\frees Γ is ds/\Q Γ'
 | [],[],Γ,_,h=>#[Γ,rfl,trivial,h]
 | [],_::_,_,_,h=>h.elim
 | _::_,[],_,_,h=>h.elim
 | _::_,_::_,_,_,h=>let ⟨a,b⟩:=bTq h;let ⟨Γ',c,e,f⟩:=gFs b;#[Γ',c,#[bqP a,e],f]
theorem g0b{Q:G->Prop}:gFa Γ [] [] Q=Q Γ:=rfl
theorem g1b{is:List Nat}{d:D}{ds:List D}{Q:G->Prop}:gFa Γ (i::is) (d::ds) Q=bT (bqa Γ i) (gFa (Γ.set i (some (.fz d))) is ds Q) False ⟨⟩ ⟨⟩:=rfl
noncomputable def jZ:List Nat->TGs
 | []=>Ij
 | i::is=>yq (dE i) (jZ is)
theorem nP{is:List Nat}:∀ {Γ:G} {σ:_2.St} {vs:List V} {ds:List D} {Γ':G} {QQ:_2.St->Hp->Prop},En K B F σ H Γ->aC K F ds vs->gives Γ is ds=some Γ'->frees Γ is ds->(∀ aJ,En K B F aJ H Γ'->QQ aJ H)->jZ is vs σ H QQ:=by
 induction is with
 | nil=>
  intro Γ σ vs ds Γ' QQ e r g f k;cases ds with
  | nil=>cases g;cases r;exact#[rfl,k σ e]
  | cons d ds=>cases g
 | cons i is c=>
  intro Γ σ vs ds Γ' QQ e r g f k;cases ds with
  | nil=>cases g
  | cons d ds=>
   let#[v,ws,rfl,b,a]:=r;exact#[v,ws,rfl,c (e.set (r:=.fz d) f.1 b) a g f.2 k]
def Jn (is:List Nat)(a:TE3)(D:E3)(Γ:G):Prop:=a Γ λr ak=>mL (ast r.d) (λds=>gFa ak is ds D.nx) ⟨⟩
theorem vm{is:List Nat}:∀ {Γ Γ':G} {ds:List D},gives Γ is ds=some Γ'->ds.length=is.length:=by
 induction is with
 | nil=>intro Γ Γ' ds h;cases ds with | nil=>rfl | cons=>cases h
 | cons i is a=>intro Γ Γ' ds h;cases ds with | nil=>cases h | cons d ds=>simp -iota [a h]
theorem bW{kt:Nat}{a:Pos}{is:List Nat}(g:P3 K X e te e3)(z:PGs X es (jZ is))(A:X.calm=true)(y:autoParam ((qd es X.env).length=is.length) wE)(d:autoParam ((qd es X.env).findIdx? (·.1)=none) wE)(hs:autoParam (SC [.Tuple es kt a] e pos.line X.env=pure false) wE)(x:autoParam (SD [.Tuple es kt a] e X.env=pure none) wE)(h1:autoParam ((qd [.Tuple es kt a] X.env).map (·.2)=[assign (.Tuple es kt a) X.env]) wE)(C:autoParam (X.K=K) wE) :
  P3S K X (.Assign [.Tuple es kt a] e pos) (gY te (CP K is.length (jZ is))) (Jn is e3):=#[by subst C;exact zw g.pe (wq A z y d) hs x h1,λB F l H n D N e k q=>
 g.rf B F l H n _ _ e q λv L Z=>by
  let#[M,m,r,s,I,u,Z]:=Z;let#[J,h1,Z]:=cLa.1 Z;replace h1:=ast_ h1;let#[c,i,G,w]:=gFs Z;let#[F2,t,j,f]:=I.frozen u;rw[h1] at f;let#[p,o,rfl,E,h]:=f;refine#[p,o,rfl,.inl (.inl (j.sub _ _ E)),by rw[h.length,vm i],nP j h i G λb e3=>k.nx F2 b _ c (s.trans t) e3 w]]
set_option backward.eqns.nonrecursive false in
noncomputable def putD (Γ:G)(i:Nat)(d:D):G:=match Γ[i]? with
 | some (some (.ow _))=>Γ.set i (some (.ow d))
 | some (some (.ln _))=>Γ.set i (some (.ln d))
 | _=>Γ
set_option backward.eqns.nonrecursive false in
noncomputable def de (Γ:G)(i:Nat):Option (List D):=match Γ[i]? with
 | some (some (.ow (.lst xs)))=>some xs
 | some (some (.ln (.lst xs)))=>some xs
 | _=>none
theorem vg(h:de Γ i=some xs):Hld Γ i (.lst xs):=by
 delta de at h;split at h
 .cases h;rename_i q;exact .inl q
 .cases h;rename_i q;exact .inr q
 .cases h
theorem En.Lx(e:En K B F σ H Γ){C m:D}(hh:Hld Γ i C)(w:σ[i]?=some (some (V.ref p))){E:HO}(r:Own K F (upd H p E) p m):En K B F σ (upd H p E) (putD Γ i m):=by
 let#[S,I,G,R]:=e.hl i _ hh;rw[w] at I;cases I;let#[o,T]:=R.some;have l:(Γ[i]?=some (some (Sl.ow C))/\putD Γ i m=Γ.set i (some (.ow m)))\/(Γ[i]?=some (some (Sl.ln C))/\putD Γ i m=Γ.set i (some (.ln m))):=by
  rcases hh with q | q
  .exact .inl #[q,by delta putD;rw[q]]
  .exact .inr #[q,by delta putD;rw[q]]
 have il:i < Γ.length:=by rcases l with ⟨q,_⟩ | ⟨q,_⟩ <;> exact(gS0 q).1
 have f:∀ {j:Nat},j≠i->(putD Γ i m)[j]?=Γ[j]?:=λz=>by
  rcases l with ⟨_,q⟩ | ⟨_,q⟩ <;> rw[q,bh (lj z)]
 have same:∀ {s:Sl},(putD Γ i m)[i]?=some (some s)->(s=.ow m/\Γ[i]?=some (some (Sl.ow C)))\/(s=.ln m/\Γ[i]?=some (some (Sl.ln C))):=λ{s} q=>by
  rcases l with ⟨a,b⟩ | ⟨a,b⟩
  .rw[b,aG il] at q;cases q;exact .inl #[rfl,a]
  .rw[b,aG il] at q;cases q;exact .inr #[rfl,a]
 have A:∀ {j x},Hld (putD Γ i m) j x->(j=i/\x=m)\/(j≠i/\Hld Γ j x):=λ{j x} q=>by
  by_cases z:j=i
  .subst z
   left
   rcases q with q | q <;> rcases same q with ⟨h,_⟩ | ⟨h,_⟩ <;> cases h <;> exact#[rfl,rfl]
  .right;exact#[z,by delta Hld at q ⊢;rw[f z] at q;exact q]
 have v:∀ {j x},Hld (putD Γ i m) j x->∃ y,Hld Γ j y:=λq=>by
  rcases A q with ⟨rfl,_⟩ | ⟨_,q⟩
  .exact#[_,hh]
  .exact#[_,q]
 refine#[?_,?_,?_,?_,?_,?_,?_,?_,e.keep,e.new,?_,?_]
 .intro b u q;have z:b≠p:=λz=>by subst z;rw[G] at q;cases q
  rw[ao z];exact e.sub b u q
 .rcases l with ⟨_,q⟩ | ⟨_,q⟩ <;> rw[q,rx] <;> exact e.len
 .intro j d q;by_cases z:j=i
  .subst z;rcases same q with ⟨h,_⟩ | ⟨h,_⟩ <;> cases h
  .rw[f z] at q;exact e.fz j d q
 .intro j d q;rcases A q with ⟨rfl,rfl⟩ | ⟨z,q⟩
  .exact#[p,w,G,r]
  .let#[t,a,b,c]:=e.hl j d q;have O:t≠p:=λy=>z (e.dis j i _ _ p q hh (y ▸ a) w);exact#[t,a,b,c.mono (aB.refl F) (ao O)]
 .intro j d t q a;by_cases z:j=i
  .subst z;rcases same q with ⟨h,g⟩ | ⟨h,g⟩
   .exact e.ow j _ t g a
   .cases h
  .rw[f z] at q;exact e.ow j d t q a
 .intro j d t q a;by_cases z:j=i
  .subst z;rcases same q with ⟨h,g⟩ | ⟨h,g⟩
   .cases h
   .exact e.ln j _ t g a
  .rw[f z] at q;exact e.ln j d t q a
 .intro j k d U t N M;let#[L,Q]:=v N;let#[J,P]:=v M;exact e.dis j k L J t Q P
 .intro j t q;let#[a,d,b]:=e.par j t q;refine#[a,?_];by_cases z:j=i
  .simp_all
  .exact#[d,by rw[f z];exact b]
 .intro b u q n;have z:b≠p:=λz=>by
   subst z;rcases hh with g | g
   .rw[e.ow i _ _ g w] at q;cases q
   .exact n i (e.ln i _ _ g w)
  rw[ao z];exact e.rest b u q n
 .intro b q;by_cases z:b=p
  .subst z;rw[aw] at q;cases q
  .rw[ao z] at q;exact e.dom b q
theorem En.mut(e:En K B F σ H Γ){b:List D}(h:de Γ i=some xs)(c:σ[i]?=some (some (V.ref p))){a:List V}(r:aC K F b a):En K B F σ (upd H p (.lst a)) (putD Γ i (.lst b)):=
 e.Lx (vg h) c #[a,aw,r]
end
section
noncomputable def newD:On->G->Nat->Option D
 | some a::ls,s::cs,j=>if a=j then (match s with
   | some (.ln d)=>some d
   | _=>newD ls cs j) else newD ls cs j
 | none::ls,_::cs,j=>newD ls cs j
 | _,_,_=>none
theorem eC:∀ {ls:On} {cs:G} {j:Nat} {d:D},newD ls cs j=some d->∃ k:Nat,ls[k]?=some (some j)/\cs[k]?=some (some (Sl.ln d))
 | some c::ls,s::cs,j,d,h=>by
  unfold newD at h;split at h
  .rename_i e;subst e;split at h
   .cases h;exact#[0,rfl,rfl]
   .let#[k,a,b]:=eC h;exact#[k + 1,by simpa using a,by simpa using b]
  .let#[k,a,b]:=eC h;exact#[k + 1,by simpa using a,by simpa using b]
 | none::ls,_::cs,j,d,h=>by
  unfold newD at h;let#[k,a,b]:=eC h;exact#[k + 1,by simpa using a,by simpa using b]
 | [],_,_,_,h=>by unfold newD at h;cases h
 | some _::_,[],_,_,h=>by unfold newD at h;cases h
 | none::_,[],_,_,h=>by unfold newD at h;cases h
theorem rA:∀ {ls:On} {cs:G} {j k:Nat} {d:D},ls[k]?=some (some j)->cs[k]?=some (some (Sl.ln d))->∃ d',newD ls cs j=some d'
 | [],_,_,_,_,h,_=>by simp -iota at h
 | _::_,[],_,_,_,_,h=>by simp -iota at h
 | some b::ls,s::cs,j,0,d,h,a=>by
  simp -iota at h a;subst h a;exact#[d,by unfold newD;rw[if_pos rfl]]
 | none::ls,s::cs,j,0,d,h,a=>by simp -iota at h
 | some b::ls,s::cs,j,k + 1,d,h,a=>by
  unfold newD;split
  .split
   .exact#[_,rfl]
   .exact rA (k:=k) (by simpa using h) (by simpa using a)
  .exact rA (k:=k) (by simpa using h) (by simpa using a)
 | none::ls,s::cs,j,k + 1,d,h,a=>by
  unfold newD;exact rA (k:=k) (by simpa using h) (by simpa using a)
noncomputable def gA (n:Option D):Option Sl->Option Sl
 | some (.ow d)=>some (.ow (n.getD d))
 | some (.ln d)=>some (.ln (n.getD d))
 | s=>s
noncomputable def pLa:G->Nat->D->G
 | s::Γ,0,d=>gA (some d) s::Γ
 | s::Γ,i + 1,d=>s::pLa Γ i d
 | [],_,_=>[]
noncomputable def bK:On->G->G->G
 | [],Γ,_=>Γ
 | none::ls,Γ,cs=>bK ls Γ cs.tail
 | some i::ls,Γ,some (.ln d)::cs=>pLa (bK ls Γ cs) i d
 | some _::ls,Γ,cs=>bK ls Γ cs.tail
theorem gA0(s:Option Sl):gA none s=s:=by
 rcases s with _|s;rfl;cases s<;>rfl
theorem pLg {d:D}:∀ {Γ:G} {i j:Nat},(pLa Γ i d)[j]?=(Γ[j]?).map (gA (if i=j then some d else none))
 | [],_,_=>by simp [pLa]
 | s::Γ,0,0=>rfl
 | s::Γ,0,j + 1=>by rw[if_neg (by omega),show gA none=id from funext gA0,Vd];rfl
 | s::Γ,i + 1,0=>by rw[if_neg (by omega),show gA none=id from funext gA0,Vd];rfl
 | s::Γ,i + 1,j + 1=>by
  have:=pLg (d:=d) (Γ:=Γ) (i:=i) (j:=j)
  simpa [pLa] using this
theorem nD0:∀ {ls:On},newD ls [] j=none
 | []=>rfl
 | none::_=>rfl
 | some _::_=>rfl
theorem cV {j:Nat}:∀ {ls:On} {Γ cs:G},(bK ls Γ cs)[j]?=(Γ[j]?).map (gA (newD ls cs j))
 | [],Γ,cs=>by rw[show newD [] cs j=none from rfl,show gA none=id from funext gA0,Vd];rfl
 | none::ls,Γ,[]=>by rw[nD0];exact (cV (ls:=ls) (cs:=[])).trans (by rw[nD0])
 | none::ls,Γ,_::cs=>cV (ls:=ls) (cs:=cs)
 | some i::ls,Γ,[]=>by rw[nD0];exact (cV (ls:=ls) (cs:=[])).trans (by rw[nD0])
 | some i::ls,Γ,s::cs=>by
  have h:=cV (j:=j) (ls:=ls) (Γ:=Γ) (cs:=cs)
  have n:(∀ d,s≠some (.ln d))->(bK (some i::ls) Γ (s::cs))[j]?=(Γ[j]?).map (gA (newD (some i::ls) (s::cs) j)):=λw=>by
   have e:newD (some i::ls) (s::cs) j=newD ls cs j:=by
    rcases s with _|s
    .exact ite_self _
    cases s with
    | fz=>exact ite_self _
    | ow=>exact ite_self _
    | ln=>exact absurd rfl (w _)
   rw[e,←h];rcases s with _|s;rfl;cases s;rfl;rfl;exact absurd rfl (w _)
  rcases s with _|s
  .exact n nofun
  cases s with
  | fz=>exact n nofun
  | ow=>exact n nofun
  | ln d=>
   show (pLa (bK ls Γ cs) i d)[j]?=_
   rw[pLg,h,Option.map_map]
   congr 1;funext s
   show gA (if i=j then some d else none) (gA (newD ls cs j) s)=gA (if i=j then some d else newD ls cs j) s
   split
   .rcases s with _|s;rfl;cases s<;>rfl
   .exact gA0 _
theorem bLa{cs:G}:(bK ls Γ cs).length=Γ.length:=xl
 (Nat.not_lt.1 λh=>by have:=cV (ls:=ls) (Γ:=Γ) (cs:=cs) (j:=Γ.length);rw[RS h,Bk (cb _)] at this;cases this)
 (Nat.not_lt.1 λh=>by have:=cV (ls:=ls) (Γ:=Γ) (cs:=cs) (j:=(bK ls Γ cs).length);rw[RS h,Bk (cb _)] at this;cases this)
theorem En.back{F1:Hp}{own':List (Nat×Addr)}{f:G}(e:En K B F1 σ H1 Γ)(g:En K #[F1,H1,own'] F aS H f)(h1:∀ k p,(k,p)∈own'->∃ j d,ls[k]?=some (some j)/\Hld Γ j d/\σ[j]?=some (some (V.ref p))):En K B F σ H (bK ls Γ f):=by
 have D:∀ {j d},(bK ls Γ f)[j]?=some (some (Sl.fz d))->Γ[j]?=some (some (Sl.fz d)):=λ{j d} q=>by
  rw[cV] at q;cases w:Γ[j]? with
  | none=>rw[w] at q;cases q
  | some s=>
   rw[w] at q;cases s with
   | none=>cases q
   | some s=>cases s <;> cases q;rfl
 have m:∀ {j d},(bK ls Γ f)[j]?=some (some (Sl.ow d))->∃ d0,Γ[j]?=some (some (Sl.ow d0))/\d=(newD ls f j).getD d0:=λ{j d} q=>by
  rw[cV] at q;cases w:Γ[j]? with
  | none=>rw[w] at q;cases q
  | some s=>
   rw[w] at q;cases s with
   | none=>cases q
   | some s=>cases s <;> cases q;exact#[_,rfl,rfl]
 have r:∀ {j d},(bK ls Γ f)[j]?=some (some (Sl.ln d))->∃ d0,Γ[j]?=some (some (Sl.ln d0))/\d=(newD ls f j).getD d0:=λ{j d} q=>by
  rw[cV] at q;cases w:Γ[j]? with
  | none=>rw[w] at q;cases q
  | some s=>
   rw[w] at q;cases s with
   | none=>cases q
   | some s=>cases s <;> cases q;exact#[_,rfl,rfl]
 have gh:∀ {j d},Hld (bK ls Γ f) j d->∃ d0,Hld Γ j d0/\d=(newD ls f j).getD d0:=λ{j d} q=>by
  rcases q with q | q
  .let#[d0,a,b]:=m q;exact#[d0,.inl a,b]
  .let#[d0,a,b]:=r q;exact#[d0,.inr a,b]
 refine#[g.sub,by rw[bLa];exact e.len,?_,?_,?_,?_,?_,?_,e.keep.trans g.keep,?_,?_,?_]
 .intro j d q;let#[v,a,b]:=e.fz j d (D q);exact#[v,a,b.mono g.keep]
 .intro j d q;let#[d0,I,rfl]:=gh q;let#[p,a,b,c]:=e.hl j d0 I;let#[o,L]:=c.some;have O:F p=none:=by
   cases w:F p with
   | none=>rfl
   | some u=>
    rcases g.new p u w with z | z
    .simp_all
    .simp_all
  refine#[p,a,O,?_];cases w:newD ls f j with
  | some E=>
   let#[k,x,y]:=eC w;let#[J,R,U,Q]:=g.hl k E (.inr y);let#[C,M,t,_,A]:=h1 k J (g.ln k E J y R);rw[x] at t;cases t;rw[a] at A;cases A;exact Q
  | none=>
   have hk:∀ k,(k,p)∉own':=λk hk=>by
    let#[C,M,t,h,A]:=h1 k p hk;let#[_,T,y]:=g.par k p hk;have:C=j:=e.dis C j M d0 p h I A a;subst this;let#[S,z]:=rA t y;rw[w] at z;cases z
   have N:H p=H1 p:=by rw[L];exact g.rest p o L hk
   exact c.mono g.keep N
 .intro j d p q a;let#[d0,q,_]:=m q;exact e.ow j d0 p q a
 .intro j d p q a;let#[d0,q,_]:=r q;exact e.ln j d0 p q a
 .intro i j d E p l h;let#[d0,l,_]:=gh l;let#[P,h,_]:=gh h;exact e.dis i j d0 P p l h
 .intro j p q;let#[a,d,b]:=e.par j p q;exact#[a,_,by rw[cV,b];rfl]
 .intro b o q;rcases g.new b o q with z | z
  .exact e.new b o z
  .exact .inr (e.dom b z)
 .intro b o q n;have l:=e.rest b o q n;refine g.rest b o l λk hk=>?_;let#[j,d,x,y,a]:=h1 k b hk;rcases y with y | y
  .rw[e.ow j d b y a] at q;cases q
  .exact n j (e.ln j d b y a)
 .intro b q;exact e.dom b (g.dom b q)
structure ItR (K:Fg0) (F:Hp) (J:It) (xs:List D):Prop where
 go:∀ i H',aB F H'->i < xs.length->J.go i H'
 stop:∀ i H',aB F H'->i=xs.length->J.stop i H'
 yld:∀ i H' x H'' d,aB F H'->xs[i]?=some d->J.yld i H' x H''->(H''=H'/\Rep K F d x)\/∃ t vs ds,H' t=none/\H''=upd H' t (.tup vs)/\x=.ref t/\aC K F ds vs/\d=.tup ds
abbrev TI3:=G->(List D->G->Prop)->Prop
def GA (K:Fg0)(t:TI)(a:TI3):Prop:=∀ (B:Bs) (F:Hp) (σ:_2.St) (H:Hp) (Γ:G) (Q:List D->G->Prop) (R:It->Hp->Prop),En K B F σ H Γ->a Γ Q->(∀ J H1 F1 ak xs,aB F F1->En K B F1 σ H1 ak->ItR K F1 J xs->Q xs ak->R J H1)->t σ H R
structure P3I (K:Fg0) (X:Cx) (tg iter:Expr) (t:TI) (i3:TI3):Prop where
 pe:PI X tg iter t
 rf:GA K t i3
abbrev TG3:=D->G->(G->Prop)->Prop
def C_ (K:Fg0)(g:TG)(a:TG3):Prop:=∀ (B:Bs) (F:Hp) (σ:_2.St) (H:Hp) (Γ:G) (v:V) (d:D) (Q:G->Prop) (QQ:_2.St->Hp->Prop),En K B F σ H Γ->Rep K F d v->a d Γ Q->(∀ aJ Γ',En K B F aJ H Γ'->Q Γ'->QQ aJ H)->g v σ H QQ
structure P3G (K:Fg0) (X:Cx) (tg:Expr) (g:TG) (g3:TG3):Prop where
 pe:PG X tg g
 rf:C_ K g g3
def tgN (i:Nat)(d:D)(Γ:G)(Q:G->Prop):Prop:=bT (bqa Γ i) (Q (Γ.set i (some (.fz d)))) False ⟨⟩ ⟨⟩
def tgT (is:List Nat)(d:D)(Γ:G)(Q:G->Prop):Prop:=mL (ast d) (λds=>gFa Γ is ds Q) ⟨⟩
theorem aX{x:Str}(c:X.N.Nodup)(hi:X.N[i]?=some x)(a:Loc X.env.scope x)(b:autoParam (X.fn x=true\/X.env.scope.names.lookup x=some .local) wq0):P3G K X (.Name x pos) (dE i) (tgN i):=
 #[aq c hi a b,λB F f H g v d Q h e r q k=>k _ _ (e.set (r:=.fz d) (bqP (bTq q).1) r) (bTq q).2]
theorem fA{kt:Nat}{is:List Nat}(j:PGs X es (jZ is))(l:X.calm=true)(i:autoParam ((qd es X.env).length=is.length) wE)(c:autoParam ((qd es X.env).findIdx? (·.1)=none) wE)(m:autoParam (X.K=K) wE) :
  P3G K X (.Tuple es kt pos) (CP K is.length (jZ is)) (tgT is):=#[by subst m;exact wq l j i c,λB F u H w v d Q y e r q k=>by
 let#[x,s,q]:=cLa.1 q;cases ast_ s;let#[b,g,o,q]:=gFs q;let#[p,h,rfl,n,f]:=r;exact#[p,h,rfl,.inl (.inl (e.sub _ _ n)),by rw[f.length,vm g],nP e f g o λa t=>k a b t q]]
theorem ItR.turn(R:ItR K F J xs){a:Hp}(s:aB F F')(e:En K B F' σ H' Γ){d:D}{x:V}(hd:xs[i]?=some d)(y:J.yld i H' x a):∃ F2,aB F' F2/\En K B F2 σ a Γ/\Rep K F2 d x:=by
 rcases R.yld i H' x a d (s.trans e.sub) hd y with ⟨rfl,r⟩ | ⟨t,c,f,b,rfl,rfl,r,rfl⟩
 .exact#[F',aB.refl F',e,r.mono s]
 .exact#[upd F' t (.tup c),aY (e.nof b),(e.alloc b _).freeze (e.nof b) aw (e.dom _ b) (e.sX b),t,c,rfl,aw,r.mono (s.trans (aY (e.nof b)))]
def Mq (b:TI3)(c:TG3)(e:TS3)(D:E3)(Γ:G):Prop:=b Γ λxs ak=>∃ a:Nat->G->Prop,a 0 ak/\(∀ k d Γ,xs[k]?=some d->a k Γ->c d Γ λΓ'=>e { D with nx:=a (k + 1),ct:=a (k + 1),bk:=D.nx } Γ')/\∀ Γ,a xs.length Γ->D.nx Γ
theorem dY{l:List Stmt}{N:TI3}{Q:TG3}{L:TS}{S:TS3}(hp:Xf (model X.prog X.w) X.A X.env X.xe)(hc:X.calm=true)(hi:P3I K X tg iter wi N)(O:P3G K X tg g Q)(P:uh K X l L S)(hs:autoParam (∀ x,hB iter X.env x=pure x) wT) :
  P3S K X (.For tg iter l [] pos) (Kq wi g L) (Mq N Q S):=#[D9 hp hc hi.pe O.pe P.pe hs,λB F C H W D V e k q=>by
 refine hi.rf B F C H W _ _ e q λJ H1 F1 E o G e1 R Z=>?_;let#[A,i0,it,ie]:=Z;refine#[λi m C H=>m=o.length - i/\i<=o.length/\∃ h d,aB F1 h/\En K B h C H d/\A i d,#[_,rfl,eA _,F1,E,aB.refl _,e1,i0],?_];rintro i m p I ⟨rfl,a1,F2,j,t,w,M⟩;by_cases lt:i < o.length
 .refine .inr #[R.go i I (t.trans w.sub) lt,λf n=>∃ h d,aB F1 h/\En K B h f n d/\A (i + 1) d,λf n ⟨h,d,a,b,c⟩=>#[o.length - (i + 1),by exact YE V1 (V3 (Yb lt)),rfl,lt,h,d,a,b,c],λx T y=>?_];have hd:o[i]?=some o[i]:=gE0 lt;let#[U,Y,e3,r3]:=R.turn t w hd y;refine O.rf B U p T j x _ _ _ e3 r3 (it i _ j hd M) λf d e4 q4=>?_;have u:=t.trans Y;refine P.rf B U f T d _ { V with nx:=A (i + 1),ct:=A (i + 1),bk:=V.nx } e4 #[λh f n d s e q=>#[h,d,u.trans s,e,q],λh f n d v r s e rv q=>k.rt h f n d v r ((G.trans u).trans s) e rv q,λh f n d s e q=>k.nx h f n d ((G.trans u).trans s) e q,λh f n d s e q=>#[h,d,u.trans s,e,q]] q4
 .have z:i=o.length:=by lia
  subst z;exact .inl #[R.stop _ I (t.trans w.sub) rfl,k.nx F2 p I j (G.trans t) w (ie j M)]]
noncomputable def asl:D->Option (List D)
 | .lst xs=>some xs
 | _=>none
theorem asl_{d:D}(h:asl d=some xs):d=.lst xs:=by cases d <;> cases h;rfl
theorem aslb:asl (.lst xs)=some xs:=rfl
def iL3 (a:TE3)(Γ:G)(Q:List D->G->Prop):Prop:=a Γ λr ak=>mL (asl r.d) (λxs=>Q xs ak) ⟨⟩
theorem bR{l:Expr}{tl:TE}{o:TE3}(h:P3 K X l tl o)(E:autoParam (X.K=K) wE):P3I K X tg l (EW K tl) (iL3 o):=#[by subst E;exact A_ h.pe,λB F u H w Q R e q k=>
 h.rf B F u H w _ _ e q λv J Z=>by
  let#[O,j,r,s,I,C,Z]:=Z;let#[z,hx,D]:=cLa.1 Z;replace hx:=asl_ hx;let#[F2,A,t,n]:=I.frozen C;rw[hx] at n;let#[p,a,rfl,g,m]:=n;refine#[p,rfl,#[a,SqL.of (t.sub _ _ g)],k _ J F2 j z (s.trans A) t #[λi f b lt=>?_,λi f b L=>?_,λi f x N d b hd y=>?_] D]
  .rw[<- m.length] at lt;exact#[a,a[i],SqL.of (b _ _ g),by simp -iota [lt]]
  .exact#[a,SqL.of (b _ _ g),by rw[m.length];lia]
  .let#[G,y]:=y;let#[M,c,r]:=m.E5 (y a (SqL.of (b _ _ g)));rw[hd] at c;cases c;exact .inl #[G,r]]
noncomputable def rng (lo:Int)(n:Nat):List D:=(hV n).map λ(k:Nat)=>D.int (lo + (k:Int))
theorem Jp{lo:Int}{n:Nat}:ItR K F (Itr lo n) (rng lo n):=by
 have a:(rng lo n).length=n:=by simp -iota [rng]
 refine#[λi b _ lt=>by rw[a] at lt;exact lt,λi b _ e=>by rw[a] at e;exact Qy e.symm,λi b x h d _ hd y=>?_];let#[g,f]:=y;subst g f;refine .inl #[rfl,?_];have c:i < n:=by have:=(gS0 hd).1;rw[a] at this;exact this
 have:(rng lo n)[i]?=some (.int (lo + i)):=by delta rng;rw[ef,HZ c];rfl
 rw[this] at hd;cases hd
 rfl
def iR1 (a:TA3)(Γ:G)(Q:List D->G->Prop):Prop:=a Γ λds ak=>mI (o1a ds) (λj=>-(2 ^ 62)<=j/\j < 2 ^ 62/\Q (rng 0 j.toNat) ak) ⟨⟩
def iR2 (a:TA3)(Γ:G)(Q:List D->G->Prop):Prop:=a Γ λds ak=>∃ i j:Int,ds=[.int i,.int j]/\(-(2 ^ 62)<=i/\i < 2 ^ 62/\-(2 ^ 62)<=j/\j < 2 ^ 62)/\Q (rng i (j - i).toNat) ak
theorem b_{ta:TA}{d:TA3}{p:Pos}(n:X.mg "range"=none)(c:P3A K X [a] ta d)(hs:autoParam (ed [a] X.env=[(false,eval a X.env)]) wE)(o:autoParam (Gl X "range") wE):P3I K X tg (.Call (.Name "range" p) [a] [] pos) (JI ta) (iR1 d):=#[Cp o n c.pe hs,λB F f H g Q R e q k=>
 c.rf B F f H g _ _ e q λz x Z=>by
  let#[y,b,A,s,w,h,Z]:=Z;let#[j,u,t,r,m]:=cIa Z;cases o1s u;let#[v,ws,rfl,l,i]:=h;cases l;cases i;exact#[j,rfl,t,r,k _ x y b _ s w Jp m]]
theorem ve{b:Expr}{ta:TA}{g:TA3}{p:Pos}(x:Gl X "range")(u:X.mg "range"=none)(f:P3A K X [a,b] ta g)(hs:autoParam (ed [a,b] X.env=[(false,eval a X.env),(false,eval b X.env)]) wE)(d:autoParam (ed [b] X.env=[(false,eval b X.env)]) wE) :
  P3I K X tg (.Call (.Name "range" p) [a,b] [] pos) (JH ta) (iR2 g):=#[Co x u f.pe hs d,λB F h H l Q R e q k=>
 f.rf B F h H l _ _ e q λE C Z=>by
  let#[D,c,G,s,A,n,i,j,z,y,t]:=Z;subst z;let#[v,ws,rfl,r,w,m,rfl,o,r3]:=n;cases r;cases o;cases r3;exact#[i,j,rfl,y,k _ C D c _ s A Jp t]]
noncomputable def uk (xs ys:List D):List D:=(xs.zip ys).map λp=>.tup [p.1,p.2]
theorem rJ{d:D}(h:(uk xs ys)[i]?=some d):∃ x y,xs[i]?=some x/\ys[i]?=some y/\d=.tup [x,y]:=by
 delta uk at h;rw[ef] at h;cases q:(xs.zip ys)[i]? with
 | none=>rw[q] at h;cases h
 | some p=>
  rw[q] at h;cases h;rw[Tx] at q;exact#[_,_,q.1,q.2,rfl]
theorem AU(h:H p=some (.lst vs)):tyV K "list" (.ref p) H:=.inl #[rfl,_,SqL.of h]
theorem En.de(e:En K B F σ H Γ)(h:de Γ i=some xs):∃ p vs,σ[i]?=some (some (V.ref p))/\H p=some (.lst vs)/\aC K F xs vs:=by
 let#[p,a,b,vs,c,d]:=e.hl i _ (vg h);exact#[p,vs,a,c,d]
def MM (i:Nat)(a:TE3)(Γ:G)(Q:RV->G->Prop):Prop:=mL (de Γ i) (λ_=>a Γ λr ak=>mL (de ak i) (λxs=>xs.length < sizeLine/\Q (.fz .non) (putD ak i (.lst (xs++[r.d])))) ⟨⟩) ⟨⟩
theorem Hd(i:Nat)(h:Ref K te e3):Ref K (tBM K "list" wk (eE i) (ql te rO)) (MM i e3):=by
 intro B F j H m Q I e q k;let#[n,A,q]:=cLa.1 q;let#[p,o,d,D,_]:=e.de A;refine#[_,d,AU D,h B F j H m _ _ e q λv J Z=>?_];let#[L,l,r,s,C,w,Z]:=Z;let#[E,f,z,y]:=cLa.1 Z;let#[F2,u,g,x]:=C.frozen w;let#[G,t,a,b,c]:=g.de f;rw[d] at a;cases a;exact#[p,t,v,rfl,rfl,b,by rw[c.length];exact z,k _ _ #[F2,_,.fz .non,s.trans u,g.mut f d (aC.append (ys:=[r.d]) c #[v,[],rfl,x,rfl]),rfl,y]]
def ext3 (i:Nat)(a:TB3)(Γ:G)(Q:RV->G->Prop):Prop:=(∃ xs,de Γ i=some xs)/\a Γ λr ak=>∃ xs ys,de ak i=some xs/\r.at ak=some (.lst ys)/\xs.length + ys.length<=sizeLine/\Q (.fz .non) (putD ak i (.lst (xs++ys)))
theorem Hc{j:TB3}(i:Nat)(h:ug K te j):Ref K (tBM K "list" wj (eE i) (ql te rO)) (ext3 i j):=by
 intro B F m H o Q J e ⟨⟨t,C⟩,q⟩ k;let#[p,u,f,D,_]:=e.de C;refine#[_,f,AU D,h B F m H o _ _ e q λv L Z=>?_];let#[F2,n,r,s,d,x,G,E,g,A,z,y]:=Z;let#[p2,ws,rfl,b2,l]:=d.bo x A;let#[I,w,a,b,c]:=d.de g;rw[f] at a;cases a;exact#[p,p2,w,ws,rfl,rfl,b,b2,by rw[c.length,l.length];exact z,k _ _ #[F2,_,.fz .non,s,d.mut g f (c.append l),rfl,y]]
variable {o:Expr}{eb:TB3}
theorem eu(i:Nat){x:Str}(g:P3B K X (.Name x px) (eE i) (bor i))(f:P3 K X e te e3)(c:autoParam (O8 (.Name x px) "append" X.env (eval (.Name x px) X.env)=eval (.Name x px) X.env) wE)(d:autoParam (((backTo cpos (ed [e] X.env)).all (λx=>!x.1) && (SJ cpos (Ql [] X.env)).all (λx=>x.1.isSome)
   && decide ([e].length + ([]:List VR).length + (if ([]:List VR).isEmpty then 0 else 1) < 30))=true) wE)(b:autoParam ((apos.endLine == cpos.line)=true) wE)(hs:autoParam (ed [e] X.env=(false,eval e X.env)::ed [] X.env) wE)(a:autoParam ((backTo cpos (ed [] X.env)).any (·.1)=false) wE)(h:autoParam (X.K=K) wE) :
  P3 K X (.Call (.Attribute (.Name x px) "append" apos) [e] [] cpos) (tBM K "list" wk (eE i) (ql te rO)) (MM i e3):=
 #[by subst h;exact Ju Ue UF PySem.F.type_list_append CA g.pe (gK f.pe pW hs) c d b hs a,Hd i f.rf]
theorem pY(i:Nat){x:Str}(h:X.K=K)(g:P3B K X (.Name x px) (eE i) (bor i))(f:P3B K X e te eb)(c:autoParam (O8 (.Name x px) "extend" X.env (eval (.Name x px) X.env)=eval (.Name x px) X.env) wE)(d:autoParam (((backTo cpos (ed [e] X.env)).all (λx=>!x.1) && (SJ cpos (Ql [] X.env)).all (λx=>x.1.isSome)
   && decide ([e].length + ([]:List VR).length + (if ([]:List VR).isEmpty then 0 else 1) < 30))=true) wE)(b:autoParam ((apos.endLine == cpos.line)=true) wE)(hs:autoParam (ed [e] X.env=(false,eval e X.env)::ed [] X.env) wE)(a:autoParam ((backTo cpos (ed [] X.env)).any (·.1)=false) wE) :
  P3 K X (.Call (.Attribute (.Name x px) "extend" apos) [e] [] cpos) (tBM K "list" wj (eE i) (ql te rO)) (ext3 i eb):=
 #[by subst h;exact Ju Ue UH PySem.F.type_list_extend Cz g.pe (gK f.pe pW hs) c d b hs a,Hc i f.rf]
def A1 (i:Nat)(c:TB3)(d:TE3)(D:E3)(Γ:G):Prop:=d Γ λr ak=>(∃ xs,de ak i=some xs)/\c ak λb a=>∃ xs k j,de a i=some xs/\b.at a=some (.int k)/\ixN xs.length k=some j/\D.nx (putD a i (.lst (xs.set j r.d)))
theorem G2(i:Nat){x:Str}{p2:Pos}{k:Expr}{g:TE}(h:P3B K X (.Name x px) (eE i) (bor i))(hk:P3B K X k g k3)(O:P3 K X e te e3)(L:PS X (.Assign [.Subscript (.Name x px) k p2] e pos) (gY te (CQ (eE i) g uW))) :
  P3S K X (.Assign [.Subscript (.Name x px) k p2] e pos) (gY te (CQ (eE i) g uW)) (A1 i k3 e3):=#[L,λB F d H t D D3 e k q=>
 O.rf B F d H t _ _ e q λv S Z=>by
  let#[F',f,r,s,R,C,#[w,Q],J]:=Z;let#[F2,A,n,G]:=R.frozen C;let#[p,y,l,Y,_]:=n.de Q;refine#[_,l,hk.rf B F2 d S f _ _ n J λu H2 Z=>?_];let#[T,o,W,m,e3,E,U,kk,j,h,P,N,I]:=Z;let#[V,z,a,b,c]:=e3.de h;rw[l] at a;cases a;have M:u=.int kk:=e3.bo E P;exact#[p,z,kk,j,rfl,M,b,by rw[c.length];exact N,k.nx T d _ _ ((s.trans A).trans m) (e3.mut h l (aC.set (G.mono m) j c)) I]]
end
set_option backward.eqns.nonrecursive false in
noncomputable def gB:Option (Option Sl)->Option Sl
 | some (some (.fz d))=>some (.fz d)
 | some (some (.ow d))=>some (.ln d)
 | some (some (.ln d))=>some (.ln d)
 | _=>none
set_option backward.eqns.nonrecursive false in
noncomputable def qh (Γ:G):Bo->Option Sl
 | .d x=>some (.fz x)
 | .v i=>gB Γ[i]?
set_option backward.eqns.nonrecursive false in
noncomputable def cM:Option Bo->Option Nat
 | some (.v i)=>some i
 | _=>none
noncomputable def Ew (Γ:G)(σ:_2.St)(k:Nat):Option Bo->Option (Nat×Addr)
 | some (.v i)=>match Γ[i]?,σ[i]? with
  | some (some (.ow _)),some (some (.ref p))=>some (k,p)
  | some (some (.ln _)),some (some (.ref p))=>some (k,p)
  | _,_=>none
 | _=>none
noncomputable def ownOf (Γ:G)(σ:_2.St)(bs:List (Option Bo)):List (Nat×Addr):=(hV bs.length).filterMap λk=>(bs[k]?).bind (Ew Γ σ k)
theorem md{bs:List (Option Bo)}:(k,p)∈ownOf Γ σ bs↔∃ i d,bs[k]?=some (some (Bo.v i))/\Hld Γ i d/\σ[i]?=some (some (V.ref p)):=by
 delta ownOf;rw[R3];constructor
 .rintro⟨b,_,h⟩;cases q:bs[b]? with
  | none=>rw[q] at h;cases h
  | some o=>
   rw[q] at h;change Ew Γ σ b o=some (k,p) at h;delta Ew at h;split at h
   .rename_i i;split at h
    .rename_i d c a h2;cases h;exact#[i,d,q,.inl a,h2]
    .rename_i d c a h2;cases h;exact#[i,d,q,.inr a,h2]
    .cases h
   .cases h
 .rintro⟨i,d,a,h2,e⟩;refine#[k,FS.mpr (gS0 a).1,?_];rw[a];show Ew Γ σ k (some (Bo.v i))=_;delta Ew;rcases h2 with h2 | h2
  .simp_all
  .simp_all
noncomputable def et (Γ:G)(bs:List (Option Bo)):G:=bs.map λo=>o.bind (qh Γ)
theorem jH{bs:List (Option Bo)}{s:Sl}:(et Γ bs)[k]?=some (some s)↔∃ a,bs[k]?=some (some a)/\qh Γ a=some s:=by
 delta et;rw[ef];constructor
 .intro h;cases q:bs[k]? with
  | none=>rw[q] at h;cases h
  | some o=>
   rw[q] at h;cases o with
   | none=>cases h
   | some a=>exact#[a,rfl,by simpa using h]
 .rintro⟨a,c,b⟩;rw[c];simp -iota [b]
theorem II{bo:Bo}{d:D}(h:qh Γ bo=some (.ln d)):∃ i,bo=.v i/\Hld Γ i d:=by
 cases bo with
 | d x=>cases h
 | v i=>
  change gB Γ[i]?=_ at h;delta gB at h;split at h
  .cases h
  .cases h;rename_i q;exact#[i,rfl,.inl q]
  .cases h;rename_i q;exact#[i,rfl,.inr q]
  .cases h
theorem IJ{bo:Bo}{d:D}(h:qh Γ bo=some (.fz d)):bo=.d d\/∃ i,bo=.v i/\Γ[i]?=some (some (Sl.fz d)):=by
 cases bo with
 | d x=>cases h;exact .inl rfl
 | v i=>
  change gB Γ[i]?=_ at h;delta gB at h;split at h
  .cases h;rename_i q;exact .inr #[i,rfl,q]
  .cases h
  .cases h
  .cases h
theorem xg{bo:Bo}{d:D}:qh Γ bo≠some (.ow d):=by
 intro h;cases bo with
 | d x=>cases h
 | v i=>change gB Γ[i]?=_ at h;delta gB at h;split at h <;> cases h
theorem rH{bs:List (Option Bo)}:∀ (k:Nat) (d:D),(et Γ bs)[k]?≠some (some (Sl.ow d)):=λk d h=>by
 let#[a,_,h]:=jH.mp h;exact xg h
theorem En.inner(e:En K B F σ H Γ){bs:List (Option Bo)}(J:aS.length=bs.length)(m:∀ (k:Nat) (bo:Bo) (s:Sl),bs[k]?=some (some bo)->qh Γ bo=some s->∃ v,aS[k]?=some (some v)/\qJ K F σ bo v)(G:∀ (k t i:Nat),bs[k]?=some (some (Bo.v i))->bs[t]?=some (some (Bo.v i))->k=t):En K #[F,H,ownOf Γ σ bs] F aS H (et Γ bs):=by
 have f:∀ {k d},Hld (et Γ bs) k d->∃ i p,bs[k]?=some (some (Bo.v i))/\Hld Γ i d/\σ[i]?=some (some (V.ref p))/\aS[k]?=some (some (V.ref p)):=λ{k d} q=>by
  rcases q with q | q
  .let#[bo,g,h2]:=jH.mp q;exact absurd h2 xg
  .let#[bo,g,h2]:=jH.mp q;let#[v,j,c]:=m k bo _ g h2;let#[i,rfl,l]:=II h2;let#[p,n,_]:=e.hl i d l;rw[show σ[i]?=some (some v) from c] at n;cases n;exact#[i,p,g,l,c,j]
 refine#[e.sub,by delta et;rw[lM0];exact J,?_,?_,?_,?_,?_,?_,aB.refl F,λb o h=>.inl h,λb o h _=>h,λb h=>h]
 .intro k d q;let#[bo,g,h2]:=jH.mp q;let#[v,j,c]:=m k bo _ g h2;refine#[v,j,?_];rcases IJ h2 with rfl | ⟨i,rfl,l⟩
  .exact c
  .let#[u,n,w]:=e.fz i d l;rw[show σ[i]?=some (some v) from c] at n;cases n;exact w
 .intro k d q;let#[i,p,g,h2,j,c]:=f q;let#[E,l,n,w]:=e.hl i d h2;rw[j] at l;cases l;exact#[p,c,n,w]
 .intro k d p q;let#[bo,g,h2]:=jH.mp q;exact absurd h2 xg
 .intro k d p q a;let#[i,E,g,h2,j,c]:=f (.inr q);rw[a] at c;cases c;exact md.mpr #[i,d,g,h2,j]
 .intro k t d L p D C N M;let#[i,O,g,h2,j,c]:=f D;let#[I,p2,z,y,x,r]:=f C;rw[N] at c;cases c;rw[M] at r;cases r;have:=e.dis i I d L p h2 y j x;subst this;exact G k t i g z
 .intro k p q;let#[i,d,g,h2,j]:=md.mp q;have A:qh Γ (.v i)=some (.ln d):=by
   show gB Γ[i]?=_;rcases h2 with h2 | h2 <;> rw[h2] <;> rfl
  let#[v,c,l]:=m k _ _ g A;rw[show σ[i]?=some (some v) from l] at j;cases j;exact#[c,d,jH.mpr #[_,g,A]]
theorem oi{bs:List (Option Bo)}:∀ k p,(k,p)∈ownOf Γ σ bs->∃ j d,(bs.map cM)[k]?=some (some j)/\Hld Γ j d/\σ[j]?=some (some (V.ref p)):=λk p h=>by
 let#[i,d,c,b,a]:=md.mp h;exact#[i,d,by rw[ef,c];rfl,b,a]
noncomputable def e_ (a:On):List (Option Bo):=a.map λo=>o.map Bo.v
def vz (f:On)(g:TI3)(h:TG3)(i:TE3)(Γ:G)(Q:RV->G->Prop):Prop:=g Γ λxs ak=>xs.length < sizeLine/\∃ b:Nat->List D->G->Prop,b 0 [] (et ak (e_ f))/\
 (∀ k d ys a,xs[k]?=some d->ys.length=k->b k ys a->h d a λe=>i e λr c=>b (k + 1) (ys++[r.d]) c)/\∀ ys a,ys.length=xs.length->b xs.length ys a->Q (.fr (.lst ys)) (bK f ak a)
theorem Ga(h:(fr.filterMap id).Nodup):∀ (k k' i:Nat),(e_ fr)[k]?=some (some (Bo.v i))->(e_ fr)[k']?=some (some (Bo.v i))->k=k':=by
 delta e_;have e:∀ (l:On),(l.filterMap id).Nodup->∀ (k k' i:Nat),l[k]?=some (some i)->l[k']?=some (some i)->k=k':=by
  intro l
  induction l with
  | nil=>intro _ k k' i h;simp -iota at h
  | cons o l d=>
   intro a k k' i h b;cases o with
   | none=>
    rw[List.filterMap_cons_none rfl] at a;cases k with
    | zero=>simp -iota at h
    | succ k=>
     cases k' with
     | zero=>simp -iota at b
     | succ k'=>rw[d a k k' i (by simpa using h) (by simpa using b)]
   | some j=>
    rw[show WX id (some j::l)=j::WX id l from rfl,jl] at a;have c:∀ {k:Nat},l[k]?=some (some i)->i∈l.filterMap id:=λq=>R3.mpr #[some i,ek q,rfl];cases k with
    | zero=>
     simp -iota at h;subst h;cases k' with
     | zero=>rfl
     | succ k'=>exact absurd (c (by simpa using b)) a.1
    | succ k=>
     cases k' with
     | zero=>
      simp -iota at b;subst b;exact absurd (c (by simpa using h)) a.1
     | succ k'=>rw[d a.2 k k' i (by simpa using h) (by simpa using b)]
 intro k k' i g f;refine e fr h k k' i ?_ ?_
 .simp_all
 .simp_all
theorem tM:(e_ fr).map cM=fr:=by
 delta e_;rw[zq]
 conv=>rhs;rw[<- Wu fr]
 refine IQ λo _=>?_;cases o <;> rfl
theorem En.blk(e:En K B F σ H Γ)(f:(fr.filterMap id).Nodup):En K #[F,H,ownOf Γ σ (e_ fr)] F (pE fr σ) H (et Γ (e_ fr)):=by
 refine e.inner (by delta pE e_;simp) (λk bo s a b=>?_) (Ga f);unfold e_ at a;rw[ef] at a;cases q:fr[k]? with
 | none=>rw[q] at a;cases a
 | some o=>
  rw[q] at a;cases o with
  | none=>cases a
  | some j=>
   cases a;have:∃ d,Gat Γ j=some d:=by
    change gB Γ[j]?=_ at b;delta gB at b;delta Gat
    split at b <;> first | (cases b;done) | (rename_i w;rw[w];exact#[_,rfl]) | exact#[_,rfl]
   let#[d,hd]:=this;let#[v,c,_]:=e.get hd;refine#[v,?_,c];delta pE;rw[ef,q];simp -iota [c]
theorem xI{N:TI3}{O:TG3}(Y:(fr.filterMap id).Nodup)(hi:GA K wi N)(hg:C_ K g O)(he:Ref K te e3):Ref K (dU fr wi g (iE te)) (vz fr N O e3):=by
 intro B F σ H Γ Q QQ e q k;refine hi B F σ H Γ _ _ e q λJ H1 F1 c d U P R Z=>?_;let#[hz,Iv,i0,it,ie]:=Z;have eb:=P.blk Y;refine#[λi m ys b H=>m=d.length - i/\i<=d.length/\∃ D h f,aB F1 D/\En K #[F1,H1,ownOf c σ (e_ fr)] D b H h/\aC K D f ys/\f.length=i/\Iv i f h,#[_,rfl,eA _,F1,_,[],aB.refl _,eb,rfl,rfl,i0],?_];rintro i m ys b C ⟨rfl,a1,F2,a,f,j,o,u,n,M⟩;have E:ys.length < sizeLine:=by rw[u.length,n];lia
 by_cases lt:i < d.length
 .refine .inr #[R.go i C (j.trans o.sub) lt,λx S y=>?_];have hd:d[i]?=some d[i]:=gE0 lt;let#[T,L,A,r3]:=R.turn j o hd y;refine hg _ T b S a x _ _ _ A r3 (it i _ f a hd n M) λp t e4 X=>?_;refine#[E,he _ T p S t _ _ e4 X λy H5 Z=>?_];let#[F5,s,r,I,e5,V,v]:=Z;let#[F6,G,e6,W]:=e5.frozen V;refine#[d.length - (i + 1),by exact YE V1 (V3 (Yb lt)),rfl,lt,F6,s,f++[r.d],((j.trans L).trans I).trans G,e6,?_,by simp -iota [n],v];exact aC.append (ys:=[r.d]) (u.mono ((L.trans I).trans G)) #[y,[],rfl,W,rfl]
 .have z:i=d.length:=by lia
  subst z;refine .inl #[R.stop _ C (j.trans o.sub) rfl,E,λl w=>k _ _ ?_];have eo:En K B F2 σ C (bK fr c a):=P.back (ls:=fr) o (by have:=oi (Γ:=c) (σ:=σ) (bs:=e_ fr);rw[tM] at this;exact this);exact Po.mono (U.trans j) (l8 eo w u (ie f a n M))
theorem jW{i:TI3}{l:TG3}(o:X.calm=true)(hi:P3I K X tg iter wi i)(p:Blk X.N X.env.scope sc Nc fr)(j:∀ av ax C ex f,P3G K (aT X sc Nc av ax C ex f) tg g l)(k:∀ av ax C ex f,P3 K (aT X sc Nc av ax C ex f) elt te e3)(n:autoParam ((fr.filterMap id).Nodup) wP)(hs:autoParam (∀ x,hB iter X.env x=pure x) wT) :
  P3 K X (.ListComp elt [#[tg,iter,[],0]] sc pos) (dU fr wi g (iE te)) (vz fr i l e3):=
 #[k7 (m:=λD h=>nq elt D h) o hi.pe p (λa b c d e=>(j a b c d e).pe) (λa b c d e D=>jU rfl (k a b c d e).pe) (λ_ _ _=>rfl) hs,xI n hi.rf (j X.av X.ax 0 [] []).rf (k X.av X.ax 0 [] []).rf]
theorem zi{x:Str}{l:TI3}{p:TG3}(t:X.N.Nodup)(j:X.N[i]?=some x)(r:X.env.scope.names.lookup x=some .local)(s:X.calm=true)(hi:P3I K X tg iter wi l)(u:Blk X.N X.env.scope sc Nc fr)(n:∀ av ax C ex f,P3G K (aT X sc Nc av ax C ex f) tg g p)(o:∀ av ax C ex f,P3 K (aT X sc Nc av ax C ex f) elt te e3)(q:autoParam ((fr.filterMap id).Nodup) wP)(h:autoParam (Do (.ListComp elt [#[tg,iter,[],0]] sc pos) (some (.Name x px)) spos.line X.env=pure true) wE)(hs:autoParam (∀ x,hB iter X.env x=pure x) wT) :
  P3S K X (.Assign [.Name x px] (.ListComp elt [#[tg,iter,[],0]] sc pos) spos) (gY (dU fr wi g (iE te)) (dE i)) (rX i (vz fr l p e3)):=
 #[kY (m:=λD k=>nq elt D k) t j r s hi.pe u (λa b c d e=>(n a b c d e).pe) (λa b c d e D=>jU rfl (o a b c d e).pe) (λ_ _ _=>rfl) h hs,l6 (xI q hi.rf (n X.av X.ax 0 [] []).rf (o X.av X.ax 0 [] []).rf)]
abbrev S3:=G->(RV->G->Prop)->Prop
def sp3 (K:Fg0)(n:Nat)(S:S3):Sp:=λvs H Q _=>vs.length=n/\∃ F own aH a,En K #[F,H,own] F (vs.map some) H aH/\(∀ (k:Nat) (d:D),aH[k]?≠some (some (Sl.ow d)))/\S aH a/\∀ r Γ',a r Γ'->∀ v H' F',En K #[F,H,own] F' (vs.map some) H' Γ'->mJ K #[F,H,own] F' (vs.map some) H' Γ' v r->Q v H'
noncomputable def dM:List Bo->List Nat
 | []=>[]
 | .d _::a=>dM a
 | .v i::a=>i::dM a
def nIa (i:Nat):List Nat->Bool->Bool
 | [],b=>b
 | j::js,b=>bif i == j then false else nIa i js b
noncomputable def cKa:List Bo->Nat->Bool
 | .d _::a,n + 1=>cKa a n
 | .v i::a,n + 1=>nIa i (dM a) (cKa a n)
 | [],0=>true
 | _,_=>false
theorem nIs {i:Nat}{b:Bool}:∀ {js:List Nat},nIa i js b=true->i∉js/\b=true
 | [],h=>#[by simp,h]
 | j::js,h=>by
  unfold nIa at h;cases e:i == j with
  | true=>rw[e] at h;cases h
  | false=>
   rw[e] at h;let#[a,b]:=nIs (js:=js) h;exact#[by simp at e;simp [e,a],b]
theorem cKs:∀ {bs:List Bo} {n:Nat},cKa bs n=true->bs.length=n/\(dM bs).Nodup
 | [],0,_=>#[rfl,Qe]
 | [],_ + 1,h=>by cases h
 | .d _::_,0,h=>by cases h
 | .v _::_,0,h=>by cases h
 | .d _::bs,n + 1,h=>let ⟨a,b⟩:=cKs (bs:=bs) h;#[congrArg (·+1) a,b]
 | .v i::bs,n + 1,h=>let ⟨x,y⟩:=nIs h;let ⟨a,b⟩:=cKs y;#[congrArg (·+1) a,jl.2 #[x,b]]
def j_ (n:Nat)(S:S3)(b:eY)(Γ:G)(Q:RV->G->Prop):Prop:=b Γ λa ak=>bT (cKa a n) (S (et ak (a.map some)) λr aH=>Q r (bK ((a.map some).map cM) ak aH)) False ⟨⟩ ⟨⟩
theorem ES:∀ {bs:List Bo},(dM bs).Nodup->∀ (k k' i:Nat),(bs.map some)[k]?=some (some (Bo.v i))->(bs.map some)[k']?=some (some (Bo.v i))->k=k':=by
 intro bs h k k' i f e;have a:((((bs.map some).map cM)).filterMap id)=dM bs:=by
  clear h f e
  induction bs with
  | nil=>rfl
  | cons b bs c=>cases b with
   | d x=>simpa [cM,dM] using c
   | v j=>simpa [cM,dM] using c
 rw[<- a] at h;refine Ga h k k' i ?_ ?_
 .delta e_;rw[ef,ef,f];rfl
 .delta e_;rw[ef,ef,e];rfl
theorem cq.get:∀ {h:List Bo} {vs:List V},cq K F σ h vs->∀ {k:Nat} {bo:Bo},h[k]?=some bo->∃ v,vs[k]?=some v/\qJ K F σ bo v
 | [],_,_,k,bo,e=>by simp -iota at e
 | x::j,_,⟨v,ws,c,g,f⟩,0,d,e=>by subst c;simp -iota at e;subst e;exact#[v,rfl,g]
 | x::j,_,⟨v,ws,c,g,f⟩,i + 1,d,e=>by
  subst c;let#[u,a,b]:=cq.get f (k:=i) (bo:=d) (by simpa using e);exact#[u,by simpa using a,b]
theorem cq.length:∀ {a:List Bo} {vs:List V},cq K F σ a vs->vs.length=a.length
 | [],_,h=>by cases h;rfl
 | _::_,_,Z=>by let#[v,ws,c,d,b]:=Z;subst c;simp -iota [cq.length b]
theorem En.args(e:En K B F σ H Γ){bs:List Bo}(r:cq K F σ bs vs)(d:(dM bs).Nodup):En K #[F,H,ownOf Γ σ (bs.map some)] F (vs.map some) H (et Γ (bs.map some)):=by
 refine e.inner (by simp -iota [r.length]) (λk bo s c f=>?_) (ES d);rw[ef] at c;cases q:bs[k]? with
 | none=>rw[q] at c;cases c
 | some b=>
  rw[q] at c;cases c;let#[v,a,b]:=r.get q;exact#[v,by simp_all,b]
theorem En.called(e:En K B F σ H Γ){bs:List (Option Bo)}{r:RV}(A:En K #[F,H,ownOf Γ σ bs] F' aS H' aH)(m:mJ K #[F,H,ownOf Γ σ bs] F' aS H' aH v r) :
  aB F F'/\En K B F' σ H' (bK (bs.map cM) Γ aH)/\mJ K B F' σ H' (bK (bs.map cM) Γ aH) v r:=by
 have M:=e.back A oi;refine#[A.keep,M,?_];have nw:∀ {p:Addr},H p=none->∀ (i:Nat) (x:D),Hld (bK (bs.map cM) Γ aH) i x->σ[i]?≠some (some (V.ref p)):=λ{p} n i x hx I=>by
  obtain⟨d0,w⟩:∃ d0,Hld Γ i d0:=by
   rcases hx with hx | hx <;> rw[cV] at hx
   .cases w:Γ[i]? with
    | none=>rw[w] at hx;cases hx
    | some s=>rw[w] at hx;cases s with
     | none=>cases hx
     | some s=>cases s with
      | fz d=>cases hx
      | ow d=>exact#[d,.inl w]
      | ln d=>cases hx
   .cases w:Γ[i]? with
    | none=>rw[w] at hx;cases hx
    | some s=>rw[w] at hx;cases s with
     | none=>cases hx
     | some s=>cases s with
      | fz d=>cases hx
      | ow d=>cases hx
      | ln d=>exact#[d,.inr w]
  let#[P,a,b,c]:=e.hl i d0 w;rw[I] at a;cases a;let#[o,u]:=c.some;rw[n] at u;cases u
 cases r with
 | fz d=>exact m
 | fr d=>
  let#[p,l,k,j,h,y]:=m;exact#[p,l,k,j,e.dom p h,nw h]
 | two O N=>
  let#[t,p,q,E,ws,l,k,j,h,y,L,J,g]:=m;exact#[t,p,q,E,ws,l,k,j,h,y,L,J,λz f=>#[(g z f).1,e.dom z (g z f).2.1,nw (g z f).2.1]]
 | rws C=>
  let#[p,G,l,k,j,h,g]:=m;exact#[p,G,l,k,j,h,λz f=>#[(g z f).1,e.dom z (g z f).2.1,nw (g z f).2.1]]
theorem xJ{t:TA}{d:eY}{S:S3}{n:Nat}{E:XK}(h:yT K t d):Ref K (uN (sp3 K n S) [] E t) (j_ n S d):=by
 intro B F i H m Q G e q k;refine h B F i H m _ _ e q λC I Z=>?_;let#[F1,l,D,o,g,f,Z]:=Z;let#[y,s]:=bTq Z;let#[w,u]:=cKs y;rw[jn];refine#[by rw[f.length];exact w,F1,_,_,_,g.args f u,rH,s,λr j q v z A x p=>?_];let#[a,b,c]:=g.called x p;exact k v z #[A,_,r,o.trans a,b,c,q]
noncomputable def jra:Option (Option Sl)->D->Option Sl
 | some (some (.ln d)),_=>some (.ln d)
 | _,d=>some (.ln d)
noncomputable def jqa (x:Option (Option Sl)):Option Sl->Option Sl
 | some (.ln d)=>jra x d
 | s=>s
noncomputable def jo:G->G->G
 | [],_=>[]
 | s::Γ,Γ'=>jqa Γ'.head? s::jo Γ Γ'.tail
theorem jog:∀ {Γ Γ':G} {k:Nat},(jo Γ Γ')[k]?=(Γ[k]?).map (jqa Γ'[k]?)
 | [],_,_=>rfl
 | _::_,[],0=>rfl
 | _::_,_::_,0=>rfl
 | _::Γ,[],k + 1=>jog (Γ:=Γ) (Γ':=[]) (k:=k)
 | _::Γ,_::Γ',k + 1=>jog (Γ:=Γ) (Γ':=Γ') (k:=k)
theorem jol:∀ {Γ Γ':G},(jo Γ Γ').length=Γ.length
 | [],_=>rfl
 | _::Γ,_=>congrArg (·+1) (jol (Γ:=Γ))
theorem HH{d:D}(h:aH[k]?=some (some (Sl.ln d))){d':D}(h':Γ'[k]?=some (some (Sl.ln d'))):(jo aH Γ')[k]?=some (some (Sl.ln d')):=by
 rw[jog,h,h'];rfl
theorem om{s:Sl}(h:(jo aH Γ')[k]?=some (some s)):(∃ d d',aH[k]?=some (some (Sl.ln d))/\s=.ln d')\/(aH[k]?=some (some s)/\∀ d,s≠.ln d):=by
 rw[jog] at h;cases w:aH[k]? with
 | none=>rw[w] at h;cases h
 | some o=>
  rw[w] at h;cases o with
  | none=>cases h
  | some a=>
   cases a with
   | fz d=>cases h;exact .inr #[rfl,λd z=>by cases z]
   | ow d=>cases h;exact .inr #[rfl,λd z=>by cases z]
   | ln d=>
    left
    have h:jra Γ'[k]? d=some s:=fS h
    unfold jra at h;split at h <;> cases h <;> exact#[_,_,rfl,rfl]
theorem En.out{G F:Hp}{f:List (Nat×Addr)}{i l:_2.St}(B:En K #[G,F,f] G i F aH)(L:∀ (k:Nat) (d:D),aH[k]?≠some (some (Sl.ow d)))(n:En K #[G,F,f] F' l H' Γ'){r:RV}(R:mJ K #[G,F,f] F' l H' Γ' v r) :
  En K #[G,F,f] F' i H' (jo aH Γ')/\mJ K #[G,F,f] F' i H' (jo aH Γ') v r:=by
 have I:∀ {k:Nat} {d:D},aH[k]?=some (some (Sl.ln d))->∃ p o,(k,p)∈f/\i[k]?=some (some (V.ref p))/\l[k]?=some (some (V.ref p))/\Γ'[k]?=some (some (Sl.ln o))/\(jo aH Γ')[k]?=some (some (Sl.ln o)):=λ{k d} h=>by
  let#[p,a,b,c]:=B.hl k d (.inr h);have m:=B.ln k d p h a;let#[e,o,j]:=n.par k p m;exact#[p,o,m,a,e,j,HH h j]
 have g:∀ {k:Nat} {d:D},Hld (jo aH Γ') k d->∃ p E,aH[k]?=some (some (Sl.ln E))/\(k,p)∈f/\i[k]?=some (some (V.ref p))/\l[k]?=some (some (V.ref p))/\Γ'[k]?=some (some (Sl.ln d)):=λ{k d} h=>by
  rcases h with h | h
  .rcases om h with ⟨C,Q,_,z⟩ | ⟨z,_⟩
   .cases z
   .exact absurd z (L k d)
  .rcases om h with ⟨C,Q,z,_⟩ | ⟨_,z⟩
   .let#[p,o,m,a,e,j,s]:=I z;rw[h] at s;cases s;exact#[p,C,z,m,a,e,j]
   .exact absurd rfl (z d)
 refine#[#[n.sub,?_,?_,?_,?_,?_,?_,?_,n.keep,n.new,n.rest,n.dom],?_]
 .rw[jol];exact B.len
 .intro k d q;rcases om q with ⟨C,Q,_,z⟩ | ⟨z,_⟩
  .cases z
  .let#[u,a,b]:=B.fz k d z;exact#[u,a,b.mono n.keep]
 .intro k d q;let#[p,E,_,m,a,e,b]:=g q;let#[H,x,y,z]:=n.hl k d (.inr b);rw[e] at x;cases x;exact#[p,a,y,z]
 .intro k d p q;rcases om q with ⟨C,Q,_,z⟩ | ⟨z,_⟩
  .cases z
  .exact absurd z (L k d)
 .intro k d p q a;let#[H,E,_,m,e,_]:=g (.inr q);rw[a] at e;cases e;exact m
 .intro k Z d o p Y X a1 a2;let#[p1,C,z1,_]:=g Y;let#[p2,Q,z2,_]:=g X;exact B.dis k Z C Q p (.inr z1) (.inr z2) a1 a2
 .intro k p q;let#[a,d,b]:=B.par k p q;let#[H,o,m,e,_,_,c]:=I b;exact#[a,o,c]
 .cases r with
  | fz d=>exact R
  | fr d=>
   let#[p,P,O,N,M,S]:=R;refine#[p,P,O,N,M,λk x J a=>?_];let#[H,E,_,m,e,j,s]:=g J;rw[a] at e;cases e;exact S k x (.inr s) j
  | two xs ys=>
   let#[t,p,q,U,ws,P,O,N,M,S,h6,h7,A]:=R;refine#[t,p,q,U,ws,P,O,N,M,S,h6,h7,λz w=>#[(A z w).1,(A z w).2.1,λk x J a=>?_]];let#[H,E,_,m,e,j,s]:=g J;rw[a] at e;cases e;exact(A z w).2.2 k x (.inr s) j
  | rws T=>
   let#[p,W,P,O,N,M,A]:=R;refine#[p,W,P,O,N,M,λz w=>#[(A z w).1,(A z w).2.1,λk x J a=>?_]];let#[H,E,_,m,e,j,s]:=g J;rw[a] at e;cases e;exact(A z w).2.2 k x (.inr s) j
noncomputable def jM (N:Ls0)(a:G):G:=a++ji (N.length - a.length) none
theorem En.start(e:En K B F (vs.map some) H aH)(t:aH.length<=N.length):En K B F (_2.start N vs) H (jM N aH):=by
 have len:=e.len;rw[lM0] at len;have hs:∀ {i:Nat},i < aH.length->(_2.start N vs)[i]?=(vs.map some)[i]?:=λ{i} h=>by
  delta _2.start;rw[hZ (by rw[lM0];lia)]
 have c:∀ {i:Nat} {s:Sl},(jM N aH)[i]?=some (some s)->i < aH.length/\aH[i]?=some (some s):=λ{i s} h=>by
  delta jM at h;by_cases lt:i < aH.length
  .rw[hZ lt] at h;exact#[lt,h]
  .rw[rb (by lia)] at h;have:=ek h;rw[List.mem_replicate] at this;cases this.2
 have k:∀ {i:Nat} {d:D},Hld (jM N aH) i d->i < aH.length/\Hld aH i d:=λh=>by
  rcases h with h | h
  .exact#[(c h).1,.inl (c h).2]
  .exact#[(c h).1,.inr (c h).2]
 refine#[e.sub,?_,?_,?_,?_,?_,?_,?_,e.keep,e.new,e.rest,e.dom]
 .delta _2.start jM;simp -iota only[dV,lM0,List.length_replicate];lia
 .intro i d q;let#[lt,q]:=c q;rw[hs lt];exact e.fz i d q
 .intro i d q;let#[lt,q]:=k q;rw[hs lt];exact e.hl i d q
 .intro i d p q a;let#[lt,q]:=c q;rw[hs lt] at a;exact e.ow i d p q a
 .intro i d p q a;let#[lt,q]:=c q;rw[hs lt] at a;exact e.ln i d p q a
 .intro i j d r p g f m l;let#[o,g]:=k g;let#[n,f]:=k f;rw[hs o] at m;rw[hs n] at l;exact e.dis i j d r p g f m l
 .intro i p q;let#[a,d,b]:=e.par i p q;have lt:i < aH.length:=(gS0 b).1;refine#[by rw[hs lt];exact a,d,?_];delta jM;rw[hZ lt];exact b
theorem ok3{x:Str}{S:S3}(F:Fun K x qual st f fd)(L:az N ps (ai st))(J:autoParam (ps.length<=N.length) wP)(hbody:∀ (c:Value) (A:Around) (outer:List Env) (s:Shared) (H:Hp) (E:XK),bH k (A.deeper (envOfC qual (ai st) s.heap.objs.size f c))->
   ∃ t t3,uh K (mw CX0 P w K mg base N qual (ai st) f c A outer s H E).nox (gO st) t t3/\∀ aH Q,S aH Q->aH.length=ps.length->t3 { nx:=λΓ'=>Q (.fz .non) (jo aH Γ'),rt:=λr Γ'=>Q r (jo aH Γ') } (jM N aH)) :
  aM P w K mg base CX0 (k + 1) f fd ps (sp3 K ps.length S):=by
 refine F.ok L (λu H Q E h=>h.1) λc A outer s H u Q E D h=>?_;let#[G,p,j,aH,m,e,d,I,o]:=h;let#[t,t3,n,C]:=hbody c A outer s H E D;have g:aH.length=ps.length:=by rw[<- e.len,lM0];exact G
 refine#[t,n.pe,n.rf #[p,H,j] p _ H _ _ { nx:=λΓ'=>m (.fz .non) (jo aH Γ'),rt:=λr Γ'=>m r (jo aH Γ') } (e.start (N:=N) (by rw[g];exact J)) #[?_,?_,λ_ _ _ _ _ _ z=>mC z,λ_ _ _ _ _ _ z=>mC z] (C aH m I g)]
 .intro O i M Γ' y l q;let#[a,b]:=e.out d l (v:=.non) (r:=.fz .non) rfl;exact o _ _ q _ _ _ a b
 .intro O i M Γ' v r y l B q;let#[a,b]:=e.out d l B;exact o _ _ q _ _ _ a b
section
variable {C:Addr}{x m:Str}{p:Pos}{o:Expr}{t:TA}{t3:eY}{o3:TB3}{n:Nat}{S:S3}
theorem ar(F:aM X.prog X.w X.K X.mg X.base CX0 k f fd ps (sp3 K n S))(d:bH k X.A)(g:X.mg x=some (.ref f))(hk:kx X.K (.ref f)=true)(j:Binds X.K fd ps [])(c:uG K X (e::es) t t3)(b:autoParam (Yk x) wP)(i:autoParam (Yl X e es) wE)(a:autoParam (Ym pos X es) wE)(l:autoParam (X.K=K) wE)(h:autoParam (Gl X x) wE) :
  P3 K X (.Call (.Name x p) (e::es) [] pos) (uN (sp3 K n S) [] E0 t) (j_ n S t3):=#[HB F d h g hk j .nil sJ c.pe b i a,xJ c.rf]
theorem Eu(g:X.K=K)(F:aM X.prog X.w X.K X.mg X.base CX0 k f fd ps (sp3 K n S))(b:bH k X.A)(d:Gl X x)(c:X.mg x=some (.ref f))(hk:kx X.K (.ref f)=true)(e:Binds X.K fd ps [])(a:autoParam (Yk x) wP) :
  P3 K X (.Call (.Name x p) [] [] pos) (uN (sp3 K n S) [] E0 rO) (j_ n S oA):=#[El F b d c hk e .nil sJ a,xJ (af (X:=X)).rf]
def Bj (C:Addr)(m:Str)(n:Nat)(S:S3)(d:TB3)(c:eY)(Γ:G)(Q:RV->G->Prop):Prop:=d Γ λx ak=>(∃ ns xs,x.at ak=some (.ins C ns xs)/\m∉ns)/\c ak λb a=>bT (cKa (x::b) n) (S (et a ((x::b).map some)) λr aH=>Q r (bK (((x::b).map some).map cM) a aH)) False ⟨⟩ ⟨⟩
theorem CG{ns:Ls0}:∀ {a:List (Str×V)} {m:Str},a.map (·.1)=ns->m∉ns->a.lookup m=none:=by grind
theorem xG(I:ug K ta o3)(M:yT K t t3):Ref K (xu C m (sp3 K n S) [] E0 ta t) (Bj C m n S o3 t3):=by
 intro B F d H s Q QQ e q E;refine I B F d H s _ _ e q λv Y Z=>?_;let#[F0,f,X,w,k,i,#[ns,xs,G,L],A]:=Z;let#[p,T,P,rfl,O,N,h3]:=k.bo i G;refine#[p,T,P,rfl,O,CG N L,M B F0 d Y f _ _ k A λu H1 Z=>?_];let#[F1,o,W,g,j,y,Z]:=Z;let#[U,z]:=bTq Z;let#[J,D]:=cKs U;rw[jn];have h:cq K F1 d (X::W) (V.ref p::u):=#[_,_,rfl,i.mono g,y];refine#[by rw[h.length];exact J,F1,_,_,_,j.args h D,rH,z,λr l q v H' F' R x=>?_];let#[a,b,c]:=j.called R x;exact E v H' #[F',_,r,(w.trans g).trans a,b,c,q]
theorem l_{pl:Sem Bool}(d:P3B K X o ta o3)(c:Cls X.K C)(j:Meth X.K C m f)(F:aM X.prog X.w X.K X.mg X.base CX0 k f fd ps (sp3 K n S))(i:bH k X.A)(l:Binds X.K fd ps [])(g:uG K X (e::es) t t3)(a:autoParam (Yl X e es) wE)(b:autoParam (Ym pos X es) wE)(h:autoParam (eval (.Call (.Attribute o m apos) (e::es) [] pos) X.env=(do
   let O <- eval o X.env
   IR apos.atName
   let (f,first) <- holding [O] (RD O m pl)
   UN pos f first (backTo pos (ed (e::es) X.env)) (SJ pos (Ql [] X.env)))) wE)(p:autoParam (X.K=K) wE) :
  P3 K X (.Call (.Attribute o m apos) (e::es) [] pos) (xu C m (sp3 K n S) [] E0 ta t) (Bj C m n S o3 t3):=#[Hw d.pe c j F i l .nil sJ g.pe a b h,xG d.rf g.rf]
theorem cz{pl:Sem Bool}(a:P3B K X o ta o3)(c:Cls X.K C)(e:Meth X.K C m f)(F:aM X.prog X.w X.K X.mg X.base CX0 k f fd ps (sp3 K n S))(d:bH k X.A)(g:Binds X.K fd ps [])(b:autoParam (eval (.Call (.Attribute o m apos) [] [] pos) X.env=(do
   let O <- eval o X.env
   IR apos.atName
   let (f,first) <- holding [O] (RD O m pl)
   UN pos f first (backTo pos (ed [] X.env)) (SJ pos (Ql [] X.env)))) wE)(h:autoParam (X.K=K) wE) :
  P3 K X (.Call (.Attribute o m apos) [] [] pos) (xu C m (sp3 K n S) [] E0 ta rO) (Bj C m n S o3 oA):=#[Eg a.pe c e F d g .nil sJ b,xG a.rf (af (X:=X)).rf]
theorem P3.or{t t':TE}{c b:TE3}(h:P3 K X e t c)(h':P3 K X e t' b):P3 K X e (λσ H Q=>t σ H Q\/t' σ H Q) (λΓ Q=>c Γ Q\/b Γ Q):=
 #[λa s σ H Q I q=>q.elim (h.pe a s σ H Q I) (h'.pe a s σ H Q I),λB F σ H Γ Q d e q k=>q.imp (λq=>h.rf B F σ H Γ Q d e q k) (λq=>h'.rf B F σ H Γ Q d e q k)]
theorem ma(M:Mk0 X.K C)(i:X.mg x=some (.ref C))(c:autoParam (Yk x) wP)(j:autoParam (Gl X x) wE):P3 K X (.Call (.Name x p) [] [] pos) (AY C) (λΓ Q=>Q (.fr (.ins C [] [])) Γ):=
 #[Cq M j i c,λB F l H Γ Q m e q k=>λy g f b h=>k _ _ (by
  have d:=e.alloc b (.own y);have a:(upd H g (.own y)) y=none:=by rw[ao (lj h)];exact f
  exact#[F,Γ,.fr (.ins C [] []),aB.refl F,d.alloc a _,#[y,rfl,d.nof a,#[g,[],aw,rfl,rfl],e.dom _ f,d.sX a],q])]
end
section
variable {p:Pos}{x:Str}
theorem sM{n:String}(c:X.mg x=none)(b:autoParam (x≠"__name__") wP)(hd:autoParam (Yk x) wP)(d:autoParam (Gl X x) wE)(a:autoParam (xa x=some (.type n)) wK9):P3 K X (.Name x pos) (tC (.ty n)) (t3C (.ty n)):=
 #[HC (v:=.ty n) d c a rfl b hd,sC λ_=>rfl]
theorem xx(i:Nat){y:Str}{p2:Pos}{k:Expr}{a:TE}(b:P3B K X (.Name y px) (eE i) (bor i))(hk:P3B K X k a k3)(c:P3 K X e te e3)(f:autoParam (∀ v,assign (.Subscript (.Name y px) k p2) X.env v=(do
   let O <- holding [v] (eval (.Name y px) X.env)
   let iv <- holding [v,O] (eval k X.env)
   IR p2
   holding [v,O,iv] (VB O iv v)
   release [v,O,iv] [])) wT)(hs:autoParam (SC [.Subscript (.Name y px) k p2] e pos.line X.env=pure false) wE)(d:autoParam (SD [.Subscript (.Name y px) k p2] e X.env=pure none) wE)(h1:autoParam ((qd [.Subscript (.Name y px) k p2] X.env).map (·.2)=[assign (.Subscript (.Name y px) k p2) X.env]) wE) :
  P3S K X (.Assign [.Subscript (.Name y px) k p2] e pos) (gY te (CQ (eE i) a uW)) (A1 i k3 e3):=G2 i b hk c (zw c.pe (Ec b.pe hk.pe set_list f) hs d h1)
theorem xn:(uk xs ys).length=min xs.length ys.length:=by delta uk;rw[lM0,List.length_zip]
end
theorem PH{b:Type}{a:b}{l:List b}:atI (a::l) 0=some a:=by
 delta _2.atI ixN;simp
theorem PF{c:Type}{a b:c}{l:List c}:atI (a::b::l) 1=some b:=by
 have:ixN (a::b::l).length 1=some 1:=by
  delta ixN;rw[if_pos (by decide),if_pos (by simp;lia)];rfl
 delta _2.atI;rw[this];rfl
theorem PD{d:Type}{a b c:d}{l:List d}:atI (a::b::c::l) 2=some c:=by
 have:ixN (a::b::c::l).length 2=some 2:=by
  delta ixN;rw[if_pos (by decide),if_pos (by simp;lia)];rfl
 delta _2.atI;rw[this];rfl
theorem PC{e:Type}{a b c d:e}{l:List e}:atI (a::b::c::d::l) 3=some d:=by
 have:ixN (a::b::c::d::l).length 3=some 3:=by
  delta ixN;rw[if_pos (by decide),if_pos (by simp;lia)];rfl
 delta _2.atI;rw[this];rfl
theorem LX:ixN 3 0=some 0:=rfl
theorem LW:ixN 3 1=some 1:=rfl
theorem LV:ixN 3 2=some 2:=rfl
theorem gi{a:Type}{xs:List a}{k:Int}{d:a}(h:0<=k)(e:xs[k.toNat]?=some d):atI xs k=some d:=by
 obtain⟨j,rfl⟩:∃ j:Nat,k=(j:Int):=#[k.toNat,by lia];exact IG (by simpa using e)
theorem IF{ns:Li0}{k:Int}(a:0<=k)(h1:k < (ns.length:Int)):atI ns k=some (ns.getD k.toNat 0):=by
 refine gi a ?_;have:k.toNat < ns.length:=by lia
 rw[gE0 this];simp -iota [List.getD,this]
theorem IH{a:Type}{xs:List a}{k:Int}(b:0<=k)(h1:k < (xs.length:Int)):∃ d,atI xs k=some d/\d∈xs:=by
 have:k.toNat < xs.length:=by lia
 exact#[xs[k.toNat],gi b (gE0 this),RH this]
def JG (n:Nat):S3:=λΓ Q=>∃ ns:Li0,Γ=[some (.fz (.scr ns))]/\ns.length<=n/\∀ Γ',Q (.fz (.bl true)) Γ'
theorem LK{n:Nat}(F:aM P w K mg base CX0 k f fd ps (sp3 K 1 (JG n))) :
  aM P w K mg base CX0 k f fd ps (λvs H Q _=>∃ (p:Addr) (ns:Li0),vs=[.ref p]/\SqL K H p (ns.map V.int)/\ns.length<=n/\∀ H',Q (.bl true) H'):=by
 refine F.imp λvs H Q E h=>?_;let#[p,ns,rfl,hs,l,q]:=h;have a:∀ {i:Nat} {s:Sl},([some (Sl.fz (.scr ns))]:G)[i]?=some (some s)->i=0/\s=.fz (.scr ns):=λ{i s} h=>by
  cases i with
  | zero=>cases h;exact#[rfl,rfl]
  | succ i=>cases h
 refine#[rfl,H,[],[some (.fz (.scr ns))],λr _=>r=.fz (.bl true),#[aB.refl H,rfl,?_,?_,?_,?_,?_,?_,aB.refl H,λb o h=>.inl h,λb o h _=>h,λb h=>h],?_,#[ns,rfl,l,λ_=>rfl],?_]
 .intro i d h;let#[rfl,e]:=a h;cases e;exact#[_,rfl,p,rfl,hs]
 .intro i d h;rcases h with h | h <;> cases (a h).2
 .intro i d p h;cases (a h).2
 .intro i d p h;cases (a h).2
 .intro i j d e p h;rcases h with h | h <;> cases (a h).2
 .intro i p h;cases h
 .intro k d h;cases (a h).2
 .intro r c e v H' m _ g;subst e;have:v=.bl true:=g;subst this;exact q H'
open PySem _2 PySem.Spec PySem.SeqAt
noncomputable def b2 (b:Bool):Int:=if b then 1 else 0
mutual
noncomputable def eqN:Nat->D->D->Option Bool
 | _,.non,.non=>some true
 | _,.bl a,.bl b=>some (a == b)
 | _,.int a,.int b=>some (a == b)
 | _,.str a,.str b=>some (a == b)
 | n + 1,.lst xs,.lst ys=>gx n xs ys
 | n + 1,.tup xs,.tup ys=>gx n xs ys
 | _,_,_=>none
noncomputable def gx:Nat->List D->List D->Option Bool
 | _,[],[]=>some true
 | n,x::xs,y::ys=>match eqN n x y,gx n xs ys with
  | some a,some b=>some (a && b)
  | _,_=>none
 | _,_,_=>some false
end
theorem yD {n:Nat}:∀ {xs ys:List D} {k:Bool},gx n xs ys=some k->xs.length≠ys.length->k=false
 | [],[],_,_,h=>absurd rfl h
 | x::xs,[],_,e,_=>by unfold gx at e;cases e;rfl
 | [],y::ys,_,e,_=>by unfold gx at e;cases e;rfl
 | x::xs,y::ys,k,e,h=>by
  unfold gx at e;split at e
  .rename_i a b d c;cases e;rw[yD c (by simpa using h),Rx]
  .cases e
theorem t_ {n:Nat}:∀ {xs ys:List D} {k:Bool},gx n xs ys=some k->∃ e:Nat->Bool,(∀ (j:Nat) x y,xs[j]?=some x->ys[j]?=some y->eqN n x y=some (e j))/\k=((hV (min xs.length ys.length)).all e && xs.length == ys.length)
 | [],[],k,h=>by unfold gx at h;cases h;exact#[λ_=>true,λj x y h=>by simp -iota at h,by simp]
 | x::xs,[],k,h=>by unfold gx at h;cases h;exact#[λ_=>true,λj x y _ h=>by simp -iota at h,by simp]
 | [],y::ys,k,h=>by unfold gx at h;cases h;exact#[λ_=>true,λj x y h=>by simp -iota at h,by simp]
 | x::xs,y::ys,k,h=>by
  unfold gx at h;split at h
  .rename_i a b m l;cases h;let#[e,p,o]:=t_ l;refine#[λj=>match j with | 0=>a | j + 1=>e j,λj g f d c=>?_,?_]
   .cases j with
    | zero=>simp -iota at d c;subst d c;exact m
    | succ j=>exact p j g f (by simpa using d) (by simpa using c)
   .subst o;have i:min (x::xs).length (y::ys).length=min xs.length ys.length + 1:=by simp -iota [Nat.succ_min_succ]
    rw[i,Uv,SG,List.all_map];simp only[eh,V0,Bool.and_assoc]
    congr 1
    congr 1
    simp
  .cases h
theorem vw {n:Nat}(j:∀ {d d':D} {v:V} {k:Bool},Rep K F d v->Rep K F d' v->eqN n d d'=some k->k=true):∀ {xs ys:List D} {vs:List V} {k:Bool},aC K F xs vs->aC K F ys vs->gx n xs ys=some k->k=true
 | [],[],_,k,_,_,e=>by unfold gx at e;cases e;rfl
 | x::xs,[],_,k,⟨v,ws,c,_⟩,r,e=>by cases r;cases c
 | [],y::ys,_,k,h,⟨v,ws,c,_⟩,e=>by cases h;cases c
 | x::xs,y::ys,_,k,⟨v,ws,c,q,p⟩,⟨s,l,i,g,f⟩,e=>by
  subst c;cases i;unfold gx at e;split at e
  .rename_i a b o m;cases e;rw[j q g o,vw j p f m];rfl
  .cases e
theorem BE{n:Nat}:∀ {d d':D} {v:V} {k:Bool},Rep K F d v->Rep K F d' v->eqN n d d'=some k->k=true:=by
 induction n using Nat.strongRecOn with
 | ind n m=>
  intro d d' v k h c e;unfold eqN at e;split at e <;> first
   | (cases e;rfl)
   | (cases e;cases h;cases c;simp;done)
   | (cases e;cases h;cases c;done)
   | (cases e;cases h;let#[_,_,z,_]:=c;cases z;done)
   | (cases e;cases c;let#[_,_,z,_]:=h;cases z;done)
   | (let#[p,j,rfl,a,b]:=h;let#[l,g,q,f,i]:=c;cases q;rw[a] at f;cases f;exact vw (m _ (KB _)) b i e)
   | (let#[p,j,rfl,a,b]:=h;let#[l,g,q,f,i]:=c;cases q;rw[a] at f;cases f;done)
   | (cases e;done)
section
variable {pins:Pn0}{s:Shared}
theorem Vals.at'{xs:List V}(r:Vals xs us)(h:j < us.toArray.size):∃ v,xs[j]?=some v/\RelV v (us.toArray[j]):=by
 have b:j < xs.length:=by rw[r.length];simpa using h
 let#[u,d,c]:=r.get (gE0 b);refine#[_,gE0 b,?_];have:us.toArray[j]=u:=by
  have e:j < us.length:=by simpa using h
  have a:us[j]?=some us[j]:=gE0 e;rw[d] at a;cases a;simp
 rw[this];exact c
theorem nN(I:Inv X pins σ H s)(h:H p=some (.lst vs)):∃ its:Lv0,Vals vs its/\s.heap.IsList p its.toArray:=by
 let#[its,n,r,e,_]:=I.lst h;exact#[its,r,_,e,rfl,n,rfl]
theorem nM(I:Inv X pins σ H s)(h:H p=some (.tup vs)):∃ its:Lv0,Vals vs its/\s.heap.IsTuple p its.toArray:=by
 let#[its,r,#[o,e,b,n,d],_]:=I.tuple (a:=p) (xs:=vs) (.inl (.inl h));exact#[its,r,o,e,b,n,d]
theorem Fi{n:Nat}{ws:List V}{zs:Lv0}{e:Nat->Bool}(q:∀ {d d':D} {v f:V} {u g:Value} {k:Bool},Rep K F d v->Rep K F d' f->RelV v u->RelV f g->eqN n d d'=some k->EqAt A s u g k)(m:aC K F xs vs)(l:aC K F ys ws)(p:Vals vs us)(o:Vals ws zs)(z:∀ (j:Nat) x y,xs[j]?=some x->ys[j]?=some y->eqN n x y=some (e j)) :
  ∀ j (h1:j < us.toArray.size) (h2:j < zs.toArray.size),EqAt A s us.toArray[j] zs.toArray[j] (e j):=λj h1 h2=>by
 let#[v,t,h]:=Vals.at' p h1;let#[w,r,a]:=Vals.at' o h2;let#[d,hd,i]:=m.E5 t;let#[d',c,b]:=l.E5 r;exact q i b h a (z j d d' hd c)
theorem xK{n:Nat}{q:Addr}{ws:List V}{k:Bool}(I:Inv X pins σ H s)(G:∀ {d d':D} {v l:V} {u o:Value} {k:Bool},Rep K F d v->Rep K F d' l->RelV v u->RelV l o->eqN n d d'=some k->EqAt A.in1 s u o k)(h1:H p=some (.lst vs))(J:H q=some (.lst ws))(x:aC K F xs vs)(w:aC K F ys ws)(C:gx n xs ys=some k)(h:A.units < cLine):RcAt A s (.ref p) (.ref q) k/\RcNeAt A s (.ref p) (.ref q) (!k):=by
 let#[m,B,f]:=nN I h1;let#[j,y,c]:=nN I J;have b:m.toArray.size=xs.length:=by rw[<- x.length,B.length];simp
 have i:j.toArray.size=ys.length:=by rw[<- w.length,y.length];simp
 by_cases a:xs.length=ys.length
 .let#[e,g,rfl]:=t_ C;have E:=Fi G x w B y g;have t:=RcAt.lists f c (by rw[b,i,a]) h E;have r:=RcNeAt.lists f c (by rw[b,i,a]) h E;rw[b,a] at t r;rw[a,Nat.min_self,beq_self_eq_true,Bool.and_true];exact#[t,r]
 .rw[yD C a];have z:(m.toArray.size != j.toArray.size)=true:=by rw[b,i,bne_iff_ne];exact a
  exact#[RcAt.lists_lengths f c z h,RcNeAt.lists_lengths f c z h]
theorem uV{n:Nat}{q:Addr}{ws:List V}{k:Bool}(I:Inv X pins σ H s)(B:∀ {d d':D} {v a:V} {u b:Value} {k:Bool},Rep K F d v->Rep K F d' a->RelV v u->RelV a b->eqN n d d'=some k->EqAt A.in1 s u b k)(h1:H p=some (.tup vs))(E:H q=some (.tup ws))(i:aC K F xs vs)(h:aC K F ys ws)(C:gx n xs ys=some k)(r:A.units < cLine):RcAt A s (.ref p) (.ref q) k/\RcNeAt A s (.ref p) (.ref q) (!k):=by
 let#[x,l,o]:=nM I h1;let#[w,j,m]:=nM I E;have z:x.toArray.size=xs.length:=by rw[<- i.length,l.length];simp
 have y:w.toArray.size=ys.length:=by rw[<- h.length,j.length];simp
 let#[e,g,rfl]:=t_ C;have t:=Fi B i h l j g;have f:=XG o m r t;have c:=RcNeAt.tuples o m r t;rw[z,y] at f c;exact#[f,c]
theorem Ff(I:Inv X pins σ H s)(l:aB F H):∀ (n:Nat) {A:Around} {d d':D} {v i:V} {u j:Value} {k:Bool},A.units + n < cLine->Rep K F d v->Rep K F d' i->RelV v u->RelV i j->eqN n d d'=some k->EqAt A s u j k:=by
 intro n
 induction n with
 | zero=>
  intro A d d' v i u j k y r b q a e;unfold eqN at e;split at e <;> (try (cases e;done)) <;> (try (rename_i h;cases h;done)) <;> cases r <;> cases b
  .cases e;cases q;cases a;exact Tg _
  .cases e;cases q;cases a;exact .bool_bool _ _
  .cases e;let#[t,rfl]:=q;let#[o,rfl]:=a;exact .int_int _ _ _ _
  .cases e;let#[t,rfl]:=q;let#[o,rfl]:=a;exact .str_str _ _ _ _
 | succ n G=>
  intro A d d' v i u j k y r b q a e;have g:A.units < cLine:=by exact WF 0x8c6aa9693bcb y
  have f:A.in1.units + n < cLine:=by show A.units + 1 + n < cLine;exact WF 0x2ef62484556e3bcb y
  have J:=e;unfold eqN at e;split at e
  .cases r;cases b;cases e;cases q;cases a;exact Tg _
  .cases r;cases b;cases e;cases q;cases a;exact .bool_bool _ _
  .cases r;cases b;cases e;let#[t,rfl]:=q;let#[o,rfl]:=a;exact .int_int _ _ _ _
  .cases r;cases b;cases e;let#[t,rfl]:=q;let#[o,rfl]:=a;exact .str_str _ _ _ _
  ·
   rename_i O M L h;cases h;have w:=r;have c:=b;let#[p,N,rfl,E,B]:=r;let#[x,m,rfl,C,b2]:=b;cases q;cases a;by_cases z:p=x
   .subst z;rw[BE w c J];exact Tg _
   .exact .of_refs z (xK I (λr b q a e=>G f r b q a e) (l _ _ E) (l _ _ C) B b2 e g).1
  ·
   rename_i O M L h;cases h;have w:=r;have c:=b;let#[p,N,rfl,E,B]:=r;let#[x,m,rfl,C,b2]:=b;cases q;cases a;by_cases z:p=x
   .subst z;rw[BE w c J];exact Tg _
   .exact .of_refs z (uV I (λr b q a e=>G f r b q a e) (l _ _ E) (l _ _ C) B b2 e g).1
  .cases e
def D0 (K:Fg0)(n:Nat)(a:Bool):R2:=λx y H Q=>∃ F d d' k,aB F H/\iG K F H d x/\iG K F H d' y/\eqN (n + 1) d d'=some k/\Q (.bl (a ^^ k)) H
theorem Js(I:Inv X pins σ H s)(g:aB F H)(n:Nat){d d':D}{w:V}{i:Value}{k:Bool}(x:A.units + n + 1 < cLine)(r:iG K F H d v)(a:iG K F H d' w)(q:RelV v u)(b:RelV w i)(e:eqN (n + 1) d d'=some k):RcAt A s u i k/\RcNeAt A s u i (!k):=by
 have f:A.units < cLine:=by exact WF 0x8c6aa972470b x
 have c:A.in1.units + n < cLine:=by show A.units + 1 + n < cLine;exact WF 0x2ef624845577470b x
 unfold eqN at e;split at e
 .cases r;cases a;cases e;cases q;cases b;exact#[.none_none,.none_none]
 .cases r;cases a;cases e;cases q;cases b;exact#[.bool_bool _ _,.bool_bool _ _]
 .cases r;cases a;cases e;let#[t,rfl]:=q;let#[C,rfl]:=b;exact#[.int_int _ _ _ _,.int_int _ _ _ _]
 .cases r;cases a;cases e;let#[t,rfl]:=q;let#[C,rfl]:=b;exact#[.str_str _ _ _ _,.str_str _ _ _ _]
 .rename_i G z y j;cases j;let#[p,B,rfl,o,l]:=r;let#[E,h,rfl,m,b2]:=a;cases q;cases b;exact xK I (λr a q b e=>Ff I g _ c r a q b e) o m l b2 e f
 .rename_i G z y j;cases j;let#[p,B,rfl,o,l]:=r;let#[E,h,rfl,m,b2]:=a;cases q;cases b;exact uV I (λr a q b e=>Ff I g _ c r a q b e) (g _ _ o) (g _ _ m) l b2 e f
 .cases e
theorem Lm(l:X.K=K){n:Nat}(i:X.A.units + n + 1 < cLine):OpR X (DA .Eq) (D0 K n false):=by
 intro a s j H x y v u Q I f c h;let#[F,d,m,k,b,r,g,e,q]:=h;refine(Js I b n i r g f c e).1 _ _ _ _ (Ae I q (by simp))
def yE (n:Nat)(a:Bool)(x y:D)(Γ:G)(Q:RV->G->Prop):Prop:=∃ k,eqN (n + 1) x y=some k/\Q (.fz (.bl (a ^^ k))) Γ
theorem Fg{n:Nat}{a:Bool}:jI K (D0 K n a) (yE n a):=by
 intro B F i H j x y h g Q l e d c q k;let#[b,f,q]:=q;exact#[F,h,g,b,e.sub,d,c,f,k _ _ (mP e q)]
theorem kb(a:bH k X.A)(b:autoParam (X.K=K) wE):C3 K X .Eq (D0 K 20 false) (yE 20 false):=#[Lm b (by have:=a.un;exact WF 0x1b876a8819c1abdbe700cd0b this),Fg]
theorem Lg(l:X.K=K){n:Nat}(i:X.A.units + n + 1 < cLine):OpR X (DA .NotEq) (D0 K n true):=by
 intro a s j H x y v u Q I f c h;let#[F,d,m,k,b,r,g,e,q]:=h;refine(Js I b n i r g f c e).2 _ _ _ _ (Ae I q (by simp))
theorem iA(a:bH k X.A)(b:autoParam (X.K=K) wE):C3 K X .NotEq (D0 K 20 true) (yE 20 true):=#[Lg b (by have:=a.un;lia),Fg]
end
noncomputable abbrev mH:=List D->G->(List D->G->Prop)->Prop
noncomputable def PoL (K:Fg0)(B:Bs)(F:Hp)(Q:List D->G->Prop):List V->_2.St->Hp->Prop:=λb aJ H'=>∃ F' Γ' a,aB F F'/\En K B F' aJ H' Γ'/\aC K F' a b/\Q a Γ'
def qL (K:Fg0)(t:TB)(b:mH):Prop:=∀ (B:Bs) (F:Hp) (σ:_2.St) (H:Hp) (Γ:G) (ys:List V) (ds:List D) (Q:List D->G->Prop) (QQ:List V->_2.St->Hp->Prop),En K B F σ H Γ->aC K F ds ys->b ds Γ Q->(∀ a aJ H',PoL K B F Q a aJ H'->QQ a aJ H')->t ys σ H QQ
structure MY (K:Fg0) (Y:Cx) (D:Addr) (m:Sem Fin->Sem Fin) (t:TB) (b3:mH):Prop where
 pe:PB RL Y D m t
 rf:qL K t b3
def o_ (a:TE3)(ys:List D)(Γ:G)(Q:List D->G->Prop):Prop:=ys.length < sizeLine/\a Γ λr ak=>Q (ys++[r.d]) ak
set_option backward.eqns.nonrecursive false in
def C5 (a:TT3)(c:mH)(ys:List D)(Γ:G)(Q:List D->G->Prop):Prop:=a Γ λb ak=>match b with
 | true=>c ys ak Q
 | false=>Q ys ak
def Bn (xs:List D)(b:TG3)(c:mH)(ys:List D)(Γ:G)(Q:List D->G->Prop):Prop:=∃ a:Nat->List D->G->Prop,a 0 ys Γ/\(∀ k d ys Γ,xs[k]?=some d->a k ys Γ->b d Γ λΓ'=>c ys Γ' (a (k + 1)))/\∀ ys Γ,a xs.length ys Γ->Q ys Γ
def iQ (a:TI3)(b:TG3)(c:mH)(ys:List D)(Γ:G)(Q:List D->G->Prop):Prop:=a Γ λxs ak=>Bn xs b c ys ak Q
def j9 (b:On)(c:TI3)(d:TG3)(e:mH)(Γ:G)(Q:RV->G->Prop):Prop:=c Γ λxs ak=>Bn xs d e [] (et ak (e_ b)) λys a=>ys.length < sizeLine/\Q (.fr (.lst ys)) (bK b ak a)
section
variable {Y:Cx}{Da:Addr}
theorem ig(h:Ref K te e3):qL K (iE te) (o_ e3):=by
 intro B F d H f ys o Q p e r ⟨l,q⟩ k;refine#[by rw[r.length];exact l,h B F d H f _ _ e q λv t ⟨u,a,c,s,n,g,j⟩=>k _ _ _ ?_];let#[F2,b,m,i]:=n.frozen g;exact#[F2,a,o++[c.d],s.trans b,m,aC.append (ys:=[c.d]) (r.mono (s.trans b)) #[v,[],rfl,i,rfl],j]
theorem rj{j:TT3}{t:TB}{l:mH}(w:q_ K tc j)(h:qL K t l):qL K (bIf tc t) (C5 j l):=by
 intro B F d H o u i Q y e r q k;refine w B F d H o _ _ e q λb z Z=>?_;let#[m,a,s,g,f]:=Z;cases b with
 | true=>exact zX (h B m d z a u i Q y g (r.mono s) f λp n A ⟨F2,c,x,v,rest⟩=>k _ _ _ #[F2,c,x,s.trans v,rest])
 | false=>exact zY (k _ _ _ #[m,a,i,s,g,r.mono s,f])
theorem xH{C:TG3}{t:TB}{E:mH}(W:C_ K g C)(h:qL K t E){ys:List V}{ds:List D}{Q:List D->G->Prop}(R:ItR K F J xs)(e:En K B F σ H Γ)(r:aC K F ds ys)(q:Bn xs C E ds Γ Q)(k:∀ d aJ H',PoL K B F Q d aJ H'->QQ d aJ H'):vH J g t ys σ H QQ:=by
 let#[Iv,U,S,T]:=q;refine#[λi m ys σ H=>m=xs.length - i/\i<=xs.length/\∃ s b ds,aB F s/\En K B s σ H b/\aC K s ds ys/\Iv i ds b,#[_,rfl,eA _,F,Γ,ds,aB.refl F,e,r,U],?_];rintro i m o l L ⟨rfl,hi,F2,a,c,f,j,w,A⟩;by_cases lt:i < xs.length
 .refine .inr #[R.go i L (f.trans j.sub) lt,λx I y=>?_];have hd:xs[i]?=some xs[i]:=gE0 lt;let#[M,v,Z,r3]:=R.turn f j hd y;refine W B M l I a x _ _ _ Z r3 (S i _ c a hd A) λaJ b Y P=>?_;exact h B M aJ I b o c _ _ Y (w.mono v) P λd u H4 ⟨F4,n,d4,N,X,O,p⟩=>#[xs.length - (i + 1),by lia,rfl,lt,F4,n,d4,(f.trans v).trans N,X,O,p]
 .have z:i=xs.length:=by lia
  subst z;exact .inl #[R.stop _ L (f.trans j.sub) rfl,k _ _ _ #[F2,a,c,f,j,w,T c a A]]
theorem sA{c:TI3}{d:TG3}{t:TB}{f:mH}(hi:GA K wi c)(s:C_ K g d)(h:qL K t f):qL K (yN wi g t) (iQ c d f):=by
 intro B F j H m w y Q z e r q k;refine hi B F j H m _ _ e q λJ C F1 l x b u R p=>?_;exact xH s h R u (r.mono b) p λn i A ⟨F2,a,v,o,rest⟩=>k _ _ _ #[F2,a,v,b.trans o,rest]
theorem gS{f:TI3}{i:TG3}{t:TB}{m:mH}(u:(fr.filterMap id).Nodup)(hi:GA K wi f)(w:C_ K g i)(h:qL K t m):Ref K (dU fr wi g t) (j9 fr f i m):=by
 intro B F σ H Γ Q E e q k;refine hi B F σ H Γ _ _ e q λJ G F1 a C p j R s=>?_;refine xH w h R (j.blk u) (ds:=[]) rfl s λA n z ⟨F2,b,D,o,y,d,v,r⟩=>#[by rw[d.length];exact v,λl c=>k _ _ ?_];have x:En K B F2 σ z (bK fr a b):=j.back (ls:=fr) y (by have:=oi (Γ:=a) (σ:=σ) (bs:=e_ fr);rw[tM] at this;exact this);exact Po.mono (p.trans o) (l8 x c d r)
theorem BV(b:Y.xe=λ_ _=>False)(a:P3 K Y elt te e3):MY K Y Da (nq elt Da Y.env) (iE te) (o_ e3):=#[jU b a.pe,ig a.rf]
theorem JZ{c:Expr}{d:TT3}{m:Sem Fin->Sem Fin}{t:TB}{e:mH}(f:Y.xe=λ_ _=>False)(b:P3T K Y c tc d)(a:MY K Y Da m t e):MY K Y Da (ifK c Y.env m) (bIf tc t) (C5 d e):=#[N8 f b.pe a.pe,rj b.rf a.rf]
theorem Es{c:Expr}{i:TI3}{n:TG3}{o:TT3}(q:X.calm=true)(hi:P3I K X tg iter wi i)(r:Blk X.N X.env.scope sc Nc fr)(k:∀ av ax C ex f,P3G K (aT X sc Nc av ax C ex f) tg g n)(j:∀ av ax C ex f,P3T K (aT X sc Nc av ax C ex f) c tc o)(l:∀ av ax C ex f,P3 K (aT X sc Nc av ax C ex f) elt te e3)(p:autoParam ((fr.filterMap id).Nodup) wP)(hs:autoParam (∀ x,hB iter X.env x=pure x) wT) :
  P3 K X (.ListComp elt [#[tg,iter,[c],0]] sc pos) (dU fr wi g (bIf tc (iE te))) (j9 fr i n (C5 o (o_ e3))):=
 #[k7 (m:=λD h=>ifK c h (nq elt D h)) q hi.pe r (λa b c d e=>(k a b c d e).pe) (λa b c d e D=>(JZ rfl (j a b c d e) (BV rfl (l a b c d e))).pe) (λ_ _ _=>rfl) hs,gS p hi.rf (k X.av X.ax 0 [] []).rf (rj (j X.av X.ax 0 [] []).rf (ig (l X.av X.ax 0 [] []).rf))]
theorem xy{x:Str}{c:Expr}{l:TI3}{q:TG3}{r:TT3}(v:X.N.Nodup)(k:X.N[i]?=some x)(t:X.env.scope.names.lookup x=some .local)(u:X.calm=true)(hi:P3I K X tg iter wi l)(w:Blk X.N X.env.scope sc Nc fr)(o:∀ av ax C ex f,P3G K (aT X sc Nc av ax C ex f) tg g q)(n:∀ av ax C ex f,P3T K (aT X sc Nc av ax C ex f) c tc r)(p:∀ av ax C ex f,P3 K (aT X sc Nc av ax C ex f) elt te e3)(s:autoParam ((fr.filterMap id).Nodup) wP)(j:autoParam (Do (.ListComp elt [#[tg,iter,[c],0]] sc pos) (some (.Name x px)) spos.line X.env=pure true) wE)(hs:autoParam (∀ x,hB iter X.env x=pure x) wT) :
  P3S K X (.Assign [.Name x px] (.ListComp elt [#[tg,iter,[c],0]] sc pos) spos) (gY (dU fr wi g (bIf tc (iE te))) (dE i)) (rX i (j9 fr l q (C5 r (o_ e3)))):=
 #[kY (m:=λD h=>ifK c h (nq elt D h)) v k t u hi.pe w (λa b c d e=>(o a b c d e).pe) (λa b c d e D=>(JZ rfl (n a b c d e) (BV rfl (p a b c d e))).pe) (λ_ _ _=>rfl) j hs,l6 (gS s hi.rf (o X.av X.ax 0 [] []).rf (rj (n X.av X.ax 0 [] []).rf (ig (p X.av X.ax 0 [] []).rf)))]
theorem sO{k j h i:Expr}{p:TI3}{v:TG3}{o:TI3}{u:TG3}(t:X.calm=true)(hi:P3I K X j k wi p)(y:Blk X.N X.env.scope sc Nc fr)(r:∀ av ax C ex f,P3G K (aT X sc Nc av ax C ex f) j g v)(q:∀ av ax C ex f,P3I K (aT X sc Nc av ax C ex f) i h wi1 o)(hh:∀ av ax C ex f,P3G K (aT X sc Nc av ax C ex f) i g1 u)(s:∀ av ax C ex f,P3 K (aT X sc Nc av ax C ex f) elt te e3)(l:autoParam (∀ av ax C ex f x,hB h (aT X sc Nc av ax C ex f).env x=pure x) wq2)(w:autoParam ((fr.filterMap id).Nodup) wP)(hs:autoParam (∀ x,hB k X.env x=pure x) wT) :
  P3 K X (.ListComp elt [#[j,k,[],0],#[i,h,[],0]] sc pos) (dU fr wi g (yN wi1 g1 (iE te))) (j9 fr p v (iQ o u (o_ e3))):=
 #[k7 (m:=λD n=>DS false elt [#[j,k,[],0],#[i,h,[],0]] sc pos 1 h D n) t hi.pe y (λa b c d e=>(r a b c d e).pe)
  (λa b c d e D=>Ba (b:=false) (m:=nq elt D _) rfl t (by rfl) (q a b c d e).pe (hh a b c d e).pe (jU rfl (s a b c d e).pe) (λ_=>rfl) (l a b c d e)) (λ_ _ _=>rfl) hs,
  gS w hi.rf (r X.av X.ax 0 [] []).rf (sA (q X.av X.ax 0 [] []).rf (hh X.av X.ax 0 [] []).rf (ig (s X.av X.ax 0 [] []).rf))]
theorem xA{x:Str}{l k h j:Expr}{s:TI3}{z:TG3}{r:TI3}{y:TG3}(E:X.N.Nodup)(p:X.N[i]?=some x)(B:X.env.scope.names.lookup x=some .local)(w:X.calm=true)(hi:P3I K X k l wi s)(F:Blk X.N X.env.scope sc Nc fr)(u:∀ av ax C ex f,P3G K (aT X sc Nc av ax C ex f) k g z)(t:∀ av ax C ex f,P3I K (aT X sc Nc av ax C ex f) j h wi1 r)(hh:∀ av ax C ex f,P3G K (aT X sc Nc av ax C ex f) j g1 y)(v:∀ av ax C ex f,P3 K (aT X sc Nc av ax C ex f) elt te e3)(o:autoParam (∀ av ax C ex f x,hB h (aT X sc Nc av ax C ex f).env x=pure x) wq2)(A:autoParam ((fr.filterMap id).Nodup) wP)(n:autoParam (Do (.ListComp elt [#[k,l,[],0],#[j,h,[],0]] sc pos) (some (.Name x px)) spos.line X.env=pure true) wE)(hs:autoParam (∀ x,hB l X.env x=pure x) wT) :
  P3S K X (.Assign [.Name x px] (.ListComp elt [#[k,l,[],0],#[j,h,[],0]] sc pos) spos) (gY (dU fr wi g (yN wi1 g1 (iE te))) (dE i)) (rX i (j9 fr s z (iQ r y (o_ e3)))):=
 #[kY (m:=λD q=>DS false elt [#[k,l,[],0],#[j,h,[],0]] sc pos 1 h D q) E p B w hi.pe F (λa b c d e=>(u a b c d e).pe)
  (λa b c d e D=>Ba (b:=false) (m:=nq elt D _) rfl w (by rfl) (t a b c d e).pe (hh a b c d e).pe (jU rfl (v a b c d e).pe) (λ_=>rfl) (o a b c d e)) (λ_ _ _=>rfl) n hs,
  l6 (gS A hi.rf (u X.av X.ax 0 [] []).rf (sA (t X.av X.ax 0 [] []).rf (hh X.av X.ax 0 [] []).rf (ig (v X.av X.ax 0 [] []).rf)))]
end
theorem Pa{n:Nat}{a b:Int}:eqN n (.int a) (.int b)=some (a == b):=by cases n <;> rfl
theorem yB{n:Nat}{a b:Str}:eqN n (.str a) (.str b)=some (a == b):=by cases n <;> rfl
noncomputable def fo (s:Option D):Option Sl:=s.map Sl.fz
theorem tW{s:Option Sl}:bP (s::Γ) (i + 1)=bP Γ i:=rfl
theorem Mm:bP (none::Γ) 0=True:=rfl
theorem Mi{d:D}:bP (some (.fz d)::Γ) 0=True:=rfl
theorem Mj{d:D}:bP (some (.ow d)::Γ) 0=True:=rfl
theorem tX{s:Option D}:bP (fo s::Γ) 0=True:=by cases s <;> rfl
theorem q1b{s:Option Sl}:bqa (s::Γ) (i + 1)=bqa Γ i:=rfl
theorem q2b:bqa (none::Γ) 0=true:=rfl
theorem q3b{d:D}:bqa (some (.fz d)::Γ) 0=true:=rfl
theorem q4b{d:D}:bqa (some (.ow d)::Γ) 0=true:=rfl
theorem q5b{s:Option D}:bqa (fo s::Γ) 0=true:=by cases s <;> rfl
end _3
variable {i3:_3.TI3}{g3:_3.TG3}{b3 a3 k3 o3:_3.TB3}{Γ ak Γ':_3.G}{Q:_3.RV->_3.G->Prop}{e3 f3:_3.TE3}{xs ys:List _3.D}{c3:List _3.D->_3.TE3}{t3:_3.eY}{B:_3.Bs}{ns:Ls0}{vs:Lv0}{v:_2.V}{e a o:S9}{C0 q aK:Qq}{px p' pos':Wc}{S:_3.S3}{z nm y:S8}{l:List (S8×Qq)}{to:_2.TE}{D1:_3.E3}{QB:_3.Bo->_3.G->Prop}{QO:Option Int->_3.G->Prop}{u ts:_2.TS}{A3:_3.TT3}{s3 u3:_3.TS3}{r:List _2.V->_2.Hp->_2.VK->Prop}{F0 H0:_2.Hp}{tc:_2.TT}{L nrem jy:Nat}{body ss:List WJ}{aJ:_2.St}{xss:List (List _3.D)}{qs own:La0}{s0:Qs}{QQ:_2.VK}
universe u
namespace _3
open PySem _2 PySem.Spec
def JU (c:On)(a:TI3)(b:TG3)(d:TE3)(Γ:G)(Q:RV->G->Prop)(_:Tag (c,a,b,d))(_:Tag Q):Prop:=vz c a b d Γ Q
def Mo (a:TI3)(b:TG3)(c:TS3)(D:E3)(Γ:G)(_:Tag (a,b,c))(_:Tag D):Prop:=Mq a b c D Γ
def FD (c:On)(a:TI3)(b:TG3)(d:mH)(Γ:G)(Q:RV->G->Prop)(_:Tag (c,a,b,d))(_:Tag Q):Prop:=j9 c a b d Γ Q
theorem FE{a:mH}:j9 fr i3 g3 a Γ Q=FD fr i3 g3 a Γ Q ⟨⟩ ⟨⟩:=rfl
theorem Iw:vz fr i3 g3 e3 Γ Q=JU fr i3 g3 e3 Γ Q ⟨⟩ ⟨⟩:=rfl
theorem Mp{a:TS3}{D:E3}:Mq i3 g3 a D Γ=Mo i3 g3 a D Γ ⟨⟩ ⟨⟩:=rfl
section
variable {op:D->D->TE3}
theorem rP:bU op a3 b3 Γ Q=(a3 Γ λx ak=>b3 ak λy a=>m1 (x.at a) (λdx=>m1 (y.at a) (λb=>op dx b a Q) ⟨⟩) ⟨⟩):=rfl
theorem Kt{op:D->TE3}:Cb op a3 Γ Q=(a3 Γ λx ak=>m1 (x.at ak) (λdx=>op dx ak Q) ⟨⟩):=rfl
theorem OG{i:Int}:ix3 (.lst xs) (.int i) Γ Q=m1 (atI xs i) (λd=>Q (.fz d) Γ) ⟨⟩:=rfl
theorem OE{i:Int}:ix3 (.tup xs) (.int i) Γ Q=m1 (atI xs i) (λd=>Q (.fz d) Γ) ⟨⟩:=rfl
theorem oB{d:List D}{k:List D->Prop}{t:Tag k}:mL (some d) k t=k d:=rfl
theorem pC:nu c3 t3 Γ Q=(t3 Γ λa ak=>mL (ats ak a) (λds=>c3 ds ak Q) ⟨⟩):=rfl
def mN (o:Option Nat)(k:Nat->Prop)(_:Tag k):Prop:=match o with
 | some d=>k d
 | none=>False
theorem HV{d:Nat}{k:Nat->Prop}{t:Tag k}:mN (some d) k t=k d:=rfl
theorem HW{d:Int}{k:Int->Prop}{t:Tag k}:mI (some (.int d)) k t=k d:=rfl
theorem G0{D:E3}:A1 i k3 e3 D Γ=(e3 Γ λr ak=>(∃ xs,de ak i=some xs)/\k3 ak λb a=>mL (de a i) (λxs=>mI (b.at a) (λk=>mN (ixN xs.length k) (λj=>D.nx (putD a i (.lst (xs.set j r.d)))) ⟨⟩) ⟨⟩) ⟨⟩):=by
 delta A1
 congr;funext r ak;congr;funext b a
 refine propext #[λ⟨xs,k,j,l,g,f,q⟩=>?_,λh=>?_]
 .rw[l,g];show mN (ixN xs.length k) _ ⟨⟩;rw[f];exact q
 .cases e:de a i with
  | none=>rw[e] at h;exact h.elim
  | some xs=>
   rw[e] at h;replace h:mI (b.at a) (λk=>mN (ixN xs.length k) (λj=>D.nx (putD a i (.lst (xs.set j r.d)))) ⟨⟩) ⟨⟩:=h;cases c:b.at a with
   | none=>rw[c] at h;exact h.elim
   | some d=>
    rw[c] at h;cases d with
    | int k=>
     replace h:mN (ixN xs.length k) (λj=>D.nx (putD a i (.lst (xs.set j r.d)))) ⟨⟩:=h;cases e3:ixN xs.length k with
     | none=>rw[e3] at h;exact h.elim
     | some j=>rw[e3] at h;exact#[xs,k,j,rfl,rfl,e3,h]
    | _=>exact h.elim
end
theorem yp{c:Type}{l:List c}{a b:c}(h:(l++[a])[i]?=some b):l[i]?=some b\/(i=l.length/\b=a):=by
 rcases VZ i l.length with q | q
 .rw[hZ q] at h;exact .inl h
 .have d:i=l.length:=by
   have:=(gS0 h).1;rw[dV,UG] at this;lia
  subst d;rw[rb (cb _),S5] at h;exact .inr #[rfl,(fS h).symm]
theorem ir{c:Type}{l:List c}{a b:c}(h:l[i]?=some b):(l++[a])[i]?=some b:=by
 rw[hZ (gS0 h).1];exact h
theorem lA{b:Type}{l:List b}{a:b}:(l++[a])[l.length]?=some a:=by
 rw[rb (cb _),S5];rfl
theorem En.push(e:En K B F σ H Γ){x:Addr}{d:D}(y:mJ K B F σ H Γ (.ref x) (.fr d)):En K B F (σ++[some (V.ref x)]) H (Γ++[some (Sl.ow d)]):=by
 let#[p,G,C,A,E,t]:=y;cases G;have u:=e.len;have o:∀ {i:Nat} {s:Sl},(Γ++[some (Sl.ow d)])[i]?=some (some s)->Γ[i]?=some (some s)\/(i=Γ.length/\s=.ow d):=λh=>by
  rcases yp h with q | ⟨q,m⟩
  .exact .inl q
  .cases m;exact .inr #[q,rfl]
 have n:∀ {i:Nat} {s:Option Sl},Γ[i]?=some s->(σ++[some (V.ref x)])[i]?=σ[i]?:=λh=>by
  have lt:=(gS0 h).1;rw[hZ (by lia)]
 have f:(σ++[some (V.ref x)])[Γ.length]?=some (some (V.ref x)):=by rw[<- u];exact lA
 have r:∀ {i:Nat} {c:D},Hld (Γ++[some (Sl.ow d)]) i c->Hld Γ i c\/(i=Γ.length/\c=d):=λh=>by
  rcases h with h | h
  .rcases o h with q | ⟨q,m⟩
   .exact .inl (.inl q)
   .cases m;exact .inr #[q,rfl]
  .rcases o h with q | ⟨q,m⟩
   .exact .inl (.inr q)
   .cases m
 have g:∀ {i:Nat} {c:D},Hld Γ i c->(σ++[some (V.ref x)])[i]?=σ[i]?:=λh=>by
  rcases h with h | h <;> exact n h
 refine#[e.sub,by simp -iota [u],?_,?_,?_,?_,?_,?_,e.keep,e.new,e.rest,e.dom]
 .intro i c h;rcases o h with q | ⟨_,q⟩
  .rw[n q];exact e.fz i c q
  .cases q
 .intro i c h;rcases r h with q | ⟨rfl,rfl⟩
  .rw[g q];exact e.hl i c q
  .exact#[x,f,C,A]
 .intro i c q h a;rcases o h with z | ⟨rfl,z⟩
  .rw[n z] at a;exact e.ow i c q z a
  .rw[f] at a;cases a;exact E
 .intro i c q h a;rcases o h with z | ⟨_,z⟩
  .rw[n z] at a;exact e.ln i c q z a
  .cases z
 .intro i j c w q h v a k;rcases r h with z | ⟨rfl,rfl⟩
  .rw[g z] at a;rcases r v with l | ⟨rfl,rfl⟩
   .rw[g l] at k;exact e.dis i j c w q z l a k
   .rw[f] at k;cases k;exact absurd a (t i c z)
  .rw[f] at a;cases a;rcases r v with l | ⟨rfl,rfl⟩
   .rw[g l] at k;exact absurd k (t j w l)
   .rfl
 .intro i q h;let#[a,c,b]:=e.par i q h;exact#[by rw[n b];exact a,c,ir b]
theorem En.pop{x:Addr}{d:D}(e:En K B F (σ++[some (V.ref x)]) H (Γ++[some (Sl.ow d)])):En K B F σ H Γ/\mJ K B F σ H Γ (.ref x) (.fr d):=by
 have m:σ.length=Γ.length:=by have:=e.len;simpa using this
 have g:(σ++[some (V.ref x)])[Γ.length]?=some (some (V.ref x)):=by rw[<- m];exact lA
 have k:∀ {i:Nat} {s:Option Sl},Γ[i]?=some s->(σ++[some (V.ref x)])[i]?=σ[i]?:=λh=>by
  have lt:=(gS0 h).1;rw[hZ (by lia)]
 have n:Hld (Γ++[some (Sl.ow d)]) Γ.length d:=.inl lA;have l:∀ {i:Nat} {c:D},Hld Γ i c->Hld (Γ++[some (Sl.ow d)]) i c:=λh=>h.imp ir ir;have f:∀ {i:Nat} {c:D},Hld Γ i c->(σ++[some (V.ref x)])[i]?=σ[i]?:=λh=>by
  rcases h with h | h <;> exact k h
 let#[p,a,b,c]:=e.hl _ _ n;rw[g] at a;cases a;refine#[#[e.sub,m,?_,?_,?_,?_,?_,?_,e.keep,e.new,e.rest,e.dom],x,rfl,b,c,e.ow _ _ _ lA g,?_]
 .intro i c h;have:=e.fz i c (ir h)
  rwa [k h] at this
 .intro i c h;have:=e.hl i c (l h)
  rwa [f h] at this
 .intro i c q h a;exact e.ow i c q (ir h) (by rw[k h];exact a)
 .intro i c q h a;exact e.ln i c q (ir h) (by rw[k h];exact a)
 .intro i j c r q h o a u;exact e.dis i j c r q (l h) (l o) (by rw[f h];exact a) (by rw[f o];exact u)
 .intro i q h;let#[a,c,t]:=e.par i q h;rcases yp t with z | ⟨_,z⟩
  .exact#[by rw[<- k z];exact a,c,z]
  .cases z
 .intro i c h q;have lt:i < Γ.length:=by rcases h with h | h <;> exact(gS0 h).1
  have:=e.dis i _ c d x (l h) n (by rw[f h];exact q) g
  lia
set_option backward.eqns.nonrecursive false in
noncomputable def tQ (Γ:G)(i:Nat):Option (Addr×Ls0×List D):=match Γ[i]? with
 | some (some (.ow (.ins C ns xs)))=>some (C,ns,xs)
 | some (some (.ln (.ins C ns xs)))=>some (C,ns,xs)
 | _=>none
theorem vh(h:tQ Γ i=some (C,ns,xs)):Hld Γ i (.ins C ns xs):=by
 delta tQ at h;split at h
 .cases h;rename_i q;exact .inl q
 .cases h;rename_i q;exact .inr q
 .cases h
theorem xN {f:Str}{v:V}:∀ {fs:List (Str×V)},f∉fs.map (·.1)->jh f v fs=fs++[(f,v)]
 | [],_=>rfl
 | (g,x)::r,h=>by
  simp -iota only[eN,cm,not_or] at h;show (if g=f then _ else _)=_;rw[if_neg (lj h.1),xN h.2];rfl
theorem aC.snoc{vs:List V}(r:aC K F xs vs){d:D}(q:Rep K F d v):aC K F (xs++[d]) (vs++[v]):=r.append #[v,[],rfl,q,rfl]
def oI (o:Option (Addr×Ls0×List D))(k:Addr->Ls0->List D->Prop):Prop:=match o with
 | some (C,ns,xs)=>k C ns xs
 | none=>False
def DK (C0:Addr)(i:Nat)(f:Str)(a:TE3)(D:E3)(Γ:G):Prop:=a Γ λr ak=>oI (tQ ak i) λC ns xs=>C=C0/\(f∉ns/\ns.length < 1000)/\D.nx (putD ak i (.ins C (ns++[f]) (xs++[r.d])))
theorem DU{f:Str}(L:Cls K C0)(I:c9 K C0 f)(h:Ref K te e3):IW K (KA K (eE i) te f) (DK C0 i f e3):=by
 intro B F o H u D R M k q;refine h B F o H u _ _ M q λv Q Z=>?_;let#[F1,c,r,y,N,z,E]:=Z;let#[F2,x,s,A]:=N.frozen z;have d:oI (tQ c i) λC e j=>C=C0/\(f∉e/\e.length < 1000)/\R.nx (putD c i (.ins C (e++[f]) (j++[r.d]))):=E;cases w:tQ c i with
 | none=>rw[w] at d;exact d.elim
 | some t=>
  let#[C,e,j]:=t;rw[w] at d;let#[rfl,#[J,S],d]:=d;let#[p,a,b,m,g,P,n,O]:=s.hl i _ (vh w);refine#[_,a,p,C,m,g,rfl,P,L,I,?_,?_]
  .have:=congrArg R9 n;rw[lM0] at this;lia
  .have l:f∉g.map (·.1):=by rw[n];exact J
   rw[xN l];have G:Own K F2 (upd Q p (.ins C m (g++[(f,v)]))) p (.ins C (e++[f]) (j++[r.d])):=#[m,g++[(f,v)],aw,by rw[er,n];rfl,by rw[er];exact O.snoc A];exact k.nx F2 o _ _ (y.trans x) (s.Lx (vh w) a G) d
theorem wc(i:Nat){x f:Str}{p2:Pos}(d:X.K=K)(g:Cls K C0)(c:c9 K C0 f)(b:P3B K X (.Name x px) (eE i) (bor i))(a:P3 K X e te e3)(hs:autoParam (Do e (some (.Attribute (.Name x px) f p2)) pos.line X.env=pure false) wE) :
  P3S K X (.Assign [.Attribute (.Name x px) f p2] e pos) (KA K (eE i) te f) (DK C0 i f e3):=#[by subst d;exact KY b.pe a.pe hs,DU g c a.rf]
theorem cq.push{x:V}:∀ {a:List Bo} {vs:List V},cq K F σ a vs->cq K F (σ++[some x]) a vs
 | [],_,h=>h
 | .d d::a,_,⟨v,ws,e,c,b⟩=>#[v,ws,e,c,cq.push b]
 | .v i::a,_,⟨v,ws,e,c,b⟩=>#[v,ws,e,ir c,cq.push b]
theorem cq.ds:∀ {ds:List D} {vs:List V},aC K F ds vs->cq K F σ (ds.map Bo.d) vs
 | [],_,h=>h
 | _::_,_,⟨v,ws,c,b,a⟩=>#[v,ws,c,b,cq.ds a]
theorem ye:∀ ds:List D,dM (ds.map Bo.d)=[]
 | []=>rfl
 | _::ds=>ye ds
theorem IK(ds:List D)(Γ:G):et Γ ((ds.map Bo.d).map some)=ds.map λd=>some (Sl.fz d):=by
 delta et;rw[zq,zq];rfl
theorem Bf {cs:G}{j:Nat}:∀ ds:List D,newD (((ds.map Bo.d).map some).map cM) cs j=none
 | []=>by cases cs <;> rfl
 | _::ds=>by
  cases cs with
  | nil=>rfl
  | cons c cs=>exact Bf (cs:=cs) ds
def O7 (a:G)(k:D->Prop):Prop:=match a with
 | some (.ln d)::_=>k d
 | _=>False
def EK (C:Addr)(n:Nat)(S:S3)(a:TA3)(Γ:G)(Q:RV->G->Prop):Prop:=a Γ λds ak=>ds.length + 1=n/\
 S (some (.ln (.ins C [] []))::ds.map λd=>some (.fz d)) λr aH=>r=.fz .non/\O7 aH λd=>Q (.fr d) ak
theorem DV{n:Nat}{E:XK}{t:TA}{D:TA3}(h:MX K t D):Ref K (DE C (sp3 K n S) [] E t) (EK C n S D):=by
 intro B F g H N Q QQ e q k;refine h B F g H N _ _ e q λA x Z=>?_;let#[F1,ak,a,P,u,G,Y,U]:=Z;intro y f I p W;rw[jn];have w:=u.alloc p (.own y);have c:(upd x f (.own y)) y=none:=by rw[ao (lj W)];exact I
 have e2:En K B F1 g (upd (upd x f (.own y)) y (.ins C f [])) ak:=w.alloc c _;have R:mJ K B F1 g (upd (upd x f (.own y)) y (.ins C f [])) ak (.ref y) (.fr (.ins C [] [])):=#[y,rfl,w.nof c,#[f,[],aw,rfl,rfl],u.dom _ I,w.sX c];have L:=e2.push R;have hl:g.length=ak.length:=u.len;have T:cq K F1 (g++[some (V.ref y)]) (Bo.v ak.length::a.map Bo.d) (.ref y::A):=#[_,_,rfl,by rw[<- hl];exact lA,(cq.ds G).push];have X:(dM (Bo.v ak.length::a.map Bo.d)).Nodup:=by
  show (ak.length::dM (a.map Bo.d)).Nodup;rw[ye];simp
 have eG:et (ak++[some (Sl.ow (.ins C [] []))]) ((Bo.v ak.length::a.map Bo.d).map some)=some (.ln (.ins C [] []))::a.map λd=>some (.fz d):=by
  rw[eN,<- IK a (ak++[some (Sl.ow (.ins C [] []))])];show (some (Bo.v ak.length)).bind (qh _)::_=_
  congr 1
  show gB (ak++[some (Sl.ow (.ins C [] []))])[ak.length]?=_;rw[lA];rfl
 have len:(V.ref y::A).length=n:=by rw[<- Y,eh,G.length]
 refine#[len,F1,_,_,_,L.args T X,rH,by rw[eG];exact U,λr m b v H' F' e3 l=>?_];let#[rfl,b]:=b;let#[O,M,_]:=L.called e3 l;have ev:v=.non:=l;cases m with
 | nil=>exact b.elim
 | cons s i=>
  cases s with
  | none=>exact b.elim
  | some s=>
   cases s with
   | fz d=>exact b.elim
   | ow d=>exact b.elim
   | ln d=>
    have eq:bK (((Bo.v ak.length::a.map Bo.d).map some).map cM) (ak++[some (Sl.ow (.ins C [] []))]) (some (.ln d)::i)=ak++[some (Sl.ow d)]:=by
     refine TK λj=>?_;rw[cV];show Vt (gA (if ak.length=j then some d else newD (((a.map Bo.d).map some).map cM) i j)) _=_;by_cases J:ak.length=j
     .subst J;rw[if_pos rfl,lA,lA];rfl
     .rw[if_neg J,Bf];have:(ak++[some (Sl.ow d)])[j]?=(ak++[some (Sl.ow (.ins C [] []))])[j]?:=by
       rcases VZ j ak.length with z | z
       .rw[hZ z,hZ z]
       .rw[Bk (by simp;lia),Bk (by simp;lia)]
      rw[this];cases (ak++[some (Sl.ow (.ins C [] []))])[j]? with
      | none=>rfl
      | some s=>cases s with
       | none=>rfl
       | some s=>cases s <;> rfl
    rw[eq] at M;let#[e5,o]:=M.pop;exact#[ev,k _ _ #[F',ak,.fr d,P.trans O,e5,o,b]]
section
variable {x m:Str}{n:Nat}{p:Pos}{t:TA}{t3:TA3}
theorem HG(M:Mk X.K C f)(F:aM X.prog X.w X.K X.mg X.base CX0 k f fd ps (sp3 K n S))(d:bH (k + 1) X.A)(h:Gl X x)(g:X.mg x=some (.ref C))(j:Binds X.K fd ps [])(c:P3A K X (e::es) t t3)(b:autoParam (Yk x) wP)(i:autoParam (Yl X e es) wE)(a:autoParam (Ym pos X es) wE) :
  P3 K X (.Call (.Name x p) (e::es) [] pos) (DE C (sp3 K n S) [] E0 t) (EK C n S t3):=#[Hx M F d h g j .nil sJ c.pe b i a,DV c.rf]
end
noncomputable def signs (z:Str):List D:=z.cps.toList.map λc=>D.str (sgn c)
def oS (d:D)(k:Str->Prop):Prop:=match d with
 | .str z=>k z
 | _=>False
theorem Of{d:D}{k:Str->Prop}(h:oS d k):∃ z,d=.str z/\k z:=by
 cases d <;> first | exact h.elim | exact#[_,rfl,h]
noncomputable def asc (z:Str):Bool:=z.cps.all (· < 128)
def iS3 (a:TE3)(Γ:G)(Q:List D->G->Prop):Prop:=a Γ λr ak=>oS r.d λz=>asc z=true/\Q (signs z) ak
theorem lY(z:Str):(signs z).length=z.cps.size:=by simp -iota [signs]
theorem NF:ItR K F (Its z) (signs z):=by
 refine#[λi a _ lt=>by rw[lY] at lt;exact lt,λi a _ e=>by rw[lY] at e;exact Qy e.symm,λi a x g d _ hd y=>?_];let#[f,c,b,rfl]:=y;refine .inl #[f,?_];unfold signs at hd;rw[ef,nL,b] at hd;cases hd;rfl
theorem EX{l:Expr}{tl:TE}{d:TE3}(h:P3 K X l tl d):P3I K X tg l (OQ tl) (iS3 d):=#[K2 h.pe,λB F f H g Q R e q k=>
 h.rf B F f H g _ _ e q λv t Z=>by
  let#[u,a,r,s,p,j,b]:=Z;let#[z,m,n,b]:=Of b;let#[F2,i,o,c]:=p.frozen j;rw[m] at c;exact#[z,c,n,k _ t F2 a _ (s.trans i) o NF b]]
noncomputable def uu (lo c:Int)(n:Nat):List D:=(hV n).map λ(k:Nat)=>D.int (lo + (k:Int) * c)
theorem KH{lo c:Int}{n:Nat}:ItR K F (M3 lo c n) (uu lo c n):=by
 have a:(uu lo c n).length=n:=by simp -iota [uu]
 refine#[λi b _ lt=>by rw[a] at lt;exact lt,λi b _ e=>by rw[a] at e;exact Qy e.symm,λi b x j d _ hd y=>?_];let#[h,g]:=y;subst h g;refine .inl #[rfl,?_];have f:i < n:=by have:=(gS0 hd).1;rw[a] at this;exact this
 have:(uu lo c n)[i]?=some (.int (lo + i * c)):=by delta uu;rw[ef,HZ f];rfl
 rw[this] at hd;cases hd
 rfl
def OS (a:TA3)(Γ:G)(Q:List D->G->Prop):Prop:=a Γ λds ak=>∃ j:Int,ds=[.int j]/\(0<=j/\j < 2 ^ 62)/\Q (uu (j - 1) (-1) j.toNat) ak
theorem EY{ta:TA}{h:TA3}{p:Pos}(f:Gl X "reversed")(d:X.mg "reversed"=none)(u:Gl X "range")(t:X.mg "range"=none)(g:P3A K X [a] ta h)(hs:autoParam (ed [a] X.env=[(false,eval a X.env)]) wE)(c:autoParam (ed [.Call (.Name "range" p) [a] [] pos] X.env=[(false,eval (.Call (.Name "range" p) [a] [] pos) X.env)]) wE) :
  P3I K X tg (.Call (.Name "reversed" p') [.Call (.Name "range" p) [a] [] pos] [] pos') (OT ta) (OS h):=#[K3 f d u t g.pe hs c,λB F i H l Q R e q k=>
 g.rf B F i H l _ _ e q λD A Z=>by
  let#[C,b,E,s,z,m,j,y,#[x,w],r]:=Z;subst y;let#[v,ws,rfl,o,n]:=m;cases o;cases n;exact#[j,rfl,x,w,k _ A C b _ s z KH r]]
def OP (a:TA3)(Γ:G)(Q:List D->G->Prop):Prop:=a Γ λds ak=>∃ z ys,ds=[.str z,.tup ys]/\asc z=true/\z.cps.size<=ys.length/\Q (uk (signs z) ys) ak
theorem OV{b:Expr}{ta:TA}{J:TA3}{kt:Nat}{P p:Pos}(hK:X.K=K)(hg:Gl X "zip")(Y:X.mg "zip"=none)(E:P3A K X [a,b] ta J)(hs:autoParam (ed [a,b] X.env=[(false,eval a X.env),(false,eval b X.env)]) wE)(u:autoParam (ed [b] X.env=[(false,eval b X.env)]) wE) :
  P3I K X (.Tuple es kt P) (.Call (.Name "zip" p) [a,b] [] pos) (iZs K ta) (OP J):=#[by subst hK;exact N3 hg Y E.pe hs u,λB F M H N Q R e q k=>
 E.rf B F M H N _ _ e q λvs H' Z=>by
  let#[L,l,ds,s,I,S,z,A,h1,has,a1,U]:=Z;subst h1;let#[v,ws,rfl,T,w,O,rfl,#[p2,vs2,rfl,g2,C],r3]:=S;cases r3;cases T;have n:∀ {f:Hp},aB L f->SqT K f p2 vs2:=λg=>.inl (.inl (g _ _ g2));have m:(uk (signs z) A).length=z.cps.size:=by rw[xn,lY];lia
  refine#[z,p2,vs2,rfl,has,n I.sub,k _ H' L l _ s I #[λi f g lt=>?_,λi f g G=>?_,λi f x H3 d g hd y=>?_] U]
  .rw[m] at lt;let#[x,y,h,r,_]:=rJ (gE0 (show i < (uk (signs z) A).length by rw[m];exact lt));let#[w,j,_]:=C.get r;exact#[vs2,w,n g,lt,j]
  .rw[m] at G;exact Qy G.symm
  .let#[t,y1,c,W,a2,b1,rfl,rfl]:=y;let#[dx,dy,h,r,rfl]:=rJ hd;let#[w,j,o]:=C.get r;have b2:=a2 vs2 (n g);rw[b2] at j;cases j;delta signs at h;rw[ef,nL,b1] at h;cases h;exact .inr #[t,_,[D.str (sgn c),dy],W,rfl,rfl,#[_,_,rfl,(rfl:V.str (sgn c)=V.str (sgn c)),_,_,rfl,o,rfl],rfl]]
def tgP (i j k:Nat)(d:D)(Γ:G)(Q:G->Prop):Prop:=∃ x y z,d=.tup [x,.tup [y,z]]/\bP Γ i/\bP (Γ.set i (some (.fz x))) j/\bP ((Γ.set i (some (.fz x))).set j (some (.fz y))) k/\Q (((Γ.set i (some (.fz x))).set j (some (.fz y))).set k (some (.fz z)))
theorem Ik{f c b:Expr}{kt a:Nat}(G:X.K=K)(n:X.calm=true)(h1:PG X f (dE i))(L:PGs X [c,b] (jZ [j,k]))(C:autoParam ((qd [c,b] X.env).length=2) wE)(l:autoParam ((qd [c,b] X.env).findIdx? (·.1)=none) wE)(m:autoParam ((qd [f,.Tuple [c,b] a pos'] X.env).length=2) wE)(g:autoParam ((qd [f,.Tuple [c,b] a pos'] X.env).findIdx? (·.1)=none) wE)(E:autoParam ((qd [f,.Tuple [c,b] a pos'] X.env).map (·.2)=assign f X.env::(qd [.Tuple [c,b] a pos'] X.env).map (·.2)) wE)(D:autoParam ((qd [.Tuple [c,b] a pos'] X.env).map (·.2)=assign (.Tuple [c,b] a pos') X.env::(qd [] X.env).map (·.2)) wE) :
  P3G K X (.Tuple [f,.Tuple [c,b] a pos'] kt pos) (CP K 2 (yq (dE i) (yq (CP K 2 (jZ [j,k])) Ij))) (tgP i j k):=#[by subst G;exact wq n (aj h1 (aj (wq n L C l) aO D) E) m g,λB F R H S v d Q W e r q A=>by
 let#[x,y,z,rfl,O,N,M,q]:=q;let#[p,T,rfl,J,V,s,rfl,w,U,o,rfl,#[p2,t,rfl,I,r3],u]:=r;cases u;have f:=e.set (r:=.fz x) O w;refine#[p,_,rfl,.inl (.inl (e.sub _ _ J)),rfl,_,_,rfl,?_];show yq (CP K 2 (jZ [j,k])) Ij _ _ _ _;refine#[_,_,rfl,p2,_,rfl,.inl (.inl (e.sub _ _ I)),by rw[r3.length];rfl,?_];exact nP (is:=[j,k]) (ds:=[y,z]) f r3 rfl #[N,M,trivial] λh P=>#[rfl,A h _ P q]]
section
variable {b f:Expr}{tb tf:TE}
set_option backward.eqns.nonrecursive false in
def qo (x y:D)(Γ:G)(Q:RV->G->Prop):Prop:=match x,y with
 | .str z,.int n=>(n=0\/n=1)/\z.length<=sizeLine/\Q (.fz (.str (if n=0 then DJ else z))) Γ
 | _,_=>False
theorem HS:jI K DZ qo:=by
 intro B F f H g x y i h Q j e b a q k;delta qo at q;split at q
 .let#[d,c,q]:=q;cases b;cases a;exact#[_,_,rfl,rfl,d,c,k _ _ (jT e q)]
 .exact q.elim
theorem wz(d:P3B K X a ta a3)(c:P3B K X b tb b3):P3 K X (.BinOp a .Mult b pos) (tOp DZ ta tb) (bU qo a3 b3):=#[mQ HK d.pe c.pe,gq HS d.rf c.rf]
set_option backward.eqns.nonrecursive false in
noncomputable def dS:D->Bool
 | .str _=>true
 | _=>false
theorem Pn(T:TyS X.K):B3 K X (.builtin "isinstance") (λxs H Q=>∃ x,xs=[x,.ty "str"]/\Kn H x/\Q (.bl (isS x)) H) (is3 "str" dS):=FZ (g:=λ_ v=>isS v) (FQ T) λs h hk=>by
 rename_i F H d v;cases d <;> first
  | (cases h;rfl)
  | (cases hk;done)
  | (let#[p,a,rfl,_]:=h;rfl)
  | (let#[p,rfl,_]:=h;rfl)
  | (let#[p,c,b,rfl,_]:=h;rfl)
theorem JD{o:Option D}{k:Int->Prop}{t:Tag k}:mI o k t->∃ d,o=some (.int d)/\k d:=by
 intro h;cases o with
 | none=>exact h.elim
 | some d=>cases d <;> first | exact h.elim | exact#[_,rfl,h]
end
mutual
noncomputable def dt:D->PyData
 | .non=>.none
 | .bl b=>.bool b
 | .int i=>.int i
 | .str x=>.str x
 | .lst xs=>.list (dtL xs)
 | .tup xs=>.tuple (dtL xs)
 | .dct=>.dict []
 | .dcs k i=>.dict [(.str k,.int i)]
 | _=>.none
noncomputable def dtL:List D->List PyData
 | []=>[]
 | x::xs=>dt x::dtL xs
end
inductive Sh:Nat->Nat->D->Prop where
 | non:Sh 100 1 .non
 | bl (b:Bool):Sh 100 1 (.bl b)
 | int {i:Int} (h:i.natAbs < 10 ^ 60):Sh 100 1 (.int i)
 | str {x:Str} {n:Nat} (h:(hF (.str x)).length<=n):Sh n 1 (.str x)
 | dct:Sh 100 1 .dct
 | dcs {k:Str} {i:Int} {n:Nat} (h:i.natAbs < 10 ^ 60) (hn:(hF (.dict [(.str k,.int i)])).length<=n):Sh n 1 (.dcs k i)
 | lst {n k l:Nat} {xs:List D} (h:∀ x∈xs,Sh n k x) (hl:xs.length<=l):Sh (l * (n + 2) + 3) (k + 1) (.lst xs)
 | tup {n k l:Nat} {xs:List D} (h:∀ x∈xs,Sh n k x) (hl:xs.length<=l):Sh (l * (n + 2) + 3) (k + 1) (.tup xs)
 | up {n k n' k':Nat} {d:D} (h:Sh n k d) (h1:n<=n') (h2:k<=k'):Sh n' k' d
structure ShD (n k:Nat) (d:D):Prop where
 sh:(dt d).showable=true
 dp:(dt d).depth<=k
 ln:(dt d).shown.length<=n
 dt:∀ {K:Fg0} {F H:Hp} {v:V},aB F H->Rep K F d v->Dt K H v (dt d)
theorem Ic{i:Int}(h:i.natAbs < 10 ^ 60):(hF (.int i)).length<=100:=by
 have e:=int_text_length_le10 (k:=60) (by decide) h;show (jx (toString i)).length<=100;rw[ofString_length];lia
theorem z9{i:Int}(h:i.natAbs < 10 ^ 60):ue (.int i)=true:=by
 show decide (i.natAbs.log2 < 1920)=true;rw[decide_eq_true_eq];by_cases a:i.natAbs=0
 .rw[a];decide
 .rw[Nat.log2_lt a];exact da (show i.natAbs < 2 ^ 200 from VT h (by decide)) (Nat.pow_le_pow_right (by decide) (by decide))
theorem shL {n k:Nat}:∀ {xs:List D},(∀ x∈xs,ShD n k x)->QP (dtL xs)=true/\ov (dtL xs)<=k/\((nr (dtL xs)).map (·.length)).sum<=xs.length * n/\(nr (dtL xs)).length=xs.length/\
  ∀ {K:Fg0} {F H:Hp} {vs:List V},aB F H->aC K F xs vs->dC K H vs (dtL xs)
 | [],_=>#[rfl,by simp -iota [dtL,ov],by simp -iota [dtL,nr],rfl,λ_ r=>by cases r;exact .nil]
 | x::xs,h=>by
  let#[i,l,g,f,d]:=shL (xs:=xs) λy c=>h y (ei _ c);have e:=h x nA;have j:=e.ln;have m:=e.dp;refine#[?_,?_,?_,?_,λs r=>?_]
  .simp -iota only[dtL,QP,e.sh,i,Bool.and_self]
  .simp -iota only[dtL,ov];lia
  .simp -iota only[dtL,nr,eN,TU,eh,UU,Wv];exact WF 0x496f838c10cee8cb8 g j
  .simp -iota only[dtL,nr,eh,f]
  .let#[v,ws,rfl,b,a]:=r;exact .cons (e.dt s b) (d s a)
theorem Sh.spec{n:Nat}{d:D}(h:Sh n k d):ShD n k d:=by
 induction h with
 | non=>exact#[rfl,by simp [dt,lq],by decide,λ_ r=>by cases r;exact .non]
 | bl b=>exact#[rfl,by simp [dt,lq],by cases b <;> decide,λ_ r=>by cases r;exact .bl b]
 | @int i h=>exact#[z9 h,by simp [dt,lq],Ic h,λ_ r=>by cases r;exact .int i]
 | @str x n h=>exact#[rfl,by simp [dt,lq],h,λ_ r=>by cases r;exact .str x]
 | @lst n k l a h f c=>
  let#[j,z,q,o,m]:=shL c;refine#[by simp only[dt,ue,j],by simp only[dt,lq];lia,?_,λs r=>?_]
  .have e:=listText_len_le (nr (dtL a));have v:(hF (dt (.lst a)))=listText (nr (dtL a)):=by simp only[dt,hF]
   rw[v];have u:a.length * n<=l * n:=SN _ f;have t:l * (n + 2)=l * n + l * 2:=Nat.mul_add ..;exact Yf f q o e u t
  .let#[p,w,rfl,g,r]:=r;exact .lst (SqL.of (s _ _ g)) (m s r)
 | @tup n k l a h f c=>
  let#[j,z,q,o,m]:=shL c;refine#[by simp only[dt,ue,j],by simp only[dt,lq];lia,?_,λs r=>?_]
  .have e:=tupleText_len_le (nr (dtL a));have v:(hF (dt (.tup a)))=tupleText (nr (dtL a)):=by simp only[dt,hF]
   rw[v];have u:a.length * n<=l * n:=SN _ f;have t:l * (n + 2)=l * n + l * 2:=Nat.mul_add ..;exact Yf f q o e u t
  .let#[p,w,rfl,g,r]:=r;exact .tup (.inl (.inl (s _ _ g))) (m s r)
 | dct=>exact#[rfl,by simp [dt,lq,Ry],by decide,λs r=>by let#[p,rfl,h]:=r;exact .dct (s _ _ h)]
 | @dcs k i n h y=>exact#[by have:=z9 h;simp only[dt,ue,VU] at this ⊢;simpa using this,by simp [dt,lq,Ry],y,λs r=>by let#[p,rfl,h]:=r;exact .dcs k i (s _ _ h)]
 | up h j A c=>exact#[c.sh,eH c.dp A,eH c.ln j,c.dt]
set_option backward.eqns.nonrecursive false in
noncomputable def Kw:D->Bool
 | .lst _=>true
 | .tup _=>true
 | _=>false
noncomputable def shw (d:D):Str:=(dt d).shown
theorem Sh.dtB{n:Nat}{d:D}(h:Sh n k d)(hs:Kw d=true)(s:aB F H)(r:iG K F H d v):∃ a,v=.ref a/\Dt K H v (dt d):=by
 cases d with
 | lst b=>
  let#[p,m,rfl,g,r]:=r;refine#[p,rfl,?_];have C:∀ {n k:Nat} {d:D},Sh n k d->∀ b,d=.lst b->∀ x∈b,∃ n k,Sh n k x:=by
   intro n k d h
   induction h with
   | lst h I f=>intro b e x B;cases e;exact#[_,_,h x B]
   | up h L J f=>exact f
   | _=>intro b e;cases e
  have all:∀ {c:List D} {ws:List V},(∀ x∈c,∃ n k,Sh n k x)->aC K F c ws->dC K H ws (dtL c):=by
   intro c
   induction c with
   | nil=>intro ws _ r;cases r;exact .nil
   | cons y c f=>
    intro ws j r;let#[w,l,rfl,t,o]:=r;let#[E,G,A]:=j y nA;exact .cons (A.spec.dt s t) (f (λz u=>j z (ei _ u)) o)
  exact .lst (SqL.of g) (all (C h b rfl) r)
 | tup b=>
  have i:Rep K F (.tup b) v:=r;have q:=h.spec.dt s i;let#[p,m,rfl,_]:=i;exact#[p,rfl,q]
 | _=>cases hs
section
variable {f:Expr}{tf:TE}
set_option backward.eqns.nonrecursive false in
def E9 (C0:Addr)(f:Str)(x:D)(Γ:G)(Q:RV->G->Prop):Prop:=match x with
 | .ins C ns xs=>C=C0/\m1 ((ns.zip xs).lookup f) (λd=>Q (.fz d) Γ) ⟨⟩
 | _=>False
theorem eR{f:Str}(c:P3B K X a ta a3)(n:Cls K C0)(j:c9 K C0 f)(l:autoParam (O8 a f X.env (eval a X.env)=eval a X.env) wE)(m:autoParam (X.K=K) wE) :
  P3 K X (.Attribute a f pos) (Nz K ta f) (Cb (E9 C0 f) a3):=#[by subst m;exact K9 c.pe l,zo (r:=λx g Q=>∃ a C b fs v,x=.ref a/\g a=some (.ins C b fs)/\Cls K C/\c9 K C f/\fs.lookup f=some v/\Q v g) (ta:=ta) (by
 intro B F w H y x b Q z e h q k;delta E9 at q;split at q
 .let#[rfl,q]:=q;let#[d,hd,q]:=cA.mp q;let#[p,b,u,rfl,t,s,o]:=h;let#[v,i,r]:=aC.lookup s o hd;exact#[p,_,b,u,v,rfl,t,n,j,i,k _ _ (iR e r q)]
 .exact q.elim) c.rf]
noncomputable def kt (zs:Ls0):D:=.ktup (zs.map .str)
structure M1 (K:Fg0) (mg:SV) (x:Str) (p:Addr) (zs:Ls0):Prop where
 mg:mg x=some (.ref p)
 sq:∀ F:Hp,SqT K F p (zs.map V.str)
theorem aC.strs:∀ (zs:Ls0),aC K F (zs.map D.str) (zs.map V.str)
 | []=>rfl
 | z::zs=>#[_,_,rfl,rfl,aC.strs zs]
theorem fO{x:Str}{zs:Ls0}(a:M1 K X.mg x p zs)(hd:autoParam (Yk x) wP)(b:autoParam (Gl X x) wE):P3 K X (.Name x pos) (tC (.ref p)) (t3C (kt zs)):=
 #[wt b a.mg rfl hd,sC λF=>#[p,_,rfl,a.sq F,aC.strs zs]]
end
def Py (i:Nat)(a:TE3)(D:E3)(Γ:G):Prop:=mI (Gat Γ i) (λm=>a Γ λr ak=>mI (some r.d) (λn=>bP ak i/\D.nx (ak.set i (some (.fz (.int (m + n)))))) ⟨⟩) ⟨⟩
theorem KC{x:Str}(A:X.N.Nodup)(hi:X.N[i]?=some x)(t:Loc X.env.scope x)(g:P3 K X e te e3)(z:autoParam (X.fn x=true\/X.env.scope.names.lookup x=some .local) wq0) :
  P3S K X (.AugAssign (.Name x pos') .Add e pos) (NC i te _2.Cm) (Py i e3):=#[KZ A hi t g.pe L5 z,λB F j H o D I h k q=>by
 let#[m,y,q]:=JD q;let#[v,w,a]:=h.get y;cases a;refine#[_,w,g.rf B F j H o _ _ h q λu G Z=>?_];let#[F1,l,r,s,E,a,b]:=Z;let#[n,c,d,b]:=JD b;have c:r.d=.int n:=fS c;let#[F2,p,C,f]:=E.frozen a;rw[c] at f;cases f;exact#[m,n,rfl,rfl,k.nx F2 _ _ _ (s.trans p) (C.set (r:=.fz (.int (m + n))) d rfl) b]]
def oIt (o:Option (Addr×Ls0×List D))(k:Addr->Ls0->List D->Prop)(_:Tag k):Prop:=oI o k
theorem EA{k:Addr->Ls0->List D->Prop}{t:Tag k}:oIt (some (C,ns,xs)) k t=k C ns xs:=rfl
def oSt (o:D)(k:Str->Prop)(_:Tag k):Prop:=oS o k
theorem HQ{k:Str->Prop}{t:Tag k}:oSt (.str z) k t=k z:=rfl
def JO (o:G)(k:D->Prop)(_:Tag k):Prop:=O7 o k
theorem Il{d:D}{k:D->Prop}{t:Tag k}:JO (some (.ln d)::Γ) k t=k d:=rfl
section
variable {QI:List D->G->Prop}{n:Nat}{f:Str}{t3:TA3}{k1 k2:Str}{d1 d2 d0:D}{l3 h3:TO3}
theorem G1:DK C0 i f e3 D1 Γ=(e3 Γ λr ak=>oIt (tQ ak i) (λC ns xs=>C=C0/\(f∉ns/\ns.length < 1000)/\D1.nx (putD ak i (.ins C (ns++[f]) (xs++[r.d])))) ⟨⟩):=rfl
theorem OR:iS3 e3 Γ QI=(e3 Γ λr ak=>oSt r.d (λz=>asc z=true/\QI (signs z) ak) ⟨⟩):=rfl
end
theorem Gi{p q:Prop}{s:Tag p}{t:Tag q}:bT true p q s t=p:=rfl
theorem Gj{p q:Prop}{s:Tag p}{t:Tag q}:bT false p q s t=q:=rfl
theorem Px{c:Bool}{p q:Prop}{s:Tag p}{t:Tag q}(h1:c=true->p)(a:c=false->q):bT c p q s t:=by
 cases c with
 | true=>exact h1 rfl
 | false=>exact a rfl
section
variable {QT:Bool->G->Prop}{QA:List D->G->Prop}{QL:List Bo->G->Prop}{QG:G->Prop}{is:List Nat}{t u:TS3}{c3:TB3}{B3:TT3}{t3:TA3}{tb:eY}{d:D}{l3 h3 s3:TO3}{bb:mH}
theorem yj:Kx t u D1 Γ=t { D1 with nx:=u D1 } Γ:=rfl
theorem tS:Jy D1 Γ=D1.nx Γ:=rfl
theorem yi:rX i e3 D1 Γ=(e3 Γ λr ak=>bT (bqa ak i) (D1.nx (ak.set i (some r.sl))) False ⟨⟩ ⟨⟩):=rfl
theorem OZ:G7 e3 D1 Γ=e3 Γ D1.rt:=rfl
theorem Me:Fo e3 D1 Γ=(e3 Γ λ_ ak=>D1.nx ak):=rfl
theorem yh:tst e3 Γ QT=(e3 Γ λx ak=>match x.d with | .bl k=>QT k ak | _=>False):=rfl
theorem ym:bor i Γ QB=m1 (Gat Γ i) (λ_=>QB (.v i) Γ) ⟨⟩:=rfl
theorem yn:bof e3 Γ QB=(e3 Γ λx ak=>QB (.d x.d) ak):=rfl
theorem oG:f_ a3 tb Γ QL=(a3 Γ λx ak=>tb ak λxs a=>QL (x::xs) a):=rfl
theorem tR:oA Γ QL=QL [] Γ:=rfl
theorem Mf:eU e3 t3 Γ QA=(e3 Γ λx ak=>t3 ak λxs a=>QA (x.d::xs) a):=rfl
theorem O1:qX Γ QA=QA [] Γ:=rfl
theorem h_c:t3C d Γ Q=Q (.fz d) Γ:=rfl
theorem O5:MN A3 B3 Γ QT=(A3 Γ λc ak=>bT c (B3 ak QT) (QT false ak) ⟨⟩ ⟨⟩):=rfl
theorem QH:or3 A3 B3 Γ QT=(A3 Γ λc ak=>bT c (QT true ak) (B3 ak QT) ⟨⟩ ⟨⟩):=rfl
theorem O0:Lr A3 Γ QT=(A3 Γ λc ak=>QT (!c) ak):=rfl
theorem QJ:if3 A3 e3 f3 Γ Q=(A3 Γ λc ak=>bT c (e3 ak Q) (f3 ak Q) ⟨⟩ ⟨⟩):=rfl
theorem O2:Ow t3 Γ Q=(t3 Γ λxs ak=>xs.length<=sizeLine/\Q (.fr (.lst xs)) ak):=rfl
theorem OY:y9 t3 Γ Q=(t3 Γ λxs ak=>xs.length<=sizeLine/\Q (.fz (.tup xs)) ak):=rfl
theorem O4:MM i e3 Γ Q=mL (de Γ i) (λ_=>e3 Γ λr ak=>mL (de ak i) (λxs=>xs.length < sizeLine/\Q (.fz .non) (putD ak i (.lst (xs++[r.d])))) ⟨⟩) ⟨⟩:=rfl
theorem L_:Jn is e3 D1 Γ=(e3 Γ λr ak=>mL (ast r.d) (λds=>gFa ak is ds D1.nx) ⟨⟩):=rfl
theorem L9:Jl a3 Γ QO=(a3 Γ λx ak=>∃ i,x.at ak=some (.int i)/\QO (some i) ak):=rfl
theorem Mc:Jw Γ QO=QO none Γ:=rfl
abbrev hI (a:Nat->G->Prop)(k:Nat)(Γ:G)(_:Tag a):Prop:=a k Γ
def JE (xs:List D)(c:G)(e:TG3)(f:TS3)(b:E3)(_:Tag (e,f,b)):Prop:=∃ a:Nat->G->Prop,a 0 c/\(∀ k d Γ,xs[k]?=some d->a k Γ->e d Γ λΓ'=>f { b with nx:=a (k + 1),ct:=a (k + 1),bk:=b.nx } Γ')/\∀ Γ,a xs.length Γ->b.nx Γ
theorem O3{a:TS3}{c:Tag (i3,g3,a)}{b:Tag D1}:Mo i3 g3 a D1 Γ c b=(i3 Γ λxs ak=>JE xs ak g3 a D1 ⟨⟩):=rfl
theorem cj{b3:TS3}{b:E3}{t:Tag (g3,b3,b)}(a:Nat->G->Prop)(e:a 0 ak)(hs:∀ k d Γ,xs[k]?=some d->a k Γ->g3 d Γ λΓ'=>b3 { b with nx:=λΓ=>hI a (k + 1) Γ ⟨⟩,ct:=λΓ=>hI a (k + 1) Γ ⟨⟩,bk:=b.nx } Γ')(c:∀ Γ,a xs.length Γ->b.nx Γ):JE xs ak g3 b3 b t:=#[a,e,hs,c]
abbrev hJ (a:Nat->List D->G->Prop)(k:Nat)(ys:List D)(Γ:G)(_:Tag a):Prop:=a k ys Γ
def JT (xs:List D)(b:G)(g:On)(h:TG3)(i:TE3)(Q:RV->G->Prop)(_:Tag (g,h,i,Q)):Prop:=∃ c:Nat->List D->G->Prop,c 0 [] (et b (e_ g))/\
 (∀ k d ys a,xs[k]?=some d->ys.length=k->c k ys a->h d a λf=>i f λr e=>c (k + 1) (ys++[r.d]) e)/\∀ ys a,ys.length=xs.length->c xs.length ys a->Q (.fr (.lst ys)) (bK g b a)
theorem Mg{b:Tag (fr,i3,g3,e3)}{a:Tag Q}:JU fr i3 g3 e3 Γ Q b a=(i3 Γ λxs ak=>xs.length < sizeLine/\JT xs ak fr g3 e3 Q ⟨⟩):=rfl
theorem jE{t:Tag (fr,g3,e3,Q)}(b:Nat->List D->G->Prop)(g:b 0 [] (et ak (e_ fr)))(hs:∀ k d ys a,xs[k]?=some d->ys.length=k->b k ys a->g3 d a λe=>e3 e λr c=>hJ b (k + 1) (ys++[r.d]) c ⟨⟩)(f:∀ ys a,ys.length=xs.length->b xs.length ys a->Q (.fr (.lst ys)) (bK fr ak a)):JT xs ak fr g3 e3 Q t:=#[b,g,hs,f]
def FC (xs:List D)(a:G)(c:On)(d:TG3)(e:mH)(Q:RV->G->Prop)(_:Tag (c,d,e,Q)):Prop:=Bn xs d e [] (et a (e_ c)) λys b=>ys.length < sizeLine/\Q (.fr (.lst ys)) (bK c a b)
theorem Ii{b:Tag (fr,i3,g3,bb)}{a:Tag Q}:FD fr i3 g3 bb Γ Q b a=(i3 Γ λxs ak=>FC xs ak fr g3 bb Q ⟨⟩):=rfl
theorem fB{b3:mH}{t:Tag (fr,g3,b3,Q)}(b:Nat->List D->G->Prop)(e:b 0 [] (et ak (e_ fr)))(hs:∀ k d ys Γ,xs[k]?=some d->b k ys Γ->g3 d Γ λΓ'=>b3 ys Γ' λys Γ=>hJ b (k + 1) ys Γ ⟨⟩)(c:∀ ys a,b xs.length ys a->ys.length < sizeLine/\Q (.fr (.lst ys)) (bK fr ak a)):FC xs ak fr g3 b3 Q t:=#[b,e,hs,c]
def JM (S:S3)(A:G)(L:On)(a:G)(Q:RV->G->Prop)(_:Tag Q):Prop:=S A (λr aH=>Q r (bK L a aH))
def OX (S:S3)(A:G)(a:G)(Q:RV->G->Prop)(_:Tag Q):Prop:=S A (λr aH=>r=.fz .non/\JO aH (λd=>Q (.fr d) a) ⟨⟩)
theorem pj{n:Nat}{b:eY}:j_ n S b Γ Q=(b Γ λa ak=>bT (cKa a n) (JM S (et ak (a.map some)) ((a.map some).map cM) ak Q ⟨⟩) False ⟨⟩ ⟨⟩):=rfl
theorem n0b{b:Bool}:nIa i [] b=b:=rfl
theorem n1b{js:List Nat}{b:Bool}:nIa i (j::js) b=bif i == j then false else nIa i js b:=rfl
theorem k0b:cKa [] 0=true:=rfl
theorem k1b{d:D}{bs:List Bo}{n:Nat}:cKa (.d d::bs) (n + 1)=cKa bs n:=rfl
theorem k2b{bs:List Bo}{n:Nat}:cKa (.v i::bs) (n + 1)=nIa i (dM bs) (cKa bs n):=rfl
theorem Ly{m:Str}{n:Nat}{c:eY}:Bj C m n S o3 c Γ Q=(o3 Γ λx ak=>(∃ ns xs,x.at ak=some (.ins C ns xs)/\m∉ns)/\c ak λb a=>bT (cKa (x::b) n) (JM S (et a ((x::b).map some)) (((x::b).map some).map cM) a Q ⟨⟩) False ⟨⟩ ⟨⟩):=rfl
theorem LA{n:Nat}{a:TA3}:EK C n S a Γ Q=(a Γ λds ak=>ds.length + 1=n/\OX S (some (.ln (.ins C [] []))::ds.map λd=>some (.fz d)) ak Q ⟨⟩):=rfl
theorem Gk{s:Tag (t,u,D1)}:bG true t u D1 Γ s=t D1 Γ:=rfl
theorem Gm{s:Tag (t,u,D1)}:bG false t u D1 Γ s=u D1 Γ:=rfl
theorem pG{c:Bool}{s:Tag (t,u,D1)}(h1:c=true->t D1 Γ)(a:c=false->u D1 Γ):bG c t u D1 Γ s:=by
 cases c with
 | true=>exact h1 rfl
 | false=>exact a rfl
theorem yk:L6 A3 t u D1 Γ=(A3 Γ λc ak=>bG c t u D1 ak ⟨⟩):=rfl
theorem QN{e:D}:eU (t3C e) t3 Γ QA=(t3 Γ λxs a=>QA (e::xs) a):=rfl
end
theorem ln0{a:Type}{us:List a}(h:us.length=0):us=[]:=Qn h
theorem ln1{b:Type}{us:List b}(h:us.length=1):∃ a,us=[a]:=by
 match us,h with
 | [a],_=>exact#[a,rfl]
theorem ln2{c:Type}{us:List c}(h:us.length=2):∃ a b,us=[a,b]:=by
 match us,h with
 | [a,b],_=>exact#[a,b,rfl]
theorem ln3{d:Type}{us:List d}(h:us.length=3):∃ a b c,us=[a,b,c]:=by
 match us,h with
 | [a,b,c],_=>exact#[a,b,c,rfl]
theorem ln4{e:Type}{us:List e}(h:us.length=4):∃ a b c d,us=[a,b,c,d]:=by
 match us,h with
 | [a,b,c,d],_=>exact#[a,b,c,d,rfl]
theorem ln5{f:Type}{us:List f}(h:us.length=5):∃ a b c d e,us=[a,b,c,d,e]:=by
 match us,h with
 | [a,b,c,d,e],_=>exact#[a,b,c,d,e,rfl]
section
noncomputable def Bs.hid (B:Bs)(p:Addr)(o:HO):Bs:=#[B.F,upd B.H p o,B.own]
theorem En.hide(e:En K B F σ H Γ){o:HO}(j:F p=none)(f:H p=some o)(g:∀ (i:Nat) (d:D),Hld Γ i d->σ[i]?≠some (some (V.ref p))):En K (B.hid p o) F σ H Γ where
 sub:=e.sub
 len:=e.len
 fz:=e.fz
 hl:=e.hl
 ow:=λi d c h a=>by
  have z:c≠p:=λz=>g i d (.inl h) (z ▸ a);show upd B.H p o c=none;rw[ao z];exact e.ow i d c h a
 ln:=e.ln
 dis:=e.dis
 par:=e.par
 keep:=e.keep
 new:=λb u h=>by
  rcases e.new b u h with q | q
  .exact .inl q
  .have z:b≠p:=λz=>by subst z;rw[j] at h;cases h
   exact .inr (by show upd B.H p o b=none;rw[ao z];exact q)
 rest:=λb u h n=>by
  by_cases z:b=p
  .subst z;have h:upd B.H b o b=some u:=h;rw[aw] at h;cases h;exact f
  .have h:upd B.H p o b=some u:=h;rw[ao z] at h;exact e.rest b u h n
 dom:=λb h=>by
  have z:b≠p:=λz=>by subst z;rw[f] at h;cases h
  show upd B.H p o b=none;rw[ao z];exact e.dom b h
theorem En.Ke{o:HO}(e:En K (B.hid p o) F σ H Γ)(l:B.H p=none)(k:B.F p=none)(j:∀ i,(i,p)∉B.own) :
  En K B F σ H Γ/\H p=some o/\F p=none/\∀ (i:Nat) (d:D),Hld Γ i d->σ[i]?≠some (some (V.ref p)):=by
 have c:(B.hid p o).H p=some o:=aw;have g:∀ {b:Addr},b≠p->(B.hid p o).H b=B.H b:=λz=>ao z;have f:∀ {b:Addr},(B.hid p o).H b=none->B.H b=none:=λ{b} h=>by
  have z:b≠p:=λz=>by subst z;rw[c] at h;cases h
  rw[<- g z];exact h
 refine#[#[e.sub,e.len,e.fz,e.hl,λi d q h a=>f (e.ow i d q h a),e.ln,e.dis,e.par,e.keep,λb u h=>(e.new b u h).imp id f,λb u h n=>e.rest b u ?_ n,λb h=>f (e.dom b h)],e.rest p o c j,?_,λi d h a=>?_]
 .have z:b≠p:=λz=>by subst z;rw[l] at h;cases h
  rw[g z];exact h
 .cases q:F p with
  | none=>rfl
  | some u=>
   rcases e.new p u q with z | z
   .rw[show (B.hid p o).F p=B.F p from rfl,k] at z;cases z
   .simp_all
 .rcases h with h | h
  .have z:=e.ow i d p h a;rw[c] at z;cases z
  .exact j i (e.ln i d p h a)
set_option backward.eqns.nonrecursive false in
def frL (r:RV)(k:List D->Prop):Prop:=match r with
 | .fr (.lst xs)=>k xs
 | _=>False
theorem Mn{r:RV}{k:List D->Prop}(h:frL r k):∃ xs,r=.fr (.lst xs)/\k xs:=by
 cases r with
 | fz d=>exact h.elim
 | two _ _=>exact h.elim
 | rws _=>exact h.elim
 | fr d=>cases d <;> first | exact h.elim | exact#[_,rfl,h]
variable {b:Expr}{tb:TE}{a3 b3:TE3}
end
open PySem _2 PySem.Spec PyProof.Rows
def QR (a:TE3)(Γ:G)(Q:RV->G->Prop):Prop:=a Γ λr ak=>Q (.fz r.d) ak
theorem Hb{b:TE3}(h:Ref K ta b):Ref K ta (QR b):=λB F c H d Q o e q k=>
 h B F c H d _ _ e q λv n Z=>by
  let#[p,a,r,s,m,g,j]:=Z;let#[F2,f,l,i]:=m.frozen g;exact k v n #[F2,a,.fz r.d,s.trans f,l,i,j]
noncomputable def wd (i:Int):List Nat:=(toString i).toList.map Char.toNat
noncomputable def tl:Li0->List Nat
 | []=>[93]
 | i::is=>44::32::(wd i++tl is)
noncomputable def lt:Li0->List Nat
 | []=>[91,93]
 | i::is=>91::(wd i++tl is)
structure XD where
 C:Addr
 ns:Ls0
 xs:List D
def PL (K:Fg0)(F:Hp)(cls:Value)(b:Option Addr)(x:XD):Prop:=cls=.ref x.C/\∃ d a,b=some d/\F d=some (XdO d a)/\a.map (·.1)=x.ns/\aC K F x.xs (a.map (·.2))
def XR (K:Fg0)(B:Bs)(a:Hp)(E:_2.St->XK)(W:XD->G->Prop):Prop:=∀ F' aJ H' Γ' cls dx x,aB a F'->En K B F' aJ H' Γ'->PL K F' cls dx x->W x Γ'->E aJ cls dx H'
def PV (K:Fg0)(B:Bs)(b:Hp)(t:TE)(a:TE3):Prop:=∀ (F:Hp) (σ:_2.St) (H:Hp) (Γ:G) (Q:RV->G->Prop) (QQ:VK),aB b F->En K B F σ H Γ->a Γ Q->(∀ v H',Po K B F σ Q v H'->QQ v H')->t σ H QQ
def vJ (K:Fg0)(B:Bs)(c:Hp)(t:TS)(b:TS3):Prop:=∀ (F:Hp) (σ:_2.St) (H:Hp) (Γ:G) (D:Ends) (a:E3),aB c F->En K B F σ H Γ->qM K B F D a->b a Γ->t D σ H
structure P3X (K:Fg0) (X:Cx) (B:Bs) (F0:Hp) (e:Expr) (t:TE) (t3:TE3):Prop where
 pe:PE X e t
 rf:PV K B F0 t t3
structure xk (K:Fg0) (X:Cx) (B:Bs) (F0:Hp) (st:Stmt) (t:TS) (t3:TS3):Prop where
 pe:PS X st t
 rf:vJ K B F0 t t3
structure pK (K:Fg0) (X:Cx) (B:Bs) (F0:Hp) (st:List Stmt) (t:TS) (t3:TS3):Prop where
 pe:PSs X st t
 rf:vJ K B F0 t t3
section
variable {rest:List Stmt}{t:TS}{t3:TS3}
theorem P3S.x(h:P3S K X st t t3):xk K X B F0 st t t3:=#[h.pe,λF a H b D c _=>h.rf B F a H b D c]
theorem uh.x(h:uh K X rest t t3):pK K X B F0 rest t t3:=#[h.pe,λF a H b D c _=>h.rf B F a H b D c]
theorem nB(h:xk K X B F0 st t t3):pK K X B F0 [st] t t3:=#[l7 h.pe,h.rf]
theorem lX(h:xk K X B F0 st t t3)(d:pK K X B F0 rest u u3):pK K X B F0 (st::rest) (Ca t u) (Kx t3 u3):=
 #[jj h.pe d.pe,λF f H g D c w e k q=>h.rf F f H g { D with nx:=u D } { c with nx:=u3 c } w e #[λm a l b s j i=>d.rf m a l b D c (w.trans s) j (k.mono s) i,k.rt,k.bk,k.ct] q]
theorem Dj(h:P3X K X B F0 e te e3):xk K X B F0 (.Return (some e) pos) (GR te) (G7 e3):=#[zu h.pe,λF b H c D l w e k q=>
 h.rf F b H c _ _ w e q λv i ⟨j,a,r,s,g,d,f⟩=>k.rt j b i a v r s g d f]
theorem vO(h:P3X K X B F0 e te e3)(hs:autoParam (Do e none pos.line X.env=pure false) wE):xk K X B F0 (.Expr e pos) (DF te) (Fo e3):=#[rm h.pe hs,λF b H c D l w e k q=>
 h.rf F b H c _ _ w e q λv g ⟨i,a,r,s,f,j,d⟩=>k.nx i b g a s f d]
theorem Nh{c:Expr}{a b:List Stmt}(h:P3T K X c tc A3)(j:pK K X B F0 a t t3)(i:pK K X B F0 b u u3):xk K X B F0 (.If c a b pos) (GS tc t u) (L6 A3 t3 u3):=#[D8 h.pe j.pe i.pe,λF f H p D o w e k q=>
 h.rf B F f H p _ _ e q λb m Z=>by
  let#[n,d,s,l,g]:=Z;cases b with
  | true=>exact j.rf n f m d D o (w.trans s) l (k.mono s) g
  | false=>exact i.rf n f m d D o (w.trans s) l (k.mono s) g]
end
noncomputable abbrev S3X:=G->(RV->G->Prop)->(XD->G->Prop)->Prop
def qO (K:Fg0)(n:Nat)(S:S3X):Sp:=λvs H Q E=>vs.length=n/\∃ F own aH b a,En K #[F,H,own] F (vs.map some) H aH/\(∀ (k:Nat) (d:D),aH[k]?≠some (some (Sl.ow d)))/\S aH b a/\
 (∀ r Γ',b r Γ'->∀ v H' F',En K #[F,H,own] F' (vs.map some) H' Γ'->mJ K #[F,H,own] F' (vs.map some) H' Γ' v r->Q v H')/\
 ∀ x Γ',a x Γ'->∀ H' F' cls dx,En K #[F,H,own] F' (vs.map some) H' Γ'->PL K F' cls dx x->E cls dx H'
def w9 (n:Nat)(S:S3X)(b:eY)(W:XD->G->Prop)(Γ:G)(Q:RV->G->Prop):Prop:=b Γ λa ak=>a.length=n/\(dM a).Nodup/\S (et ak (a.map some)) (λr aH=>Q r (bK ((a.map some).map cM) ak aH)) λx aH=>W x (bK ((a.map some).map cM) ak aH)
theorem uU{t:TA}{S:S3X}{n:Nat}{E:_2.St->XK}{W:XD->G->Prop}(h:yT K t t3)(x:XR K B F0 E W):PV K B F0 (vR (qO K n S) [] E t) (w9 n S t3 W):=by
 intro F l H u Q N w e q k;refine h B F l H u _ _ e q λL O Z=>?_;let#[F1,s,M,m,g,o,I,D,C]:=Z;rw[jn];refine#[by rw[o.length];exact I,F1,_,_,_,_,g.args o D,rH,C,λr a q v p j f A=>?_,λy a q p j i J f z=>?_]
 .let#[b,d,c]:=g.called f A;exact k _ _ #[j,_,r,m.trans b,d,c,q]
 .let#[b,d,_]:=g.called f (v:=.non) (r:=.fz .non) rfl;exact x j l p _ i J y ((w.trans m).trans b) d z q
theorem Ey{x:Str}{S:S3X}(F:Fun K x qual st f fd)(Sc:az N ps (ai st))(Y:autoParam (ps.length<=N.length) wP)(hbody:∀ (c:Value) (A:Around) (outer:List Env) (s:Shared) (H:Hp) (E:XK),bH k (A.deeper (envOfC qual (ai st) s.heap.objs.size f c))->
   ∃ (t:TS) (t3:(XD->G->Prop)->TS3),(∀ B F0 W,XR K B F0 (λ_=>E) W->pK K (mw (CX1 P w base) P w K mg base N qual (ai st) f c A outer s H E) B F0 (gO st) t (t3 W))/\
    ∀ aH Q m,S aH Q m->aH.length=ps.length->t3 (λx Γ'=>m x (jo aH Γ')) { nx:=λΓ'=>Q (.fz .non) (jo aH Γ'),rt:=λr Γ'=>Q r (jo aH Γ') } (jM N aH)) :
  aM P w K mg base (CX1 P w base) (k + 1) f fd ps (qO K ps.length S):=by
 let#[oc,od,kV,Z,pm,an,c,ct,O,rfl,lk,n]:=F.ex;refine JP lk n Sc (λI H Q E h=>h.1) λA outer s H I Q E T h=>?_;let#[U,F0,i,aH,o,m,e,d,X,u,V]:=h;let#[t,t3,R,M]:=hbody c A outer s H E T;have j:aH.length=ps.length:=by rw[<- e.len,lM0];exact U
 have D:XR K #[F0,H,i] F0 (λ_=>E) (λx Γ'=>m x (jo aH Γ')):=λC g y Γ' a1 dx x _ l r q=>by
  let#[a,_]:=e.out d l (v:=.non) (r:=.fz .non) rfl;exact V _ _ q _ _ _ _ a r
 have p:=R #[F0,H,i] F0 _ D;refine#[t,p.pe,p.rf F0 _ H _ _ { nx:=λΓ'=>o (.fz .non) (jo aH Γ'),rt:=λr Γ'=>o r (jo aH Γ') } (aB.refl F0) (e.start (N:=N) (by rw[j];exact Y)) #[?_,?_,λ_ _ _ _ _ _ z=>mC z,λ_ _ _ _ _ _ z=>mC z] (M aH o m X j)]
 .intro C g y Γ' J l q;let#[a,b]:=e.out d l (v:=.non) (r:=.fz .non) rfl;exact u _ _ q _ _ _ a b
 .intro C g y Γ' v r J l L q;let#[a,b]:=e.out d l L;exact u _ _ q _ _ _ a b
section
variable {CX:CXT}{x m:Str}{p:Pos}{t:TA}{n:Nat}{S:S3X}{E:_2.St->XK}{W:XD->G->Prop}
theorem rg(d:XR K B F0 E W)(F:aM X.prog X.w X.K X.mg X.base CX k f fd ps (qO K n S))(g:dR CX X E)(h:bH k X.A)(i:X.mg x=some (.ref f))(hk:kx X.K (.ref f)=true)(m:Binds X.K fd ps [])(c:uG K X (e::es) t t3)(b:autoParam (Yk x) wP)(l:autoParam (Yl X e es) wE)(a:autoParam (Ym pos X es) wE)(o:autoParam (X.K=K) wE)(j:autoParam (Gl X x) wE) :
  P3X K X B F0 (.Call (.Name x p) (e::es) [] pos) (vR (qO K n S) [] E t) (w9 n S t3 W):=#[Ek F h j i hk m .nil g c.pe b l a,uU c.rf d]
end
def GW (K:Fg0)(C:Addr)(ns:Ls0):Sp:=λvs H Q _=>∃ e ys,vs=.ref e::ys/\ys.length=ns.length/\H e=some (e9 e C none)/\∀ d,H d=none->d≠e->Q .non (upd (upd H d (XdO d (ns.zip ys))) e (e9 e C (some d)))
def zp (C:Addr)(ns:Ls0)(a:TA3)(W:XD->G->Prop)(_:E3)(Γ:G):Prop:=a Γ λds ak=>ds.length=ns.length/\W #[C,ns,ds] ak
theorem AM:∀ {ns:Ls0} {ys:List V},ys.length=ns.length->(ns.zip ys).map (·.1)=ns
 | [],[],_=>rfl
 | n::ns,y::ys,h=>by simp -iota only[EN,eN];rw[AM (by simpa using h)]
 | [],_::_,h=>by cases h
 | _::_,[],h=>by cases h
theorem AL:∀ {ns:Ls0} {ys:List V},ys.length=ns.length->(ns.zip ys).map (·.2)=ys
 | [],[],_=>rfl
 | n::ns,y::ys,h=>by simp -iota only[EN,eN];rw[AL (by simpa using h)]
 | [],_::_,h=>by cases h
 | _::_,[],h=>by cases h
section
variable {CX:CXT}{x:Str}{p:Pos}{t:TA}{t3:TA3}{E:XK}{W:XD->G->Prop}
theorem Ci(h:MX K t t3)(u:XR K B F0 (λ_=>E) W):vJ K B F0 (za C (GW K C ns) [] E0 E t) (zp C ns t3 W):=by
 intro F n H s D O w e N q;refine h B F n H s _ _ e q λc m ⟨F1,i,M,v,g,p,G,x⟩ y A=>?_;rw[jn];have j:c.length=ns.length:=by rw[p.length];exact G
 refine#[y,c,rfl,j,aw,λd hd r=>#[rfl,some d,aw,?_]];have a:m d=none:=by rw[ao r] at hd;exact hd
 have I:_2.del (upd (upd (upd m y (e9 y C none)) d (XdO d (ns.zip c))) y (e9 y C (some d))) y=upd m d (XdO d (ns.zip c)):=by
  funext b
  by_cases f:b=y
  .subst f;rw[pf,ao (lj r)];exact A.symm
  .rw[j8 f,ao f];by_cases l:b=d
   .subst l;rw[aw,aw]
   .rw[ao l,ao l,ao f]
 rw[I];have k:F1 d=none:=by
  cases z:F1 d with
  | none=>rfl
  | some o=>rw[g.sub d o z] at a;cases a
 have L:=g.alloc a (XdO d (ns.zip c));have J:=L.freeze k aw (g.dom d a) (g.sX a);refine u _ n _ i _ _ #[C,ns,M] ((w.trans v).trans (aY k)) J #[rfl,d,_,rfl,aw,AM j,?_] x;rw[AL j];exact p.mono (aY k)
theorem Dk(n:X.K=K)(d:XR K B F0 (λ_=>E) W)(M:XMk X.K C f)(F:aM X.prog X.w X.K X.mg X.base CX0 k f fd ps (GW K C ns))(h:bH (k + 1) X.A)(j:Gl X x)(i:X.mg x=some (.ref C))(m:Binds X.K fd ps [])(hR:Raises X E)(g:ps.length<=sizeLine)(c:P3A K X (e::es) t t3)(b:autoParam (Yk x) wP)(l:autoParam (Yl X e es) wE)(a:autoParam ((backTo cpos (ed es X.env)).any (·.1)=false) wE) :
  xk K X B F0 (.Raise (some (.Call (.Name x p) (e::es) [] cpos)) none pos) (za C (GW K C ns) [] E0 E t) (zp C ns t3 W):=
 #[D6 M F h j i m .nil sJ hR g c.pe b l a,Ci c.rf d]
end
noncomputable def E3.wV (D:E3)(i:Nat):E3:=#[λΓ=>bP Γ i/\D.nx (Γ.set i none),D.rt,λΓ=>bP Γ i/\D.bk (Γ.set i none),λΓ=>bP Γ i/\D.ct (Γ.set i none)]
def Jf (K:Fg0)(a:Addr)(i:Nat)(b:TS3)(D:E3)(x:XD)(Γ:G):Prop:=rz K x.C (.ref a)=some true/\bP Γ i/\b (D.wV i) (Γ.set i (some (.fz (.exc x.C x.ns x.xs))))
def Kj (K:Fg0)(a:Addr)(i:Nat)(c:(XD->G->Prop)->TS3)(b:TS3)(D:E3)(Γ:G):Prop:=c (Jf K a i b D) D Γ
theorem En.gone(e:En K B F σ H Γ)(hi:bP Γ i):En K B F (σ.set i none) H (Γ.set i none):=by
 have c:=e.forget hi;have il:=lB hi;have f:∀ {j:Nat} {s:Sl},(Γ.set i none)[j]?=some (some s)->(σ.set i none)[j]?=σ[j]?:=λ{j s} q=>by
  by_cases z:j=i
  .simp_all
  .exact bh (lj z)
 have nh:∀ {j:Nat} {d:D},Hld (Γ.set i none) j d->(σ.set i none)[j]?=σ[j]?:=λq=>q.elim f f;refine#[c.sub,by rw[rx];exact c.len,λj d q=>by rw[f q];exact c.fz j d q,λj d q=>by rw[nh q];exact c.hl j d q,λj d p q a=>c.ow j d p q (by rw[<- f q];exact a),λj d p q a=>c.ln j d p q (by rw[<- f q];exact a),
  λj k d l p h g n m=>c.dis j k d l p h g (by rw[<- nh h];exact n) (by rw[<- nh g];exact m),λj p q=>?_,c.keep,c.new,c.rest,c.dom]
 let#[a,d,b]:=c.par j p q;exact#[by rw[f b];exact a,d,b]
theorem qM.wV{D:Ends}{f:E3}(k:qM K B F D f):qM K B F (D.wV i) (f.wV i) where
 nx:=λd a c b s e q=>k.nx d _ c _ s (e.gone q.1) q.2
 rt:=λd a c b v r s e g q=>k.rt d a c b v r s e g q
 bk:=λd a c b s e q=>k.bk d _ c _ s (e.gone q.1) q.2
 ct:=λd a c b s e q=>k.ct d _ c _ s (e.gone q.1) q.2
theorem G_{n:(_2.St->XK)->TS}{p:(XD->G->Prop)->TS3}(L:∀ F1 E W,XR K B F1 E W->vJ K B F1 (n E) (p W))(hs:vJ K B F0 ts s3):vJ K B F0 (Ko K aK i n ts) (Kj K aK i p s3):=by
 intro F u H v D t w e k q;refine L F (GQ K aK i ts D) (Jf K aK i s3 t) (λf g S h R T x s c r l=>?_) F u H v D t (aB.refl F) e k q;let#[I,J,l]:=l;let#[rfl,d,M,rfl,hd,C,A]:=r;refine#[x.C,rfl,I,λa b=>?_];have m:f a=none:=by
  cases z:f a with
  | none=>rfl
  | some o=>rw[c.sub a o z] at b;cases b
 have P:=c.alloc b (nU a (.ref x.C) (some d));have O:=P.freeze m aw (c.dom a b) (c.sX b);have j:=aY (o:=nU a (.ref x.C) (some d)) m;have Q:d≠a:=λz=>by rw[z,m] at hd;cases hd
 have y:mJ K B (upd f a (nU a (.ref x.C) (some d))) g (upd S a (nU a (.ref x.C) (some d))) h (.ref a) (.fz (.exc x.C x.ns x.xs)):=by
  exact#[a,some d,M,rfl,aw,(by show upd f a _ d=_;rw[ao Q];exact hd),C,A.mono j]
 have N:=O.set J y;exact hs _ _ _ _ _ _ ((w.trans s).trans j) N ((k.mono (s.trans j)).wV) l
section
variable {x:Str}{L:Addr}{suite:List Stmt}{aL:Stmt}{np hpos:Pos}{tb:(_2.St->XK)->TS}{b3:(XD->G->Prop)->TS3}
theorem J_(l:X.K=K)(c:Gz X.K aK)(a:X.stack=X.env::X.outer)(b:X.env.frame=some L)(j:Gl X x)(h:X.mg x=some (.ref aK))(k:X.N.Nodup)(hi:X.N[i]?=some nm)(hk:X.env.kindOf nm=some .local)(f:∀ pins F1 E W,XR K B F1 E W->pK K ((X.nH pins).nX (XP (X.nH pins) E)) B F1 body (tb E) (b3 W))(hs:∀ pins e,pK K ((X.nH pins).sui e) B F0 (aL::suite) ts s3)(d:autoParam (Yk x) wP) :
  xk K X B F0 (.Try body [.ExceptHandler (some (.Name x np)) (some nm) (aL::suite) hpos] [] [] pos) (Ko K aK i tb ts) (Kj K aK i b3 s3):=by
 subst l;exact#[KW c a b j h k hi hk (λpins E=>(f pins F0 E (λ_ _=>False) (λ_ _ _ _ _ _ _ _ _ _ q=>q.elim)).pe) (λpins e=>(hs pins e).pe) d,G_ (λF1 E W g=>(f [] F1 E W g).rf) (hs [] 0).rf]
end
set_option backward.eqns.nonrecursive false in
def Dg (P:Addr->Prop)(f:Str)(x:D)(Γ:G)(Q:RV->G->Prop):Prop:=match x with
 | .exc C ns xs=>P C/\∃ d,(ns.zip xs).lookup f=some d/\Q (.fz d) Γ
 | _=>False
theorem HF{f:Str}{P:Addr->Prop}(o:X.K=K)(h:P3B K X a ta a3)(s:∀ C,P C->C9 K C/\c9 K C f)(m:O8 a f X.env (eval a X.env)=eval a X.env) :
  P3 K X (.Attribute a f pos) (Jg K ta f) (Cb (Dg P f) a3):=#[by subst o;exact Hv h.pe m,zo (r:=λx g Q=>∃ e C d fs v,x=.ref e/\g e=some (nU e (.ref C) (some d))/\g d=some (XdO d fs)/\C9 K C/\c9 K C f/\fs.lookup f=some v/\Q v g) (ta:=ta) (by
 intro B F A H D x E Q G e l q k;delta Dg at q;split at q
 .let#[n,d,hd,q]:=q;let#[p,c,j,rfl,w,i,u,t]:=l;let#[v,b,r]:=aC.lookup u t hd;let#[z,y]:=s _ n;cases c with
  | none=>rw[show j=[] from i] at b;cases b
  | some c=>exact#[p,_,c,j,v,rfl,e.sub _ _ w,e.sub _ _ i,z,y,b,k _ _ (iR e r q)]
 .exact q.elim) h.rf]
set_option backward.eqns.nonrecursive false in
noncomputable def dvv:D->Option Value
 | .adr a=>some (.ref a)
 | .ty n=>some (.type n)
 | _=>none
set_option backward.eqns.nonrecursive false in
def LZ (K:Fg0)(P:Addr->Prop)(ds:List D)(Γ:G)(Q:RV->G->Prop):Prop:=match ds with
 | [.exc C ns xs,c]=>P C/\∃ u b,dvv c=some u/\bp K (.ref C) u=some b/\Q (.fz (.bl b)) Γ
 | _=>False
theorem Pl{P:Addr->Prop}(j:X.K=K)(l:∀ C,P C->XIs K C):B3 K X (.builtin "isinstance") (λxs H Q=>∃ e C d fs c b,xs=[.ref e,c]/\H e=some (nU e (.ref C) d)/\XDk H d fs/\XIs K C/\isC c=true/\bp K (.ref C) (vv c)=some b/\Q (.bl b) H) (LZ K P):=#[by subst j;exact FO,by
 intro B F y H z A G Q I e r q k;delta LZ at q;split at q
 .let#[v,w,rfl,m,h]:=r.two;let#[i,u,b,f,hk,q]:=q;let#[p,x,o,rfl,s,t,E,D]:=m;rename_i c;have g:isC w=true/\vv w=u:=by
   cases c with
   | adr a=>cases h;cases f;exact#[rfl,rfl]
   | ty n=>cases h;cases f;exact#[rfl,rfl]
   | _=>cases f
  exact#[p,_,x,o,w,b,rfl,e.sub _ _ s,t.mono e.sub,l _ i,g.1,by rw[g.2];exact hk,k _ _ (mP e q)]
 .exact q.elim]
open PySem _2
section
variable {b:Expr}{o3 a3:TE3}
noncomputable def itx (i:Int):Str:=jx (toString i)
set_option backward.eqns.nonrecursive false in
noncomputable def isN:D->Bool
 | .non=>true | _=>false
def OH (a:Bool)(x y:D)(Γ:G)(Q:RV->G->Prop):Prop:=y=.non/\Q (.fz (.bl (a ^^ isN x))) Γ
theorem L4{d:D}(h:iG K F H d v):decide (v=.non)=isN d:=by
 cases d <;> first
  | (cases h;rfl)
  | (let#[p,a,rfl,_]:=h;rfl)
  | (let#[p,rfl,_]:=h;rfl)
  | (let#[rfl,_]:=h;rfl)
  | (let#[p,c,b,rfl,_]:=h;rfl)
theorem IC:C3 K X .IsNot (λx y H Q=>y=.non/\Q (.bl (!decide (x=.non))) H) (OH true):=#[HJ,λB F c H d x y g f Q h e b a q k=>by
 let#[rfl,q]:=q;cases a;rw[L4 b];exact#[rfl,k _ _ (mP e (by simpa using q))]]
theorem rq{x:Str}(a:X.mg x=some (.ref C))(hd:autoParam (Yk x) wP)(b:autoParam (Gl X x) wE):P3 K X (.Name x pos) (tC (.ref C)) (t3C (.adr C)):=
 #[wt b a rfl hd,λB F c H f Q g e q k=>k _ _ (iR (d:=.adr C) e rfl q)]
end
section
variable {t:TS}{t3:TS3}
theorem P3S.ofX(h:∀ B F0,xk K X B F0 st t t3):P3S K X st t t3:=#[(h #[λ_=>none,λ_=>none,[]] λ_=>none).pe,λB F a H b D c e k q=>(h B F).rf F a H b D c (aB.refl F) e k q]
def Qa (K:Fg0):Sp:=λvs H Q _=>∃ e C dx y,vs=[.ref e,y]/\gW K C "ValueError" "ValueError.__new__"=true/\H e=some (e9 e C dx)/\Q .non H
end
def fz3 (a:TE3)(Γ:G)(Q:RV->G->Prop):Prop:=a Γ λr ak=>Q (.fz r.d) ak
theorem mR(h:P3 K X e te e3):P3 K X e te (fz3 e3):=#[h.pe,λB F b H c Q o j q k=>h.rf B F b H c _ _ j q λv n Z=>by
 let#[p,a,r,s,m,f,i]:=Z;let#[F2,d,l,g]:=m.frozen f;exact k v n #[F2,a,.fz r.d,s.trans d,l,g,i]]
def OW (S:S3X)(b:G)(ls:On)(Γ:G)(Q:RV->G->Prop)(W:XD->G->Prop)(_:Tag (Q,W)):Prop:=S b (λr a=>Q r (bK ls Γ a)) λx a=>W x (bK ls Γ a)
section
variable {W:XD->G->Prop}{D:E3}
theorem IA{n:Nat}{S:S3X}:w9 n S t3 W Γ Q=(t3 Γ λa ak=>a.length=n/\(dM a).Nodup/\OW S (et ak (a.map some)) ((a.map some).map cM) ak Q W ⟨⟩):=rfl
theorem Hg{a:TA3}:zp C ns a W D Γ=(a Γ λds ak=>ds.length=ns.length/\W #[C,ns,ds] ak):=rfl
end
end _3
namespace _2
open PySem PySem.Spec PyProof.Rows
section
variable {b:Expr}{tb:TE}{rest:List Expr}
theorem Aq(j:bH k X.A):ck X (.builtin "repr") (λxs H Q=>(xs=[.non]/\Q (.str "None") H)\/(∃ c,xs=[.bl c]/\Q (.str (if c then "True" else "False")) H)\/(∃ i,xs=[.int i]/\i.natAbs.log2 < 1920/\Q (.str (toString i)) H)\/∃ z,xs=[.str z]/\(Q6 z).length<=sizeLine/\Q (.str (Q6 z)) H):=by
 intro b s f H xs g Q I r h;rcases h with ⟨rfl,q⟩ | ⟨c,rfl,q⟩ | ⟨i,rfl,e,q⟩ | ⟨z,rfl,d,q⟩
 .let#[u,rfl,a]:=vals1 r;cases a;exact P.repr_of_none #[.str _,H,I.tok _,#[_,rfl],q]
 .let#[u,rfl,a]:=vals1 r;cases a;exact P.repr_of_bool #[.str _,H,I.tok _,#[_,rfl],q]
 .let#[u,rfl,a]:=vals1 r;let#[t,rfl]:=a;exact P.repr_of_int e #[.str _,H,I.tok _,#[_,rfl],q]
 .let#[u,rfl,a]:=vals1 r;let#[t,rfl]:=a;exact P.repr_of_str #[.str _,H,I.tok _,#[_,rfl],q] d
end
end _2
namespace _3
open PySem _2
section
variable {b:Expr}{rest:List Expr}{tb:TE}{o3 a3 b3:TE3}
noncomputable def scl:D->Option Str
 | .non=>some "None"
 | .bl c=>some (if c then "True" else "False")
 | .int i=>some (itx i)
 | .str z=>some (Q6 z)
 | _=>none
noncomputable def rpr (d:D):Str:=(scl d).getD (shw d)
def okR (d:D):Prop:=(Kw d=true\/d=.dct)/\Sh 10000000 20 d\/d=.non\/(∃ c,d=.bl c)\/(∃ i,d=.int i/\i.natAbs < 10 ^ 60)\/∃ z,d=.str z/\(Q6 z).length<=sizeLine
set_option backward.eqns.nonrecursive false in
def zj (ds:List D)(Γ:G)(Q:RV->G->Prop):Prop:=match ds with
 | [d]=>okR d/\Q (.fz (.str (rpr d))) Γ
 | _=>False
theorem BS(n:X.K=K)(g:bH k X.A):B3 K X (.builtin "repr") (λxs H Q=>(∃ a d,xs=[.ref a]/\Dt K H (.ref a) d/\Shw d/\Q (.str d.shown) H)\/((xs=[.non]/\Q (.str "None") H)\/(∃ c,xs=[.bl c]/\Q (.str (if c then "True" else "False")) H)\/(∃ i,xs=[.int i]/\i.natAbs.log2 < 1920/\Q (.str (toString i)) H)\/∃ z,xs=[.str z]/\(Q6 z).length<=sizeLine/\Q (.str (Q6 z)) H)) zj:=
 #[by subst n;exact ck.or (Ar g) (Aq g),by
 intro B F s H t u w Q x e r q k;delta zj at q;split at q
 .let#[hd,q]:=q;let#[v,rfl,h]:=r.one;rcases hd with ⟨hs,f⟩ | rfl | ⟨c,rfl⟩ | ⟨i,rfl,m⟩ | ⟨z,rfl,l⟩
  .left
   have b:=f.spec;have fin:Shw (dt _):=#[b.sh,b.dp,by rw[ea];have:=b.ln;lia];rename_i d;rcases hs with hs | rfl
   .let#[a,rfl,hd]:=f.dtB hs e.sub h;have o:rpr d=shw d:=by cases d <;> first | rfl | cases hs
    rw[o] at q;exact#[a,_,rfl,hd,fin,k _ _ (jT e q)]
   .have j:Rep K F .dct v:=h;have hd:=b.dt e.sub j;let#[p,rfl,_]:=j;exact#[p,_,rfl,hd,fin,k _ _ (jT e q)]
  .cases h;exact .inr (.inl #[rfl,k _ _ (jT e q)])
  .cases h;exact .inr (.inr (.inl #[c,rfl,k _ _ (jT e q)]))
  .cases h;exact .inr (.inr (.inr (.inl #[i,rfl,of_decide_eq_true (z9 m),k _ _ (jT e q)])))
  .cases h;exact .inr (.inr (.inr (.inr #[z,rfl,l,k _ _ (jT e q)])))
 .exact q.elim]
end
end _3
namespace _2
open PySem PySem.Spec PyProof.Rows
structure yS (K:Fg0) (U C:Addr):Prop where
 mro:∃ cd rest,Rk K C=some cd/\cd.mro=.ref C::rest/\rest.all (λv=>match v with | .ref a=>a == U | .type _=>true | _=>false)=true/\(C=U\/fC U∈rest)/\Qv "ValueError"∈rest
 ty:Rw K (.ref C)=some (.type "type")
section
variable {U D:Addr}
theorem yS.self:bp K (.ref C) (.ref C)=some true:=by
 delta bp;rw[if_pos (by simp)]
theorem yS.up(x:yS K U C)(u:yS K U U):bp K (.ref C) (.ref U)=some true:=by
 let#[g,rest,c,b,f,h4,_]:=x.mro;let#[e,a,d,_]:=u.mro;rcases h4 with rfl | h4
 .exact yS.self
 .have s:PySem.W.subIn K (.ref C) (.ref U)=some true:=by
   show rz K C (.ref U)=_;delta rz;rw[c,EO,if_neg (by rw[b];simp),b]
   congr 1
   exact Ro.mpr (ei _ h4)
  delta bp;split
  .rfl
  .delta PySem.W.kitCls;dsimp only;rw[if_pos (by rw[d,u.ty];rfl)];exact s
end
structure MU (K:Fg0) (U C f:Addr) (ns:Ls0):Prop where
 xm:XMk K C f
 cl:AE K C
 is:XIs K C
 un:yS K U C
 na:∀ n∈ns,c9 K C n
 tk:∀ n∈ns,vy K C n=some none
noncomputable def Kg (K:Fg0)(U C:Addr):Bool:=match Rk K C with
 | none=>false
 | some cd=>match cd.mro with
  | .ref c::rest=>c == C && rest.all (λv=>match v with | .ref a=>a == U | .type _=>true | _=>false) && (C == U || rest.contains (.ref U)) && rest.contains (.type "ValueError")
  | _=>false
theorem Kf{U:Addr}(h:Kg K U C=true)(ty:Rw K (.ref C)=some (.type "type")):yS K U C:=by
 delta Kg at h;cases e:Rk K C with
 | none=>rw[e] at h;cases h
 | some g=>
  rw[e] at h;dsimp only at h;split at h
  .rename_i c rest a;simp -iota only[fT,Bool.or_eq_true,beq_iff_eq] at h;let#[#[#[rfl,f],d],b]:=h;exact#[#[g,rest,e,a,f,d.imp id Ro.mp,Ro.mp b],ty]
  .cases h
noncomputable def xoB (K:Fg0)(U C f:Addr)(ns:Ls0):Bool:=
 gW K C "ValueError" "ValueError.__new__" && ez K (.ref C) "__init__" == some (some (.ref f)) && Si K (.ref f) && kx K (.ref C) && rd K C && (Rk K C).any (λcd=>pO cd.mro)
 && ez K (.ref C) "__setattr__" == some (some (.builtin "object.__setattr__")) && ez K (.ref C) "__getattribute__" == some (some (.builtin "BaseException.__getattribute__")) && ez K (.ref C) "__getattr__" == some none
 && rz K C (.type "BaseException") == some true && ez K (.ref C) "__class__" == some (some (.builtin "object.__class__")) && Lu K (.builtin "object.__class__") "__get__" == some (some (.builtin "getset_descriptor.__get__"))
 && Uy K (.builtin "object.__class__") == some true && rz K C (.type "object") == some true && Kg K U C && Rw K (.ref C) == some (.type "type")
 && ns.all (λn=>ez K (.ref C) n == some none && vy K C n == some none)
theorem Ja{U:Addr}(h:xoB K U C f ns=true):MU K U C f ns:=by
 delta xoB at h;simp -iota only[fT,beq_iff_eq,List.all_eq_true] at h;let#[#[#[#[#[#[#[#[#[#[#[#[#[#[#[#[u,t],s],r],l],q],p],o],m],k],j],i],g],e],d],c],a]:=h;exact#[#[u,t,s,r],#[l,q,p],#[#[o,m,l,k],j,i,g,e],Kf d c,λn b=>(a n b).1,λn b=>(a n b).2]
noncomputable def Ls:La0->Bool
 | []=>true
 | x::xs=>xs.all (λy=>!(x == y)) && Ls xs
end _2
namespace _3
open PySem _2 PySem.Spec PyProof.Rows
section
variable {b:Expr}{tb:TE}
theorem aC.times{vs:List V}(r:aC K F xs vs):∀ n:Nat,aC K F (ji n xs).flatten (ji n vs).flatten
 | 0=>rfl
 | n + 1=>by
  rw[HT,HT,ly,ly];exact r.append (aC.times r n)
set_option backward.eqns.nonrecursive false in
def Bg (x y:D)(Γ:G)(Q:RV->G->Prop):Prop:=match x,y with
 | .lst xs,.int n=>(0<=n/\n<=1000/\xs.length * n.toNat<=sizeLine)/\Q (.fr (.lst (ji n.toNat xs).flatten)) Γ
 | _,_=>False
theorem HU:jI K KO Bg:=by
 intro B F h H i x y o n Q s e c b q k;delta Bg at q;split at q
 .let#[#[m,j,f],q]:=q;cases b;let#[p,a,rfl,g,r]:=c;exact#[p,_,a,rfl,rfl,g,by lia,by lia,by rw[r.length];exact f,λl d=>k _ _ (l8 e d (r.times _) q)]
 .exact q.elim
theorem Be(d:P3B K X a ta a3)(c:P3B K X b tb b3):P3 K X (.BinOp a .Mult b pos) (tOp KO ta tb) (bU Bg a3 b3):=#[mQ Le d.pe c.pe,gq HU d.rf c.rf]
end
open PySem _2 PySem.Spec PyProof.Rows
section
theorem En.adr(e:En K B F σ H Γ)(h:Hld Γ i (.cel q xs)):σ[i]?=some (some (V.ref q))/\F q=none/\∃ vs,H q=some (.lst vs)/\aC K F xs vs:=by
 let#[p,a,b,rfl,vs,c,d]:=e.hl i _ h;exact#[a,b,vs,c,d]
def IT (r:RV)(k:Addr->Prop):Prop:=match r with
 | .fz (.adr q)=>k q
 | _=>False
theorem IS{r:RV}{k:Addr->Prop}(h:IT r k):∃ q,r=.fz (.adr q)/\k q:=by
 cases r with
 | fz d=>cases d <;> first | exact h.elim | exact#[_,rfl,h]
 | fr _=>exact h.elim
 | two _ _=>exact h.elim
 | rws _=>exact h.elim
def DQ (r:RV)(k:List (List D)->Prop):Prop:=match r with
 | .rws xss=>k xss
 | _=>False
theorem G4{r:RV}{k:List (List D)->Prop}(h:DQ r k):∃ xss,r=.rws xss/\k xss:=by
 cases r with
 | rws xss=>exact#[_,rfl,h]
 | fz _=>exact h.elim
 | fr _=>exact h.elim
 | two _ _=>exact h.elim
def vB (b:Bo)(k:Nat->Prop):Prop:=match b with
 | .v j=>k j
 | .d _=>False
def Pu (a:TE3)(Γ:G)(Q:Bo->G->Prop):Prop:=a Γ λr ak=>IT r λq=>∃ j xs,Hld ak j (.cel q xs)/\Q (.v j) ak
theorem bA(h:P3 K X e te e3):P3B K X e te (Pu e3):=#[h.pe,by
 intro B F d H f Q p n q k;refine h.rf B F d H f _ _ n q λv s Z=>?_;let#[F1,a,r,g,c,i,b]:=Z;let#[q',rfl,j,o,m,b]:=IS b;have l:v=.ref q':=i;subst l;exact k _ _ #[F1,a,.v j,g,c,(c.adr m).1,b]]
noncomputable def D5 (Γ:G)(j:Nat)(xs:List D):G:=match Γ[j]? with
 | some (some (.ow (.cel q _)))=>Γ.set j (some (.ow (.cel q xs)))
 | some (some (.ln (.cel q _)))=>Γ.set j (some (.ln (.cel q xs)))
 | _=>Γ
theorem Hj(h:Hld Γ j (.cel q xs)):D5 Γ j ys=putD Γ j (.cel q ys):=by
 rcases h with h | h <;> delta D5 putD <;> rw[h]
theorem En.Qu(e:En K B F σ H Γ){ws:List V}(h:Hld Γ j (.cel q xs))(r:aC K F ys ws):En K B F σ (upd H q (.lst ws)) (D5 Γ j ys):=by
 rw[Hj h];exact e.Lx h (e.adr h).1 #[rfl,ws,aw,r]
variable {k:Expr}{tk:TE}{p2:Pos}
def Jo (d e:TB3)(f:TE3)(D:E3)(Γ:G):Prop:=f Γ λr ak=>d ak λg c=>vB g λj=>e c λb a=>∃ q xs k n,Hld a j (.cel q xs)/\b.at a=some (.int k)/\ixN xs.length k=some n/\D.nx (D5 a j (xs.set n r.d))
theorem G3(p:P3B K X o to o3)(hk:P3B K X k tk k3)(x:P3 K X e te e3)(T:autoParam (∀ v,assign (.Subscript o k p2) X.env v=(do
   let O <- holding [v] (eval o X.env)
   let iv <- holding [v,O] (eval k X.env)
   IR p2
   holding [v,O,iv] (VB O iv v)
   release [v,O,iv] [])) wT)(hs:autoParam (SC [.Subscript o k p2] e pos.line X.env=pure false) wE)(b:autoParam (SD [.Subscript o k p2] e X.env=pure none) wE)(h1:autoParam ((qd [.Subscript o k p2] X.env).map (·.2)=[assign (.Subscript o k p2) X.env]) wE) :
  P3S K X (.Assign [.Subscript o k p2] e pos) (gY te (CQ to tk uW)) (Jo o3 k3 e3):=#[zw x.pe (Ec p.pe hk.pe set_list T) hs b h1,λB F a H A D D3 U P q=>
 x.rf B F a H A _ _ U q λv H' Z=>by
  let#[F',f,r,s,W,G,N]:=Z;let#[F2,E,V,J]:=W.frozen G;refine p.rf B F2 a H' f _ _ V N λw H2 Z=>?_;let#[F3,c,Y,l,e3,I,m]:=Z;cases Y with
  | d _=>exact m.elim
  | v j=>
   refine hk.rf B F3 a H2 c _ _ e3 m λu H3 Z=>?_;let#[F4,z,b4,i,h,g,M,xs,kk',n,t,S,R,L]:=Z;let#[a1,a2,C,a3,y]:=h.adr t;have b:a[j]?=some (some w):=I;rw[a1] at b;cases b;have Q:u=.int kk':=h.bo g S;exact#[M,C,kk',n,rfl,Q,a3,by rw[y.length];exact R,P.nx F4 a _ _ (((s.trans E).trans l).trans i) (h.Qu t (aC.set (J.mono (l.trans i)) n y)) L]]
theorem xF:∀ {qs:La0},aC K F (qs.map D.adr) (qs.map V.ref)
 | []=>rfl
 | _::_=>#[_,_,rfl,rfl,xF]
end
noncomputable def Bs.uB (B:Bs):List (Addr×HO)->Bs
 | []=>B
 | (q,o)::l=>(Bs.uB B l).hid q o
theorem E2:∀ {l:List (Addr×HO)},(B.uB l).F=B.F
 | []=>rfl
 | _::l=>E2 (l:=l)
theorem yg:∀ {l:List (Addr×HO)},(B.uB l).own=B.own
 | []=>rfl
 | _::l=>yg (l:=l)
theorem Bw:∀ {l:List (Addr×HO)} {q:Addr},(B.uB l).H q=none->B.H q=none/\q∉l.map (·.1)
 | [],q,h=>#[h,by simp]
 | (z,o)::l,q,h=>by
  have h:upd (B.uB l).H z o q=none:=h;have c:q≠z:=λw=>by rw[w,aw] at h;cases h
  rw[ao c] at h;let#[a,b]:=Bw h;exact#[a,by rw[eN,cm,not_or];exact#[c,b]]
theorem vf:∀ {l:List (Addr×HO)} {q:Addr},B.H q=none->q∉l.map (·.1)->(B.uB l).H q=none
 | [],q,h,_=>h
 | (z,o)::l,q,h,n=>by
  rw[eN,cm,not_or] at n;show upd (B.uB l).H z o q=none;rw[ao n.1];exact vf h n.2
theorem En.AS:∀ {l:List (Addr×HO)},En K (B.uB l) F σ H Γ->(l.map (·.1)).Nodup->(∀ z,z∈l->B.H z.1=none/\B.F z.1=none/\∀ i,(i,z.1)∉B.own)->
  En K B F σ H Γ/\∀ z,z∈l->H z.1=some z.2/\F z.1=none/\∀ (i:Nat) (d:D),Hld Γ i d->σ[i]?≠some (some (V.ref z.1))
 | [],e,_,_=>#[e,λ_ h=>nomatch h]
 | (q,o)::l,e,a,b=>by
  rw[eN,jl] at a;let#[p,b2,n]:=b (q,o) (.head _);let#[m,g,j,c]:=En.Ke (B:=B.uB l) e (vf p a.1) (by rw[E2];exact b2) (by rw[yg];exact n);let#[k,f]:=En.AS m a.2 λz hz=>b z (.tail _ hz);refine#[k,λz hz=>?_];rcases cm.mp hz with rfl | hz
  .exact#[g,j,c]
  .exact f z hz
def w4 (f:On)(g:TI3)(h:TG3)(i:TE3)(Γ:G)(Q:RV->G->Prop):Prop:=g Γ λxs ak=>xs.length < sizeLine/\∃ b:Nat->List (List D)->G->Prop,b 0 [] (et ak (e_ f))/\
 (∀ k d ys a,xs[k]?=some d->ys.length=k->b k ys a->h d a λe=>i e λr c=>frL r λzs=>b (k + 1) (ys++[zs]) c)/\∀ ys a,ys.length=xs.length->b xs.length ys a->Q (.rws ys) (bK f ak a)
theorem eZ.snoc:∀ {qs:La0} {xss:List (List D)} {q:Addr} {xs:List D} {vs:List V},eZ K F H qs xss->H q=some (.lst vs)->aC K F xs vs->eZ K F H (qs++[q]) (xss++[xs])
 | [],_,q,xs,vs,h,b,a=>by cases h;exact#[xs,[],vs,rfl,b,a,rfl]
 | _::_,_,q,xs,vs,⟨c,i,ws,g,f,e,d⟩,b,a=>by subst g;exact#[c,_,ws,rfl,f,e,eZ.snoc d b a]
noncomputable def pJ (K:Fg0)(F:Hp):List (Addr×HO)->List (List D)->Prop
 | [],xss=>xss=[]
 | z::l,xss=>∃ xs a vs,xss=a++[xs]/\z.2=.lst vs/\aC K F xs vs/\pJ K F l a
theorem pJ.mono(s:aB F F'):∀ {l:List (Addr×HO)} {xss:List (List D)},pJ K F l xss->pJ K F' l xss
 | [],_,h=>h
 | _::_,_,⟨b,a,c,g,f,e,d⟩=>#[b,a,c,g,f,e.mono s,pJ.mono s d]
theorem pJ.at:∀ {l:List (Addr×HO)} {xss:List (List D)},pJ K F l xss->(∀ z,z∈l->H z.1=some z.2)->eZ K F H (l.map (·.1)).reverse xss
 | [],_,h,_=>h
 | z::l,_,⟨i,g,j,f,e,d,c⟩,a=>by
  subst f;rw[eN,V6];exact(pJ.at c λy b=>a y (.tail _ b)).snoc (by rw[a z (.head _),e]) d
theorem Cj(nd:(fr.filterMap id).Nodup)(hi:GA K wi i3)(hg:C_ K g g3)(he:Ref K te e3):Ref K (dU fr wi g (iE te)) (w4 fr i3 g3 e3):=by
 intro B F σ H Γ Q QQ e q k;refine hi B F σ H Γ _ _ e q λJ L F1 a u s1 I R Z=>?_;let#[hz,Iv,i0,it,ie]:=Z;have eb:=I.blk nd;refine#[λi m ys t H=>m=u.length - i/\i<=u.length/\∃ F' M n l,aB F1 F'/\En K ((Bs.mk F1 L (ownOf a σ (e_ fr))).uB l) F' t H M/\ys=((l.map (·.1)).reverse).map V.ref/\(l.map (·.1)).Nodup/\(∀ z,z∈l->L z.1=none)/\pJ K F' l n/\l.length=i/\n.length=i/\Iv i n M,
  #[_,rfl,eA _,F1,_,[],[],aB.refl _,eb,rfl,by simp,(λ_ h=>nomatch h),rfl,rfl,rfl,i0],?_]
 rintro i m ys t H2 ⟨rfl,a4,F2,c,n,l,N,T,rfl,v,f,r2,O,Y,iv⟩;have zz:(((l.map (·.1)).reverse).map V.ref).length < sizeLine:=by simp -iota [O];lia
 have cond:∀ z,z∈l->(Bs.mk F1 L (ownOf a σ (e_ fr))).H z.1=none/\(Bs.mk F1 L (ownOf a σ (e_ fr))).F z.1=none/\∀ j,(j,z.1)∉(Bs.mk F1 L (ownOf a σ (e_ fr))).own:=λz hz=>by
  have G:=f z hz;refine#[G,I.nof G,λj hj=>?_];let#[i',d,_,h5,h6]:=md.mp hj;exact I.sX G i' d h5 h6
 by_cases lt:i < u.length
 .refine .inr #[R.go i H2 (N.trans T.sub) lt,λx H3 y=>?_];have hd:u[i]?=some u[i]:=gE0 lt;let#[F3,s3,a2,r3]:=R.turn N T hd y;refine hg _ F3 t H3 c x _ _ _ a2 r3 (it i _ n c hd Y iv) λU X e4 q4=>?_;refine#[zz,he _ F3 U H3 X _ _ e4 q4 λy H5 Z=>?_];let#[F5,W,r,s5,e5,rv,C]:=Z;let#[zs,rfl,C]:=Mn C;let#[p,rfl,f5,#[vs,h5,r5],b5,n5]:=rv;let#[b6,b7]:=Bw b5;refine#[u.length - (i + 1),by lia,rfl,lt,F5,W,n++[zs],(p,.lst vs)::l,((N.trans s3).trans s5),e5.hide f5 h5 n5,by simp,?_,?_,#[zs,n,vs,rfl,rfl,r5,r2.mono (s3.trans s5)],by simp -iota [O],by simp -iota [Y],C]
  .rw[eN,jl];exact#[b7,v]
  .intro z hz;rcases cm.mp hz with rfl | hz
   .exact b6
   .exact f z hz
 .have z:i=u.length:=by lia
  subst z;refine .inl #[R.stop _ H2 (N.trans T.sub) rfl,zz,λl' b=>k _ _ ?_];let#[e3,P]:=T.AS v cond;have S:En K B F2 σ H2 (bK fr a c):=I.back (ls:=fr) e3 (by have:=oi (Γ:=a) (σ:=σ) (bs:=e_ fr);rw[tM] at this;exact this);have nh:∀ {p:Addr},L p=none->∀ (i:Nat) (x:D),Hld (bK fr a c) i x->σ[i]?≠some (some (V.ref p)):=λ{p} a1 i x hx hp=>by
   obtain⟨d0,w⟩:∃ d0,Hld a i d0:=by
    rcases hx with hx | hx <;> rw[cV] at hx
    .cases w:a[i]? with
     | none=>rw[w] at hx;cases hx
     | some s=>rw[w] at hx;cases s with
      | none=>cases hx
      | some s=>cases s with
       | fz d=>cases hx
       | ow d=>exact#[d,.inl w]
       | ln d=>cases hx
    .cases w:a[i]? with
     | none=>rw[w] at hx;cases hx
     | some s=>rw[w] at hx;cases s with
      | none=>cases hx
      | some s=>cases s with
       | fz d=>cases hx
       | ow d=>cases hx
       | ln d=>exact#[d,.inr w]
   exact I.sX a1 i d0 w hp
  have A:∀ {z:Addr},z∈(l.map (·.1)).reverse->∃ o,(z,o)∈l:=λ{z} hz=>by
   rw[KM,kv] at hz;let#[#[y,o],hy,rfl]:=hz;exact#[o,hy]
  refine#[F2,_,.rws n,s1.trans N,S.alloc b _,#[l',(l.map (·.1)).reverse,rfl,aw,?_,?_,λz hz=>?_],ie n c Y iv]
  .rw[jl];refine#[λhz=>?_,List.pairwise_reverse.mpr (v.imp λh=>lj h)];let#[o,E]:=A hz;rw[(P _ E).1] at b;cases b
  .refine(r2.at λz hz=>(P z hz).1).mono (aB.refl F2) λz hz=>?_;let#[o,E]:=A hz;exact ao (aV (P _ E).1 b)
  .rcases cm.mp hz with rfl | hz
   .exact#[S.nof b,S.dom _ b,S.sX b]
   .let#[o,E]:=A hz;have G:=f _ E;exact#[(P _ E).2.1,I.dom _ G,nh G]
theorem Er(l:X.calm=true)(hi:P3I K X tg iter wi i3)(n:Blk X.N X.env.scope sc Nc fr)(i:∀ av ax C ex f,P3G K (aT X sc Nc av ax C ex f) tg g g3)(j:∀ av ax C ex f,P3 K (aT X sc Nc av ax C ex f) elt te e3)(k:autoParam ((fr.filterMap id).Nodup) wP)(hs:autoParam (∀ x,hB iter X.env x=pure x) wT) :
  P3 K X (.ListComp elt [#[tg,iter,[],0]] sc pos) (dU fr wi g (iE te)) (w4 fr i3 g3 e3):=
 #[k7 (m:=λD h=>nq elt D h) l hi.pe n (λa b c d e=>(i a b c d e).pe) (λa b c d e D=>jU rfl (j a b c d e).pe) (λ_ _ _=>rfl) hs,Cj k hi.rf (i X.av X.ax 0 [] []).rf (j X.av X.ax 0 [] []).rf]
open PySem _2 PySem.Spec PyProof.Rows
theorem Gd:bare (.lst xs)=.lst xs:=rfl
theorem Ge:bare (.ins C ns xs)=.ins C ns xs:=rfl
theorem Gf:bare (.cel q xs)=.lst xs:=rfl
noncomputable def tlG (T:G):G:=T
noncomputable def nn (m:Nat):G:=ji m none
section
variable {cs T:G}{ls:On}{s:Option Sl}
theorem e0b:jo [] Γ=[]:=rfl
theorem e1b:jo (none::Γ) cs=none::jo Γ cs.tail:=rfl
theorem e2b{d:D}:jo (some (.fz d)::Γ) cs=some (.fz d)::jo Γ cs.tail:=rfl
theorem e3b{d d':D}:jo (some (.ln d)::Γ) (some (.ln d')::cs)=some (.ln d')::jo Γ cs:=rfl
theorem IE:bK [] Γ cs=Γ:=rfl
theorem C6:bK (none::ls) Γ cs=bK ls Γ cs.tail:=rfl
theorem eb2{d:D}:bK (some k::ls) Γ (some (.ln d)::cs)=pLa (bK ls Γ cs) k d:=rfl
theorem eb3{d:D}:bK (some k::ls) Γ (some (.fz d)::cs)=bK ls Γ cs:=rfl
theorem eb4{d:D}:bK (some k::ls) Γ (some (.ow d)::cs)=bK ls Γ cs:=rfl
theorem eb5{d:D}:pLa (s::Γ) 0 d=gA (some d) s::Γ:=rfl
theorem eb6{d:D}:pLa (s::Γ) (k + 1) d=s::pLa Γ k d:=rfl
theorem eb7:List.tail (s::Γ)=Γ:=rfl
theorem eb8{b c:Type}{f:b->c}{a:b}{l:List b}:Qg f (a::l)=f a::Qg f l:=rfl
theorem eb9{b a:Type}{f:b->a}:Qg f []=[]:=rfl
end
section
variable {b3 t3:TS3}
def FA (c:On)(a:TI3)(b:TG3)(d:TE3)(Γ:G)(Q:RV->G->Prop)(_:Tag (c,a,b,d))(_:Tag Q):Prop:=w4 c a b d Γ Q
theorem Iu:w4 fr i3 g3 e3 Γ Q=FA fr i3 g3 e3 Γ Q ⟨⟩ ⟨⟩:=rfl
abbrev hR (a:Nat->List (List D)->G->Prop)(k:Nat)(ys:List (List D))(Γ:G)(_:Tag a):Prop:=a k ys Γ
def Fz (xs:List D)(b:G)(g:On)(h:TG3)(i:TE3)(Q:RV->G->Prop)(_:Tag (g,h,i,Q)):Prop:=∃ c:Nat->List (List D)->G->Prop,c 0 [] (et b (e_ g))/\
 (∀ k d ys a,xs[k]?=some d->ys.length=k->c k ys a->h d a λf=>i f λr e=>frL r λzs=>c (k + 1) (ys++[zs]) e)/\∀ ys a,ys.length=xs.length->c xs.length ys a->Q (.rws ys) (bK g b a)
theorem Ih{b:Tag (fr,i3,g3,e3)}{a:Tag Q}:FA fr i3 g3 e3 Γ Q b a=(i3 Γ λxs ak=>xs.length < sizeLine/\Fz xs ak fr g3 e3 Q ⟨⟩):=rfl
theorem CY{t:Tag (fr,g3,e3,Q)}(b:Nat->List (List D)->G->Prop)(g:b 0 [] (et ak (e_ fr)))(hs:∀ k d ys a,xs[k]?=some d->ys.length=k->b k ys a->g3 d a λe=>e3 e λr c=>frL r λzs=>hR b (k + 1) (ys++[zs]) c ⟨⟩)(f:∀ ys a,ys.length=xs.length->b xs.length ys a->Q (.rws ys) (bK fr ak a)):Fz xs ak fr g3 e3 Q t:=#[b,g,hs,f]
theorem KD{k:List (List D)->Prop}:DQ (.rws xss) k=k xss:=rfl
end
noncomputable def gh (c:D->Sl)(p:Addr)(ds:List D)(qs:La0)(a:List (List D)):G:=some (c (.cel p ds))::List.zipWith (λq xs=>some (c (.cel q xs))) qs a
end _3
namespace _2
open PySem PySem.Spec PyProof.Rows
noncomputable def eS (n:Nat)(g:Addr->Option Obj)(m:Addr->Option Str):Heap:={ objs:=Array.ofFn (n:=n) λi=>(g i.1).getD { cls:=(m i.1).elim .none λq=>.str q 0,data:=.freed } }
section
variable {n:Nat}{g:Addr->Option Obj}{m:Addr->Option Str}{b:Addr}{o:Obj}{h:Heap}
theorem Ac(e:h.get? b=some o):o.data≠.freed:=by
 delta Xk at e;cases q:h.objs[b]? with
 | none=>rw[q] at e;cases e
 | some x=>
  rw[q] at e;let#[c,d,dt,a]:=x;cases dt with
  | freed=>cases e
  | _=>cases e;intro y;cases y
theorem k_:(eS n g m).objs.size=n:=by delta eS;exact Array.size_ofFn
theorem mf(a:b < n):(eS n g m).objs[b]?=some ((g b).getD { cls:=(m b).elim .none λq=>.str q 0,data:=.freed }):=by
 delta eS;rw[RN (by simp_all),Array.getElem_ofFn]
theorem zN(e:b < n)(a:g b=some o)(h:o.data≠.freed):(eS n g m).get? b=some o:=by
 delta Xk;rw[mf e,a];let#[c,d,dt,f]:=o;split
 .grind
 .rfl
theorem vc(e:(eS n g m).get? b=some o):b < n/\g b=some o:=by
 have a:b < n:=by have:=ec e;rw[k_] at this;exact this
 refine#[a,?_];have d:=Ac e;delta Xk at e;rw[mf a] at e;cases q:g b with
 | none=>rw[q] at e;cases e
 | some c=>
  rw[q] at e;split at e
  .cases e
  .cases e;rfl
theorem zM{q:Str}(d:b < n)(c:g b=none)(a:m b=some q):xj (eS n g m) b q:=by
 delta xj;rw[mf d,c,a]
 rfl
theorem Ez{q:Str}(h:∀ o,g b=some o->o.data≠.freed)(e:xj (eS n g m) b q):g b=none/\m b=some q:=by
 delta xj at e;have i:b < n:=by
  let#[z,_]:=tq.mp e;rw[k_] at z;exact z
 rw[mf i] at e;cases c:g b with
 | some o=>
  rw[c] at e;have a:o={ cls:=.str q 0,data:=.freed }:=fS e;exact absurd (by rw[a]) (h o c)
 | none=>
  refine#[rfl,?_];rw[c] at e;have a:=fS e;cases d:m b with
  | none=>rw[d] at a;have:=congrArg Obj.cls a;cases this
  | some f=>
   rw[d] at a;have:=congrArg Obj.cls a;have y:Rg f 0=Rg q 0:=this;cases y
   rfl
end
noncomputable def pick (h:Heap)(p:Addr->Bool):Heap:=eS h.objs.size (λb=>if p b=true then h.get? b else none) λ_=>none
theorem oF {c:Type}{a:Addr}{v:c}:∀ {l:List (Addr×c)},l.lookup a=some v->(a,v)∈l
 | [],h=>by cases h
 | (b,u)::l,h=>by
  rw[ff] at h;cases q:a == b with
  | true=>grind
  | false=>rw[q] at h;exact ei _ (oF h)
def PR (K:Fg0)(h:Heap)(P:Addr):Prop:=h.get? P=some { cls:=.none,data:=.fields #[] }/\K.lookup P=none/\∃ c a vs,h.get? c=some a/\a.cls=.type "code"/\a.data=.fields vs/\vs[11]?=some (.ref P)
theorem CH{mb:SV}{CX:CXT}{fa a:Addr}{x:Str}{sp:Sp}{ak:Shared}{ns:Li0}{f:List (Addr×Str)}(KX:K.In ak.heap)(S:ak.heap.Ns eW mg)(l:ak.heap.Ns SA mb)(a7:∀ x:Str,x≠"__name__"->mb x=xa x)(T:ak.heap.NoLimit)(a6:∃ X C,mg "__builtins__"=some (.ref X)/\X≠SA/\ak.heap.get? X=some C/\C.cls=.type "module"/\C.dict=some SA/\C.data=.plain)(hg:ak.gens=#[])(Q:ak.heap.get? a=some { cls:=.type "list",data:=.seq vs.toArray })(hi:SF vs ns)(hl:ns.length<=sizeLine)(hr:bH k U0)(hT:∀ p∈f,PR K ak.heap p.1)(F:∀ base:Heap,K.In base->base.Ns eW mg->(∀ P q,f.lookup P=some q->xj base P q)->aM P w K mg base CX k fa fd [x] sp)(O:∀ (s:Shared) (u:Value),VP s fd #[[u],[]] [(x,u)])(a5:∀ H:Hp,MZ H->SqL K H a (ns.map V.int)->sp [.ref a] H (λv _=>v=.bl true) λ_ _ _=>False)(a8:∀ H e s',CX [] H ak (λ_ _ _=>False) e s'->False) :
  xb (model P w) U0 (.call (.ref fa) #[[.ref a],[]]) (λr s'=>r=.ok (.ret (.bool true))/\OldK ak.heap s'.heap/\s'.os=ak.os/\Sd s'.gens) ak:=by
 have rv:=uJ hi;have R:=hi.length;have j:∀ {b:Addr} {q:Str},f.lookup b=some q->ak.heap.get? b=some { cls:=.none,data:=.fields #[] }:=λ{b q} e=>(hT _ (oF e)).1;have B:f.lookup a=none:=by
  cases q:f.lookup a with
  | none=>rfl
  | some y=>have z:=j q;rw[Q] at z;cases z
 have J:∀ H:Hp,MZ H->SqL K H a (ns.map V.int)->HOk P w H ak.heap->(∀ b u,H b=some u->b=a\/∃ q,f.lookup b=some q)->(H a≠none->K.lookup a=none)->(∀ b q,f.lookup b=some q->H b=some (.tbl (Vz9 [.str q 0])))->
   xb (model P w) U0 (.call (.ref fa) #[[.ref a],[]]) (λr s'=>r=.ok (.ret (.bool true))/\OldK ak.heap s'.heap/\s'.os=ak.os/\Sd s'.gens) ak:=by
  intro H hO hS N Z hK U;have i:∀ {b:Addr} {o:Obj},ak.heap.get? b=some o->H b=none->(eS ak.heap.objs.size (λb=>if (H b).isNone then ak.heap.get? b else none) λb=>f.lookup b).get? b=some o:=λe n=>zN (ec e) (by rw[n];exact e) (Ac e);have a1:∀ {b:Addr} {o:Obj},ak.heap.get? b=some o->o.cls≠.type "list"->o≠{ cls:=.none,data:=.fields #[] }->H b=none:=λ{b o} e d1 d2=>by
   cases q:H b with
   | none=>rfl
   | some u=>
    rcases Z b u q with z | ⟨y,z⟩
    .subst z;rw[Q] at e;cases e;exact absurd rfl d1
    .rw[j z] at e;cases e;exact absurd rfl d2
  have a2:∀ {b:Addr} {o:Obj} {es:Array DictEntry} {ep:Nat},ak.heap.get? b=some o->o.data=.dict es ep->H b=none:=λ{b o es ep} e d=>by
   cases q:H b with
   | none=>rfl
   | some u=>
    rcases Z b u q with z | ⟨y,z⟩
    .subst z;rw[Q] at e;cases e;cases d
    .rw[j z] at e;cases e;cases d
  have A:∀ {b:Addr} {m:SV},ak.heap.Ns b m->(eS ak.heap.objs.size (λb=>if (H b).isNone then ak.heap.get? b else none) λb=>f.lookup b).Ns b m:=λ{b m} ⟨o,es,ep,e,d,r⟩=>#[o,es,ep,i e (a2 e d),d,r];have W:K.In (eS ak.heap.objs.size (λb=>if (H b).isNone then ak.heap.get? b else none) λb=>f.lookup b):=λb o e=>by
   refine i (KX b o e) ?_;cases q:H b with
   | none=>rfl
   | some u=>
    rcases Z b u q with z | ⟨y,z⟩
    .subst z;rw[hK (by rw[q];simp)] at e;cases e
    .have z2:=(hT _ (oF z)).2.1;rw[z2] at e;cases e
  have M:∀ {b:Addr} {o:Obj},(if (H b).isNone then ak.heap.get? b else none)=some o->ak.heap.get? b=some o/\H b=none:=λ{b o} e=>by
   split at e
   .rename_i z;exact#[e,by simpa using z]
   .cases e
  have hM:Mod K mg (eS ak.heap.objs.size (λb=>if (H b).isNone then ak.heap.get? b else none) λb=>f.lookup b):=#[W,A S,#[mb,A l,a7],let ⟨mc,h1,h2⟩:=T;#[mc,A h1,h2],let ⟨X,C,h1,h2,h3,h4,h5⟩:=a6;#[X,C,h1,h2,i h3 (a1 h3 (by rw[h4];decide) (by intro z;rw[z] at h4;cases h4)),h4,h5]];have e0:AJ P w K mg (eS ak.heap.objs.size (λb=>if (H b).isNone then ak.heap.get? b else none) λb=>f.lookup b) U0 [] ak H:=#[rfl,hM,λb o e=>#[(M (vc e).2).1,.inl (M (vc e).2).2],Qy k_,trivial,λb l=>absurd (show b∈([]:La0) from l) (by simp),N,.of_eq hg,
   λP q z=>#[_,0,U P q (Ez (λo e=>Ac (M e).1) z).2,rfl]]
  refine QC ((F _ W (A S) λP q z=>zM (ec (j z)) (by rw[U P q z];rfl) z).run U0 [] ak H #[[.ref a],[]] [.ref a] [.ref a] _ _ hr e0 (O ak (.ref a)) (.cons rfl .nil) (a5 H hO hS)) λr s' h=>?_;cases r with
  | error e=>exact(a8 H e s' h).elim
  | ok fl=>
   cases fl with
   | next=>exact mC h
   | brk=>exact mC h
   | cont=>exact mC h
   | ret u=>
    let#[v,H',os,bare,Y,G,r',q]:=h;have q':v=.bl true:=q;subst q';obtain rfl:u=Uk true:=r';refine#[rfl,#[λb o e=>?_,λb o e=>Y.there b o e (by simp)],os,bare];cases q:H b with
    | none=>exact .inl (Y.keep b o e q (by intro z;exact absurd (show b∈([]:La0) from z) (by simp)) (by simp))
    | some u=>
     rcases hO b with z | ⟨C,xs,z⟩ | ⟨ps,z⟩
     .rw[q] at z;cases z
     .have z2:=Y.frzs b C _ z;let#[I,_]:=N b _ z;let#[e2,_]:=G b _ z2;rw[e] at I;cases I;exact .inl e2
     .rcases Z b u q with y | ⟨y,hy⟩
      .subst y;let#[_,_,_,_,I,_]:=N b _ z;rw[Q] at I;cases I
      .let#[m,z2]:=Y.tbls b ps z;let#[_,_,qs,_,e2,_]:=G b _ z2;have I:=j hy;rw[e] at I;cases I;let#[c,oc,ws,c1,c2,c3,c4]:=(hT _ (oF hy)).2.2;exact .inr (.inl #[#[c,oc,ws,c1,c2,c3,c4],rfl,#[],qs,rfl,by rw[Array.empty_append];exact e2])
 let L:Hp:=λb=>(f.lookup b).map λq=>.tbl (Vz9 [.str q 0])
 have D:∀ {b:Addr} {u:HO} {H:Hp},L b=some u->b8 P w H ak.heap b u:=λ{b u H} z=>by
  cases q:f.lookup b with
  | none=>have t:(f.lookup b).map (λq=>HO.tbl (Vz9 [.str q 0]))=some u:=z;rw[q] at t;cases t
  | some y=>
   have t:(f.lookup b).map (λq=>HO.tbl (Vz9 [.str q 0]))=some u:=z;rw[q] at t;cases t;exact#[y,0,#[],rfl,j q,trivial,λ_ _ r=>by simp -iota [codeAmong] at r]
 have g:∀ {b:Addr} {u:HO},L b=some u->∃ q,f.lookup b=some q/\u=.tbl (Vz9 [.str q 0]):=λ{b u} z=>by
  have t:(f.lookup b).map (λq=>HO.tbl (Vz9 [.str q 0]))=some u:=z;cases q:f.lookup b with
  | none=>rw[q] at t;cases t
  | some y=>rw[q] at t;cases t;exact#[y,rfl,rfl]
 have a4:L a=none:=by show (f.lookup a).map _=none;rw[B];rfl
 have E:∀ b q,f.lookup b=some q->L b=some (.tbl (Vz9 [.str q 0])):=λb q z=>by show (f.lookup b).map _=_;rw[z];rfl
 cases hk:K.lookup a with
 | some o=>
  have e:=KX a o hk;rw[Q] at e;cases e;refine J L (λb=>?_) (.inr #[_,vs.toArray,_,hk,rfl,rfl,rfl,by rw[gT,R];exact hl,by simpa using rv]) (λb u z=>D z) (λb u z=>.inr (let ⟨q,h,_⟩:=g z;#[q,h])) (λz=>absurd a4 z) E;cases z:L b with
  | none=>exact .inl rfl
  | some u=>let#[q,_,rfl]:=g z;exact .inr (.inr #[_,rfl])
 | none=>
  refine J (upd L a (.frz { cls:=.type "list",data:=.seq vs.toArray } (.lst (ns.map V.int)))) (λb=>?_) (.inl (.inr #[{ cls:=.type "list",data:=.seq vs.toArray },aw])) (λb u z=>?_) (λb u z=>?_) (λ_=>hk) λb q z=>?_
  .by_cases l:b=a
   .subst l;exact .inr (.inl #[_,_,aw])
   .rw[ao l];cases z:L b with
    | none=>exact .inl rfl
    | some u=>let#[q,_,rfl]:=g z;exact .inr (.inr #[_,rfl])
  .by_cases l:b=a
   .subst l;rw[aw] at z;cases z;exact#[Q,by rw[lM0];exact hl,vs,_,rv,Q]
   .rw[ao l] at z;exact D z
  .by_cases l:b=a
   .exact .inl l
   .rw[ao l] at z;exact .inr (let ⟨q,h,_⟩:=g z;#[q,h])
  .rw[ao (λy=>by rw[y,B] at z;cases z)];exact E b q z
theorem Dq{l:SL}{n:Nat}{q:vn}{i:Ls0}{XP:(SV)->Heap->Prop}{I:World->Heap->Prop}{d:DefRec}{K:Params->Fg0}{CX:World->CXT}{sp:Fg0->Sp}{x:Str}{ts:La0}(N:l.most=some n)(A:n<=sizeLine)(C:d.params.defaults=[])(L:bH k U0)(S:∀ (w:World) (h:Heap),I w h->(K w.params).In h/\∀ P∈ts,h.get? P=some (WY #[]))(F:∀ (w:World) (mg:SV) (t:Addr) (h:Heap),(K w.params).In h->h.Ns eW mg->mg d.name=some (.ref t)->
   ∃ (fd:eK) (b:List (Addr×Str)),(∀ (s:Shared) (u:Value),VP s fd #[[u],[]] [(x,u)])/\(∀ p∈b,p.1∈ts/\(K w.params).lookup p.1=none/\∃ c,UV h c p.1)/\
    ∀ base:Heap,(K w.params).In base->base.Ns eW mg->(∀ P q,b.lookup P=some q->xj base P q)->aM l.prog w (K w.params) mg base (CX w) k t fd [x] (sp (K w.params)))(z:∀ (K:Fg0) (H:Hp) (a:Addr) (ns:Li0),ns.length<=n->MZ H->SqL K H a (ns.map V.int)->sp K [.ref a] H (λv _=>v=.bl true) λ_ _ _=>False)(D:∀ (w:World) (H:Hp) (s:Shared) (e:Value) (s':Shared),CX w [] H s (λ_ _ _=>False) e s'->False) :
  W9 q i XP I l.row.toRowW d [] (λf vs=>WU f vs):=by
 refine _a.yO N C λw E m mg mb t o pm cd a1 a vs ns G Y ho hd Q B r j g O=>?_;let#[J,y]:=S w _ Y;let#[fd,b,R,T,X]:=F w mg t _ J G.T.g B;refine CH J G.T.g G.T.b G.T.builtins G.T.nolimit G.T.bmain O r j (eH g A) L (λp M=>?_) X R (λH W U=>z _ H a ns g W U) λH e s'=>D w H m e s';let#[h1,Z,c,o,vs,_,_,_,_,_,_,_,c1,c2,c3,c4,_]:=T p M;exact#[y _ h1,Z,c,o,vs,c1,c2,c3,c4]
end _2
namespace _3
open PySem _2 PySem.Spec PyProof.Rows
abbrev NR:=LL0
noncomputable def sk (a:NR):List (List D):=a.map λns=>ns.map D.int
structure ui (F H:Hp) (p:Addr) (qs:La0) (xss:NR):Prop where
 sub:aB F H
 top:H p=some (.lst (qs.map V.ref))
 nd:(p::qs).Nodup
 len:qs.length=xss.length
 row:∀ (i:Nat) (q:Addr) (xs:Li0),qs[i]?=some q->xss[i]?=some xs->H q=some (.lst (xs.map V.int))
 no:∀ z,z∈p::qs->F z=none
structure Step (H0:Hp) (own:La0) (H:Hp) (qs:La0):Prop where
 keep:∀ b o,H0 b=some o->b∉own->H b=some o
 dom:∀ b,H b=none->H0 b=none
 new:∀ q,q∈qs->q∈own\/H0 q=none
abbrev E0n (K:Fg0)(F:Hp)(σ:_2.St)(H:Hp)(Γ:G):Prop:=En K #[F,H,[]] F σ H Γ
section
variable {xss:NR}
theorem yG(sub:aB F H)(len:σ.length=Γ.length)(fz:∀ (k:Nat) (s:Sl),Γ[k]?=some (some s)->∃ d v,s=.fz d/\σ[k]?=some (some v)/\Rep K F d v):E0n K F σ H Γ where
 sub:=sub
 len:=len
 fz:=λk d h=>by let#[c,v,e,a,b]:=fz k _ h;cases e;exact#[v,a,b]
 hl:=λk d h=>by rcases h with h | h <;> (let#[_,_,e,_]:=fz k _ h;cases e)
 ow:=λk d q h=>by let#[_,_,e,_]:=fz k _ h;cases e
 ln:=λk d q h=>by let#[_,_,e,_]:=fz k _ h;cases e
 dis:=λk j d e q h=>by rcases h with h | h <;> (let#[_,_,e,_]:=fz k _ h;cases e)
 par:=λk q h=>nomatch h
 keep:=aB.refl F
 new:=λb o h=>.inl h
 rest:=λb o h _=>h
 dom:=λb h=>h
theorem E0n.all(e:E0n K F σ H Γ){s:Sl}(h:Γ[k]?=some (some s)):∃ d v,s=.fz d/\σ[k]?=some (some v)/\Rep K F d v:=by
 cases s with
 | fz d=>let#[v,a,b]:=e.fz k d h;exact#[d,v,rfl,a,b]
 | ow d=>
  let#[q,a,_,o]:=e.hl k d (.inl h);let#[u,c]:=o.some;have:=e.ow k d q h a;rw[show (#[F,H,[]]:Bs).H q=H q from rfl,c] at this;cases this
 | ln d=>
  let#[q,a,_,o]:=e.hl k d (.inr h);exact nomatch e.ln k d q h a
theorem E0n.move(e:E0n K F σ H Γ)(s:aB F F')(sub:aB F' H'):E0n K F' σ H' Γ:=yG sub e.len λk f h=>by
 let#[d,v,a,b,c]:=e.all h;exact#[d,v,a,b,c.mono s]
theorem E0n.put(e:E0n K F σ H Γ){d:D}(a:j < Γ.length)(r:Rep K F d v):E0n K F (σ.set j (some v)) H (Γ.set j (some (.fz d))):=yG e.sub (by rw[rx,rx];exact e.len) λk s h=>by
 by_cases z:k=j
 .subst z;rw[aG a] at h;cases h;exact#[d,v,rfl,aG (by rw[e.len];exact a),r]
 .rw[bh (lj z)] at h ⊢;exact e.all h
theorem E0n.see(e:E0n K F σ H Γ){d:D}(hs:σ[j]?=some (some v))(r:Rep K F d v):E0n K F σ H (Γ.set j (some (.fz d))):=yG e.sub (by rw[rx];exact e.len) λk s h=>by
 by_cases z:k=j
 .subst z;have a:k < Γ.length:=by rw[<- e.len];exact(gS0 hs).1
  rw[aG a] at h;cases h;exact#[d,v,rfl,hs,r]
 .rw[bh (lj z)] at h;exact e.all h
structure NSt (K:Fg0) (H0:Hp) (own:La0) (i:Nat) (p:Addr) (F:Hp) (σ:_2.St) (H:Hp) (Γ:G) (xss:NR):Prop where
 e:E0n K F σ H Γ
 at_:Γ[i]?=some (some (.fz (.adr p)))
 n:∃ qs,ui F H p qs xss/\Step H0 own H qs
 po:p∈own
theorem ui.grow(n:ui F H p qs xss)(s:aB H H')(sub:aB F' H')(f:∀ b o,F' b=some o->F b=some o\/H b=none):ui F' H' p qs xss where
 sub:=sub
 top:=s _ _ n.top
 nd:=n.nd
 len:=n.len
 row:=λi q d a b=>s _ _ (n.row i q d a b)
 no:=λz c=>by
  cases q:F' z with
  | none=>rfl
  | some o=>
   exfalso;rcases f z o q with h | h
   .rw[n.no z c] at h;cases h
   .rcases cm.mp c with e | hm
    .rw[e,n.top] at h;cases h
    .let#[k,hk]:=UJ.mp hm;have lk:k < xss.length:=by rw[<- n.len];exact(gS0 hk).1
     rw[n.row k z _ hk (gE0 lk)] at h;cases h
theorem Step.grow(n:Step H0 own H qs)(s:aB H H'):Step H0 own H' qs:=#[λb o h a=>s _ _ (n.keep b o h a),λb h=>n.dom b (by
 cases q:H b with
 | none=>rfl
 | some o=>rw[s _ _ q] at h;cases h),n.new]
theorem NSt.grow(t:NSt K H0 own i p F σ H Γ xss)(s:aB H H')(a:aB F F')(sub:aB F' H')(d:∀ b o,F' b=some o->F b=some o\/H b=none):NSt K H0 own i p F' σ H' Γ xss:=by
 let#[c,n,st]:=t.n;exact#[t.e.move a sub,t.at_,#[c,n.grow s sub d,st.grow s],t.po]
noncomputable def fX (F H:Hp)(l:La0):Hp:=λb=>if b∈l then H b else F b
theorem uI {l:La0}:∀ {qs:La0} {xss:NR},qs.length=xss.length->(∀ q,q∈qs->q∈l)->(∀ (i:Nat) (q:Addr) (xs:Li0),qs[i]?=some q->xss[i]?=some xs->H q=some (.lst (xs.map V.int)))->
  aC K (fX F H l) (xss.map λns=>D.lst (ns.map D.int)) (qs.map V.ref)
 | [],[],_,_,_=>rfl
 | [],_::_,h,_,_=>nomatch h
 | _::_,[],h,_,_=>nomatch h
 | q::qs,xs::xss,h,e,d=>#[_,_,rfl,#[q,_,rfl,by delta fX;rw[if_pos (e q (.head _))];exact d 0 q xs rfl rfl,aC.ints xs],uI (Nat.succ.inj h) (λz g=>e z (.tail _ g)) λi f c a b=>d (i + 1) f c a b]
theorem ui.DN(n:ui F H p qs xss):aB F (fX F H (p::qs)):=λb o h=>by
 delta fX;rw[if_neg]
 .exact h
 .intro z;rw[n.no b z] at h;cases h
theorem ui.A2(n:ui F H p qs xss){l:La0}:aB (fX F H l) H:=λb o h=>by
 delta fX at h;split at h
 .exact h
 .exact n.sub b o h
noncomputable def Ky (i:Nat)(Γ:G)(a:NR):G:=Γ.set i (some (.fz (.lst (a.map λns=>D.lst (ns.map D.int)))))
variable {rest:List Stmt}{t:TS}{n3 m3:TN}
theorem Bq{n:Nat}(h:k < n):ixN n (k:Int)=some k:=by
 delta ixN;rw[if_pos (by lia),if_pos (by lia),fL]
end
section
variable {xss:NR}
variable {rest:List Stmt}{t:TS}{n3 m3:TN}
theorem NSt.Nt(t:NSt K H0 own i p F σ H Γ xss)(n:ui F H p qs xss):∃ d,E0n K d σ H (Γ.set i (some (.fz (.lst (qs.map D.adr))))):=by
 have c:aB F (fX F H [p]):=λb o h=>by
  delta fX;rw[if_neg]
  .exact h
  .intro z;rw[ih] at z;rw[z,n.no p (.head _)] at h;cases h
 refine#[fX F H [p],(t.e.move c n.A2).see (v:=.ref p) ?_ #[p,_,rfl,by delta fX;rw[if_pos (.head _)];exact n.top,xF]];let#[v,a,b]:=t.e.fz i _ t.at_;rw[a,show v=.ref p from b]
theorem JA {e:Type}:∀ {l:List e} {m k:Nat} {a:e},l.Nodup->l[m]?=some a->l[k]?=some a->m=k
 | [],_,_,_,_,h,_=>by simp -iota at h
 | x::l,0,0,_,_,_,_=>rfl
 | x::l,0,k + 1,a,b,d,c=>by
  cases d;exact absurd (ek (l:=l) (i:=k) c) (jl.mp b).1
 | x::l,m + 1,0,a,b,d,c=>by
  cases c;exact absurd (ek (l:=l) (i:=m) d) (jl.mp b).1
 | x::l,m + 1,k + 1,a,b,d,c=>by rw[JA (jl.mp b).2 (m:=m) (k:=k) d c]
end
end _3
namespace _2
open PySem
structure FN (K:Fg0) (x q:Str) (st:Stmt) (f:Addr) (d:eK):Prop where
 n:hP K eW x=some (some (.ref f))
 F:Fun K x q st f d
structure FM (K:Fg0) (C:Addr) (x q:Str) (st:Stmt) (f:Addr) (d:eK):Prop where
 m:ez K (.ref C) x=some (some (.ref f))
 i:Si K (.ref f)=true
 F:Fun K x q st f d
structure FY (K:Fg0) (x q:Str) (st:Stmt) (f:Addr) (d:eK) (ps:Ls0):Prop where
 F:Fun K x q st f d
 b:Binds K d ps []
structure FX (K:Fg0) (mg:SV) (x q:Str) (st:Stmt) (f:Addr) (d:eK) (ps:Ls0):Prop where
 F:Fun K x q st f d
 b:Binds K d ps []
 m:mg x=some (.ref f)
section
variable {h:Heap}{x q:Str}{d:eK}
theorem fx(X:K.In h)(G:h.Ns eW mg)(F:FN K x q st f d)(b:∀ (kV a e:Value) (i:Option Addr) (c g:Value) (us:Lv0),us.length=ps.length->WQ (QD x q (mj st) (gO st) (ai st) .none kV a e i c g) #[us,[]]=pure (ps.zip us)):FX K mg x q st f d ps:=#[F.F,F.F.binds b,vl X G F.n]
theorem fy(F:FM K C x q st f d)(b:∀ (kV a e:Value) (h:Option Addr) (c g:Value) (us:Lv0),us.length=ps.length->WQ (QD x q (mj st) (gO st) (ai st) .none kV a e h c g) #[us,[]]=pure (ps.zip us)):FY K x q st f d ps:=#[F.F,F.F.binds b]
theorem bH.dn(r:bH k A)(h:autoParam (j<=k) wP):bH j A:=r.mono h
theorem FM.me(F:FM K C x q st f d):Meth K C x f:=#[F.m,F.i,F.F.kp]
end
open PySem PySem.Spec PyProof.Rows
end _2
namespace _3
open PySem _2 PySem.Spec PyProof.Rows
def yP (Γ:G):Prop:=∀ s,some s∈Γ->∃ d,s=.fz d
section
variable {xss:NB}
theorem yP.at(h:yP Γ){s:Sl}(e:Γ[k]?=some (some s)):∃ d,s=.fz d:=h s (ek e)
theorem Pd(e:En K B F σ H Γ)(h:yP Γ):E0n K F σ H Γ:=yG e.sub e.len λk s hk=>by
 let#[d,rfl]:=h.at hk;let#[v,a,b]:=e.fz k d hk;exact#[d,v,rfl,a,b]
variable {rest:List Stmt}{t:TS}{n3 m3:TNB}
end
open PySem _2 PySem.Spec PyProof.Rows
open PySem _2 PySem.Spec PySem.SeqAt
section
variable {b:Expr}{tb:TE}
theorem Ep(d:P3B K X a ta a3)(c:P3B K X b tb b3):P3 K X (.BinOp a .LShift b pos) (tOp (rI yV λi j=>.int (i * 2 ^ j.toNat)) ta tb) (bU (i2 yV λi j=>.int (i * 2 ^ j.toNat)) a3 b3):=#[mQ Ex d.pe c.pe,gq (opI λ_ _ _=>rfl) d.rf c.rf]
end
end _3
namespace _2
open PySem PySem.Spec PyProof.Rows
section
variable {x:Str}{p:Pos}{t:TA}{CX:CXT}{sp:Sp}{E:St->XK}
def AZ (j:Nat)(f:Addr)(sp:Sp)(E:St->XK)(t:TA):TE:=λσ H Q=>σ[j]?=some (some (.ref f))/\vR sp [] E t σ H Q
theorem Ct(lk:∃ c od b,X.K.lookup f=some #[c,od,.func fd,b])(F:aM X.prog X.w X.K X.mg X.base CX k f fd ps sp)(B:dR CX X E)(D:bH k X.A)(J:Binds X.K fd ps [])(L:X.N[j]?=some x)(C:Vis X.env.scope x)(K:PA X (e::es) t)(g:autoParam (Yk x) wP)(l:autoParam ((x == ("__classdict__":Str))=false) wP)(G:autoParam (Yl X e es) wE)(d:autoParam (Ym pos X es) wE) :
  PE X (.Call (.Name x p) (e::es) [] pos) (AZ j f sp E t):=by
 intro a s m H Q I ⟨N,M⟩;let#[c,od,b,lk]:=lk;have n:∀ {h:Heap},X.K.In h->PySem.W.FnAt f h:=λ{h} z=>#[c,od,fd,b,z _ _ lk];refine tu (thn (i8 (i:=j) L C g l a s m H (λv w=>v=.ref f/\w=H) I #[_,N,rfl,rfl]) λu y Z=>?_);let#[v,w,q,A,P,O]:=Z;subst P;subst O;obtain rfl:u=.ref f:=A;exact PySem.W.callWith_F (n q.kIn) (thn (K pos a y m _ _ q M) λS T ⟨R,U,o,r,z⟩=>#[n o.kIn,A5 F D J .nil B o r z]) G d
end
end _2
namespace _3
open PySem _2 PySem.Spec PyProof.Rows
section
variable {x:Str}{p:Pos}{t:TA}{n:Nat}{CX:CXT}{S:S3X}{E:_2.St->XK}{W:XD->G->Prop}
def pq (j n:Nat)(f:Addr)(S:S3X)(a:eY)(W:XD->G->Prop)(Γ:G)(Q:RV->G->Prop):Prop:=Γ[j]?=some (some (.fz (.adr f)))/\w9 n S a W Γ Q
theorem rM{q:Str}(l:XR K B F0 E W)(M:Fun X.K y q st f fd)(F:aM X.prog X.w X.K X.mg X.base CX k f fd ps (qO K n S))(z:dR CX X E)(C:bH k X.A)(I:Binds X.K fd ps [])(A:Vis X.env.scope x)(d:uG K X (e::es) t t3)(b:autoParam (Yk x) wP)(c:autoParam ((x == ("__classdict__":Str))=false) wP)(G:autoParam (Yl X e es) wE)(a:autoParam (Ym pos X es) wE)(N:autoParam (X.K=K) wE)(J:autoParam (X.N[j]?=some x) wE) :
  P3X K X B F0 (.Call (.Name x p) (e::es) [] pos) (AZ j f (qO K n S) E t) (pq j n f S t3 W):=
 #[Ct (by let#[s,r,_,_,_,_,_,_,m,_,lk,_]:=M.ex;exact#[s,r,m,lk]) F z C I J A d.pe b c G a,by
  intro F h H i Q L w g ⟨D,q⟩ u;let#[y,v,o]:=g.fz j _ D;obtain rfl:y=.ref f:=o;exact#[v,uU d.rf l F h H i Q L w g q u]]
theorem P3X.or{t t':TE}{d c:TE3}(h:P3X K X B F0 e t d)(h':P3X K X B F0 e t' c):P3X K X B F0 e (λσ H Q=>t σ H Q\/t' σ H Q) (λΓ Q=>d Γ Q\/c Γ Q):=
 #[λa s σ H Q I q=>q.elim (h.pe a s σ H Q I) (h'.pe a s σ H Q I),λF σ H Γ Q f w b q k=>q.elim (λq=>.inl (h.rf F σ H Γ Q f w b q k)) λq=>.inr (h'.rf F σ H Γ Q f w b q k)]
end
end _3
namespace _t
open PySem PyProof.Rows
theorem C8{e d:Type}{p G:Prop}{A B:e->d->Prop}(h:p/\∃ c b,A c b/\B c b)(k:p->∀ c b,A c b->B c b->G):G:=by
 let#[a,c,b,h]:=h;exact k a c b h.1 h.2
theorem IP{j i g f:Type}{p G:Prop}{A B:j->i->g->f->Prop}(h:p/\∃ e d c b,A e d c b/\B e d c b)(k:p->∀ e d c b,A e d c b->B e d c b->G):G:=by
 let#[a,e,d,c,b,h]:=h;exact k a e d c b h.1 h.2
theorem IM{m l j i g:Type}{p G:Prop}{A B:m->l->j->i->g->Prop}(h:p/\∃ f e d c b,A f e d c b/\B f e d c b)(k:p->∀ f e d c b,A f e d c b->B f e d c b->G):G:=by
 let#[a,f,e,d,c,b,h]:=h;exact k a f e d c b h.1 h.2
theorem PJ{o n m l j i:Type}{p G:Prop}{A B:o->n->m->l->j->i->Prop}(h:p/\∃ g f e d c b,A g f e d c b/\B g f e d c b)(k:p->∀ g f e d c b,A g f e d c b->B g f e d c b->G):G:=by
 let#[a,g,f,e,d,c,b,h]:=h;exact k a g f e d c b h.1 h.2
theorem ex1{b:Type}{G:Prop}{A B:b->Prop}(h:∃ a,A a/\B a)(k:∀ a,A a->B a->G):G:=by
 let#[a,h]:=h;exact k a h.1 h.2
theorem ex2{d c:Type}{G:Prop}{A B:d->c->Prop}(h:∃ b a,A b a/\B b a)(k:∀ b a,A b a->B b a->G):G:=by
 let#[b,a,h]:=h;exact k b a h.1 h.2
theorem ex5{l j i g f:Type}{G:Prop}{A B:l->j->i->g->f->Prop}(h:∃ e d c b a,A e d c b a/\B e d c b a)(k:∀ e d c b a,A e d c b a->B e d c b a->G):G:=by
 let#[e,d,c,b,a,h]:=h;exact k e d c b a h.1 h.2
theorem ex6{n m l j i g:Type}{G:Prop}{A B:n->m->l->j->i->g->Prop}(h:∃ f e d c b a,A f e d c b a/\B f e d c b a)(k:∀ f e d c b a,A f e d c b a->B f e d c b a->G):G:=by
 let#[f,e,d,c,b,a,h]:=h;exact k f e d c b a h.1 h.2
section
variable {s:Shared}{α:Type}{c:Prop}[Decidable c]{t e:StateT SortSt Sem α}{Q:α->SortSt->Prop}{st:SortSt}
theorem wif(a:c)(h:wpS M A E s t Q st):wpS M A E s (if c then t else e) Q st:=by rw[if_pos a];exact h
theorem dF(a:¬ c)(h:wpS M A E s e Q st):wpS M A E s (if c then t else e) Q st:=by rw[if_neg a];exact h
end
noncomputable def gal:Bool->Keyed->Array Keyed->Nat->Nat->Nat->StateT SortSt Sem (Option Nat):=sortPriv% PySem.Builtin.gallop
noncomputable def mLo:Array Keyed->Array Keyed->StateT SortSt Sem (Array Keyed):=sortPriv% PySem.Builtin.mergeLo
noncomputable def mHi:Array Keyed->Array Keyed->StateT SortSt Sem (Array Keyed):=sortPriv% PySem.Builtin.mergeHi
structure Ask (prog:vn) (w:World) (A:Around) (s:Shared) (κ:Su) (P:Keyed->Prop) (lt:Keyed->Keyed->Bool):Prop where
 ask:∀ {E:VS} {st:SortSt} {x y:Keyed} {Q:Option Bool->SortSt->Prop},kindOf st=κ->P x->P y->Q (some (lt x y)) st->wpS (model prog w) A E s (lt' x y) Q st
 asym:∀ x y,lt x y=true->lt y x=false
 tr:∀ x y z,lt y x=false->lt z y=false->lt z x=false
section
variable {s:Shared}{κ:Su}{P:Keyed->Prop}{lt:Keyed->Keyed->Bool}{st:SortSt}
theorem Ask.rf(h:Ask prog w A s κ P lt)(x:Keyed):lt x x=false:=by
 cases e:lt x x with
 | false=>rfl
 | true=>have:=h.asym x x e;rw[e] at this;exact this
noncomputable def XQ (a:Array Keyed)(i:Nat):Keyed:=a.getD i (.none,.none)
theorem yR{a:Array Keyed}(h:i < a.size):a[i]?=some (XQ a i):=by
 delta XQ;rw[RN h,Array.getD,dif_pos h]
 rfl
def All (P:Keyed->Prop)(a:Array Keyed):Prop:=∀ i,i < a.size->P (XQ a i)
theorem bw{a:Array Keyed}{Q:Keyed->SortSt->Prop}(h:i < a.size)(q:Q (XQ a i) st):wpS (model prog w) A E s (elem' a i) Q st:=by
 rw[elem'_eq,yR h];exact el q
noncomputable def bey (lt:Keyed->Keyed->Bool)(left:Bool)(b:Keyed)(a:Array Keyed)(base i:Nat):Bool:=if left=true then lt (XQ a (base + i)) b else !lt b (XQ a (base + i))
structure Part (b:Nat->Bool) (n k:Nat):Prop where
 le:k<=n
 lo:∀ i,i < k->b i=true
 hi:∀ i,k<=i->i < n->b i=false
theorem p7(h:Ask prog w A s κ P lt){left:Bool}{p:Keyed}{a:Array Keyed}{base n hint:Nat}{Q:Option Nat->SortSt->Prop}(hk:kindOf st=κ)(U:P p)(ha:All P a)(hs:base + n<=a.size)(hh:hint < n)(v:∀ i j,i<=j->j < n->bey lt left p a base j=true->bey lt left p a base i=true)(q:∀ k,Part (bey lt left p a base) n k->Q (some k) st):wpS (model prog w) A E s (gal left p a base n hint) Q st:=by
 have ask:∀ {R:Option Bool->SortSt->Prop} {m:StateT SortSt Sem (Option Bool)} {i:Nat},i < n->R (some (bey lt left p a base i)) st->
   m=(do let x <- elem' a (base + i);if left=true then lt' x p else do let r <- lt' p x;pure (Vt (λx=>!x) r))->wpS (model prog w) A E s m R st:=by
  intro R m i hi r e;subst e;refine ee (bw (by exact WF 0x526249be6910ad238 hs hi) ?_);have T:=ha (base + i) (by lia);delta bey at r;cases left with
  | true=>exact h.ask hk T U r
  | false=>exact ee (h.ask hk U T (el r))
 have B:∀ i j,i<=j->j < n->bey lt left p a base i=false->bey lt left p a base j=false:=λi j H D C=>by
  cases e:bey lt left p a base j with
  | false=>rfl
  | true=>rw[v i j H D e] at C;cases C
 generalize V:bey lt left p a base=b at ask v B q;have M:∀ (lo hi:Nat) {R:Option (Option Nat)×Nat×Nat->SortSt->Prop} {y:Nat->Option (Option Nat)×Nat×Nat->StateT SortSt Sem (ForInStep (Option (Option Nat)×Nat×Nat))},lo<=hi->hi<=n->(∀ i,i < lo->b i=true)->(∀ i,hi<=i->i < n->b i=false)->
   (∀ x lo hi (S:ForInStep (Option (Option Nat)×Nat×Nat)->SortSt->Prop),hi<=n->(lo≥hi->S (.done (none,lo,hi)) st)->(lo < hi->S (.yield (if b (lo + (hi - lo) / 2)=true then (none,lo + (hi - lo) / 2 + 1,hi) else (none,lo,lo + (hi - lo) / 2))) st)->wpS (model prog w) A E s (y x (none,lo,hi)) S st)->
   (∀ k,Part b n k->R (none,k,k) st)->wpS (model prog w) A E s (forIn [0:n] (none,lo,hi) y) R st:=by
  intro lo hi R y H D C F L r;refine rp (I:=λt c d=>d=st/\∃ lo hi,c=(none,lo,hi)/\lo<=hi/\hi<=n/\hi - lo<=n - t/\(∀ i,i < lo->b i=true)/\∀ i,hi<=i->i < n->b i=false) ?_ ?_ #[rfl,lo,hi,rfl,H,D,by exact WF 0xeac74e826c8951520b8 D V2 V1,C,F]
  .rintro t c d _ O hI;refine C8 hI λK lo hi e hh=>?_;subst K;subst e;have H:=hh.1;have D:=hh.2.1;have G:=hh.2.2.1;have C:=hh.2.2.2.1;have F:=hh.2.2.2.2;clear hh hI;refine L t lo hi _ D (λz=>?_) λz=>?_
   .have:lo=hi:=by lia
    subst this;exact r lo #[D,C,F]
   .refine#[rfl,?_];split
    .rename_i e;exact#[_,_,rfl,by exact Yu z (sm _ _) (V3 (Yc z)),D,by exact WF 0x96834c166e2cca7768723b0c7ed44bfde59ebf4af9fa0de4419199 G V1 (V5 (by decide)) V1 (V3 (Yc O)) (V3 (Yu z (sm _ _) (V3 (Yc z)))),λi a1=>v i _ (by lia) (by exact WF 0x1000a5176aba96bd9e0309285d07cb65 D z (sm _ _) (V3 (Yc z))) e,F]
    .rename_i e;exact#[_,_,rfl,by lia,by exact WF 0xeddd8d419891e7d66e709285d07cb65 D z (sm _ _) (V3 (Yc z)),by exact WF 0x51bb9c4a4edcbcd358c080beefbbcc7caf64ca96c G (sm _ _) V1 (V3 (WF 224099822)) (V3 (Yc O)),C,λi J h7=>B _ i J h7 (by simpa using e)]
  .rintro c d hI;refine C8 hI λK lo hi e hh=>?_;subst K;subst e;have H:=hh.1;have D:=hh.2.1;have G:=hh.2.2.1;have C:=hh.2.2.2.1;have F:=hh.2.2.2.2;clear hh hI;have:lo=hi:=by lia
   subst this;exact r lo #[D,C,F]
 refine ee (ask hh ?_ rfl);have fin:∀ (lo hi:Nat) {m:StateT SortSt Sem (Option Nat)} {y:Nat->Option (Option Nat)×Nat×Nat->StateT SortSt Sem (ForInStep (Option (Option Nat)×Nat×Nat))} {f:Option (Option Nat)×Nat×Nat->StateT SortSt Sem (Option Nat)},lo<=hi->hi<=n->(∀ i,i < lo->b i=true)->(∀ i,hi<=i->i < n->b i=false)->m=(forIn [0:n] (none,lo,hi) y >>= f)->
   (∀ k,f (none,k,k)=pure (some k))->
   (∀ x lo hi,∃ (u:StateT SortSt Sem (Option Bool)) (g:Option Bool->StateT SortSt Sem (ForInStep (Option (Option Nat)×Nat×Nat))),y x (none,lo,hi)=(if lo≥hi then pure (.done (none,lo,hi)) else u >>= g)/\u=(do let x <- elem' a (base + (lo + (hi - lo) / 2));if left=true then lt' x p else do let r <- lt' p x;pure (Vt (λx=>!x) r))/\
    g (some true)=pure (.yield (none,lo + (hi - lo) / 2 + 1,hi))/\g (some false)=pure (.yield (none,lo,lo + (hi - lo) / 2)))->wpS (model prog w) A E s m Q st:=by
  intro lo hi m y f H D C F e hf V;subst e;refine ee (M lo hi H D C F (λx lo hi S hh Z Y=>?_) λk pk=>?_)
  .let#[u,g,e1,e2,g1,g2]:=V x lo hi;rw[e1];by_cases z:lo≥hi
   .rw[if_pos z];exact el (Z z)
   .refine dF z ?_;refine ee (ask (i:=lo + (hi - lo) / 2) (by exact WF 0x1000a5176aba96bd9e030a2a32416b65 hh z (sm _ _) (V3 (Yg z))) ?_ e2);have z2:=Y (by exact WF 7049107550 z);cases X:b (lo + (hi - lo) / 2) with
    | true=>rw[if_pos X] at z2;rw[g1];exact el z2
    | false=>rw[X] at z2;rw[g2];exact el z2
  .rw[hf];exact el (q k pk)
 cases W:b hint with
 | true=>
  dsimp only;refine wif rfl ?_;refine ee (rp (I:=λt c d=>d=st/\∃ l o,c=(none,l,o)/\l < o/\t + 1<=o/\hint + l < n/\b (hint + l)=true)
   (Q:=λc d=>wpS (model prog w) A E s _ Q d) ?_ ?_ #[rfl,0,1,rfl,by lia,by lia,hh,W])
  .rintro t c d _ O hI;refine C8 hI λK l o e hh=>?_;subst K;subst e;have H:=hh.1;have D:=hh.2.1;have C:=hh.2.2.1;have F:=hh.2.2.2;clear hh hI;dsimp only;by_cases z:o≥n - hint
   .refine wif z ?_;refine el ?_;dsimp only;refine fin (hint + l + 1) (hint + min o (n - hint)) (by exact WF 0x193bb9dd511a5c30bf05f683265 C V1 (RI (Ya z))) (by exact Yh (sg _ _) (V3 (Yc hh))) (λi hi=>v i _ (by lia) C F) (λi G J=>by exact mC (WF 0x32b89cb1d414d6be109665 G J V1 (RI (Ya z)))) rfl (λk=>rfl) (λx lo hi=>#[_,_,rfl,rfl,rfl,rfl])
   .refine dF z ?_;refine ee (ask (i:=hint + o) (by exact WF 0x522eda1c7d48421b8 z (V3 (Yc hh))) ?_ rfl);dsimp only;cases N:b (hint + o) with
    | true=>exact el #[rfl,o,2 * o + 1,rfl,by lia,by lia,by lia,N]
    | false=>
     refine el ?_;dsimp only;refine fin (hint + l + 1) (hint + min o (n - hint)) (by exact WF 0x8086249ffcb5d98a78 H (Q8 (Yg z))) (by exact WF 0x19a3973eb31f0f4a45be5 z (xr _ _) (V3 (Yc hh))) (λi hi=>v i _ (by lia) C F) (λi G J=>B (hint + o) i (by exact WF 0x4cbe878acd3837238 G (Q8 (Yg z))) J N) rfl (λk=>rfl) (λx lo hi=>#[_,_,rfl,rfl,rfl,rfl])
  .rintro c d hI;refine C8 hI λK l o e hh=>?_;subst K;subst e;have H:=hh.1;have D:=hh.2.1;have C:=hh.2.2.1;have F:=hh.2.2.2;clear hh hI;dsimp only;refine fin (hint + l + 1) (hint + min o (n - hint)) (by lia) (by exact Yh (sg _ _) (V3 (Yc hh))) (λi hi=>v i _ (by lia) C F) (λi G J=>by lia) rfl (λk=>rfl) (λx lo hi=>#[_,_,rfl,rfl,rfl,rfl])
 | false=>
  dsimp only;refine dF (by decide) ?_;refine ee (rp (I:=λt c d=>d=st/\∃ l o,c=(none,l,o)/\l < o/\t + 1<=o/\l<=hint/\b (hint - l)=false)
   (Q:=λc d=>wpS (model prog w) A E s _ Q d) ?_ ?_ #[rfl,0,1,rfl,by lia,by lia,by lia,W])
  .rintro t c d _ O hI;refine C8 hI λK l o e hh=>?_;subst K;subst e;have H:=hh.1;have D:=hh.2.1;have C:=hh.2.2.1;have F:=hh.2.2.2;clear hh hI;dsimp only;by_cases z:o≥hint + 1
   .refine wif z ?_;refine el ?_;dsimp only;refine fin (hint + 1 - min o (hint + 1)) (hint - l) (by exact YF (RI (Yv z)) (V3 (Yi (sg _ _)))) (by exact WF 0x831d407ef64b hh V2) (λi hi=>by exact mC (WF 0x962d24d256b15e9278 hi (RI (Yv z)) (V3 (Yi (sg _ _))))) (λi G J=>B (hint - l) i G J F) rfl (λk=>rfl) (λx lo hi=>#[_,_,rfl,rfl,rfl,rfl])
   .refine dF z ?_;refine ee (ask (i:=hint - o) (by exact WF 0x8cbc3d9af64b hh V2) ?_ rfl);dsimp only;cases N:b (hint - o) with
    | false=>exact el #[rfl,o,2 * o + 1,rfl,by lia,by lia,by lia,N]
    | true=>
     refine el ?_;dsimp only;refine fin (hint + 1 - min o (hint + 1)) (hint - l) (by exact WF 0xf2153fd01bd17e1d8b2bc12d2 H V1 (Q8 (WF 4933392906990 z)) (V3 (YO z (xr _ _)))) (by exact WF 0x831d407ef64b hh V2) (λi hi=>v i (hint - o) (by exact WF 0xf2322cfb053ce589b1d8bd2d2 hi V1 (Q8 (WF 4933392906990 z)) (V3 (YO z (xr _ _)))) (by lia) N) (λi G J=>B (hint - l) i G J F) rfl (λk=>rfl) (λx lo hi=>#[_,_,rfl,rfl,rfl,rfl])
  .rintro c d hI;refine C8 hI λK l o e hh=>?_;subst K;subst e;have H:=hh.1;have D:=hh.2.1;have C:=hh.2.2.1;have F:=hh.2.2.2;clear hh hI;dsimp only;refine fin (hint + 1 - min o (hint + 1)) (hint - l) (by exact YF (RI (WF 0x85f6b5147467ba1e78 hh D (Wf _ _))) (V3 (Yi (sg _ _)))) (by lia) (λi hi=>by lia) (λi G J=>B (hint - l) i G J F) rfl (λk=>rfl) (λx lo hi=>#[_,_,rfl,rfl,rfl,rfl])
end
section
variable {s:Shared}{κ:Su}{P:Keyed->Prop}{lt:Keyed->Keyed->Bool}{st st':SortSt}{a b out:Array Keyed}{ia ib:Nat}
def Srt (lt:Keyed->Keyed->Bool)(l:List Keyed):Prop:=l.Pairwise λx y=>lt y x=false
def Res (lt:Keyed->Keyed->Bool)(a b r:Array Keyed):Prop:=r.toList.Perm (a.toList++b.toList)/\Srt lt r.toList
structure jJ (st st':SortSt):Prop where
 k:kindOf st'=kindOf st
 a:arrOf st'=arrOf st
 p:nT st'=nT st
 f:tx st'=tx st
theorem jJ.refl:jJ st st:=#[rfl,rfl,rfl,rfl]
theorem jJ.gal(h:jJ st st')(g:Nat):jJ st (R5 (kindOf st') (arrOf st') (nT st') g (tx st')):=#[h.k,h.a,h.p,h.f]
structure MI (lt:Keyed->Keyed->Bool) (a b out:Array Keyed) (ia ib:Nat):Prop where
 perm:(out.toList++(a.toList.drop ia++b.toList.drop ib)).Perm (a.toList++b.toList)
 srt:Srt lt out.toList
 oa:∀ x∈out.toList,∀ y∈a.toList.drop ia,lt y x=false
 ob:∀ x∈out.toList,∀ y∈b.toList.drop ib,lt y x=false
theorem ua(h:ia < a.size):a.toList.drop ia=XQ a ia::a.toList.drop (ia + 1):=by
 have b:ia < a.toList.length:=by simpa using h
 rw[vr b]
 congr 1
 have:=yR h;rw[RN h] at this;rw[<- fS this,Array.getElem_toList]
theorem Srt.rest(h:Srt lt a.toList)(hi:ia < a.size):∀ y∈a.toList.drop (ia + 1),lt y (XQ a ia)=false:=by
 have b:Srt lt (a.toList.drop ia):=ml (Os _ _) h;rw[ua hi] at b;exact(Fk.mp b).1
theorem rQ{l:List Keyed}{x:Keyed}(h:Srt lt l)(c:∀ y∈l,lt x y=false):Srt lt (l++[x]):=lu.mpr #[h,Ug _ _,λy b z a=>by rw[ih.mp a];exact c y b]
theorem MI.uX(m:MI lt a b out ia ib)(d:Srt lt a.toList)(hi:ia < a.size)(f:∀ y∈b.toList.drop ib,lt y (XQ a ia)=false):MI lt a b (out.push (XQ a ia)) (ia + 1) ib:=by
 have e:=ua hi;refine#[?_,?_,λx hx y c=>?_,λx hx y c=>?_]
 .have:=m.perm;rw[e] at this;rw[hW];simpa using this
 .rw[hW];exact rQ m.srt λy c=>m.oa y c _ (by rw[e];exact .head _)
 .rw[hW] at hx;rcases gs.mp hx with hx | hx
  .exact m.oa x hx y (by rw[e];exact .tail _ c)
  .rw[ih.mp hx];exact d.rest hi y c
 .rw[hW] at hx;rcases gs.mp hx with hx | hx
  .exact m.ob x hx y c
  .rw[ih.mp hx];exact f y c
theorem MI.sE(m:MI lt a b out ia ib)(d:Srt lt b.toList)(hi:ib < b.size)(f:∀ y∈a.toList.drop ia,lt y (XQ b ib)=false):MI lt a b (out.push (XQ b ib)) ia (ib + 1):=by
 have e:=ua hi;refine#[?_,?_,λx hx y c=>?_,λx hx y c=>?_]
 .refine R1 ?_ m.perm;rw[e,hW,fq];refine BY _ ?_;simp -iota only[Rp];exact Uh.symm
 .rw[hW];exact rQ m.srt λy c=>m.ob y c _ (by rw[e];exact .head _)
 .rw[hW] at hx;rcases gs.mp hx with hx | hx
  .exact m.oa x hx y c
  .rw[ih.mp hx];exact f y c
 .rw[hW] at hx;rcases gs.mp hx with hx | hx
  .exact m.ob x hx y (by rw[e];exact .tail _ c)
  .rw[ih.mp hx];exact d.rest hi y c
theorem yz(h:ia + k < a.size):out++a.extract ia (ia + (k + 1))=(out++a.extract ia (ia + k)).push (XQ a (ia + k)):=by
 apply Li.mp;have b:ia + k < a.toList.length:=by simpa using h
 rw[hW,mx,mx,yb,yb,fq]
 congr 1
 rw[ro,ro,sH,sH,Rz]
 congr 1
 rw[Tt,nL,yR h]
 rfl
theorem MI.chA(m:MI lt a b out ia ib)(c:Srt lt a.toList):∀ k,ia + k<=a.size->(∀ i,i < k->∀ y∈b.toList.drop ib,lt y (XQ a (ia + i))=false)->MI lt a b (out++a.extract ia (ia + k)) (ia + k) ib
 | 0,_,_=>by
  have:out++a.extract ia (ia + 0)=out:=by apply Li.mp;simp
  rw[this];exact m
 | k + 1,h,d=>by
  rw[yz (by exact WF 0x1ad5cefad692bcb h)];exact(MI.chA m c k (by lia) λi e=>d i (by lia)).uX c (by lia) (d k (by lia))
theorem MI.chB(m:MI lt a b out ia ib)(c:Srt lt b.toList):∀ k,ib + k<=b.size->(∀ i,i < k->∀ y∈a.toList.drop ia,lt y (XQ b (ib + i))=false)->MI lt a b (out++b.extract ib (ib + k)) ia (ib + k)
 | 0,_,_=>by
  have:out++b.extract ib (ib + 0)=out:=by apply Li.mp;simp
  rw[this];exact m
 | k + 1,h,d=>by
  rw[yz (by lia)];exact(MI.chB m c k (by lia) λi e=>d i (by lia)).sE c (by lia) (d k (by lia))
theorem rE:(a.extract ia a.size).toList=a.toList.drop ia:=by
 rw[yb,ro,rr (by simp)]
theorem MI.done(m:MI lt a b out ia ib)(d:Srt lt a.toList)(c:Srt lt b.toList)(h:a.size<=ia\/b.size<=ib):Res lt a b (out++a.extract ia a.size++b.extract ib b.size):=by
 have g:Srt lt (a.toList.drop ia):=ml (Os _ _) d;have f:Srt lt (b.toList.drop ib):=ml (Os _ _) c;delta Res;rw[mx,mx,rE,rE,fq];refine#[m.perm,?_];rcases h with h | h
 .have e:a.toList.drop ia=[]:=zv (by simpa using h);rw[e,Gh];exact lu.mpr #[m.srt,f,m.ob]
 .have e:b.toList.drop ib=[]:=zv (by simpa using h);rw[e,jn];exact lu.mpr #[m.srt,g,m.oa]
theorem MI.last(m:MI lt a b out ia ib)(d:Srt lt b.toList)(hi:ia + 1=a.size)(g:∀ y∈b.toList,lt (XQ a ia) y=false):Res lt a b (out++b.extract ib b.size++a.extract ia a.size):=by
 have f:Srt lt (b.toList.drop ib):=ml (Os _ _) d;delta Res;rw[mx,mx,rE,rE,fq];refine#[(BY _ UK).trans m.perm,?_];have e:a.toList.drop ia=[XQ a ia]:=by rw[ua (by lia),zv (by simpa using Qy hi.symm)]
 have c:=m.oa;rw[e] at c ⊢;rw[<- fq];refine rQ (lu.mpr #[m.srt,f,m.ob]) λy hy=>?_;rcases gs.mp hy with hy | hy
 .exact c y hy _ (.head _)
 .exact g y (SO hy)
theorem tE{y:Keyed}(h:y∈a.toList.drop ia):∃ i,ia<=i/\i < a.size/\y=XQ a i:=by
 let#[k,hk]:=yl h;rw[Tt,nL] at hk;have lt:ia + k < a.size:=(tq.mp hk).1;refine#[ia + k,by lia,lt,?_];rw[yR lt] at hk;cases hk;rfl
theorem Srt.at (h:Srt lt a.toList)(d:∀ x,lt x x=false){i j:Nat}(b:i<=j)(c:j < a.size):lt (XQ a j) (XQ a i)=false:=by
 by_cases e:i=j
 .subst e;exact d _
 .have:=h.rest (ia:=i) (by exact WF 0x8c6aaa0a598b b c);refine this _ ?_;have:=yR c;rw[<- nL] at this;refine ek (i:=j - (i + 1)) ?_;rw[Tt,show i + 1 + (j - (i + 1))=j by lia,this]
theorem l5{x:String}{Q:PUnit->SortSt->Prop}(q:Q ⟨⟩ st):wpS (model prog w) A E s (liftM (rule x):StateT SortSt Sem PUnit) Q st:=wpS_lift (Tq #[rfl,q])
theorem Srt.JB(c:Srt lt a.toList)(h:Ask prog w A s κ P lt){b:Keyed}{base n:Nat}(hs:autoParam (base + n<=a.size) wq4):∀ i j,i<=j->j < n->bey lt false b a base j=true->bey lt false b a base i=true:=λi j g f e=>by
 have d:lt b (XQ a (base + j))=false:=by simpa [bey] using e
 have:=h.tr _ _ _ (c.at h.rf (show base + i<=base + j by lia) (by lia)) d;simpa [bey] using this
theorem Srt.JC(d:Srt lt a.toList)(h:Ask prog w A s κ P lt){b:Keyed}{base n:Nat}(hs:autoParam (base + n<=a.size) wq4):∀ i j,i<=j->j < n->bey lt true b a base j=true->bey lt true b a base i=true:=λi j l k g=>by
 have c:lt (XQ a (base + j)) b=true:=by simpa [bey] using g
 have f:=d.at h.rf (show base + i<=base + j by lia) (by lia);show lt (XQ a (base + i)) b=true;cases e:lt (XQ a (base + i)) b with
 | true=>rfl
 | false=>rw[h.tr _ _ _ e f] at c;cases c
theorem jpI{b a:Type}{c:Prop}[Decidable c]{v:b->StateT SortSt Sem a}{x y:b}{Q:a->SortSt->Prop}(h:∀ g,wpS (model prog w) A E s (v g) Q st):wpS (model prog w) A E s (if c then v x else v y) Q st:=by
 split
 .exact h _
 .exact h _
theorem jpR{e d c:Type}{f:StateT SortSt Sem c}{Q:c->SortSt->Prop}(g:Unit->e->d->StateT SortSt Sem c)(R:e->d->Prop)(a:∀ x y,R x y->wpS (model prog w) A E s (g ⟨⟩ x y) Q st)(b:(∀ x y,R x y->wpS (model prog w) A E s (g ⟨⟩ x y) Q st)->wpS (model prog w) A E s f Q st):wpS (model prog w) A E s f Q st:=b a
theorem LB(h:Ask prog w A s κ P lt){Q:Array Keyed->SortSt->Prop}(hk:kindOf st=κ)(pa:All P a)(pb:All P b)(K:Srt lt a.toList)(G:Srt lt b.toList)(na:0 < a.size)(nb:0 < b.size)(hf:lt (XQ b 0) (XQ a 0)=true)(hl:∀ y∈b.toList,lt (XQ a (a.size - 1)) y=false)(q:∀ r st',jJ st st'->Res lt a b r->Q r st'):wpS (model prog w) A E s (mLo a b) Q st:=by
 have rf:=h.rf;have U:∀ {i:Nat},i + 1=a.size->∀ y∈b.toList,lt (XQ a i) y=false:=λ{i} e=>by
  have:i=a.size - 1:=by lia
  rw[this];exact hl
 have m0:MI lt a b (Vz9 [XQ b 0]) 0 1:=by
  have z:MI lt a b #[] 0 0:=#[by simp,Gg,(λx hx=>by simp -iota at hx),(λx hx=>by simp -iota at hx)];have:=z.sE G nb λy J=>by
   let#[i,_,V,rfl]:=tE J;have:=K.at rf (eA i) V;exact h.tr _ _ _ (h.asym _ _ hf) this
  exact this
 refine ee (l5 (ee (bw nb ?_)))
 extract_lets o0 n0 b7
 by_cases z1:1=b.size
 .refine wif (by simpa using z1) ?_;exact el (q _ _ .refl (m0.done K G (.inr (by lia))))
 refine dF (by simpa using z1) ?_;by_cases z2:0 + 1=a.size
 .refine wif (by simpa using z2) ?_;exact el (q _ _ .refl (m0.last G z2 (U z2)))
 refine dF (by simpa using z2) ?_;refine ee (SH ?_);refine ee (RA (rp (I:=λt c st'=>jJ st st'/\∃ l R O g,c=(none,l,R,O,g)/\MI lt a b l R O/\R + 1 < a.size/\O < b.size/\t + 1<=R + O)
  (Q:=λc st'=>jJ st st'/\∃ r,c.1=some r/\Res lt a b r) ?_ ?_ #[.refl,_,_,_,_,rfl,m0,by lia,by lia,by lia]) ?_)
 .rintro t c a2 _ ht hI;refine IP hI λN l R O g e p=>?_;subst e;have m:=p.1;have u:=p.2.1;have f:=p.2.2.1;have hm:=p.2.2.2;clear p hI
  extract_lets s0 x1 s1 x2 s2 x3 x4
  dsimp -zeta -zetaHave only[s0,x1,s1,x2,s2,x3,x4];refine ee (RA (rp (I:=λt' c st'=>jJ st st'/\∃ l d ib' T S,c=(none,l,d,ib',T,S)/\MI lt a b l d ib'/\d + 1 < a.size/\ib' < b.size/\R + O + t'<=d + ib')
   (Q:=λc st'=>jJ st st'/\((∃ r,c.1=some r/\Res lt a b r)\/∃ l d ib' T S,c=(none,l,d,ib',T,S)/\MI lt a b l d ib'/\d + 1 < a.size/\ib' < b.size/\R + O + 1<=d + ib')) ?_ ?_ #[N,_,_,_,_,_,rfl,m,u,f,by lia]) ?_)
  .rintro t' c a1 _ a0 hI;refine IM hI λM l d ib' T S e p=>?_;subst e;have m:=p.1;have u:=p.2.1;have f:=p.2.2.1;have F:=p.2.2.2;clear p hI
   try dsimp only
   refine ee (bw f (ee (bw (by exact WF 196908475374 u) (ee (h.ask (M.k.trans hk) (pb _ f) (pa _ (by lia)) ?_)))))
   try dsimp only
   cases e:lt (XQ b ib') (XQ a d) with
   | true=>
    refine wif rfl ?_;refine ee (bw f ?_)
    try dsimp only
    have m1:=m.sE G f λy J=>by
     let#[i,D,H,rfl]:=tE J;exact h.tr _ _ _ (h.asym _ _ e) (K.at rf D H)
    by_cases z:ib' + 1=b.size
    .refine wif (by simpa using z) ?_;exact el #[M,.inl #[_,rfl,m1.done K G (.inr (by lia))]]
    .refine dF (by simpa using z) ?_;split
     .exact el #[M,.inr #[_,_,_,_,_,rfl,m1,u,by lia,by exact WF 0x4b3872136cca62641f71e65 F]]
     .exact el #[M,_,_,_,_,_,rfl,m1,u,by lia,by lia]
   | false=>
    refine dF (by decide) ?_;refine ee (bw (by lia) ?_)
    try dsimp only
    have m1:=m.uX K (by lia) λy J=>by
     let#[i,D,H,rfl]:=tE J;exact h.tr _ _ _ e (G.at rf D H)
    by_cases z:d + 1 + 1=a.size
    .refine wif (by simpa using z) ?_;exact el #[M,.inl #[_,rfl,m1.last G z (U z)]]
    .refine dF (by simpa using z) ?_;split
     .exact el #[M,.inr #[_,_,_,_,_,rfl,m1,by lia,by lia,by exact WF 0x4b53c50b76e58e701f71e65 F]]
     .exact el #[M,_,_,_,_,_,rfl,m1,by lia,by lia,by lia]
  .rintro c a1 hI;refine IM hI λM l d ib' T S e p=>?_;subst e;have m:=p.1;have u:=p.2.1;have f:=p.2.2.1;have F:=p.2.2.2;clear p hI;exact#[M,.inr #[_,_,_,_,_,rfl,m,u,f,by lia]]
  .rintro c a1 ⟨M,⟨r,e,res⟩ | hI⟩
   .let#[c1,c2]:=c;cases e;exact el #[M,_,rfl,res]
   refine ex5 hI λl d ib' T S e p=>?_;subst e;have m:=p.1;have u:=p.2.1;have f:=p.2.2.1;have F:=p.2.2.2;clear p hI
   extract_lets u0 u1 u2 u3 u4 u5 u6 u7 u8 u9
   dsimp -zeta -zetaHave only[u0,u1,u2,u3,u4,u5,u6,u7,u8,u9];refine ee (l5 ?_);refine ee (RA (rp (I:=λt' c st'=>jJ st st'/\∃ l C B g T S,c=(none,l,C,B,g,T,S)/\MI lt a b l C B/\C + 1 < a.size/\B < b.size/\R + O + 1<=C + B)
    (Q:=λc st'=>jJ st st'/\((∃ r,c.1=some r/\Res lt a b r)\/∃ l C B g T S,c=(none,l,C,B,g,T,S)/\MI lt a b l C B/\C + 1 < a.size/\B < b.size/\R + O + 1<=C + B)) ?_ ?_ #[M,_,_,_,_,_,_,rfl,m,u,f,F]) ?_)
   .rintro t' c Z _ a0 hI;refine PJ hI λL l d ib' g' T S e p=>?_;subst e;have m:=p.1;have u:=p.2.1;have f:=p.2.2.1;have F:=p.2.2.2;clear p hI
    extract_lets v0 v1 v2 v3 v4 v5 v6 v7 v8 v9 a9 a8 jp g4
    refine jpI (v:=jp ⟨⟩) λg2=>?_;dsimp -zeta -zetaHave only[jp,v0,v1,v2,v3,v4,v5,v6,v8,v9,a9,a8];refine ee (zU ?_);refine ee (bw f (ee (p7 h (L.k.trans hk) (pb _ f) pa (by exact Yr (V3 (YH u))) (by exact WF 0x522dc5fb04e6839cb u V1) (K.JB h) λk pk=>?_)));dsimp -zeta -zetaHave only
    extract_lets c1 a7 o4 n4
    have kl:=pk.le;have p1:∀ i,i < k->lt (XQ b ib') (XQ a (d + i))=false:=λi V=>by have:=pk.lo i V;simpa [bey] using this
    have p2:∀ j,d + k<=j->j < a.size->lt (XQ b ib') (XQ a j)=true:=λj D H=>by
     have:=pk.hi (j - d) (by exact WF 0x4cab69a6341206238 D V1) (by exact WF 0x1bb3580b57eeef1cbcfa5 H V1 (V3 (WF 5136099970571 D)));rw[show j=d + (j - d) by exact xl (Yx V1) (Yr (V3 (WF 5136099970571 D)))];simpa [bey] using this
    have m1:=m.chA K k (by exact Yh kl (V3 (YH u))) λi V y J=>by
     let#[j,D,H,rfl]:=tE J;exact h.tr _ _ _ (p1 i V) (G.at rf D H)
    refine jpR a7 (λo n=>n=d + k/\n + 1 < a.size/\MI lt a b o n ib') ?_ λtl=>?_
    .rintro o1 X ⟨e1,b6,m1⟩;rw[<- e1] at p2;have b1:R + O + 1<=X + ib':=by exact WF 0x193cec7c2a0b0ecf302d61c5492 F e1
     dsimp -zeta -zetaHave only[a7];refine ee (bw f ?_)
     try extract_lets o5
     have m2:=m1.sE G f λy J=>by
      let#[j,D,H,rfl]:=tE J;exact h.asym _ _ (p2 j D H)
     by_cases z3:ib' + 1=b.size
     .refine wif (by simpa using z3) ?_;exact el #[L.gal _,.inl #[_,rfl,m2.done K G (.inr (by lia))]]
     refine dF (by simpa using z3) ?_;refine ee (bw (by exact WF 196908475374 b6) (ee (p7 h (L.k.trans hk) (pa _ (by lia)) pb (by exact YJ (V3 (Yb f))) (by exact WF 0x902a584fe503ea530b V1 (Mb (Yb f) z3)) (G.JC h) λN W=>?_)));dsimp -zeta -zetaHave only
     extract_lets c3 a6 o6 n6
     have a5:=W.le;have q1:∀ i,i < N->lt (XQ b (ib' + 1 + i)) (XQ a X)=true:=λi V=>by have:=W.lo i V;simpa [bey] using this
     have q2:∀ j,ib' + 1 + N<=j->j < b.size->lt (XQ b j) (XQ a X)=false:=λj D H=>by
      have:=W.hi (j - (ib' + 1)) (by exact WF 0xeaccf25fb9b881a88a8 D V1) (by exact WF 0x54d53d9f86cd7bb621b8fa5 H V1 (V3 (YR D)));rw[show j=ib' + 1 + (j - (ib' + 1)) by exact xl (WF 0x29f7039feef8d30b V1) (YJ (V3 (YR D)))];simpa [bey] using this
     have m3:=m2.chB G N (by exact YC a5 (V3 (Yb f))) λi V y J=>by
      let#[j,D,H,rfl]:=tE J;exact h.tr _ _ _ (h.asym _ _ (q1 i V)) (K.at rf D H)
     refine jpR a6 (λo n=>n=ib' + 1 + N/\n < b.size/\MI lt a b o X n) ?_ λY=>?_
     .rintro o2 i2 ⟨e2,b5,m3⟩;rw[<- e2] at q2;have a':R + O + 1<=X + i2:=by exact WF 0x2c29969e42e80756bb9e84cc5492 b1 e2
      dsimp -zeta -zetaHave only[a6];refine ee (bw (by lia) ?_)
      try extract_lets o7
      have m4:=m3.uX K (by lia) λy J=>by
       let#[j,D,H,rfl]:=tE J;exact q2 j D H
      by_cases z4:X + 1 + 1=a.size
      .refine wif (by simpa using z4) ?_;exact el #[L.gal _,.inl #[_,rfl,m4.last G z4 (U z4)]]
      refine dF (by simpa using z4) ?_;split
      .exact el #[L.gal _,.inr #[_,_,_,_,_,_,rfl,m4,by lia,by exact WF 7032445982 b5,by exact WF 0x2b0b4c068bfe734ac4f638 a']]
      .exact el #[L.gal _,_,_,_,_,_,_,rfl,m4,by lia,by lia,by lia]
     .by_cases a4:N > 0
      .refine wif a4 ?_;by_cases z:ib' + 1 + N=b.size
       .refine wif (by simpa using z) ?_;exact el #[L.gal _,.inl #[_,rfl,m3.done K G (.inr (by exact WF 0x29f70449fa8b06cb z))]]
       refine dF (by simpa using z) ?_;exact Y _ _ #[rfl,by exact WF 0x2ef62484557366cb (Mb (YC a5 (V3 (Yb f))) z),m3]
      .refine dF a4 ?_;have b4:N=0:=by lia
       exact Y _ _ #[by lia,by lia,m2]
    .by_cases kz:k > 0
     .refine wif kz ?_;by_cases z:d + k + 1=a.size
      .refine wif (by simpa using z) ?_;exact el #[L.gal _,.inl #[_,rfl,m1.last G z (U z)]]
      refine dF (by simpa using z) ?_;by_cases z':d + k=a.size
      .refine wif (by simpa using z') ?_;exact el #[L.gal _,.inl #[_,rfl,m1.done K G (.inl (by lia))]]
      refine dF (by simpa using z') ?_;exact tl _ _ #[rfl,by exact WF 0x2ef693d8a1bb470b (Mb (WF 0x18fe9ce4dbd6a0b (Mb (Yh kl (V3 (YH u))) z')) z),m1]
     .refine dF kz ?_;have b4:k=0:=by lia
      exact tl _ _ #[by lia,u,m]
   .rintro c Z hc;exact#[hc.1,.inr hc.2]
   .rintro c Z ⟨L,⟨r,e,res⟩ | hI⟩
    .let#[c1,c2]:=c;cases e;exact el #[L,_,rfl,res]
    .refine ex6 hI λl d ib' g' T S e p=>?_;subst e;have m:=p.1;have u:=p.2.1;have f:=p.2.2.1;have F:=p.2.2.2;clear p hI;exact ee (zU (el #[L.gal _,_,_,_,_,rfl,m,u,f,by (try dsimp only);lia]))
 .rintro c a2 hI;refine IP hI λN l R O g e p=>?_;subst e;have m:=p.1;have u:=p.2.1;have f:=p.2.2.1;have hm:=p.2.2.2;clear p hI;lia
 .rintro c a2 ⟨N,r,e,res⟩;let#[c1,c2]:=c;cases e;exact el (q _ _ N res)
end
section
variable {s:Shared}{κ:Su}{P:Keyed->Prop}{lt:Keyed->Keyed->Bool}{st st':SortSt}{a b out:Array Keyed}{na nb:Nat}
structure MH (lt:Keyed->Keyed->Bool) (a b out:Array Keyed) (na nb:Nat):Prop where
 perm:(a.toList.take na++(b.toList.take nb++out.toList.reverse)).Perm (a.toList++b.toList)
 srt:Srt lt out.toList.reverse
 oa:∀ x∈out.toList,∀ y∈a.toList.take na,lt x y=false
 ob:∀ x∈out.toList,∀ y∈b.toList.take nb,lt x y=false
theorem y_(h:na < a.size):a.toList.take (na + 1)=a.toList.take na++[XQ a na]:=by
 rw[Rz,nL,yR h];rfl
theorem qq{y:Keyed}(h:y∈a.toList.take na):∃ i,i < na/\i < a.size/\y=XQ a i:=by
 let#[k,hk]:=yl h;have b:k < na:=by
  have:=(gS0 hk).1;rw[ew] at this;exact YB this (xr _ _)
 rw[Pc b,nL] at hk;have lt:k < a.size:=(tq.mp hk).1;rw[yR lt] at hk;cases hk;exact#[k,b,lt,rfl]
theorem rR{l:List Keyed}{x:Keyed}(h:Srt lt l)(a:∀ y∈l,lt y x=false):Srt lt (x::l):=Fk.mpr #[a,h]
theorem MH.uX(m:MH lt a b out (na + 1) nb)(d:Srt lt a.toList)(f:∀ x,lt x x=false)(hi:na < a.size)(h:∀ y∈b.toList.take nb,lt (XQ a na) y=false):MH lt a b (out.push (XQ a na)) na nb:=by
 have e:=y_ hi;have g:XQ a na∈a.toList.take (na + 1):=by rw[e];exact eB _ (.head _)
 refine#[?_,?_,λx hx y c=>?_,λx hx y c=>?_]
 .refine R1 ?_ m.perm;rw[e,hW,RQ,fq];refine BY _ ?_;simp -iota only[List.reverse_singleton,Rp];exact Uh
 .rw[hW,RQ];exact rR m.srt λy c=>m.oa y (KM.mp c) _ g
 .rw[hW] at hx;rcases gs.mp hx with hx | hx
  .exact m.oa x hx y (by rw[e];exact oD _ c)
  .rw[ih.mp hx];let#[i,k,j,rfl]:=qq c;exact d.at f (by lia) hi
 .rw[hW] at hx;rcases gs.mp hx with hx | hx
  .exact m.ob x hx y c
  .rw[ih.mp hx];exact h y c
theorem MH.sE(m:MH lt a b out na (nb + 1))(d:Srt lt b.toList)(f:∀ x,lt x x=false)(hi:nb < b.size)(h:∀ y∈a.toList.take na,lt (XQ b nb) y=false):MH lt a b (out.push (XQ b nb)) na nb:=by
 have e:=y_ hi;have g:XQ b nb∈b.toList.take (nb + 1):=by rw[e];exact eB _ (.head _)
 refine#[?_,?_,λx hx y c=>?_,λx hx y c=>?_]
 .refine R1 ?_ m.perm;rw[e,hW,RQ,fq (List.take nb b.toList)];exact Au _
 .rw[hW,RQ];exact rR m.srt λy c=>m.ob y (KM.mp c) _ g
 .rw[hW] at hx;rcases gs.mp hx with hx | hx
  .exact m.oa x hx y c
  .rw[ih.mp hx];exact h y c
 .rw[hW] at hx;rcases gs.mp hx with hx | hx
  .exact m.ob x hx y (by rw[e];exact oD _ c)
  .rw[ih.mp hx];let#[i,k,j,rfl]:=qq c;exact d.at f (by lia) hi
theorem BC{l n:Nat}(h:l < n)(c:n<=a.size):out++(a.extract l n).reverse=(out++(a.extract (l + 1) n).reverse).push (XQ a l):=by
 apply Li.mp;have b:l < a.size:=by lia
 rw[hW,mx,mx,RB,RB,yb,yb,fq]
 congr 1
 rw[ro,ro,ua b,show n - l=(n - (l + 1)) + 1 by lia,PU,V6]
theorem MH.chA(m:MH lt a b out na nb)(f:Srt lt a.toList)(g:∀ x,lt x x=false)(c:na<=a.size):∀ (d l:Nat),na=l + d->(∀ i,l<=i->i < na->∀ y∈b.toList.take nb,lt (XQ a i) y=false)->MH lt a b (out++(a.extract l na).reverse) l nb
 | 0,l,e,_=>by
  have n:l=na:=by lia
  subst n;have:out++(a.extract l l).reverse=out:=by apply Li.mp;simp
  rw[this];exact m
 | d + 1,l,e,h=>by
  rw[BC (by grind) c];exact(MH.chA m f g c d (l + 1) (by lia) λi k j=>h i (by exact WF 183414932206 k) j).uX f g (by exact WF 0x2f42a86cfd7f8ab8 c e) (h l (cb _) (by lia))
theorem MH.chB(m:MH lt a b out na nb)(c:Srt lt b.toList)(f:∀ x,lt x x=false)(g:nb<=b.size):∀ (d l:Nat),nb=l + d->(∀ i,l<=i->i < nb->∀ y∈a.toList.take na,lt (XQ b i) y=false)->MH lt a b (out++(b.extract l nb).reverse) na l
 | 0,l,e,_=>by
  have k:l=nb:=by lia
  subst k;have:out++(b.extract l l).reverse=out:=by apply Li.mp;simp
  rw[this];exact m
 | d + 1,l,e,h=>by
  rw[BC (by lia) g];exact(MH.chB m c f g d (l + 1) (by lia) λi n j=>h i (by lia) j).sE c f (by lia) (h l (cb _) (by lia))
theorem BD:(a.extract 0 na).toList=a.toList.take na:=by simp_all
theorem MH.done(m:MH lt a b out na nb)(f:Srt lt a.toList)(e:Srt lt b.toList)(h:na=0\/nb=0):Res lt a b (a.extract 0 na++b.extract 0 nb++out.reverse):=by
 have i:Srt lt (a.toList.take na):=ml (NM _ _) f;have g:Srt lt (b.toList.take nb):=ml (NM _ _) e;delta Res;rw[mx,mx,BD,BD,RB,fq];refine#[m.perm,?_];rcases h with rfl | rfl
 .rw[UW,Gh];exact lu.mpr #[g,m.srt,λx d y c=>m.ob y (KM.mp c) x d]
 .rw[UW,Gh];exact lu.mpr #[i,m.srt,λx d y c=>m.oa y (KM.mp c) x d]
theorem MH.first(m:MH lt a b out na 1)(f:Srt lt a.toList)(j:0 < b.size)(i:∀ y∈a.toList,lt y (XQ b 0)=false):Res lt a b (b.extract 0 1++a.extract 0 na++out.reverse):=by
 have g:Srt lt (a.toList.take na):=ml (NM _ _) f;have e:b.toList.take 1=[XQ b 0]:=y_ (na:=0) j;have d:=m.ob;have c:=m.perm;delta Res;rw[mx,mx,BD,BD,RB];rw[e] at c d ⊢;refine#[?_,?_]
 .refine R1 ?_ c;simp -iota only[Rp,KI];exact Uh.symm
 .simp -iota only[Rp,KI];refine rR (lu.mpr #[g,m.srt,λx h y hy=>m.oa y (KM.mp hy) x h]) λy hy=>?_;rcases gs.mp hy with hy | hy
  .exact i y (Oz hy)
  .exact d y (KM.mp hy) _ (.head _)
theorem MH.pA(m:MH lt a b out na nb)(c:Srt lt a.toList)(d:∀ x,lt x x=false)(f:0 < na)(hi:na<=a.size)(e:∀ y∈b.toList.take nb,lt (XQ a (na - 1)) y=false):MH lt a b (out.push (XQ a (na - 1))) (na - 1) nb:=by
 obtain⟨n,rfl⟩:∃ n,na=n + 1:=#[na - 1,by lia];exact m.uX c d (by lia) e
theorem MH.pB(m:MH lt a b out na nb)(c:Srt lt b.toList)(d:∀ x,lt x x=false)(f:0 < nb)(hi:nb<=b.size)(e:∀ y∈a.toList.take na,lt (XQ b (nb - 1)) y=false):MH lt a b (out.push (XQ b (nb - 1))) na (nb - 1):=by
 obtain⟨n,rfl⟩:∃ n,nb=n + 1:=#[nb - 1,by lia];exact m.sE c d (by lia) e
theorem LC(h:Ask prog w A s κ P lt){Q:Array Keyed->SortSt->Prop}(hk:kindOf st=κ)(pa:All P a)(pb:All P b)(L:Srt lt a.toList)(T:Srt lt b.toList)(Z:0 < a.size)(c0:0 < b.size)(hf:∀ y∈a.toList,lt y (XQ b 0)=false)(hl:∀ y∈b.toList,lt (XQ a (a.size - 1)) y=false)(q:∀ r st',jJ st st'->Res lt a b r->Q r st'):wpS (model prog w) A E s (mHi a b) Q st:=by
 have U:=h.rf;have m0:MH lt a b (Vz9 [XQ a (a.size - 1)]) (a.size - 1) b.size:=by
  have z:MH lt a b #[] a.size b.size:=#[by rw[rr (by simp),rr (by simp)];simp,Gg,(λx hx=>by simp -iota at hx),(λx hx=>by simp -iota at hx)];exact z.pA L U Z (cb _) λy M=>hl y (Oz M)
 have X:∀ {p:Array Keyed} {J nb:Nat},nb=1->MH lt a b p J nb->Res lt a b (b.extract 0 nb++a.extract 0 J++p.reverse):=λ{p J nb} e m=>by
  subst e;exact m.first L c0 hf
 refine ee (l5 (ee (bw (by exact Yp (V3 (Yd Z))) ?_)))
 extract_lets o0 n0
 by_cases z1:a.size - 1=0
 .refine wif (by simpa using z1) ?_;exact el (q _ _ .refl (m0.done L T (.inl z1)))
 refine dF (by simpa using z1) ?_;by_cases z2:b.size=1
 .refine wif (by simpa using z2) ?_;exact el (q _ _ .refl (X z2 m0))
 refine dF (by simpa using z2) ?_;refine ee (SH ?_);refine ee (RA (rp (I:=λt c st'=>jJ st st'/\∃ J nb p g,c=(none,J,nb,p,g)/\MH lt a b p J nb/\J<=a.size/\nb<=b.size/\0 < J/\1 < nb/\J + nb + t + 1<=a.size + b.size)
  (Q:=λc st'=>jJ st st'/\∃ r,c.1=some r/\Res lt a b r) ?_ ?_ #[.refl,_,_,_,_,rfl,m0,by exact Ya V2,by lia,by lia,by lia,by exact WF 0xe0e54fda14fa287f4cb (V3 (Yd Z))]) ?_)
 .rintro t c a7 _ ht hI;refine IP hI λk1 J nb p g e f=>?_;subst e;have m:=f.1;have H:=f.2.1;have G:=f.2.2.1;have D:=f.2.2.2.1;have u:=f.2.2.2.2.1;have hm:=f.2.2.2.2.2;clear f hI
  extract_lets s0 d4 s1 c5 s2 a0 g1
  dsimp -zeta -zetaHave only[s0,d4,s1,c5,s2,a0,g1];refine ee (RA (rp (I:=λt' c st'=>jJ st st'/\∃ na' d p S R,c=(none,na',d,p,S,R)/\MH lt a b p na' d/\na'<=a.size/\d<=b.size/\0 < na'/\1 < d/\na' + d + t'<=J + nb)
   (Q:=λc st'=>jJ st st'/\((∃ r,c.1=some r/\Res lt a b r)\/∃ na' d p S R,c=(none,na',d,p,S,R)/\MH lt a b p na' d/\na'<=a.size/\d<=b.size/\0 < na'/\1 < d/\na' + d + 1<=J + nb)) ?_ ?_ #[k1,_,_,_,_,_,rfl,m,H,G,D,u,by lia]) ?_)
  .rintro t' c a6 _ d5 hI;refine IM hI λO na' d p S R e f=>?_;subst e;have m:=f.1;have H:=f.2.1;have G:=f.2.2.1;have D:=f.2.2.2.1;have u:=f.2.2.2.2.1;have F:=f.2.2.2.2.2;clear f hI
   try dsimp only
   refine ee (bw (by exact Yy G (V3 (Yo u))) (ee (bw (by exact Yy H (V3 (Yd D))) (ee (h.ask (O.k.trans hk) (pb _ (by lia)) (pa _ (by lia)) ?_)))))
   try dsimp only
   cases e:lt (XQ b (d - 1)) (XQ a (na' - 1)) with
   | true=>
    refine wif rfl ?_;refine ee (bw (by lia) ?_)
    try dsimp only
    have m1:=m.pA L U D H λy M=>by
     let#[i,K,W,rfl]:=qq M;exact h.tr _ _ _ (T.at U (show i<=d - 1 by exact Ye K V1) (by lia)) (h.asym _ _ e)
    by_cases z:na' - 1=0
    .refine wif (by simpa using z) ?_;exact el #[O,.inl #[_,rfl,m1.done L T (.inl z)]]
    .refine dF (by simpa using z) ?_;split
     .exact el #[O,.inr #[_,_,_,_,_,rfl,m1,by exact Yt H V2,G,by lia,u,by exact WF 0x193c50483f1554adbb3d0375292 F (V3 (Yd D))]]
     .exact el #[O,_,_,_,_,_,rfl,m1,by lia,G,by lia,u,by exact WF 0x4d48b540bb19ceebb95dbd0375292 F (V3 (Yd D))]
   | false=>
    refine dF (by decide) ?_;refine ee (bw (by lia) ?_)
    try dsimp only
    have m1:=m.pB T U (by lia) G λy M=>by
     let#[i,K,W,rfl]:=qq M;exact h.tr _ _ _ (L.at U (show i<=na' - 1 by exact Ye K V1) (by lia)) e
    by_cases z:d - 1=1
    .refine wif (by simpa using z) ?_;exact el #[O,.inl #[_,rfl,X z m1]]
    .refine dF (by simpa using z) ?_;split
     .exact el #[O,.inr #[_,_,_,_,_,rfl,m1,H,by exact Yt G V2,D,by exact WF 5505635798601 (Mb (YK u V1) (lj z)),by exact WF 0x193c5047fd14a3dd6adff375292 F (V3 (Yo u))]]
     .exact el #[O,_,_,_,_,_,rfl,m1,H,by lia,D,by lia,by exact WF 0x4d48b540bad7ce3ae90d5ff375292 F (V3 (Yo u))]
  .rintro c a6 hI;refine IM hI λO na' d p S R e f=>?_;subst e;have m:=f.1;have H:=f.2.1;have G:=f.2.2.1;have D:=f.2.2.2.1;have u:=f.2.2.2.2.1;have F:=f.2.2.2.2.2;clear f hI;exact#[O,.inr #[_,_,_,_,_,rfl,m,H,G,D,u,by lia]]
  .rintro c a6 ⟨O,⟨r,e,res⟩ | hI⟩
   .let#[c1,c2]:=c;cases e;exact el #[O,_,rfl,res]
   refine ex5 hI λna' d p S R e f=>?_;subst e;have m:=f.1;have H:=f.2.1;have G:=f.2.2.1;have D:=f.2.2.2.1;have u:=f.2.2.2.2.1;have F:=f.2.2.2.2.2;clear f hI
   extract_lets u0 d3 u1 b' u2 a9 u3 e5 e1 d8
   dsimp -zeta -zetaHave only[u0,d3,u1,b',u2,a9,u3,e5,e1,d8];refine ee (l5 ?_);refine ee (RA (rp (I:=λt' c st'=>jJ st st'/\∃ C B p g S R,c=(none,C,B,p,g,S,R)/\MH lt a b p C B/\C<=a.size/\B<=b.size/\0 < C/\1 < B/\C + B + 1<=J + nb)
    (Q:=λc st'=>jJ st st'/\((∃ r,c.1=some r/\Res lt a b r)\/∃ C B p g S R,c=(none,C,B,p,g,S,R)/\MH lt a b p C B/\C<=a.size/\B<=b.size/\0 < C/\1 < B/\C + B + 1<=J + nb)) ?_ ?_ #[O,_,_,_,_,_,_,rfl,m,H,G,D,u,F]) ?_)
   .rintro t' c a5 _ d5 hI;refine PJ hI λN na' d p g' S R e f=>?_;subst e;have m:=f.1;have H:=f.2.1;have G:=f.2.2.1;have D:=f.2.2.2.1;have u:=f.2.2.2.2.1;have F:=f.2.2.2.2.2;clear f hI
    extract_lets v0 c' v1 b0 v2 a8 v3 g3 v4 e4 d9 b7 jp g4
    refine jpI (v:=jp ⟨⟩) λg2=>?_;dsimp -zeta -zetaHave only[jp,v0,c',v1,b0,v2,a8,v3,e4,d9,v4,b7];refine ee (zU ?_);refine ee (bw (by exact Yy G (V3 (Yo u))) (ee (p7 h (N.k.trans hk) (pb _ (by lia)) pa (by lia) (by exact Yp (V3 (Yd D))) (L.JB h) λl pk=>?_)));dsimp -zeta -zetaHave only
    extract_lets c1 c2 b1 o4 n4
    have kl:=pk.le;have p1:∀ i,i < l->lt (XQ b (d - 1)) (XQ a i)=false:=λi hi=>by have:=pk.lo i hi;simpa [bey] using this
    have p2:∀ i,l<=i->i < na'->lt (XQ b (d - 1)) (XQ a i)=true:=λi K W=>by have:=pk.hi i K W;simpa [bey] using this
    have m1:=m.chA L U H (na' - l) l (by exact xl (Yx V1) (Yr (V3 (Ya kl)))) λi K W y M=>by
     let#[j,h3,h4,rfl]:=qq M;exact h.tr _ _ _ (T.at U (show j<=d - 1 by exact Ye h3 V1) (by lia)) (h.asym _ _ (p2 i K W))
    refine jpR b1 (λn o=>n=l/\0 < l/\MH lt a b o l d) ?_ λtl=>?_
    .rintro n o1 ⟨rfl,lp,m1⟩;dsimp -zeta -zetaHave only[b1];refine ee (bw (by lia) ?_)
     extract_lets o5
     have m2:=m1.pB T U (by lia) G λy M=>by
      let#[j,K,W,rfl]:=qq M;exact p1 j K
     by_cases z3:d - 1=1
     .refine wif (by simpa using z3) ?_;exact el #[N.gal _,.inl #[_,rfl,X z3 m2]]
     refine dF (by simpa using z3) ?_;have e2:d - 1<=b.size:=by exact Yt G V2
     have d6:1 < d - 1:=by exact WF 5505635798601 (Mb (YK u V1) (lj z3))
     have d7:n + (d - 1) + 1<=J + nb:=by exact WF 0x2c2ab2186a52022d842b4ebc5492 F kl V2
     refine ee (bw (by exact WF 0x52b2a70671a4ea0b8 H kl (V3 (Yd lp))) (ee (p7 h (N.k.trans hk) (pa _ (by lia)) pb (by lia) (by exact Yp (V3 (Yo d6))) (T.JC h) λV Y=>?_)));dsimp -zeta -zetaHave only
     extract_lets c3 c4 a' o6 n6
     have a2:=Y.le;have q1:∀ i,i < V->lt (XQ b i) (XQ a (n - 1))=true:=λi hi=>by have:=Y.lo i hi;simpa [bey] using this
     have q2:∀ i,V<=i->i < d - 1->lt (XQ b i) (XQ a (n - 1))=false:=λi K W=>by have:=Y.hi i K W;simpa [bey] using this
     have m3:=m2.chB T U e2 (d - 1 - V) V (by exact xl (Yx V1) (Yr (V3 (Ya a2)))) λi K W y M=>by
      let#[j,h3,h4,rfl]:=qq M;exact h.tr _ _ _ (L.at U (show j<=n - 1 by exact Ye h3 V1) (by lia)) (q2 i K W)
     refine jpR a' (λk o=>k=V/\1 < V/\MH lt a b o n V) ?_ λa4=>?_
     .rintro k o3 ⟨rfl,b4,m3⟩;dsimp -zeta -zetaHave only[a']
      try extract_lets n7
      refine ee (bw (by lia) ?_)
      extract_lets o7
      have m4:=m3.pA L U (by lia) (by lia) λy M=>by
       let#[j,K,W,rfl]:=qq M;exact h.asym _ _ (q1 j K)
      by_cases z7:n - 1=0
      .refine wif (by simpa using z7) ?_;exact el #[N.gal _,.inl #[_,rfl,m4.done L T (.inl z7)]]
      refine dF (by simpa using z7) ?_;split
      .exact el #[N.gal _,.inr #[_,_,_,_,_,_,rfl,m4,by exact YI H kl V2,by lia,by lia,b4,by exact WF 0x2c2ab2188777a9402f1e7bac5492 d7 a2 V2]]
      .exact el #[N.gal _,_,_,_,_,_,_,rfl,m4,by lia,by lia,by lia,b4,by lia]
     .by_cases a1:d - 1 - V > 0
      .refine wif a1 ?_;by_cases z5:V=1
       .refine wif (by simpa using z5) ?_;exact el #[N.gal _,.inl #[_,rfl,X z5 m3]]
       refine dF (by simpa using z5) ?_;by_cases z6:V=0
       .refine wif (by simpa using z6) ?_;exact el #[N.gal _,.inl #[_,rfl,m3.done L T (.inr z6)]]
       refine dF (by simpa using z6) ?_;exact a4 _ _ #[rfl,by lia,m3]
      .refine dF a1 ?_;have b5:V=d - 1:=by exact xl (Ya a2) (YL a1 V1)
       exact a4 _ _ #[b5.symm,by lia,by rw[b5];exact m2]
    .by_cases kz:na' - l > 0
     .refine wif kz ?_;by_cases z:l=0
      .refine wif (by simpa using z) ?_;exact el #[N.gal _,.inl #[_,rfl,m1.done L T (.inl z)]]
      refine dF (by simpa using z) ?_;exact tl _ _ #[rfl,by lia,m1]
     .refine dF kz ?_;have b6:l=na':=by exact xl (Ya kl) (YL kz V1)
      exact tl _ _ #[b6.symm,by lia,by rw[b6];exact m]
   .rintro c a5 hc;exact#[hc.1,.inr hc.2]
   .rintro c a5 ⟨N,⟨r,e,res⟩ | hI⟩
    .let#[c1,c2]:=c;cases e;exact el #[N,_,rfl,res]
    .refine ex6 hI λna' d p g' S R e f=>?_;subst e;have m:=f.1;have H:=f.2.1;have G:=f.2.2.1;have D:=f.2.2.2.1;have u:=f.2.2.2.2.1;have F:=f.2.2.2.2.2;clear f hI;exact ee (zU (el #[N.gal _,_,_,_,_,rfl,m,H,G,D,u,by (try dsimp only);exact WF 0x8ac0be9b9c6a483ca1ed0f3d146563bc26bf hm F]))
 .rintro c a7 hI;refine IP hI λk1 J nb p g e f=>?_;subst e;have m:=f.1;have H:=f.2.1;have G:=f.2.2.1;have D:=f.2.2.2.1;have u:=f.2.2.2.2.1;have hm:=f.2.2.2.2.2;clear f hI;lia
 .rintro c a7 ⟨k1,r,e,res⟩;let#[c1,c2]:=c;cases e;exact el (q _ _ k1 res)
end
section
variable {s:Shared}{κ:Su}{P:Keyed->Prop}{lt:Keyed->Keyed->Bool}{st st':SortSt}{a b:Array Keyed}{l L R L2:List Keyed}{n:Nat}
noncomputable abbrev Y (l:List Keyed)(i:Nat):Keyed:=l.getD i (.none,.none)
theorem X_Y:XQ a i=Y a.toList i:=by
 delta XQ Y;rw[S6,lx,nL]
theorem uf(h:i < l.length):l[i]?=some (Y l i):=by
 delta Y;rw[lx,gE0 h];rfl
theorem BZ(e:a.toList=L++(R++L2))(h:i < R.length):XQ a (L.length + i)=Y R i:=by
 rw[X_Y,e];delta Y;rw[lx,lx,rb (by lia),sH,hZ h]
theorem xi:Y (l.drop k) i=Y l (k + i):=by simp_all
theorem AD(h:i < k):Y (l.take k) i=Y l i:=by simp_all
theorem x9{x:Keyed}(h:x∈l):∃ i,i < l.length/\x=Y l i:=by
 let#[i,a]:=yl h;have lt:=(gS0 a).1;rw[uf lt] at a;cases a;exact#[i,lt,rfl]
theorem EE{x:Keyed}(h:x∈l.take k):∃ i,i < k/\i < l.length/\x=Y l i:=by
 let#[i,a,rfl]:=x9 h;rw[ew] at a;exact#[i,by exact YB a (xr _ _),by exact YB a (sg _ _),AD (by lia)]
theorem EF{x:Keyed}(h:x∈l.drop k):∃ i,k<=i/\i < l.length/\x=Y l i:=by
 let#[i,a,rfl]:=x9 h;rw[KF] at a;exact#[k + i,by lia,by lia,xi]
theorem Srt.Yat(h:Srt lt l)(f:∀ x,lt x x=false)(b:i<=j)(a:j < l.length):lt (Y l j) (Y l i)=false:=by
 by_cases e:i=j
 .subst e;exact f _
 .have d:=uf a;have c:=uf (l:=l) (i:=i) (by exact WF 0x8c6aaa0a598b b a);have:=TF.mp h i j (by lia) a (by lia);rw[gE0 a] at d;rw[gE0 (by lia)] at c;rw[<- fS d,<- fS c];exact this
theorem AO {b:Nat}:∀ (l:List Keyed) (j:Nat) (xs:Array Keyed),b + j + l.length<=xs.size->((l.zipIdx j).foldl (λa (x:Keyed×Nat)=>a.setIfInBounds (b + x.2) x.1) xs).toList=xs.toList.take (b + j)++(l++xs.toList.drop (b + j + l.length))
 | [],j,xs,h=>by simp
 | x::l,j,xs,h=>by
  rw[eh] at h;rw[T7,Mt,AO l (j + 1) _ (by rw[Array.size_setIfInBounds];exact WF 0x19a38e255737ea7fc4638 h),Tu,eh];have c:b + j < xs.toList.length:=by simp;exact WF 0x522edb505be3c4638 h
  rw[show b + (j + 1)=b + j + 1 by lia,Rz,Sf c,List.take_set_of_le (cb _),List.drop_set_of_lt (by lia),show b + j + 1 + l.length=b + j + (l.length + 1) by lia];simp
theorem wM(h:R≠[]):0 < R.length:=List.length_pos_iff.mpr h
theorem NN(h:Ask prog w A s κ P lt){base:Nat}{b:Keyed}(c:∀ i j,i<=j->j < n->lt (XQ a (base + j)) (XQ a (base + i))=false):∀ i j,i<=j->j < n->bey lt false b a base j=true->bey lt false b a base i=true:=λi j g f e=>by
 have d:lt b (XQ a (base + j))=false:=by simpa [bey] using e
 have:=h.tr _ _ _ (c i j g f) d;simpa [bey] using this
theorem NO(h:Ask prog w A s κ P lt){base:Nat}{b:Keyed}(d:∀ i j,i<=j->j < n->lt (XQ a (base + j)) (XQ a (base + i))=false):∀ i j,i<=j->j < n->bey lt true b a base j=true->bey lt true b a base i=true:=λi j k g f=>by
 have c:lt (XQ a (base + j)) b=true:=by simpa [bey] using f
 show lt (XQ a (base + i)) b=true;cases e:lt (XQ a (base + i)) b with
 | true=>rfl
 | false=>rw[h.tr _ _ _ e (d i j k g)] at c;cases c
theorem LD(h:Ask prog w A s κ P lt){b R2:List Keyed}{O p2:Nat}{Q:Bool->SortSt->Prop}(hk:kindOf st=κ)(B:All P (arrOf st))(D:(arrOf st).toList=L++(b++(R2++L2)))(z:Srt lt b)(t:Srt lt R2)(n1:b≠[])(n2:R2≠[])(hp:(nT st)[i]?=some (L.length,b.length,O))(Z:(nT st)[i + 1]?=some (L.length + b.length,R2.length,p2))(T:tx st=none)(q:∀ M st',M.Perm (b++R2)->Srt lt M->kindOf st'=kindOf st->tx st'=none->(arrOf st').toList=L++(M++L2)->nT st'=((nT st).setIfInBounds i (L.length,b.length + R2.length,O)).eraseIdxIfInBounds (i + 1)->Q true st'):wpS (model prog w) A E s (mergeAt' i) Q st:=by
 have N:=h.rf;have c1:=wM n1;have K:=wM n2;have p:(arrOf st).toList=(L++b)++(R2++L2):=by rw[D,fq]
 have o:(arrOf st).size=L.length + b.length + R2.length + L2.length:=by
  rw[<- mu,D];simp;lia
 have G:∀ j,j < b.length->XQ (arrOf st) (L.length + j)=Y b j:=λj e=>BZ D e;have F:∀ j,j < R2.length->XQ (arrOf st) (L.length + b.length + j)=Y R2 j:=λj e=>by
  have:=BZ (i:=j) p e;rw[dV] at this;exact this
 have plain:(∀ x∈b,∀ y∈R2,lt y x=false)->Q true (R5 (kindOf st) (arrOf st) (((nT st).setIfInBounds i (L.length,b.length + R2.length,O)).eraseIdxIfInBounds (i + 1)) (V7 st) (tx st)):=λJ=>
  q (b++R2) _ (Au _) (lu.mpr #[z,t,J]) rfl T (by show (arrOf st).toList=_;rw[D,fq]) rfl
 refine ee (SH ?_);rw[hp,Z];dsimp only;refine ee (show wpS (model prog w) A E s (set _) _ st from zU (f:=λ_=>_) ?_);have e2:XQ (arrOf st) (L.length + b.length)=Y R2 0:=F 0 K;refine ee (bw (a:=arrOf st) (by exact WF 0x54eca5cea365f0eff12ce3d K o) (ee (p7 (a:=arrOf st) h hk (B _ (by lia)) B (by exact WF 0x4f239d3896603feff12ce3d K o) c1 (NN h λi j d c=>by rw[G j c,G i (by lia)];exact z.Yat N d c) λk pk=>?_)));dsimp only;have C:=pk.le;have g1:∀ j,j < k->lt (Y R2 0) (Y b j)=false:=λj e=>by
  have:=pk.lo j e;rw[bey,if_neg (by decide),G j (by lia),e2] at this;simpa using this
 have g2:∀ j,k<=j->j < b.length->lt (Y R2 0) (Y b j)=true:=λj d c=>by
  have:=pk.hi j d c;rw[bey,if_neg (by decide),G j c,e2] at this;simpa using this
 have U:∀ x∈b.take k,∀ y∈R2,lt y x=false:=λx S y R=>by
  let#[i,d,c,rfl]:=EE S;let#[j,h3,rfl]:=x9 R;exact h.tr _ _ _ (g1 i d) (t.Yat N (eA _) h3)
 by_cases z1:b.length - k=0
 .rw[if_pos (by simpa using z1)];refine el (plain ?_);rw[rr (by exact WF 0x2bce9ca8f2528c1b z1 V1)] at U;exact U
 rw[if_neg (by simpa using z1)];have e3:XQ (arrOf st) (L.length + k + (b.length - k) - 1)=Y b (b.length - 1):=by
  rw[show L.length + k + (b.length - k) - 1=L.length + (b.length - 1) by lia];exact G _ (by exact Yp (V3 (Yd c1)))
 refine ee (bw (a:=arrOf st) (by exact WF 0x9dbe77973cd29b898bc54ffcdb472da01380 K o (V3 (Ya C)) (V3 (WF 0x2b0d6b08b718a2df6a787c c1 V1))) (ee (p7 (a:=arrOf st) h hk (B _ (by lia)) B (by exact WF 0x19e8a4502a82d3cfe9fe5 o) (by lia) (NO h λi j d c=>by rw[F j c,F i (by lia)];exact t.Yat N d c) λn V=>?_)));dsimp only;have W:=V.le;have g3:∀ j,j < n->lt (Y R2 j) (Y b (b.length - 1))=true:=λj e=>by
  have:=V.lo j e;rw[bey,if_pos rfl,F j (by lia),e3] at this;exact this
 have g4:∀ j,n<=j->j < R2.length->lt (Y R2 j) (Y b (b.length - 1))=false:=λj d c=>by
  have:=V.hi j d c;rw[bey,if_pos rfl,F j c,e3] at this;exact this
 have f3:∀ x∈b,∀ y∈R2.drop n,lt y x=false:=λx S y R=>by
  let#[i,d,rfl]:=x9 S;let#[j,c,h3,rfl]:=EF R;exact h.tr _ _ _ (z.Yat N (show i<=b.length - 1 by exact Ye d V1) (by lia)) (g4 j c h3)
 by_cases z2:n=0
 .rw[if_pos (by simpa using z2)];refine el (plain ?_);rw[z2,Md] at f3;exact f3
 rw[if_neg (by simpa using z2)];have l:((arrOf st).extract (L.length + k) (L.length + b.length)).toList=b.drop k:=by
  rw[yb,ro,D,Wm,zv (by lia),Gh,SQ (by exact WF 0x4d10b260a7f5a6cb8 C (V3 (WF 224099822)))];rw[show L.length + k - L.length=k by lia,show L.length + b.length - (L.length + k)=(b.drop k).length by rw[KF];lia,List.take_left']
  rfl
 have m:((arrOf st).extract (L.length + b.length) (L.length + b.length + n)).toList=R2.take n:=by
  rw[yb,ro,p,<- dV,List.drop_left',sH,SR W]
  rfl
 generalize S:(arrOf st).extract (L.length + k) (L.length + b.length)=x at l;generalize R:(arrOf st).extract (L.length + b.length) (L.length + b.length + n)=y at m;have px:All P x:=λj e=>by
  rw[X_Y,l,xi];have:j < (b.drop k).length:=by rw[<- l];simpa using e
  rw[KF] at this;rw[<- G _ (by exact WF 0x522eeaf2b8389bf78 this (V3 (Ya C)))];exact B _ (by exact WF 0x5a038250e1254029635a5441d1a2da01380 K o this (V3 (Ya C)))
 have py:All P y:=λj e=>by
  have:j < (R2.take n).length:=by rw[<- m];simpa using e
  rw[ew] at this;rw[X_Y,m,AD (by lia),<- F _ (by lia)];exact B _ (by exact WF 0x3224f5d4218c57246aead8e809bf o this (sg _ _))
 have sx:Srt lt x.toList:=by rw[l];exact ml (Os _ _) z
 have sy:Srt lt y.toList:=by rw[m];exact ml (NM _ _) t
 have zx:x.size=b.length - k:=by rw[<- mu,l,KF]
 have zy:y.size=n:=by rw[<- mu,m,ew];lia
 have hl:∀ u∈y.toList,lt (XQ x (x.size - 1)) u=false:=λu hu=>by
  rw[m] at hu;let#[j,d,c,rfl]:=EE hu;rw[X_Y,l,xi,zx,show k + (b.length - k - 1)=b.length - 1 by lia];exact h.asym _ _ (g3 j d)
 have I:XQ y 0=Y R2 0:=by rw[X_Y,m,AD (by lia)]
 have X:∀ u∈x.toList,lt u (XQ y 0)=false:=λu hu=>by
  rw[l] at hu;let#[j,d,c,rfl]:=EF hu;rw[I];exact h.asym _ _ (g2 j d c)
 have fin:∀ (r:Array Keyed) (st':SortSt),jJ (R5 (kindOf st) (arrOf st) (((nT st).setIfInBounds i (L.length,b.length + R2.length,O)).eraseIdxIfInBounds (i + 1)) (V7 st) (tx st)) st'->Res lt x y r->
   Q true (R5 (kindOf st') (r.toList.zipIdx.foldl (λa (x:Keyed×Nat)=>a.setIfInBounds (L.length + k + x.2) x.1) (arrOf st')) (nT st') (V7 st') (tx st')):=λr st' g res=>by
  let#[H,rs]:=res;rw[l,m] at H;have rl:r.toList.length=b.length - k + n:=by rw[H.length_eq,dV,KF,ew];lia
  have ka:arrOf st'=arrOf st:=g.a;refine q (b.take k++(r.toList++R2.drop n)) _ ?_ ?_ g.k (g.f.trans T) ?_ g.p
  .have:(b.take k++((b.drop k++R2.take n)++R2.drop n)).Perm (b++R2):=by
    rw[fq (b.drop k),sv,<- fq,sv]
   exact(BY _ (Uw _ H)).trans this
  .refine lu.mpr #[ml (NM _ _) z,lu.mpr #[rs,ml (Os _ _) t,λu hu v hv=>?_],λu hu v hv=>?_]
   .rcases gs.mp (H.mem_iff.mp hu) with hu | hu
    .exact f3 u (SO hu) v hv
    .have:=t;rw[<- sv n R2] at this;exact(lu.mp this).2.2 u hu v hv
   .rcases gs.mp hv with hv | hv
    .rcases gs.mp (H.mem_iff.mp hv) with hv | hv
     .have:=z;rw[<- sv k b] at this;exact(lu.mp this).2.2 u hu v hv
     .exact U u hu v (Oz hv)
    .exact U u hu v (SO hv)
  .show (Vo _ (arrOf st') r.toList.zipIdx).toList=_;rw[AO r.toList 0 (arrOf st') (by rw[ka,rl,o];exact WF 0x19e20e2977afd00b8b8e118b67824ed3f W (V3 (Ya C))),ka,rl,Xq];have t1:(arrOf st).toList.take (L.length + k)=L++b.take k:=by
    rw[D,List.take_append,rr (by lia),show L.length + k - L.length=k by lia,SR C]
   have t2:(arrOf st).toList.drop (L.length + k + (b.length - k + n))=R2.drop n++L2:=by
    rw[p,show L.length + k + (b.length - k + n)=(L++b).length + n by rw[dV];lia,Wm,zv (by lia),Gh,sH,SQ W]
   rw[t1,t2];simp -iota only[fq]
 by_cases z3:b.length - k<=n
 .rw[if_pos z3];refine ee (LB h hk px py sx sy (by lia) (by lia) ?_ hl λr st' g res=>?_)
  .rw[I,X_Y,l,xi];exact g2 _ (by lia) (by lia)
  .refine ee (zU (ee (SH (el ?_))));have J:(tx st').isNone=true:=by rw[show tx st'=none from g.f.trans T];rfl
   show Q (tx st').isNone _;rw[J];exact fin r st' g res
 .rw[if_neg z3];refine ee (LC h hk px py sx sy (by lia) (by lia) X hl λr st' g res=>?_);refine ee (zU (ee (SH (el ?_))));have J:(tx st').isNone=true:=by rw[show tx st'=none from g.f.trans T];rfl
  show Q (tx st').isNone _;rw[J];exact fin r st' g res
end
noncomputable abbrev lr (rk:Keyed->Int):Keyed->Keyed->Bool:=λx y=>decide (rk x < rk y)
section
variable {s:Shared}{κ:Su}{P:Keyed->Prop}{rk:Keyed->Int}{st st' st2:SortSt}{a b:Array Keyed}{lo n:Nat}
noncomputable def Kr (rk:Keyed->Int)(a:Array Keyed)(i:Nat):Int:=rk (XQ a i)
def Up (rk:Keyed->Int)(a:Array Keyed)(lo n:Nat):Prop:=∀ i j,i<=j->j < n->Kr rk a (lo + i)<=Kr rk a (lo + j)
def Dn (rk:Keyed->Int)(a:Array Keyed)(lo n:Nat):Prop:=∀ i j,i<=j->j < n->Kr rk a (lo + j)<=Kr rk a (lo + i)
structure Chg (lo:Nat) (st st':SortSt):Prop where
 k:kindOf st'=kindOf st
 p:nT st'=nT st
 f:tx st'=tx st
 a:(arrOf st').toList.Perm (arrOf st).toList
 x:∀ k,k < lo->XQ (arrOf st') k=XQ (arrOf st) k
theorem Chg.refl:Chg lo st st:=#[rfl,rfl,rfl,Au _,λ_ _=>rfl]
theorem Chg.size(h:Chg lo st st'):(arrOf st').size=(arrOf st).size:=by
 rw[<- mu,<- mu];exact h.a.length_eq
theorem pI:All P a↔∀ x∈a.toList,P x:=by
 constructor
 .intro h x c;let#[i,b,rfl]:=x9 c;rw[<- X_Y];exact h i (by simpa using b)
 .intro h i b;refine h _ ?_;have:=yR b;rw[<- nL] at this;exact ek this
theorem Chg.all(h:Chg lo st st')(p:All P (arrOf st)):All P (arrOf st'):=pI.mpr λx a=>pI.mp p x (h.a.mem_iff.mp a)
theorem yQ:XQ a i=(a[i]?).getD (.none,.none):=by
 delta XQ;rw[S6]
theorem B0(b:j<=a.size):XQ (mirror a i j ((j - i) / 2)) k=if i<=k/\k < j then XQ a (i + j - 1 - k) else XQ a k:=by
 rw[yQ,getElem?_mirror_all b];split <;> rw[yQ]
theorem Chg.rev(h:Chg lo st st')(hi:lo<=i)(a:j<=(arrOf st').size):Chg lo st (setArr st' (mirror (arrOf st') i j ((j - i) / 2))):=
 #[h.k,h.p,h.f,((mirror_perm _ _ _ _).toList).trans h.a,λk hk=>by
  show XQ (mirror (arrOf st') i j ((j - i) / 2)) k=_;rw[B0 a,if_neg (by lia)];exact h.x k hk]
theorem oE(h:Ask prog w A s κ P (lr rk)){Q:Option Bool->SortSt->Prop}(hk:kindOf st=κ)(a:All P (arrOf st))(hi:i < (arrOf st).size)(b:j < (arrOf st).size)(q:Q (some (decide (Kr rk (arrOf st) i < Kr rk (arrOf st) j))) st):wpS (model prog w) A E s (ltAt' i j) Q st:=by
 rw[ltAt'_eq];exact ee (SH (ee (bw hi (ee (bw b (h.ask hk (a i hi) (a j b) q))))))
theorem Up.snoc(h:Up rk a lo n)(d:1<=n)(e:Kr rk a (lo + n - 1)<=Kr rk a (lo + n)):Up rk a lo (n + 1):=λi j c f=>by
 by_cases z:j < n
 .exact h i j c z
 .have b:j=n:=by lia
  subst b;by_cases z2:i=j
  .simp_all
  .have:=h i (j - 1) (by lia) (by exact Yp (V3 (WF 5127833185609 d)));rw[show lo + (j - 1)=lo + j - 1 by lia] at this;lia
theorem Dn.snoc(h:Dn rk a lo n)(d:1<=n)(e:Kr rk a (lo + n)<=Kr rk a (lo + n - 1)):Dn rk a lo (n + 1):=λi j c f=>by
 by_cases z:j < n
 .exact h i j c z
 .have b:j=n:=by lia
  subst b;by_cases z2:i=j
  .simp_all
  .have:=h i (j - 1) (by lia) (by lia);rw[show lo + (j - 1)=lo + j - 1 by lia] at this;lia
theorem Gs(h:Ask prog w A s κ P (lr rk)){m:Nat}{R:Option (Option Nat)×Nat->SortSt->Prop}{b:Nat->Option (Option Nat)×Nat->StateT SortSt Sem (ForInStep (Option (Option Nat)×Nat))}(hk:kindOf st=κ)(j:All P (arrOf st))(hs:lo + nrem<=(arrOf st).size)(h1:1<=m)(q:m<=nrem)(d:Up rk (arrOf st) lo m)(k:∀ x n,∃ g:Option Bool->StateT SortSt Sem (ForInStep (Option (Option Nat)×Nat)),b x (none,n)=(ltAt' (lo + n) (lo + n - 1) >>= g)/\g (some true)=pure (.done (none,n))/\g (some false)=pure (.yield (none,n + 1)))(r:∀ n,m<=n->n<=nrem->Up rk (arrOf st) lo n->(n=nrem\/Kr rk (arrOf st) (lo + n) < Kr rk (arrOf st) (lo + n - 1))->R (none,n) st):wpS (model prog w) A E s (forIn [m:nrem] (none,m) b) R st:=by
 refine rp (I:=λx c a=>a=st/\c=(none,x)/\m<=x/\Up rk (arrOf st) lo x) ?_ ?_ #[rfl,rfl,cb _,d]
 .rintro x c a p f ⟨rfl,rfl,i,d⟩;let#[g,e,o,l]:=k x x;rw[e];refine ee (oE h hk j (by lia) (by exact WF 0x1ba20ea61d3e4c0a8baa5 f hs V2) ?_);by_cases z:Kr rk (arrOf a) (lo + x) < Kr rk (arrOf a) (lo + x - 1)
  .rw[decide_eq_true z,o];exact el (r x i (by lia) d (.inr z))
  .rw[decide_eq_false z,l];exact el #[rfl,rfl,by lia,d.snoc (by lia) (by lia)]
 .simp_all
theorem AH(b:j<=a.size)(c:∀ k,i<=k->k < j->Kr rk a k=Kr rk a (j - 1))(k:Nat):Kr rk (mirror a i j ((j - i) / 2)) k=Kr rk a k:=by
 delta Kr at c ⊢;rw[B0 b];split
 .grind
 .rfl
theorem Dn.same(h:Dn rk a lo n)(e:∀ k,Kr rk b k=Kr rk a k):Dn rk b lo n:=λi j d c=>by rw[e,e];exact h i j d c
theorem MB(h:Ask prog w A s κ P (lr rk)){Q:Option Nat->SortSt->Prop}(hk:kindOf st=κ)(G:All P (arrOf st))(h1:1<=nrem)(hs:lo + nrem<=(arrOf st).size)(q:∀ n st',Chg lo st st'->1<=n->n<=nrem->Up rk (arrOf st') lo n->Q (some n) st'):wpS (model prog w) A E s (countRun' lo nrem) Q st:=by
 have v:∀ (n:Nat) (st':SortSt) {m:StateT SortSt Sem (Option Nat)} {r:Nat->Option (Option Nat)×Nat->StateT SortSt Sem (ForInStep (Option (Option Nat)×Nat))} {f:Option (Option Nat)×Nat->StateT SortSt Sem (Option Nat)},Chg lo st st'->1<=n->n<=nrem->Dn rk (arrOf st') lo n->
   m=(reverseSlice' lo (lo + n) >>= λ_=>forIn [n:nrem] (none,n) r >>= f)->(∀ k,f (none,k)=pure (some k))->
   (∀ x n,∃ g:Option Bool->StateT SortSt Sem (ForInStep (Option (Option Nat)×Nat)),r x (none,n)=(ltAt' (lo + n) (lo + n - 1) >>= g)/\g (some true)=pure (.done (none,n))/\g (some false)=pure (.yield (none,n + 1)))->wpS (model prog w) A E s m Q st':=by
  intro n st' m r f c K t o e hf hb;subst e;have O:=c.size;have d:=c.rev (i:=lo) (j:=lo + n) (cb _) (by lia);rw[reverseSlice'_eq];refine ee (zU (ee (Gs h (d.k.trans hk) (d.all G) (by rw[d.size];lia) K t ?_ hb λk y h4 B _=>?_)))
  .intro i j u N;show Kr rk (mirror (arrOf st') lo (lo + n) ((lo + n - lo) / 2)) _<=Kr rk (mirror (arrOf st') lo (lo + n) ((lo + n - lo) / 2)) _;delta Kr;rw[B0 (by lia),B0 (by lia),if_pos (by lia),if_pos (by lia)];have:=o (n - 1 - j) (n - 1 - i) (by exact WF 0x19be77d123097a306ace5 u V1 (V3 (Ye N V1))) (by exact Yz V2 (V3 (WF 5127833185609 K)));rw[show lo + (lo + n) - 1 - (lo + i)=lo + (n - 1 - i) by lia,show lo + (lo + n) - 1 - (lo + j)=lo + (n - 1 - j) by lia];exact this
  .rw[hf];exact el (q k _ d (by lia) h4 B)
 refine ee (Gs h hk G hs (cb 1) h1 (λi j u N=>by cases (show i=j by lia);exact pF _) (λx n=>#[_,rfl,rfl,rfl]) λn J t B T=>?_);dsimp only;by_cases z:n=nrem
 .rw[if_pos (by simpa using z)];exact el (q n st .refl J t B)
 rw[if_neg (by simpa using z)];have a4:=T.resolve_left z;by_cases K:n > 1
 case' pos=>
  rw[if_pos K];refine ee (oE h hk G (by lia) (by lia) ?_);by_cases X:Kr rk (arrOf st) lo < Kr rk (arrOf st) (lo + n - 1)
  .rw[decide_eq_true X];exact el (q n st .refl J t B)
  rw[decide_eq_false X];have p:∀ k,lo<=k->k < lo + n->Kr rk (arrOf st) k=Kr rk (arrOf st) (lo + n - 1):=λk D y=>by
   have Z:=B 0 (k - lo) (by lia) (by exact WF 0x527f1820c5790aef8 y (V3 (Ya D)));have Y:=B (k - lo) (n - 1) (by exact WF 0x2d0d52627598aba7fa67e5 y V1 (V3 (Ya D))) (by lia);rw[Xq] at Z;rw[show lo + (k - lo)=k by lia] at Z Y;rw[show lo + (n - 1)=lo + n - 1 by lia] at Y;lia
  have U:Chg lo st (setArr st (mirror (arrOf st) lo (lo + n) ((lo + n - lo) / 2))):=Chg.rev .refl (cb _) (by lia);have o:Dn rk (arrOf (setArr st (mirror (arrOf st) lo (lo + n) ((lo + n - lo) / 2)))) lo (n + 1):=by
   have H:=AH (rk:=rk) (a:=arrOf st) (i:=lo) (j:=lo + n) (by lia) p;refine Dn.same (a:=arrOf st) ?_ H;refine Dn.snoc (λi j u N=>?_) (by lia) (by lia);rw[p _ (by lia) (by exact WF 0xec17d4c9c964b N),p (lo + i) (by lia) (by lia)];exact pF _
  refine ee (zU ?_);show wpS _ _ _ _ _ _ (setArr st (mirror (arrOf st) lo (lo + n) ((lo + n - lo) / 2)));generalize setArr st (mirror (arrOf st) lo (lo + n) ((lo + n - lo) / 2))=R at U o ⊢
 case' neg=>
  rw[if_neg K];have e1:n=1:=by lia
  have c0:Chg lo st st:=.refl;have d0:Dn rk (arrOf st) lo (n + 1):=Dn.snoc (λi j u N=>by cases (show i=j by lia);exact pF _) (by lia) (by lia);obtain⟨R,e2,U,o⟩:∃ x,x=st/\Chg lo st x/\Dn rk (arrOf x) lo (n + 1):=#[st,rfl,c0,d0];rw[<- e2]
 all_goals
  refine ee (l5 ?_)
  try dsimp only
  refine ee (RA (rp (I:=λx c st'=>∃ b,c=(none,x,b)/\Chg lo st st'/\Dn rk (arrOf st') lo x/\b + 1<=x/\∀ k,lo + x - (b + 1)<=k->k < lo + x->Kr rk (arrOf st') k=Kr rk (arrOf st') (lo + x - 1))
   (Q:=λc st'=>∃ m b,c=(none,m,b)/\1<=m/\m<=nrem/\Chg lo st st'/\Dn rk (arrOf st') lo m/\b + 1<=m/\∀ k,lo + m - (b + 1)<=k->k < lo + m->Kr rk (arrOf st') k=Kr rk (arrOf st') (lo + m - 1)) ?_ ?_ #[0,rfl,U,o,by lia,λk D y=>by congr 1;lia]) ?_)
  .rintro x c st' hx S hI;refine ex1 hI λb e l=>?_;subst e;have d:=l.1;have o:=l.2.1;have C:=l.2.2.1;have p:=l.2.2.2;clear l hI;have O:=d.size;dsimp only;refine ee (oE h (d.k.trans hk) (d.all G) (by lia) (by exact WF 0x9418866f96a1905cbcc33a92 hs S O V2) ?_);by_cases V:Kr rk (arrOf st') (lo + x) < Kr rk (arrOf st') (lo + x - 1)
   .rw[decide_eq_true V];dsimp only;rw[if_pos rfl];by_cases F:b > 0
    .rw[if_pos F];refine ee (zU (el ?_));have H:=AH (rk:=rk) (a:=arrOf st') (i:=lo + x - (b + 1)) (j:=lo + x) (by lia) p;exact#[0,rfl,d.rev (by exact WF 0xeac74e9d783dce5cea8 C V1) (by lia),Dn.same (o.snoc (by lia) (by lia)) H,by lia,λk D y=>by congr 1;lia]
    .rw[if_neg F];exact el #[0,rfl,d,o.snoc (by lia) (by lia),by lia,λk D y=>by congr 1;lia]
   .rw[decide_eq_false V];dsimp only;rw[if_neg (by decide)];refine ee (oE h (d.k.trans hk) (d.all G) (by lia) (by lia) ?_);by_cases W:Kr rk (arrOf st') (lo + x - 1) < Kr rk (arrOf st') (lo + x)
    .rw[decide_eq_true W];exact el #[x,b,rfl,by lia,by lia,d,o,C,p]
    .rw[decide_eq_false W];refine el #[b + 1,rfl,d,o.snoc (by lia) (by lia),by lia,λk D y=>?_];rw[show lo + (x + 1) - 1=lo + x by lia];by_cases zk:k=lo + x
     .rw[zk]
     .rw[p k (by lia) (by lia)];lia
  .rintro c st' hI;refine ex1 hI λb e l=>?_;subst e;have d:=l.1;have o:=l.2.1;have C:=l.2.2.1;have p:=l.2.2.2;clear l hI;rw[show max (n + 1) nrem=nrem by lia] at o C p ⊢;exact#[nrem,b,rfl,by lia,cb _,d,o,C,p]
  .rintro c st' hI;refine ex2 hI λm b e l=>?_;subst e;have M:=l.1;have L:=l.2.1;have d:=l.2.2.1;have o:=l.2.2.2.1;have C:=l.2.2.2.2.1;have p:=l.2.2.2.2.2;clear l hI;have O:=d.size;dsimp only;by_cases F:b > 0
   .rw[if_pos F];have H:=AH (rk:=rk) (a:=arrOf st') (i:=lo + m - (b + 1)) (j:=lo + m) (by lia) p;refine ee (zU ?_);exact v m _ (d.rev (i:=lo + m - (b + 1)) (j:=lo + m) (by lia) (by lia)) M L (Dn.same o H) rfl (λk=>rfl) (λx n=>#[_,rfl,rfl,rfl])
   .rw[if_neg F];exact v m _ d M L o rfl (λk=>rfl) (λx n=>#[_,rfl,rfl,rfl])
theorem PK{src d:Nat}(hs:src < a.size)(hd:d<=src):XQ (bubble a src d) k=if k=src - d then XQ a src else if src - d < k/\k<=src then XQ a (k - 1) else XQ a k:=by
 rw[yQ,getElem?_bubble hs d hd];split
 .rw[yQ]
 .split <;> rw[yQ]
theorem MK(h:Ask prog w A s κ P (lr rk)){ok:Nat}{Q:Bool->SortSt->Prop}(hk:kindOf st=κ)(M:All P (arrOf st))(hs:lo + n<=(arrOf st).size)(h1:1<=ok)(T:ok<=n)(f:Up rk (arrOf st) lo ok)(q:∀ st',Chg lo st st'->Up rk (arrOf st') lo n->Q true st'):wpS (model prog w) A E s (binarySort' lo n ok) Q st:=by
 have F:max ok 1=ok:=by lia
 refine ee (RA (rp (I:=λk c st'=>c=(none,())/\Chg lo st st'/\Up rk (arrOf st') lo k) (Q:=λc st'=>c=(none,())/\Chg lo st st'/\Up rk (arrOf st') lo n) ?_ ?_ #[rfl,.refl,by rw[F];exact f]) ?_)
 .rintro k c e O N ⟨rfl,g,f⟩;have S:=g.size;dsimp only;refine ee (RA (rp (I:=λt c st'=>st'=e/\∃ l r,c=(none,l,r)/\l<=r/\r<=k/\r - l<=k - t/\(∀ i,i < l->Kr rk (arrOf e) (lo + i)<=Kr rk (arrOf e) (lo + k))/\∀ i,r<=i->i < k->Kr rk (arrOf e) (lo + k)<=Kr rk (arrOf e) (lo + i))
   (Q:=λc st'=>st'=e/\∃ l,c=(none,l,l)/\l<=k/\(∀ i,i < l->Kr rk (arrOf e) (lo + i)<=Kr rk (arrOf e) (lo + k))/\∀ i,l<=i->i < k->Kr rk (arrOf e) (lo + k)<=Kr rk (arrOf e) (lo + i)) ?_ ?_ #[rfl,0,k,rfl,by lia,by lia,by lia,(λi U=>by lia),(λi C x=>by lia)]) ?_)
  .rintro t c b _ J ⟨rfl,l,r,rfl,C,x,B,p,o⟩;dsimp only;by_cases z:l≥r
   .rw[if_pos z];have:l=r:=by lia
    subst this;exact el #[rfl,l,rfl,x,p,o]
   rw[if_neg z];refine ee (oE h (g.k.trans hk) (g.all M) (by lia) (by lia) ?_);by_cases D:Kr rk (arrOf b) (lo + k) < Kr rk (arrOf b) (lo + (l + r) / 2)
   .rw[decide_eq_true D];refine el #[rfl,l,(l + r) / 2,rfl,by exact Yw z (V5 (by decide)),by lia,by exact WF 0x53d7bc78166a6f1579863190c95ea256af5262a25288d99 B (sm _ _) V1 V1 (V3 (Yw z (V5 (by decide)))) (V3 (Yc J)),p,λi y R=>?_];have:=f ((l + r) / 2) i y R;lia
   .rw[decide_eq_false D];refine el #[rfl,(l + r) / 2 + 1,r,rfl,by exact YA z (sm _ _),by lia,by exact WF 0x3125a5ea24a3c3bd7b9fd3174f81d9d1f6b29e76582854cb6d99 B (V5 (by decide)) V1 V1 (V3 (YA z (sm _ _))) (V3 (Yc J)),λi y=>?_,o];have:=f i ((l + r) / 2) (by exact WF 183415229342 y) (by lia);lia
  .rintro c b ⟨rfl,l,r,rfl,C,x,B,p,o⟩;have:l=r:=by lia
   subst this;exact#[rfl,l,rfl,x,p,o]
  .rintro c b ⟨rfl,l,rfl,C,p,o⟩;dsimp only;refine ee (zU (el ?_));have K:∀ j,XQ (bubble (arrOf b) (lo + k) (lo + k - (lo + l))) j=if j=lo + l then XQ (arrOf b) (lo + k) else if lo + l < j/\j<=lo + k then XQ (arrOf b) (j - 1) else XQ (arrOf b) j:=λj=>by
    have:=PK (a:=arrOf b) (src:=lo + k) (d:=lo + k - (lo + l)) (k:=j) (by lia) (by exact WF 0xdb3c6c32a1a0b V2);rw[show lo + k - (lo + k - (lo + l))=lo + l by lia] at this;exact this
   refine#[rfl,#[g.k,g.p,g.f,((bubble_perm _ _ _).toList).trans g.a,λj v=>?_],λi j m v=>?_]
   .show XQ (bubble (arrOf b) (lo + k) (lo + k - (lo + l))) j=_;rw[K,if_neg (by lia),if_neg (by lia)];exact g.x j v
   .show Kr rk (bubble (arrOf b) (lo + k) (lo + k - (lo + l))) (lo + i)<=Kr rk (bubble (arrOf b) (lo + k) (lo + k - (lo + l))) (lo + j);have L:∀ j,Kr rk (bubble (arrOf b) (lo + k) (lo + k - (lo + l))) (lo + j)=if j=l then Kr rk (arrOf b) (lo + k) else if l < j/\j<=k then Kr rk (arrOf b) (lo + (j - 1)) else Kr rk (arrOf b) (lo + j):=λj=>by
     delta Kr;rw[K];by_cases z1:j=l
     .rw[if_pos (by lia),if_pos z1]
     .rw[if_neg (by lia),if_neg z1];by_cases z2:l < j/\j<=k
      .rw[if_pos (by lia),if_pos z2,show lo + j - 1=lo + (j - 1) by lia]
      .rw[if_neg (by lia),if_neg z2]
    rw[L,L];by_cases H:i=l
    .rw[if_pos H];by_cases u:j=l
     .rw[if_pos u];exact pF _
     .rw[if_neg u,if_pos (by lia)];exact o (j - 1) (by lia) (by lia)
    .rw[if_neg H];by_cases i2:l < i
     .rw[if_pos (by lia),if_neg (by lia),if_pos (by lia)];exact f (i - 1) (j - 1) (by exact WF 0x867fd655438e22f9b8 m V1 (V3 (Yq i2))) (by exact YP v (V3 (WF 0xe51fdce07308b m i2)))
     .rw[if_neg (by lia)];by_cases u:j=l
      .rw[if_pos u];exact p i (by lia)
      .rw[if_neg u];by_cases G:l < j
       .rw[if_pos (by lia)];exact f i (j - 1) (by exact WF 0x4cab6a2fc6a5ba778 i2 G V1) (by exact YP v (V3 (Yq G)))
       .rw[if_neg (by lia)];exact f i j m (by lia)
 .rintro c e ⟨rfl,g,f⟩;rw[F,show max ok n=n by lia] at f;exact#[rfl,g,f]
 .rintro c e ⟨rfl,g,f⟩;exact el (q e g f)
end
noncomputable abbrev p2 (t:Nat×Nat×Nat):Nat×Nat:=(t.1,t.2.1)
noncomputable def starts:Nat->List (List Keyed)->List (Nat×Nat)
 | _,[]=>[]
 | k,R::rs=>(k,R.length)::starts (k + R.length) rs
theorem nC:∀ (rs:List (List Keyed)) (k:Nat),(starts k rs).length=rs.length
 | [],_=>rfl
 | R::rs,k=>by rw[starts,eh,nC rs,eh]
theorem starts_app:∀ (a rs:List (List Keyed)) (k:Nat),starts k (a++rs)=starts k a++starts (k + a.flatten.length) rs
 | [],rs,k=>by simp -iota [starts]
 | R::a,rs,k=>by
  rw[KI,starts,starts_app a rs,starts,KI,ly,dV,Xa]
theorem EI {a b:Type}(f:a->b):∀ (l:List a) (i:Nat),(l.eraseIdx i).map f=(l.map f).eraseIdx i
 | [],_=>rfl
 | x::l,0=>rfl
 | x::l,i + 1=>by rw[Sa,eN,eN,Sa,EI f l i]
theorem yx:∀ {rs:List (List Keyed)},(∀ R∈rs,R≠[])->rs.length<=rs.flatten.length
 | [],_=>cb _
 | R::rs,h=>by
  have b:=wM (h R (.head _));have a:=yx (rs:=rs) λR hR=>h R (.tail _ hR);rw[eh,ly,dV];lia
section
variable {s:Shared}{κ:Su}{P:Keyed->Prop}{rk:Keyed->Int}{st st0 st' st2:SortSt}{a b:Array Keyed}{lo n:Nat}{rest:List Keyed}
structure Cv (rk:Keyed->Int) (st0 st:SortSt) (rs:List (List Keyed)) (rest:List Keyed):Prop where
 a:(arrOf st).toList=rs.flatten++rest
 ne:∀ R∈rs,R≠[]
 so:∀ R∈rs,Srt (lr rk) R
 p:(nT st).toList.map p2=starts 0 rs
 k:kindOf st=kindOf st0
 f:tx st=none
 pm:(arrOf st).toList.Perm (arrOf st0).toList
theorem Cv.psz{rs:List (List Keyed)}(c:Cv rk st0 st rs rest):(nT st).size=rs.length:=by
 have:=congrArg R9 c.p;rw[lM0,nC,mu] at this;exact this
theorem Cv.all{rs:List (List Keyed)}(c:Cv rk st0 st rs rest)(a:All P (arrOf st0)):All P (arrOf st):=pI.mpr λx b=>pI.mp a x (c.pm.mem_iff.mp b)
theorem EH(h:Ask prog w A s κ P (lr rk)){rs:List (List Keyed)}{Q:Bool->SortSt->Prop}(hk:kindOf st0=κ)(t:All P (arrOf st0))(c:Cv rk st0 st rs rest)(hi:i + 1 < rs.length)(q:∀ st' e,Cv rk st0 st' e rest->e.flatten.length=rs.flatten.length->e.length + 1=rs.length->Q true st'):wpS (model prog w) A E s (mergeAt' i) Q st:=by
 obtain⟨a,d,R2,b,rfl,x⟩:∃ a d R2 b,rs=a++d::R2::b/\a.length=i:=by
  refine#[rs.take i,rs[i],rs[i + 1],rs.drop (i + 2),?_,by grind];rw[<- vr,<- vr,sv]
 have g:=c.p;rw[starts_app,starts,starts,Q2] at g;have j:(starts 0 a).length=i:=by rw[nC,x]
 have m:((nT st).toList.map p2)[i]?=some (a.flatten.length,d.length):=by
  rw[g,rb (by lia),j,S5];rfl
 have l:((nT st).toList.map p2)[i + 1]?=some (a.flatten.length + d.length,R2.length):=by
  rw[g,rb (by lia),j,sH];rfl
 rw[ef] at m l;let#[#[H,G,J],o,C]:=Jv.mp m;let#[#[F,D,I],n,B]:=Jv.mp l;cases C;cases B;rw[nL] at o n;refine LD h (L:=a.flatten) (L2:=b.flatten++rest) (c.k.trans hk) (c.all t) ?_ (c.so d (by simp)) (c.so R2 (by simp)) (c.ne d (by simp)) (c.ne R2 (by simp)) o n c.f λM st' k r v y p u=>?_
 .rw[c.a];simp
 .have f:M.length=d.length + R2.length:=by rw[k.length_eq,dV]
  refine q st' (a++M::b) #[?_,λR hR=>?_,λR hR=>?_,?_,v.trans c.k,y,?_] ?_ ?_
  .rw[p];simp
  .rcases gs.mp hR with hR | hR
   .exact c.ne R (by simp -iota [hR])
   .rcases cm.mp hR with rfl | hR
    .intro z;rw[z] at f;have:=wM (c.ne d (by simp));simp -iota at f;lia
    .exact c.ne R (by simp -iota [hR])
  .rcases gs.mp hR with hR | hR
   .exact c.so R (by simp -iota [hR])
   .rcases cm.mp hR with rfl | hR
    .exact r
    .exact c.so R (by simp -iota [hR])
  .rw[u,Array.toList_eraseIdxIfInBounds,Tu,EI,Xr,g,starts_app,starts,Q2,f];rw[List.set_append_right _ _ (by lia),List.eraseIdx_append_of_length_le (by lia),j,S5,sH,Q3,Sa,List.eraseIdx_cons_zero,Xa]
  .refine R1 ?_ c.pm;rw[p,c.a];simp -iota only[vx,ly,fq];refine BY _ ?_;rw[<- fq d];exact Uw _ k
  .simp -iota only[vx,ly,dV,f];lia
  .simp -iota only[dV,eh];lia
end
section
variable {s:Shared}{κ:Su}{P:Keyed->Prop}{rk:Keyed->Int}{st st0 st' st2:SortSt}{a b:Array Keyed}{lo n:Nat}{rest:List Keyed}{rs:List (List Keyed)}
theorem Cv.chg(c:Cv rk st0 st rs rest)(g:Chg rs.flatten.length st st'):∃ a,Cv rk st0 st' rs a/\a.length=rest.length:=by
 have d:(arrOf st').toList.length=(arrOf st).toList.length:=g.a.length_eq;have b:=congrArg R9 c.a;rw[dV] at b;have e:(arrOf st').toList.take rs.flatten.length=rs.flatten:=by
  refine TK λk=>?_;by_cases z:k < rs.flatten.length
  .rw[Pc z,uf (by exact WF 0x916d3ba52ef15f7b25 d b z),uf z,<- X_Y,g.x k z,X_Y,c.a]
   congr 1
   delta Y;rw[lx,lx,hZ z]
  .rw[Bk (by rw[ew];exact WF 0x8375363ab14b z (xr _ _)),Bk (by exact WF 6567239198 z)]
 refine#[(arrOf st').toList.drop rs.flatten.length,#[?_,c.ne,c.so,by rw[g.p];exact c.p,g.k.trans c.k,g.f.trans c.f,g.a.trans c.pm],by simp_all]
 conv=>lhs;rw[<- sv rs.flatten.length (arrOf st').toList,e]
theorem Ds(e:a.toList=rs.flatten++rest)(u:Up rk a rs.flatten.length n)(o:n<=rest.length):Srt (lr rk) (rest.take n):=by
 refine TF.mpr λi j h f g=>?_;rw[ew] at h f;have d:a.toList=rs.flatten++(rest++[]):=by rw[e,jn]
 have m:=BZ (i:=i) d (by lia);have k:=BZ (i:=j) d (by lia);have:=u i j (by lia) (by lia);unfold Kr at this;rw[m,k] at this;rw[V8,V8];have c:=uf (l:=rest) (i:=i) (by lia);have b:=uf (l:=rest) (i:=j) (by lia);rw[gE0 (by lia)] at c b;rw[fS c,fS b];exact decide_eq_false (by lia)
theorem Cv.push(c:Cv rk st0 st rs rest)(so:Srt (lr rk) (rest.take n))(h1:1<=n)(a:n<=rest.length)(g:Nat):Cv rk st0 (R5 (kindOf st) (arrOf st) ((nT st).push (rs.flatten.length,n,g)) (V7 st) (tx st)) (rs++[rest.take n]) (rest.drop n):=by
 have tl:(rest.take n).length=n:=by rw[ew];lia
 refine#[?_,λR hR=>?_,λR hR=>?_,?_,c.k,c.f,c.pm]
 .rw[c.a];simp
 .rcases gs.mp hR with hR | hR
  .exact c.ne R hR
  .rw[ih.mp hR];intro z;rw[z] at tl;simp -iota at tl;lia
 .rcases gs.mp hR with hR | hR
  .exact c.so R hR
  .rw[ih.mp hR];exact so
 .rw[hW,er,c.p,starts_app,starts,tl,Q2]
  rfl
theorem Bl {f:Nat×Nat×Nat->Nat×Nat×Nat}(a:∀ t,p2 (f t)=p2 t):∀ (l:List (Nat×Nat×Nat)) (i:Nat),(l.modify i f).map p2=l.map p2
 | [],_=>by simp
 | x::l,0=>by simp -iota [a]
 | x::l,i + 1=>by rw[List.modify_succ_cons,eN,eN,Bl a l i]
theorem Cv.mod(c:Cv rk st0 st rs rest){f:Nat×Nat×Nat->Nat×Nat×Nat}(a:∀ t,p2 (f t)=p2 t)(i:Nat):Cv rk st0 (R5 (kindOf st) (arrOf st) ((nT st).modify i f) (V7 st) (tx st)) rs rest:=
 #[c.a,c.ne,c.so,by show ((nT st).modify i f).toList.map p2=_;rw[Array.toList_modify,Bl a];exact c.p,c.k,c.f,c.pm]
theorem LY{c:Prop}[Decidable c]{x y n:Nat}(h1:x + 1 < n)(a:y + 1 < n):(if c then x else y) + 1 < n:=by split <;> assumption
theorem G5(h:Ask prog w A s κ P (lr rk)){Q:Unit->SortSt->Prop}(hk:kindOf st=κ)(H:All P (arrOf st))(hp:nT st=#[])(hf:tx st=none)(q:∀ st',(arrOf st').toList.Perm (arrOf st).toList->Srt (lr rk) (arrOf st').toList->tx st'=none->Q () st'):wpS (model prog w) A E s sortRuns' Q st:=by
 have c0:Cv rk st st [] (arrOf st).toList:=#[rfl,(λR hR=>by cases hR),(λR hR=>by cases hR),by rw[hp];rfl,rfl,hf,Au _];have J:∀ {st' a rest},Cv rk st st' a rest->a.flatten.length + rest.length=(arrOf st).size:=λ{st' a rest} c=>by
  have D:=c.pm.length_eq;rw[c.a,dV,mu] at D;exact D
 refine ee (SH ?_);dsimp only;show wpS (model prog w) A E s _ Q st;generalize hz:(arrOf st).size=size at J;refine ee (RA (rp (I:=λt c st'=>∃ a rest,c=(none,a.flatten.length)/\Cv rk st st' a rest/\t<=a.flatten.length)
  (Q:=λc st'=>∃ a,c=(none,a.flatten.length)/\Cv rk st st' a []) ?_ ?_ #[[],_,rfl,c0,cb _]) ?_)
 .rintro t c p _ ht hI;refine ex2 hI λa rest e b=>?_;subst e;have k:=b.1;have hm:=b.2;clear b hI;have v:=J k;dsimp only;by_cases z:a.flatten.length≥size
  .refine wif z ?_;refine el #[a,rfl,?_];have e:rest=[]:=Qn (by lia);rw[<- e];exact k
  refine dF z ?_;have C:(arrOf p).size=size:=by
   have:=k.pm.length_eq;rw[mu,mu,hz] at this;exact this
  refine ee (MB h (k.k.trans hk) (k.all H) (by exact WF 0x2bbda1cf742e318b z V1) (by exact WF 0x4d25b6ac036b9edf8 C (V3 (Yg z))) λn1 i X D h2 T=>?_);let#[rest2,g,O]:=k.chg X;dsimp only;split
  case' isTrue zn=>
   refine ee (l5 (ee (MK h (g.k.trans hk) (g.all H) (by rw[X.size];exact WF 0x19e8ad16cfca97b4c8e25 C (xr _ _) (V3 (Yg z))) D (by lia) T λa1 g3 L=>?_)));let#[iQ,K,V]:=g.chg g3;refine dF (by decide) ?_;have so:Srt (lr rk) (iQ.take (min (size - a.flatten.length) (WI size size 0))):=Ds K.a L (by exact WF 0x2e573353fbf268e8b124407542bf v O V (xr _ _) (V3 (Yg z)));have o:1<=min (size - a.flatten.length) (WI size size 0):=by
    have Z:n1 < WI size size 0:=zn;lia
   obtain⟨n,m⟩:∃ n,n=min (size - a.flatten.length) (WI size size 0):=#[_,rfl];rw[<- m] at so o;have l:n<=iQ.length:=by exact WF 0xf90773e04c1689e7db1f44fcaa176ec v O V m (xr _ _) (V3 (Yg z))
   clear zn
   delta WI at m;rw[<- m]
   clear m
  case' isFalse zn=>
   have K:=g;have so:Srt (lr rk) (rest2.take n1):=Ds g.a T (by exact WF 0x89a2d74ca0765c5a4f50ce92 v h2 O (V3 (Yg z)));have o:=D;have l:n1<=rest2.length:=by lia
   clear zn
   obtain⟨n,rfl⟩:∃ n,n=n1:=#[_,rfl];obtain⟨iQ,rfl⟩:∃ r,r=rest2:=#[_,rfl]
  all_goals
   refine ee (SH ?_)
   try dsimp only
   split
   .rename_i U m1 pw hb;refine ee (RA (rp (I:=λt c st'=>∃ d,c=(none,())/\Cv rk st st' d iQ/\d.flatten.length=a.flatten.length)
     (Q:=λc st'=>∃ d,c=(none,())/\Cv rk st st' d iQ/\d.flatten.length=a.flatten.length) ?_ ?_ #[a,rfl,K,rfl]) ?_)
    .rintro t c j _ a2 hI;refine ex1 hI λd e b=>?_;subst e;have B:=b.1;have y:=b.2;clear b hI;refine ee (SH ?_)
     try dsimp only
     have G:=B.psz;split
     .rename_i u1 u2 N W;have z2:(nT j).size > 1:=by
       by_cases z2:(nT j).size > 1
       .exact z2
       .rw[if_neg z2] at W;cases W
      split
      .exact el #[d,rfl,B,y]
      .refine ee (EH h hk H B (show (nT j).size - 2 + 1 < _ by exact YG G (V3 (WF 5128315690569 z2))) λM u F Y _=>?_);refine dF (by decide) ?_;exact el #[u,rfl,F,Y.trans y]
     .exact el #[d,rfl,B,y]
    .rintro c j hc;exact hc
    .rintro c j hI;refine ex1 hI λd e b=>?_;subst e;have B:=b.1;have y:=b.2;clear b hI;dsimp only;refine ee (zU (ee (zU (el #[d++[iQ.take n],iQ.drop n,?_,?_,?_]))))
     .simp -iota only[vx,ly,RJ,jn,dV,ew];rw[y,Q8 l]
     .rw[<- y];exact(B.mod (f:=λx=>(x.1,x.2.1,power' size (2 * U + m1) (2 * U + m1 + m1 + n) size)) (λ_=>rfl) ((nT j).size - 1)).push so o l 0
     .simp -iota only[vx,ly,RJ,jn,dV,ew];lia
   .have F:=K.push so o l 0;refine ee (zU (el #[_,_,?_,F,?_]))
    .simp -iota only[vx,ly,RJ,jn,dV,ew];rw[Q8 l]
    .simp -iota only[vx,ly,RJ,jn,dV,ew];lia
 .rintro c p hI;refine ex2 hI λa rest e b=>?_;subst e;have k:=b.1;have hm:=b.2;clear b hI;have v:=J k;refine#[a,rfl,?_];have e:rest=[]:=Qn (by lia);rw[<- e];exact k
 .rintro c p ⟨a,rfl,k⟩;have v:=J k;dsimp only;have a4:=yx k.ne;refine ee (RA (rp (I:=λt c st'=>∃ a,c=(none,())/\Cv rk st st' a []/\a.length<=max 1 (size - t))
   (Q:=λc st'=>∃ a,c=(none,())/\Cv rk st st' a []/\a.length<=1) ?_ ?_ #[a,rfl,k,by rw[ud] at v;lia]) ?_)
  .rintro t c i _ ht hI;refine ex1 hI λa e b=>?_;subst e;have g:=b.1;have S:=b.2;clear b hI;refine ee (SH ?_)
   try dsimp only
   have G:=g.psz;by_cases z:(nT i).size<=1
   .refine wif z ?_;exact el #[a,rfl,g,by lia]
   refine dF z ?_;refine ee (EH h hk H g ?_ λM u F Y e6=>?_)
   .exact LY (show (nT i).size - 2 - 1 + 1 < _ by exact WF 0x1baa52b9f7e0168387838 G V2 (V3 (WF 5128317206433 z))) (show (nT i).size - 2 + 1 < _ by exact YG G (V3 (WF 5128317206433 z)))
   .refine dF (by decide) ?_;exact el #[u,rfl,F,by lia]
  .rintro c i hI;refine ex1 hI λa e b=>?_;subst e;have g:=b.1;have S:=b.2;clear b hI;exact#[a,rfl,g,by lia]
  .rintro c i hI;refine ex1 hI λa e b=>?_;subst e;have g:=b.1;have S:=b.2;clear b hI;refine el (q i g.pm ?_ g.f);rw[g.a,jn]
   match a,S,g with
   | [],_,_=>exact Gg
   | [R],_,g=>
    simp -iota only[ly,RJ,jn];exact g.so R (.head _)
end
section
variable {s:Shared}{P:Keyed->Prop}{rk:Keyed->Int}
theorem Je{l:List Keyed}(h:l.Perm (vs.zip vs)):∃ out:Lv0,l=out.map (λv=>(v,v))/\out.Perm vs:=by
 have e:vs.zip vs=vs.map λv=>(v,v):=by
  induction vs with
  | nil=>rfl
  | cons v vs a=>exact EN.trans (by rw[eN,U9] ;congr 1;rw[<- U9];exact(by
    have:∀ l:Lv0,l.zip l=l.map λv=>(v,v):=λl=>by
     induction l with
     | nil=>rfl
     | cons x l a=>rw[EN,a,eN]
    exact this vs))
 rw[e] at h;refine#[l.map (·.2),?_,?_]
 .rw[zq];have:∀ x∈l,x=((λv:Value=>(v,v)) ∘ (·.2)) x:=λx b=>by
   let#[v,_,rfl]:=kv.mp (h.mem_iff.mp b)
   rfl
  conv=>lhs;rw[<- Wu l]
  exact IQ this
 .have:=h.map (·.2);rw[zq] at this;exact this.trans (by rw[show ((λx:Keyed=>x.2) ∘ λv:Value=>(v,v))=id from rfl,Wu])
def P5 (prog:vn)(w:World)(A:Around)(s:Shared)(rk:Keyed->Int)(vs:Lv0):Prop:=
 ∀ h':Heap,(∀ b o,s.heap.get? b=some o->h'.get? b=some o)->∃ (κ:Su) (P:Keyed->Prop),(∀ (E:VS) (Q:Su->Shared->Prop),Q κ { s with heap:=h' }->wpAny (model prog w) A (keyKind' vs.toArray) Q E { s with heap:=h' })/\Ask prog w A { s with heap:=h' } κ P (lr rk)/\∀ v∈vs,P (v,v)
theorem Cc{lt:Keyed->Keyed->Bool}{l:List Keyed}(h:l.length < 2):Srt lt l:=by
 rcases l with _ | ⟨x,l⟩
 .exact Gg
 .rcases l with _ | ⟨y,l⟩
  .exact Ug _ _
  .simp -iota at h;lia
theorem CF{a:Addr}{n:Nat}{Q:Fin->Shared->Prop}(r:s.heap.get? a=some (seqObj "list" vs.toArray n))(i:∀ b o,s0.heap.get? b=some o->b≠a/\s.heap.get? b=some o)(B:{ s0 with heap:=s.heap }=s)(V:vs.length<=100000)(ask:2<=vs.length->P5 prog w A s0 rk vs)(q:∀ out:Lv0,out.Perm vs->out.Pairwise (λx y=>rk (x,x)<=rk (y,y))->Q (.done (.ret .none)) { s with heap:=W0 s.heap a vs out.toArray }) :
  wpAny (model prog w) A (RE.«list.sort» #[[.ref a],[]]) Q E s:=by
 rw[list_sort_plain];have W:a < s.heap.objs.size:=ec r;have D:vs.length<=sizeLine:=by rw[ea];lia
 refine ba (listItems_at r rfl (ba (Ve r rfl ?_ (by simp_all) (eA _))));obtain⟨C,j⟩:∃ C,(s.heap.update a (R4 λ_=>(#[]:Array Value))).get? a=some (seqObj "list" #[] C):=#[_,get?_update_seq r λ_=>#[]];refine ba (Ww j rfl (ba (wpAny_newTuple ?_ (by simpa using D))));refine ba (wpAny_newList ?_ (eA _));refine ry ?_;generalize t:((s.heap.update a (R4 λ_=>(#[]:Array Value))).push (seqObj "tuple" vs.toArray 0)).push (seqObj "list" #[] 0)=m;have z:∀ b o,b≠a->s.heap.get? b=some o->m.get? b=some o:=λb o H e=>by
  rw[<- t];exact bc _ (bc _ (by rw[RP _ _ _ _ H];exact e))
 have c:m.get? a=some (seqObj "list" #[] C):=by rw[<- t];exact bc _ (bc _ j)
 have fin:∀ st':SortSt,(arrOf st').toList.Perm (vs.zip vs)->Srt (lr rk) (arrOf st').toList->tx st'=none->∃ out:Lv0,(arrOf st').map (·.2)=out.toArray/\out.Perm vs/\out.Pairwise (λx y=>rk (x,x)<=rk (y,y)):=λst' p so _=>by
  let#[out,e,d]:=Je p;refine#[out,?_,d,?_]
  .apply Li.mp;rw[Array.toList_map,e,zq];exact List.map_id' _
  .rw[e] at so;exact(V9.mp so).imp λh=>by have:=of_decide_eq_false h;lia
 dsimp only;have T:vs.toArray.size=vs.length:=gT;by_cases u:vs.toArray.size < 2
 .rw[if_pos u,if_pos u];refine ba (bq ?_);rw[StateT.run_pure];refine ba (bq ?_);dsimp only;let#[out,e,d,so]:=fin (R5 general' (vs.toArray.zip vs.toArray) #[] 7 none) (by show (vs.toArray.zip vs.toArray).toList.Perm _;simp) (by
   have I:(vs.toArray.zip vs.toArray).toList.length < 2:=by simp;lia
   exact Cc I) rfl
  refine ba (Ww c rfl (ba (Ve c rfl ?_ (eA _) ?_)))
  .simp -iota only[bne_self_eq_false,ky,if_false];refine bq ?_;have:=q out d so;unfold W0 at this;rw[t,<- e] at this;exact this
  .show ((vs.toArray.zip vs.toArray).map (·.2)).size<=sizeLine + 1;simp;exact WF 176175920734 D
 .rw[if_neg u,if_neg u];let#[G,P,k,f,L]:=ask (by lia) m λb o e=>z b o (i b o e).1 (i b o e).2;have M:({ s0 with heap:=m }:Shared)={ s with heap:=m }:=by rw[<- B]
  rw[M] at k f;refine ba (k _ _ ?_);refine ba (Cy (G5 (st:=R5 G (vs.toArray.zip vs.toArray) #[] 7 none) (E:=E) (Q:=λ_ st'=>(arrOf st').toList.Perm (vs.zip vs)/\Srt (lr rk) (arrOf st').toList/\tx st'=none) f rfl ?_ rfl rfl λst' S R O=>#[by
   have e:(vs.toArray.zip vs.toArray).toList=vs.zip vs:=by simp
   exact S.trans (by show (vs.toArray.zip vs.toArray).toList.Perm _;rw[e]),R,O]) ?_ λ_ _ e=>e)
  .refine pI.mpr λx J=>?_;have e:(vs.toArray.zip vs.toArray).toList=vs.zip vs:=by simp
   let#[out,N,d]:=Je (vs:=vs) (l:=vs.zip vs) (Au _);have g:x∈vs.zip vs:=by rw[<- e];exact J
   rw[N] at g;let#[v,K,rfl]:=kv.mp g;exact L v (d.mem_iff.mp K)
  .rintro⟨⟨⟩,st'⟩ U ⟨rfl,p,so,F⟩;let#[out,e,d,so]:=fin st' p so F;refine ba (Ww c rfl (ba (Ve c rfl ?_ (eA _) ?_)))
   .rw[show (match st' with | st'=>tx st')=none from F];simp only[bne_self_eq_false,ky,if_false];refine bq ?_;have:=q out d so;unfold W0 at this;rw[t,<- e] at this;exact this
   .rw[e,gT,d.length_eq];lia
end
open PySem PyProof.Rows PySem.W PySem.SeqAt
noncomputable def r3 (y z m:Int):Int:=(y * 1048576 + z) * 16777216 + m
structure Bd (y z m:Int):Prop where
 y0:0<=y
 y1:y < 1048576
 z0:0<=z
 z1:z < 1048576
 m0:0<=m
 m1:m < 16777216
def Tri (rk:Keyed->Int)(h:Heap)(v:Value):Prop:=∃ a b y z m t d c,v=.ref a/\h.IsTuple a (Vz9 [.ref b,.int m t])/\h.IsTuple b (Vz9 [.int y d,.int z c])/\Bd y z m/\rk (v,v)=r3 y z m
section
variable {s:Shared}{rk:Keyed->Int}
theorem xq{h:Heap}(k:∀ b o,h.get? b=some o->h'.get? b=some o){l:Addr}{xs:Array Value}(t:h.IsTuple l xs):h'.IsTuple l xs:=let ⟨o,e,r⟩:=t;#[o,k _ _ e,r]
theorem Tri.keep{h:Heap}(k:∀ b o,h.get? b=some o->h'.get? b=some o){v:Value}(t:Tri rk h v):Tri rk h' v:=
 let ⟨a,b,y,z,m,f,d,c,e,i,g,r⟩:=t;#[a,b,y,z,m,f,d,c,e,xq k i,xq k g,r]
theorem LG(hu:A.units + 10 < cLine){x y:Value}(L:Tri rk s.heap x)(K:Tri rk s.heap y){Q:Bool->Shared->Prop}(q:Q (decide (rk (x,x) < rk (y,y))) s):wpAny (model prog w) A (keyLt' (tuples' false) x y) Q E s:=by
 let#[a,b,c,z1,m1,t,n,m,rfl,N,h,V,S]:=L;let#[a',D,d,z2,f,u,l,k,rfl,M,g,C,R]:=K;let#[o,P,c1,n1,U]:=id N;let#[Y,O,c2,Z,T]:=id M;rw[S,R] at q;refine kat_lt P U O T (kat_cons ?_);have p:EqAt A s (.ref b) (.ref D) ((c == d) && (z1 == z2)):=by
  by_cases z:b=D
  .subst z;have:(Vz9 [Cs c n,.int z1 m])=(Vz9 [Cs d l,.int z2 k]):=by
    let#[X,J,_,_,I]:=h;let#[W,G,_,_,F]:=g;rw[J] at G;cases G;rw[I] at F;cases F
    rfl
   cases this;rw[beq_self_eq_true,beq_self_eq_true];exact Tg _
  .have:=XG (A:=A) (e:=λj=>if j=0 then c == d else z1 == z2) h g (by lia) λj v r=>by
    match j,v,r with
    | 0,_,_=>exact Sb _ _ _ _
    | 1,_,_=>exact Sb _ _ _ _
   refine EqAt.of_refs z ?_;have e:((hV (min ((Vz9 [Cs c n,.int z1 m]):Array Value).size ((Vz9 [Cs d l,.int z2 k]):Array Value).size)).all (λj=>if j=0 then c == d else z1 == z2) && ((Vz9 [Cs c n,.int z1 m]):Array Value).size == ((Vz9 [Cs d l,.int z2 k]):Array Value).size)=((c == d) && (z1 == z2)):=by
    simp -iota [hV,List.range.loop]
   rw[e] at this;exact this
 refine p prog w _ _ ?_;delta r3 at q;let#[a1,a2,a3,a4,a5,a6]:=V;let#[b1,b2,b3,b4,b5,b6]:=C;by_cases i:c=d
 .by_cases B:z1=z2
  .subst i;subst B;rw[beq_self_eq_true,beq_self_eq_true];refine kat_yes (kat_cons (Sb _ _ _ _ prog w _ _ ?_));by_cases H:m1=f
   .subst H;rw[beq_self_eq_true];refine kat_yes (kat_nil ?_);have e:decide ((c * 1048576 + z1) * 16777216 + m1 < (c * 1048576 + z1) * 16777216 + m1)=decide (((Vz9 [fC b,.int m1 t]):Array Value).size < ((Vz9 [fC D,.int m1 u]):Array Value).size):=by simp
    rw[e] at q;exact q
   .rw[beq_eq_false_iff_ne.mpr H];refine kat_no (kat_one _ _ (U4 ?_));have e:decide ((c * 1048576 + z1) * 16777216 + m1 < (c * 1048576 + z1) * 16777216 + f)=decide (m1 < f):=by
     rw[decide_eq_decide];lia
    rw[e] at q;exact q
  .subst i;rw[beq_eq_false_iff_ne.mpr B,Rx];refine kat_no (kat_one _ _ (_h.tI (ns:=[c,z1]) (ms:=[c,z2]) h g (.cons _ _ (.cons _ _ .nil)) (.cons _ _ (.cons _ _ .nil)) (by lia) ?_));have e:decide ((c * 1048576 + z1) * 16777216 + m1 < (c * 1048576 + z2) * 16777216 + f)=_h.lexLt [c,z1] [c,z2]:=by
    rw[_h.jY,if_pos rfl,_h.jY,if_neg B,decide_eq_decide];lia
   rw[e] at q;exact q
 .rw[beq_eq_false_iff_ne.mpr i,P8];refine kat_no (kat_one _ _ (_h.tI (ns:=[c,z1]) (ms:=[d,z2]) h g (.cons _ _ (.cons _ _ .nil)) (.cons _ _ (.cons _ _ .nil)) (by lia) ?_));have e:decide ((c * 1048576 + z1) * 16777216 + m1 < (d * 1048576 + z2) * 16777216 + f)=_h.lexLt [c,z1] [d,z2]:=by
   rw[_h.jY,if_neg i,decide_eq_decide];lia
  rw[e] at q;exact q
theorem AV:∀ {vs:Lv0},(∀ v∈vs,Tri rk s.heap v)->∃ fs,KatTups s.heap vs fs/\fs.length=vs.length/\∀ v∈fs,∃ a xs,v=.ref a/\s.heap.IsTuple a xs
 | [],_=>#[[],.nil,rfl,λv hv=>by cases hv]
 | v::vs,h=>by
  let#[fs,g,p,f]:=AV (vs:=vs) λv hv=>h v (.tail _ hv);let#[a,b,y,z,m,t,l,k,rfl,j,i,_]:=h _ (.head _);let#[o,e,c,n,d]:=j;refine#[.ref b::fs,.cons e c d rfl g,by simp_all,λv hv=>?_];rcases cm.mp hv with rfl | hv
  .exact#[b,_,rfl,i]
  .exact f v hv
theorem Gr(n:A.units + 10 < cLine)(l:∀ v∈vs,Tri rk s.heap v)(t:2<=vs.length):P5 prog w A s rk vs:=λd k=>by
 have b:∀ v∈vs,Tri rk ({ s with heap:=d }:Shared).heap v:=λv m=>(l v m).keep k;refine#[tuples' false,λk=>∃ v,k=(v,v)/\Tri rk ({ s with heap:=d }:Shared).heap v,λE Q q=>?_,#[?_,?_,?_],λv m=>#[v,rfl,b v m]]
 .let#[fs,f,g,p]:=AV (s:={ s with heap:=d }) b;refine kat_kind (T:=.type "tuple") f (by lia) (λv m=>?_) (by decide) ?_
  .let#[a,r,rfl,o,e,c,_]:=p v m;have:Looks (model prog w) ({ s with heap:=d }:Shared).heap (typeOf (.ref a)) o.cls:=(Ru e).andThen .now;rw[c] at this;exact this
  .simp_all
 .rintro E st _ _ Q hk ⟨v,rfl,i⟩ ⟨u,rfl,j⟩ q;rw[lt'_eq];refine ee (SH ?_);rw[hk];exact ee (wpS_lift (RX (LG n i j #[rfl,el q])))
 .intro x y h;have:=of_decide_eq_true h;exact decide_eq_false (by lia)
 .intro x y z f g;have:=of_decide_eq_false f;have:=of_decide_eq_false g;exact decide_eq_false (by lia)
theorem zd{l:Addr}{Q:VS}(r:A.units + 20 < cLine)(u:s.heap.IsList l vs.toArray)(n:vs.length<=100000)(p:∀ v∈vs,Tri rk s.heap v)(q:∀ (h':Heap) (L:Addr) (c:Nat) (out:Lv0),s.heap.objs.size<=L->(∀ b o,s.heap.get? b=some o->h'.get? b=some o)->h'.get? L=some (seqObj "list" out.toArray c)->out.Perm vs->out.Pairwise (λx y=>rk (x,x)<=rk (y,y))->Q (.ref L) { s with heap:=h' }) :
  wpAny (model prog w) A (call (.builtin "sorted") [.ref l]) Q E s:=by
 have i:vs.length<=sizeLine:=by rw[ea];lia
 refine Calls.call_function_entry kind_sorted plain_sorted entry_sorted (args_sorted1 _) ?_;delta RE.«sorted»;refine ba (m:=checkCount "sorted" 1 1 _) (bq (ba (collect_list u ?_ i)));refine ba (wpAny_newList ?_ i);generalize h:(s.heap.push (seqObj "list" #[] 0)).update s.heap.objs.size (R4 (·++vs.toArray))=f;have a:f.objs.size=s.heap.objs.size + 1:=by rw[<- h,Heap.size_update,size_push']
 have d:(f.push (seqObj "list" vs.toArray 0)).get? f.objs.size=some (seqObj "list" vs.toArray 0):=en _ rfl;have k:∀ b o,s.heap.get? b=some o->b≠f.objs.size/\(f.push (seqObj "list" vs.toArray 0)).get? b=some o:=λb o e=>by
  have lt:b < s.heap.objs.size:=ec e;refine#[gm (by rw[a];exact Sn lt),bc _ ?_];rw[<- h,RP _ _ _ _ (gm lt)];exact bc _ e
 refine ba (ry (Qb slot_list_sort #[_,d,rfl] entry_list_sort (CF (s0:=s) (rk:=rk) d k rfl n (λt=>Gr (by show A.units + 1 + 1 + 10 < cLine;exact WF 0x8fd101fcbcad16aafe r) p t) λout j so=>#[_,rfl,?_]) (args_list_sort _)));refine bq #[_,rfl,?_];let#[e,z]:=sortedAll_at s.heap vs out.toArray;have g:=q (sortedAll s.heap vs out.toArray) (s.heap.objs.size + 1) e out (SK _) (λb o e=>sortedAll_old e) z j so;unfold sortedAll at g;rw[h,<- a] at g;exact g
end
end _t
namespace _2
open PySem PySem.Spec PyProof.Rows
noncomputable def rkV (H:Hp):V->Int
 | .ref a=>match H a with
  | some (.tup [.ref b,.int m])=>match H b with
   | some (.tup [.int y,.int z])=>_t.r3 y z m
   | _=>0
  | _=>0
 | _=>0
def T3 (H:Hp)(x:V):Prop:=∃ a b y z m,x=.ref a/\H a=some (.tup [.ref b,.int m])/\H b=some (.tup [.int y,.int z])/\_t.Bd y z m
noncomputable def rkK (H:Hp)(k:Keyed):Int:=match k.1 with
 | .ref a=>rkV H (.ref a)
 | _=>0
theorem T3.rk{a b:Addr}{y z m:Int}(h1:H a=some (.tup [.ref b,.int m]))(c:H b=some (.tup [.int y,.int z])):rkV H (.ref a)=_t.r3 y z m:=by
 delta rkV;simp only[h1,c]
theorem Vals.perm{a:Lv0}(p:us.Perm a):∀ {ys:List V},Vals ys us->∃ ys',Vals ys' a/\ys.Perm ys':=by
 induction p with
 | nil=>intro ys h;exact#[ys,h,Au _]
 | cons x _ j=>
  intro ys h;cases h with
  | cons r h=>
   let#[ys',e,d]:=j h;exact#[_,.cons r e,d.cons _]
 | swap x y l=>
  intro ys h;cases h with
  | cons r h=>
   cases h with
   | cons g h=>exact#[_,.cons g (.cons r h),W1 _ _ _]
 | trans _ _ c b=>
  intro ys h;let#[k,e,i]:=c h;let#[f,d,p2]:=b e;exact#[f,d,i.trans p2]
theorem AQ {H:Hp}:∀ {ys:List V} {us:Lv0},Vals ys us->(∀ x∈ys,T3 H x)->us.Pairwise (λx y=>rkK H (x,x)<=rkK H (y,y))->ys.Pairwise (λx y=>rkV H x<=rkV H y)
 | _,_,.nil,_,_=>Gg
 | x::ys,u::us,.cons r h,c,j=>by
  let#[m,l]:=Fk.mp j;refine Fk.mpr #[λy d=>?_,AQ h (λx f=>c x (.tail _ f)) l];let#[i,k]:=yl d;let#[v,g,e]:=Vals.get h k;have:=m v (ek g);let#[a,_,_,_,_,rfl,_]:=c x (.head _);let#[b,_,_,_,_,rfl,_]:=c y (.tail _ d);cases r;cases e;exact this
def NS (xs:List V)(H:Hp)(Q:VK):Prop:=∃ p ys,xs=[.ref p]/\H p=some (.lst ys)/\ys.length<=100000/\(∀ x∈ys,T3 H x)/\∀ l a,H l=none->ys.Perm a->a.Pairwise (λx y=>rkV H x<=rkV H y)->Q (.ref l) (upd H l (.lst a))
theorem FL(hr:bH k X.A):ck X (.builtin "sorted") NS:=by
 intro g s N H xs us Q I r h;let#[p,j,rfl,hp,hz,F,q]:=h;cases r with
 | cons U d=>
 cases d;cases U;let#[A,o,hl]:=_3.nN I hp;have il:A.length=j.length:=o.length.symm;refine _t.zd (rk:=rkK H) (by have:=hr.un;exact WF 0xfbafc83ce5d2dbe700cd0b this) hl (by lia) (λv Z=>?_) λh' L c w J Y gL V so=>?_
 .let#[i,G]:=yl Z;obtain⟨x,B,S⟩:∃ x,j[i]?=some x/\RelV x v:=by
   have lt:i < j.length:=by rw[<- il];exact(gS0 G).1
   let#[u,E,T]:=o.get (gE0 lt);rw[G] at E;cases E;exact#[_,gE0 lt,T]
  let#[a,b,y,z,m,rfl,M,K,bd]:=F x (ek B);cases S;let#[i1,d,R]:=_3.nM I M;let#[i2,f,P]:=_3.nM I K;cases d with
  | cons e1 d=>
  cases d with
  | cons e2 d=>
  cases d;cases f with
  | cons e3 f=>
  cases f with
  | cons e4 f=>
  cases f;cases e1;let#[O,rfl]:=e2;let#[n,rfl]:=e3;let#[l,rfl]:=e4;exact#[a,b,y,z,m,O,n,l,rfl,R,P,bd,T3.rk M K]
 .let#[e,D,t]:=Vals.perm V.symm o;have C:H L=none:=I.hok.fresh J;have I2:Inv X g N H { s with heap:=h',toks:=s.toks }:=I.kept (t':=s.toks) Y;have W:e.length<=sizeLine:=by rw[<- t.length_eq,ea];lia
  exact#[.ref L,_,I2.adopt (c:=c) (us:=w) ((I.uC J C).heap C) gL D W,rfl,q L e C t (AQ D (λx B=>F x (t.mem_iff.mpr B)) so)]
end _2
namespace _3
open PySem _2 PySem.Spec PyProof.Rows
abbrev PM:=Int×Int×Int
noncomputable abbrev pmD (p:PM):D:=.tup [.tup [.int p.1,.int p.2.1],.int p.2.2]
def pmL (p q:PM):Prop:=p.1 < q.1\/p.1=q.1/\(p.2.1 < q.2.1\/p.2.1=q.2.1/\p.2.2<=q.2.2)
def pmB (p:PM):Prop:=_t.Bd p.1 p.2.1 p.2.2
def P_ (ds:List D)(Γ:G)(Q:RV->G->Prop):Prop:=∃ ps:List PM,ds=[.lst (ps.map pmD)]/\ps.length<=100000/\(∀ p∈ps,pmB p)/\∀ a,ps.Perm a->a.Pairwise pmL->Q (.fr (.lst (a.map pmD))) Γ
theorem zA{p:PM}(h:Rep K F (pmD p) v):∃ a b,v=.ref a/\F a=some (.tup [.ref b,.int p.2.2])/\F b=some (.tup [.int p.1,.int p.2.1]):=by
 let#[a,q,rfl,o,s,d,rfl,n,r,c,rfl,m,l]:=h;cases l;cases m;let#[b,t,rfl,k,w,f,rfl,j,u,e,rfl,i,g]:=n;cases g;cases j;cases i;exact#[a,b,rfl,o,k]
theorem aC.back:∀ {ps:List PM} {vs ws:List V},aC K F (ps.map pmD) vs->vs.Perm ws->∃ a,ps.Perm a/\aC K F (a.map pmD) ws:=by
 intro ps vs ws h p
 induction p generalizing ps with
 | nil=>exact#[ps,Au _,h]
 | cons x _ k=>
  match ps,h with
  | p::ps,⟨v,ws,e,c,b⟩=>
   cases e;let#[a,i,g]:=k b;exact#[p::a,i.cons _,#[_,_,rfl,c,g]]
 | swap x y l=>
  match ps,h with
  | p::p2::ps,⟨v,ws,e,c,r,j,m,b,g⟩=>
   cases e;cases m;exact#[p2::p::ps,W1 _ _ _,#[_,_,rfl,b,_,_,rfl,c,g]]
  | [p],⟨v,ws,e,c,b⟩=>cases b;cases e
  | [],h=>cases h
 | trans _ _ f d=>
  let#[i,q,n]:=f h;let#[p2,o,b2]:=d n;exact#[p2,q.trans o,b2]
theorem A9 {H:Hp}(c:aB F H):∀ {ps:List PM} {vs:List V},(∀ p∈ps,pmB p)->aC K F (ps.map pmD) vs->vs.Pairwise (λx y=>rkV H x<=rkV H y)->ps.Pairwise pmL
 | [],_,_,_,_=>Gg
 | p::ps,vs,g,⟨v,ws,e,o,j⟩,f=>by
  subst e;let#[m,l]:=Fk.mp f;refine Fk.mpr #[λq h=>?_,A9 c (λp f=>g p (.tail _ f)) j l];let#[i,B]:=yl h;let#[u,n,k]:=j.get (i:=i) (d:=pmD q) (by simp_all);have:=m u (ek n);let#[a,b,rfl,w,t]:=zA o;let#[R,J,rfl,s,r]:=zA k;rw[T3.rk (c _ _ w) (c _ _ t),T3.rk (c _ _ s) (c _ _ r)] at this;have A:=g p (.head _);have z:=g q (.tail _ h);let#[Q,P,O,N,M,L]:=A;let#[I,b2,G,E,D,C]:=z;delta _t.r3 at this;delta pmL;lia
theorem Pk(y:bH k X.A):B3 K X (.builtin "sorted") NS P_:=#[FL y,by
 intro B F J H L M P Q R e r q k;let#[t,rfl,N,m,q]:=q;let#[v,rfl,p,g,rfl,E,f]:=r.one;have O:g.length=t.length:=by rw[f.length,lM0]
 refine#[p,g,rfl,E,by lia,λx w=>?_,λl n D s so=>?_]
 .let#[i,C]:=yl w;let#[d,hd,o]:=f.E5 C;rw[ef] at hd;let#[u,A,rfl]:=Jv.mp hd;let#[a,b,rfl,I,G]:=zA o;exact#[a,b,_,_,_,rfl,e.sub _ _ I,e.sub _ _ G,m u (ek A)]
 .let#[c,j,h]:=aC.back f s;exact k _ _ (l8 e D h (q c j (A9 e.sub (λp z=>m p (j.mem_iff.mpr z)) h so)))]
end _3
namespace _2
open PySem PySem.Spec PyProof.Rows
noncomputable def P0 (K:Fg0)(a:Addr)(n:Nat):It:=
 #[λi H=>i < n/\∃ xs x,SqL K H a xs/\xs[n - 1 - i]?=some x,λi H x H'=>H'=H/\∀ xs,SqL K H a xs->xs[n - 1 - i]?=some x,λi _=>n<=i]
theorem Dz(a it:Addr)(n:Nat):Turn P w K tg (P0 K a n) [it] it (λi h=>i<=n/\h.IsRevIter it a ((n:Int) - 1 - (i:Int))) where
 mem:=by simp
 obj:=λi h st b l=>by
  have e:b=it:=by simpa using l
  subst e;let#[_,o,e,c,d]:=st;exact#[o,e,λv z=>by rw[d] at z;cases z]
 keep:=λi h r st k=>#[st.1,st.2.at λo e=>k it (by simp) o e]
 item:=by
  intro X N G O M i g s D H E I q st m;subst N G O;let#[L,xs,x,J,F]:=m;let#[T,R,p,hz]:=I.list J;let#[u,V,S]:=R.get F;let#[C,B,W,A,y,t]:=q it (by simp);have e1:(n:Int) - 1 - (i:Int)=((n - 1 - i:Nat):Int):=by lia
  have f:=st.2;rw[e1] at f;refine wpAny_pyNext_rev_item f p.isList (x:=u) (by simpa using V) λr j Q=>?_;have I1:Inv X g D H { s with heap:=r }:=I.turned (t':=s.toks) (λb o l e=>(Q.2 b l).trans e) C B A y t;let#[o,e,c,d]:=id j;have Z:((n - 1 - i:Nat):Int) - 1=(n:Int) - 1 - ((i + 1:Nat):Int):=by lia
  rw[Z] at j;exact#[u,rfl,yo (s:={ s with heap:=r }) e c d #[x,H,I1,S,#[rfl,λys U=>by rw[I.yd U J];exact F],#[L,j],λb l=>(q b l).1]]
 done:=by
  intro X N G O M i g s D H E I q st m;let#[C,B,W,A,y,t]:=q it (by simp);let#[L,f]:=st;have m:n<=i:=m;rw[show (n:Int) - 1 - (i:Int)=-1 by lia] at f;exact wpAny_pyNext_rev_end (I.ok.hd M) f λr Y=>#[rfl,I.turned (t':=s.toks) (λb o l e=>Y b o l e) C B A y t]
 self:=λ_ _ _ _ _ st h=>UX st.2 h
def JJ (K:Fg0)(ta:TA):TI:=λσ H R=>ta σ H λvs H1=>∃ a xs,vs=[.ref a]/\SqL K H1 a xs/\R (P0 K a xs.length) H1
theorem Hu{ta:TA}(m:Gl X "reversed")(k:X.mg "reversed"=none)(A:PA X [a] ta)(j:autoParam (ed [a] X.env=[(false,eval a X.env)]) wE) :
  PI X tg (.Call (.Name "reversed" p') [a] [] pos') (JJ X.K ta):=by
 intro d s n H R I h;refine Call_ (i9 I m k (by decide +kernel:xa "reversed"=some (.type "reversed")) (qe (thn (A pos' d s n H _ I h) λD c Z=>?_) j rfl));let#[C,B,g,v,w]:=Z;let#[l,f,e,x,q]:=w;subst e;let#[u,rfl,t]:=vals1 v;cases t;let#[i,r,p,E]:=g.list x;have y:i.toArray.size=f.length:=by rw[gT];exact r.length.symm
 refine call_reversed_list p.isList ?_;rw[y];have st:({ c with heap:=c.heap.push (revObj l ((f.length:Int) - 1)) }:Shared).heap.IsRevIter c.heap.objs.size l ((f.length:Int) - 1):=#[_,en _ rfl,rfl,rfl];refine UX st ?_;refine#[c.heap.objs.size,[c.heap.objs.size],_,_,B,rfl,g.kept (t':=c.toks) λb o e=>bc _ e,Dz l _ f.length,#[eA _,?_],λb z=>?_,q]
 .simp_all
 .have e:b=c.heap.objs.size:=by simpa using z
  subst e;exact g.uC (cb _) (g.hok.fresh (cb _))
end _2
namespace _3
open PySem _2 PySem.Spec
def OU (a:TA3)(Γ:G)(Q:List D->G->Prop):Prop:=a Γ λds ak=>∃ xs,ds=[.lst xs]/\Q xs.reverse ak
theorem Ig{ta:TA}{D:TA3}(N:X.K=K)(n:Gl X "reversed")(m:X.mg "reversed"=none)(w:P3A K X [a] ta D)(l:autoParam (ed [a] X.env=[(false,eval a X.env)]) wE) :
  P3I K X tg (.Call (.Name "reversed" p') [a] [] pos') (JJ K ta) (OU D):=#[by subst N;exact Hu n m w.pe l,λB F E H G Q R e q k=>
 w.rf B F E H G _ _ e q λU S Z=>by
  let#[T,h,V,s,C,I,c,O,M]:=Z;subst O;let#[v,ws,rfl,L,J]:=I;cases J;let#[p,b,rfl,t,z]:=L;have u:b.length=c.length:=z.length;refine#[p,b,rfl,SqL.of (C.sub _ _ t),?_];rw[u];refine k _ S T h c.reverse s C #[λi f g lt=>?_,λi f g A=>?_,λi f x Y d g hd y=>?_] M
  .rw[P6] at lt;have j:c.length - 1 - i < b.length:=by exact WF 0x52e80f2355b17cdf8 u V2 (V3 (Yq lt))
   exact#[lt,b,b[c.length - 1 - i],SqL.of (g _ _ t),gE0 j]
  .rw[P6] at A;exact Qy A.symm
  .let#[P,y]:=y;let#[W,o,r]:=z.E5 (y b (SqL.of (g _ _ t)));have lt:i < c.length:=by have:=(gS0 hd).1;rwa [P6] at this
   rw[UL lt,o] at hd;cases hd;exact .inl #[P,r]]
end _3
namespace _2
open PySem PySem.Spec PyProof.Rows
theorem AW:∀ {ns:Li0} {us:Lv0},Vals (ns.map V.int) us->∃ ps:List (Int×Tok),us=ps.map (λp=>Cs p.1 p.2)/\ps.map (·.1)=ns
 | [],_,.nil=>#[[],rfl,rfl]
 | n::ns,u::us,.cons r h=>by
  let#[ps,b,a]:=AW h;let#[t,rfl]:=r;exact#[(n,t)::ps,by rw[b];rfl,by rw[<- a];rfl]
def uO (ns:Li0):Prop:=ns.length<=100000/\∀ n∈ns,-(10 ^ 13)<=n/\n<=10 ^ 13
theorem DG:∀ {ns:Li0},(∀ n∈ns,-(10 ^ 13)<=n/\n<=10 ^ 13)->-(10 ^ 13 * (ns.length:Int))<=ns.sum/\ns.sum<=10 ^ 13 * (ns.length:Int)
 | [],_=>by simp
 | n::ns,h=>by
  have c:=h n (.head _);have b:=DG (ns:=ns) λm a=>h m (.tail _ a);rw[TU,eh];lia
theorem uO.fits{ns:Li0}(h:uO ns):PySem.SumFits ns:=λj a=>by
 have e:=h.2 (ns.getD j 0) (by rw[lx,gE0 a];exact RH a);have d:=DG (ns:=ns.take (j + 1)) λm b=>h.2 m (Oz b);have c:(ns.take (j + 1)).length<=100000:=by rw[ew];have:=h.1;lia
 constructor
 .delta InLong;lia
 .delta InLong;lia
theorem FK(t:X.calm=true):ck X (.builtin "sum") (λxs H Q=>∃ p ns,xs=[.ref p]/\H p=some (.lst (ns.map V.int))/\uO ns/\Q (.int ns.sum) H):=by
 intro d s w H xs x Q I r h;let#[p,ns,rfl,n,ok,q]:=h;cases r with
 | cons l i=>
 cases i;cases l;let#[b,g,e]:=_3.nN I n;let#[m,v,a]:=AW g;have u:b.toArray=intItems m.toArray:=by rw[v];delta intItems;simp
 rw[u] at e;have c:=ok.fits;refine sum_intList (I.ok.hd t) e (λj o=>?_) λy f t' k=>?_
 .rw[numAt_eq,preSum_eq];simp -iota only[a];exact c j (by rw[<- a];simpa using o)
 .refine#[.int ns.sum,H,I.kept (t':=f) k,#[t',?_],q];rw[preSum_eq];simp -iota only[a];rw[rr (by rw[<- a];simp)]
end _2
namespace _3
open PySem _2 PySem.Spec
def ND (ds:List D)(Γ:G)(Q:RV->G->Prop):Prop:=∃ ns:Li0,ds=[.lst (ns.map D.int)]/\uO ns/\Q (.fz (.int ns.sum)) Γ
theorem FW(b:X.calm=true):B3 K X (.builtin "sum") (λxs H Q=>∃ p ns,xs=[.ref p]/\H p=some (.lst (ns.map V.int))/\uO ns/\Q (.int ns.sum) H) ND:=#[FK b,by
 intro B F g H h j l Q m e r q k;let#[ns,rfl,a,q]:=q;let#[v,rfl,p,i,rfl,d,c]:=r.one;have f:=aC.fZ c;subst f;exact#[p,ns,rfl,d,a,k _ _ (gr e q)]]
theorem DW{a:TE3}(h:Ref K ta a):Ref K ta (fz3 a):=Hb h
theorem we{x:Str}{b:Pos}{h e f d:Expr}{c:TI}{n:TI3}{s:TG}{r:TG3}(v:X.N.Nodup)(l:X.N[i]?=some x)(t:X.env.scope.names.lookup x=some .local)(u:X.calm=true)(hi:P3I K X e h wi i3)(w:Blk X.N X.env.scope sc Nc fr)(p:∀ av ax C ex a,P3G K (aT X sc Nc av ax C ex a) e g g3)(o:∀ av ax C ex a,P3I K (aT X sc Nc av ax C ex a) d f c n)(hh:∀ av ax C ex a,P3G K (aT X sc Nc av ax C ex a) d s r)(q:∀ av ax C ex a,P3 K (aT X sc Nc av ax C ex a) elt te e3)(k:autoParam (∀ av ax C ex a x,hB f (aT X sc Nc av ax C ex a).env x=pure x) wq2)(m:autoParam ((fr.filterMap id).Nodup) wP)(j:autoParam (Do (.ListComp elt [#[e,h,[],0],#[d,f,[],0]] sc pos) (some (.Name x px)) b.line X.env=pure true) wE)(hs:autoParam (∀ x,hB h X.env x=pure x) wT) :
  P3S K X (.Assign [.Name x px] (.ListComp elt [#[e,h,[],0],#[d,f,[],0]] sc pos) b) (gY (dU fr wi g (yN c s (iE te))) (dE i)) (rX i (fz3 (j9 fr i3 g3 (iQ n r (o_ e3))))):=
 #[(xA v l t u hi w p o hh q k m j hs).pe,l6 (DW (gS m hi.rf (p X.av X.ax 0 [] []).rf (sA (o X.av X.ax 0 [] []).rf (hh X.av X.ax 0 [] []).rf (ig (q X.av X.ax 0 [] []).rf))))]
theorem oh{x:Str}{a:Pos}{c:Expr}{l:TT3}(o:X.N.Nodup)(e:X.N[i]?=some x)(m:X.env.scope.names.lookup x=some .local)(n:X.calm=true)(hi:P3I K X tg iter wi i3)(p:Blk X.N X.env.scope sc Nc fr)(j:∀ av ax C ex b,P3G K (aT X sc Nc av ax C ex b) tg g g3)(h:∀ av ax C ex b,P3T K (aT X sc Nc av ax C ex b) c tc l)(k:∀ av ax C ex b,P3 K (aT X sc Nc av ax C ex b) elt te e3)(f:autoParam ((fr.filterMap id).Nodup) wP)(d:autoParam (Do (.ListComp elt [#[tg,iter,[c],0]] sc pos) (some (.Name x px)) a.line X.env=pure true) wE)(hs:autoParam (∀ x,hB iter X.env x=pure x) wT) :
  P3S K X (.Assign [.Name x px] (.ListComp elt [#[tg,iter,[c],0]] sc pos) a) (gY (dU fr wi g (bIf tc (iE te))) (dE i)) (rX i (fz3 (j9 fr i3 g3 (C5 l (o_ e3))))):=
 #[(xy o e m n hi p j h k f d hs).pe,l6 (DW (gS f hi.rf (j X.av X.ax 0 [] []).rf (rj (h X.av X.ax 0 [] []).rf (ig (k X.av X.ax 0 [] []).rf))))]
open PySem _2 PySem.Spec PyProof.Rows
section
variable {p2 p3:Pos}{xss:NR}{k:Expr}
theorem NSt.put(s:NSt K H0 own i p F σ H Γ xss)(a:ui F H p qs xss)(c:Step H0 own H qs){y:Nat}(h:qs[y]?=some q)(zs:Li0):NSt K H0 own i p F σ (upd H q (.lst (zs.map V.int))) Γ (xss.set y zs):=by
 have l:y < qs.length:=(gS0 h).1;have x:y < xss.length:=by rw[<- a.len];exact l
 have g:q∈qs:=ek h;have A:F q=none:=a.no _ (.tail _ g);have u:q≠p:=λz=>(jl.mp a.nd).1 (z ▸ g);have f:aB F (upd H q (.lst (zs.map V.int))):=λb o d=>by rw[ao (aV d A)];exact a.sub b o d
 refine#[s.e.move (aB.refl F) f,s.at_,#[qs,#[f,?_,a.nd,?_,?_,a.no],#[?_,?_,c.new]],s.po]
 .rw[ao (lj u)];exact a.top
 .rw[rx];exact a.len
 .intro m n t k j;by_cases e:m=y
  .subst e;rw[h] at k;rw[aG x] at j;cases k;cases j;rw[aw]
  .rw[bh (lj e)] at j;have v:n≠q:=λz=>by
    subst z;exact e (JA (jl.mp a.nd).2 k h)
   rw[ao v];exact a.row m n t k j
 .intro b o d r;have:b≠q:=λe=>by
   rcases c.new _ g with w | w
   .exact r (e ▸ w)
   .simp_all
  rw[ao this];exact c.keep b o d r
 .intro b d;by_cases e:b=q
  .subst e;rw[aw] at d;cases d
  .rw[ao e] at d;exact c.dom b d
theorem NSt.row(s:NSt K H0 own i p F σ H Γ xss)(ns:ui F H p qs xss)(hi:i≠jy)(n:Ref K to (bU ix3 (bor i) (bor jy))){y:Nat}(m:Γ[jy]?=some (some (.fz (.int y))))(e:qs[y]?=some q)(k:∀ H',aB H H'->QQ (.ref q) H'):to σ H QQ:=by
 let#[x,u]:=s.Nt ns;have il:i < Γ.length:=(gS0 s.at_).1;have a:y < qs.length:=(gS0 e).1;refine n _ x σ H _ (λr _=>r=.fz (.adr q)) _ u ?_ λv H' ⟨A,j,r,z,w,l,c⟩=>?_
 .have g:Gat (Γ.set i (some (.fz (.lst (qs.map D.adr))))) i=some (.lst (qs.map D.adr)):=by delta Gat;rw[aG il]
  have f:Gat (Γ.set i (some (.fz (.lst (qs.map D.adr))))) jy=some (.int y):=by delta Gat;rw[bh hi,m]
  refine (cA (t:=⟨⟩)).2 #[_,g,cA.2 #[_,f,cA.2 #[_,g,cA.2 #[_,f,(cA (t:=⟨⟩)).2 #[.adr q,?_,rfl]]]]];delta _2.atI;rw[lM0,Bq a];show (qs.map D.adr)[y]?=_;rw[ef,e];rfl
 .subst c;have d:v=.ref q:=l;subst d;exact k H' λb o h=>w.rest b o h λ_ q=>nomatch q
noncomputable def Og (R:Int->Prop)(_:Tag R):RV->G->Prop:=λr _=>∃ n:Int,r=.fz (.int n)/\R n
noncomputable def kJ:G->Prop
 | []=>True
 | none::Γ=>kJ Γ
 | some (.fz _)::Γ=>kJ Γ
 | _::_=>False
theorem MR:kJ (none::Γ)=kJ Γ:=rfl
theorem MO{d:D}:kJ (some (.fz d)::Γ)=kJ Γ:=rfl
theorem MQ{s:Option D}:kJ (fo s::Γ)=kJ Γ:=by cases s <;> rfl
theorem MS:kJ []=True:=rfl
theorem kJ.at:∀ {Γ:G} {k:Nat} {s:Sl},kJ Γ->Γ[k]?=some (some s)->∃ d,s=.fz d
 | none::Γ,0,s,_,h=>by simp -iota at h
 | some (.fz d)::Γ,0,s,_,h=>by simp -iota at h;exact#[d,h.symm]
 | none::Γ,k + 1,s,a,h=>kJ.at (Γ:=Γ) (k:=k) a (by simpa using h)
 | some (.fz d)::Γ,k + 1,s,a,h=>kJ.at (Γ:=Γ) (k:=k) a (by simpa using h)
 | some (.ow d)::Γ,_,_,a,_=>a.elim
 | some (.ln d)::Γ,_,_,a,_=>a.elim
 | [],_,_,_,h=>by simp -iota at h
end
open PySem _2 PySem.Spec PyProof.Rows
theorem xB {H:Hp}:∀ {xss:NR} {qs:La0},eZ K F H qs (sk xss)->qs.length=xss.length/\∀ (m:Nat) (q:Addr) (xs:Li0),qs[m]?=some q->xss[m]?=some xs->H q=some (.lst (xs.map V.int))
 | [],[],_=>#[rfl,λm q xs h=>by simp -iota at h]
 | [],_::_,⟨_,_,_,h,_⟩=>nomatch h
 | _::_,[],h=>nomatch h
 | xs::xss,q::qs,Z=>by
  let#[ys,yt,n,c,i,g,f]:=Z;have k:xs.map D.int=ys:=by have:=c;unfold sk at this;rw[eN] at this;injection this
  have j:sk xss=yt:=by have:=c;unfold sk at this;rw[eN] at this;injection this
  subst k;subst j;let#[l,r]:=xB f;refine#[by simp_all,λm e d a b=>?_];cases m with
  | zero=>cases a;cases b;rw[i,g.fZ]
  | succ m=>exact r m e d a b
noncomputable def noG (Γ:G):G:=Γ.map λ_=>none
theorem sZ{s:Sl}(h:(noG Γ)[j]?=some (some s)):False:=by
 delta noG at h;rw[ef] at h;cases q:Γ[j]? with
 | none=>rw[q] at h;cases h
 | some o=>rw[q] at h;cases h
end _3
namespace _2
open PySem PySem.Spec PyProof.Rows
theorem BG:entryFor table "dict.update.loop"=some RE.«dict.update.loop»:=entryFor_of_tree (by kernel_rfl)
theorem rF:plainId "dict.update.loop"=true:=by decide +kernel
noncomputable abbrev PQ:=Addr×Addr×List Key×Int
noncomputable def sD (m:List (List Key×V))(q:PQ):List (List Key×V):=putK m q.2.2.1 (.int q.2.2.2)
noncomputable def mkD (qs:List PQ):List (List Key×V):=qs.foldl sD []
theorem ED(qs:List PQ)(q:PQ):mkD (qs++[q])=sD (mkD qs) q:=by delta mkD;rw[Wa];rfl
theorem yw:∀ (qs:List PQ) (m:List (List Key×V)),(qs.foldl sD m).length<=m.length + qs.length
 | [],m=>cb _
 | q::qs,m=>by
  have b:=yw qs (sD m q);have a:(sD m q).length<=m.length + 1:=lh m q.2.2.1 (.int q.2.2.2);rw[Mt,eh];exact YD b a
theorem Bi(qs:List PQ):(mkD qs).length<=qs.length:=by have:=yw qs [];simpa [mkD] using this
def IX (H:Hp)(q:PQ):Prop:=H q.1=some (.tup [.ref q.2.1,.int q.2.2.2])/\H q.2.1=some (.tup (q.2.2.1.map kV))
section
variable {pins:Pn0}{I d l:Addr}{qs:List PQ}
noncomputable abbrev tkd (X:Cx):HeapKind X.prog X.w (List Key):=TZ (cL X.prog X.w)
def DOb (X:Cx)(h:Heap)(d:Addr)(xs:List (List Key×Addr×Value)):Prop:=∃ o es a,h.get? d=some o/\o.ExactDict/\o.data=.dict es a/\es.toList=xs.map (entryOfKey (tkd X))/\(xs.map (·.1)).Nodup
theorem DOb.h {h:Heap}{b:List (List Key×V)}{xs:List (List Key×Addr×Value)}(D:DOb X h d xs)(ok:HOk X.prog X.w H h)(a:KT H b xs):h.DictOfH (tkd X) d xs:=by
 let#[o,r,s,n,k,j,i,g]:=D;refine#[o,r,s,n,k,j,i,λx hx=>?_,g];have all:∀ {l:List (List Key×V)} {m:List (List Key×Addr×Value)},KT H l m->∀ x∈m,(tkd X).is h x.1 x.2.1:=by
  intro l m q
  induction q with
  | nil=>intro x hx;exact nomatch hx
  | @cons p q v u c t f=>
   intro x hx;rcases cm.mp hx with e | hx
   .subst e;exact tN ok (by rw[<- c.1];exact c.2.1)
   .exact f x hx
 exact all a x hx
theorem DOb.of{h:Heap}{xs:List (List Key×Addr×Value)}(D:h.DictOfH (tkd X) d xs):DOb X h d xs:=by
 let#[o,g,i,f,e,c,b,_,a]:=D;exact#[o,g,i,f,e,c,b,a]
theorem DOb.at{h:Heap}{xs:List (List Key×Addr×Value)}(D:DOb X h d xs)(k:∀ o,h.get? d=some o->h'.get? d=some o):DOb X h' d xs:=by
 let#[o,b,c,a,r]:=D;exact#[o,b,c,k _ a,r]
theorem Fj(hh:A.handled=none)(hu:A.units + 1 < cLine)(E:Inv X pins σ H s0)(K:H l=some (.lst (qs.map λq=>V.ref q.1)))(hq:∀ q∈qs,IX H q)(dI:d≠I)(hd:s0.heap.objs.size<=d)(hI:s0.heap.objs.size<=I)(hz:qs.length < sizeLine)(q:∀ h' t' xs,(∀ b o,s0.heap.get? b=some o->h'.get? b=some o)->DOb X h' d xs->KT H (mkD qs) xs->R (.ok (.ret .none)) { s0 with heap:=h',toks:=t' }) :
  ∀ (k i:Nat) (h1:Heap) (g:Nat) (tk:Tok) (xs:List (List Key×Addr×Value)),qs.length - i=k->i<=qs.length->(∀ b o,s0.heap.get? b=some o->h1.get? b=some o)->h1.IsListIter I l i->DOb X h1 d xs->KT H (mkD (qs.take i)) xs->
   xb (model X.prog X.w) A (.builtin "dict.update.loop" #[[.ref d,.ref I,.int i tk,.none],[]]) R { s0 with heap:=h1,toks:=g }:=by
 intro k
 induction k with
 | zero=>
  intro i h1 g tk xs hk J m t D a;obtain rfl:i=qs.length:=by lia
  rw[hG] at a;have C:=E.kept (t':=g) m;let#[c,n,s]:=_3.nN C K;have f:c.length=qs.length:=by have:=n.length;simpa using this.symm
  refine UB BG ?_;rw[SM rF _];refine ba (UE (by simp -iota [hh]) t s (by simp -iota [f]) λh' x=>?_);refine ba (bq (bq ?_));exact q h' g xs (λb o e=>x b o (gm (da (ec e) hI)) (m b o e)) (D.at λo e=>x d o dI e) a
 | succ k Z=>
  intro i h1 g tk xs hk J m t D a;have C:=E.kept (t':=g) m;let#[c,n,s]:=_3.nN C K;have f:c.length=qs.length:=by have:=n.length;simpa using this.symm
  have p:i < qs.length:=by exact WF 0x2f07a33e20e49bf8 hk (V3 (Ya J))
  have L:qs[i]?=some qs[i]:=gE0 p;have hx:c[i]?=some (fC qs[i].1):=by
   let#[u,v,P]:=n.get (i:=i) (x:=.ref qs[i].1) (by rw[ef,L];rfl);rw[v,show u=fC qs[i].1 from P]
  let#[W,p2]:=hq _ (RH p);refine UB BG ?_;rw[SM rF _];refine ba (Ul (x:=.ref qs[i].1) t s (by simpa using hx) λh2 Y F=>?_);have j:∀ b o,s0.heap.get? b=some o->h2.get? b=some o:=λb o e=>F.extBut b o (gm (da (ec e) hI)) (m b o e);have B:=E.kept (t':=g) j;let#[N,Q,G]:=_3.nM B W;have D2:=(D.at λo e=>F.extBut d o dI e).h B.hok a;cases Q with
  | cons U T=>
  cases T with
  | cons r3 S=>
  cases S;cases U;let#[O,rfl]:=r3;have w:=G.typeIs;let#[ot,y,a1,nt,z]:=id G;have hsz:xs.length<=sizeLine:=by
   have e1:=TL a;have e2:=Bi (qs.take i);have e3:(qs.take i).length<=qs.length:=by rw[ew];lia
   lia
  refine ba (ry ?_);refine ba (wpAny_tryCatch ?_);delta Builtin.Dict.pairItems;refine ba (VQ w ?_);rw[if_pos (by decide)];refine ba (Qf y z ?_);refine bq ?_;refine ry (wpAny_dictSet_heap (knd:=tkd X) (hsz:=hsz) (k:=qs[i].2.2.1) (Ti hu) (tN B.hok p2) D2 λM D3 h=>?_);refine bq #[Vb rF _,?_];have r:∀ b o,s0.heap.get? b=some o->M.get? b=some o:=λb o e=>h.extBut b o (gm (da (ec e) hd)) (j b o e);refine Z (i + 1) M _ _ _ (by lia) (by exact Yb p) r (Y.extBut h.extBut dI.symm) (DOb.of D3) ?_;rw[Rz,L,Option.toList_some,ED];exact a.put _ p2 #[O,rfl]
theorem H8:Vn (.type "list") "keys"=pure none:=by rw[typeLookup_type,builtinLookup_eq_fast];kernel_rfl
set_option maxHeartbeats 4000000 in
theorem CI{s:Shared}{a:Addr}{c:Nat}{Q:Option Value->Shared->Prop}(i:s.heap.get? a=some (p5 vs c))(k:A.handled=none)(q:∀ h' tk,(∀ b o,s.heap.get? b=some o->h'.get? b=some o)->Q none { s with heap:=h',toks:=tk }):wpAny (model prog w) A (getAttr? (.ref a) "keys") Q E s:=by
 let#[j,g,d,tk,os]:=s;have ty:∀ n,Vf #[j,g,d,n,os] (.ref a) "list":=λn=>#[_,i,rfl];have r:=sub_AttributeError;have p:=RY.lookup;have m:=RY.bind (.ref a);have l:=am_list_getattr_none;delta getAttr? getAttrBy? getAttrBy
 repeat (any_goals (first | assumption | exact ty _ | (refine Ut RY (ty _) am_entry_list_getattribute (F.args_list_getattribute_2 _ _) (meets_getattribute_miss_list a _ _ _ "keys" _ H8 (by decide +kernel) (by decide +kernel)) ⟨i,k,λh' f e h=>?_⟩) | wp_step))
 let#[u,t,v]:=h.there;delta getattributeRaised
 repeat (any_goals (first | assumption | wp_step))
 exact q h' f h.keeps
def NY (xs:List V)(H:Hp)(Q:VK):Prop:=∃ l,∃ qs:List PQ,xs=[.ref l]/\H l=some (.lst (qs.map λq=>V.ref q.1))/\(∀ q∈qs,IX H q)/\qs.length < sizeLine/\∀ S,H S=none->Q (.ref S) (upd H S (.dT (mkD qs)))
theorem As(v:bH k X.A):ck X (.type "dict") NY:=by
 intro B s Y H y us Q I r h;let#[l,A,rfl,G,U,E,q]:=h;cases r with
 | cons L K=>
 cases K;cases L;let#[u,n,ra,x,_]:=I.lst G
 let i:=s.heap.push { cls:=.type "dict",data:=.dict #[] }
 have m:∀ b o,s.heap.get? b=some o->i.get? b=some o:=λb o e=>bc _ e;have w:i.get? s.heap.objs.size=some { cls:=.type "dict",data:=.dict #[] }:=en _ rfl;have ty:∀ t,Vf { s with heap:=i,toks:=t } (.ref s.heap.objs.size) "dict":=λt=>#[_,w,rfl];refine callType_codes (Q₁:=λc z=>c=.ref s.heap.objs.size/\z={ s with heap:=i }) F.kt_called_dict (F.kt_typeCall_dict_1 _) F.entry_dict_init (kt_code_dict_new _ #[rfl,rfl]) ?_;rintro c z ⟨rfl,rfl⟩;refine#[ty _,F.args_dict_init_2 _ _,?_];delta RE.«dict.__init__» Builtin.Dict.selfAndRest;refine ba (ba (wpAny_notOrdered_dict (ty _) ?_));refine(show wpAny _ _ (pure (s.heap.objs.size,[fC l])) _ _ _ from bq ?_);show wpAny _ _ (Ui _ s.heap.objs.size (.ref l) [] .none) _ _ _;delta Ui;have tl:Vf { s with heap:=i } (.ref l) "list":=#[_,m _ _ x,rfl];refine ba (VQ tl ?_);rw[if_pos (by decide)];refine ba (CI (m _ _ x) v.hd λg t2 j=>?_);rw[if_pos (show (none:Option Value).isNone=true from rfl)];refine ba (Tq ?_);have T:g.IsList l u.toArray:=#[_,j _ _ (m _ _ x),rfl,_,rfl];have f:s.heap.objs.size < g.objs.size:=ec (j _ _ w);refine ba (VD T ?_);refine bq #[Vb rF _,?_];have C:∀ b o,g.get? b=some o->(g.push { cls:=.type "list_iterator",data:=.fields (Vz9 [.ref l,.int 0 0]) }).get? b=some o:=λb o e=>bc _ e;refine Fj (s0:=s) (d:=s.heap.objs.size) (I:=g.objs.size) (by simp -iota [v.hd]) (by have:=v.units;show X.A.units + 1 + 1 < _;exact WF 0xf55c06fad2557b0e this) I G U (gm f) (cb _) (Fn f) E (λh' t' y S D p=>#[rfl,?_]) _ 0 _ _ _ [] rfl (eA _) (λb o e=>C _ _ (j _ _ (m _ _ e))) #[_,en _ rfl,rfl,rfl] #[_,#[],0,C _ _ (j _ _ w),#[rfl,rfl,rfl],rfl,rfl,Qe] .nil;have J:=I.hok.fresh (cb s.heap.objs.size);let#[o,V,W,R,P,O,N,M]:=D;refine#[.ref s.heap.objs.size,_,I.laid (a:=s.heap.objs.size) (o:=.dT (mkD A)) (t':=t') S (cb _) #[eH (Bi A) (Fn E),beq_eq_false_iff_ne.mpr (lj (gm I.big)),y,p.keeps λb Z e=>?_,o,V,W,R,P,O,N,M],rfl,q _ J];rw[ao (aV e J)];exact e
end
end _2
namespace _3
open PySem _2 PySem.Spec PyProof.Rows
noncomputable abbrev MP:=List (Int×Int×Int)
noncomputable def getM (m:MP)(y x:Int):Option Int:=(m.find? λq=>decide (q.1=y/\q.2.1=x)).map (·.2.2)
noncomputable def i7 (m:MP)(q:Int×Int×Int):MP:=if (m.any λr=>decide (r.1=q.1/\r.2.1=q.2.1))=true then m.map (λr=>if r.1=q.1/\r.2.1=q.2.1 then (r.1,r.2.1,q.2.2) else r) else m++[q]
noncomputable def mkM (L:MP):MP:=L.foldl i7 []
theorem lz{a b y x:Int}:(([.inl a,.inl b]:List Key)=[.inl y,.inl x])↔(a=y/\b=x):=by simp_all
theorem y6(m:MP)(y x:Int):iF (mpT m) [.inl y,.inl x]=(getM m y x).map V.int:=by
 delta iF getM mpT
 induction m with
 | nil=>rfl
 | cons q m a=>
  rw[eN,GM,GM];by_cases h:q.1=y/\q.2.1=x
  .rw[decide_eq_true (lz.mpr h),decide_eq_true h];rfl
  .rw[decide_eq_false (λz=>h (lz.mp z)),decide_eq_false h];exact a
theorem zr(m:MP)(q:Int×Int×Int):putK (mpT m) [.inl q.1,.inl q.2.1] (.int q.2.2)=mpT (i7 m q):=by
 delta putK i7;have e:((mpT m).any λa=>decide (a.1=[.inl q.1,.inl q.2.1]))=(m.any λr=>decide (r.1=q.1/\r.2.1=q.2.1)):=by
  delta mpT;rw[List.any_map]
  congr 1
  funext r
  exact decide_eq_decide.mpr lz
 rw[e];split
 .delta mpT;rw[zq,zq]
  congr 1
  funext r
  show (if ([.inl r.1,.inl r.2.1]:List Key)=[.inl q.1,.inl q.2.1] then _ else _)=_;by_cases h:r.1=q.1/\r.2.1=q.2.1
  .rw[if_pos (lz.mpr h)];simp -iota only[Vg,if_pos h]
  .rw[if_neg (λz=>h (lz.mp z))];simp -iota only[Vg,if_neg h]
 .delta mpT;rw[er];rfl
theorem wW{m:MP}{q:Int×Int×Int}{y x:Int}:getM (i7 m q) y x=if y=q.1/\x=q.2.1 then some q.2.2 else getM m y x:=by
 have h:=Dr (mpT m) [.inl q.1,.inl q.2.1] [.inl y,.inl x] (.int q.2.2);rw[zr,y6,y6] at h;by_cases c:y=q.1/\x=q.2.1
 .simp_all
 .rw[if_neg (λz=>c (lz.mp z))] at h;rw[if_neg c];cases g:getM (i7 m q) y x with
  | none=>
   rw[g] at h;cases a:getM m y x with
   | none=>rfl
   | some n=>rw[a] at h;cases h
  | some n=>
   rw[g] at h;cases a:getM m y x with
   | none=>rw[a] at h;cases h
   | some b=>rw[a] at h;cases h;rfl
theorem Hi(m:MP)(q:Int×Int×Int):(i7 m q).length<=m.length + 1:=by
 delta i7;split
 .rw[lM0];lia
 .simp_all
theorem zL {f:Int->Int->Int}:∀ {L m:MP},(∀ q∈L,q.2.2=f q.1 q.2.1)->(∀ y x n,getM m y x=some n->n=f y x)->∀ y x,(∃ q∈L,q.1=y/\q.2.1=x)\/(getM m y x).isSome=true->getM (L.foldl i7 m) y x=some (f y x)
 | [],m,_,b,y,x,h=>by
  rcases h with ⟨q,d,_⟩ | h
  .cases d
  .let#[n,a]:=wh.mp h;rw[List.foldl_nil,a,b y x n a]
 | q::L,m,g,b,y,x,h=>by
  rw[Mt];refine zL (λr hr=>g r (.tail _ hr)) (λy x n a=>?_) y x ?_
  .rw[wW] at a;split at a
   .grind
   .exact b y x n a
  .rw[wW];by_cases c:y=q.1/\x=q.2.1
   .right;rw[if_pos c];rfl
   .rw[if_neg c];rcases h with ⟨r,hr,e⟩ | h
    .rcases cm.mp hr with rfl | hr
     .exact(c #[e.1.symm,e.2.symm]).elim
     .exact .inl #[r,hr,e]
    .exact .inr h
theorem zK:∀ (L m:MP),(L.foldl i7 m).length<=m.length + L.length
 | [],m=>cb _
 | q::L,m=>by
  have b:=zK L (i7 m q);have a:=Hi m q;rw[Mt,eh];exact YD b a
section
variable {b:Expr}{tb:TE}
def rMg (x y:V)(H:Hp)(Q:VK):Prop:=∃ a v,x=.ref a/\AK H a y (some v)/\Q v H
def mg3 (x y:D)(Γ:G)(Q:RV->G->Prop):Prop:=∃ m a b n,x=.mp m/\y=.tup [.int a,.int b]/\getM m a b=some n/\Q (.fz (.int n)) Γ
theorem Oh:jI K rMg mg3:=by
 intro B F o H r x y u t Q v e f d q k;let#[m,a,c,n,rfl,rfl,g,q]:=q;let#[p,rfl,j]:=f;let#[b,s,rfl,i,h]:=d;have l:=aC.fZ (ns:=[a,c]) h;subst l;refine#[p,.int n,rfl,?_,k _ _ (gr e q)];have:=AK.t (k:=[.inl a,.inl c]) (e.sub _ _ j) (e.sub _ _ i);rw[y6,g] at this;exact this
theorem uZ(e:bH k X.A)(d:P3B K X a ta a3)(c:P3B K X b tb b3)(hs:autoParam (M0 b) wL9):P3 K X (.Subscript a b pos) (tOp rMg ta tb) (bU mg3 a3 b3):=#[Hy (JK e) d.pe c.pe hs,gq Oh d.rf c.rf]
theorem K0{L:List PM}{vs:List V}(r:aC K F (L.map pmD) vs):∃ qs:List PQ,vs=qs.map (λq=>V.ref q.1)/\(∀ q∈qs,IX F q)/\mkD qs=mpT (mkM L)/\qs.length=L.length:=by
 have all:∀ (L:List PM) (vs:List V),aC K F (L.map pmD) vs->∃ qs:List PQ,vs=qs.map (λq=>V.ref q.1)/\(∀ q∈qs,IX F q)/\(∀ m:MP,qs.foldl sD (mpT m)=mpT (L.foldl i7 m))/\qs.length=L.length:=by
  intro L
  induction L with
  | nil=>intro vs r;cases r;exact#[[],rfl,λ_ h=>(nomatch h),λ_=>rfl,rfl]
  | cons q L d=>
   intro vs r;let#[v,ws,rfl,c,a]:=r;let#[qs,rfl,i,g,A]:=d ws a;let#[t,w,rfl,p,y,x,rfl,#[b,z,rfl,o,n],u,s,rfl,l,k]:=c;cases k;cases l;have j:=aC.fZ (ns:=[q.1,q.2.1]) n;subst j;refine#[(t,b,[.inl q.1,.inl q.2.1],q.2.2)::qs,rfl,λr hr=>?_,λm=>?_,by simp_all]
   .rcases cm.mp hr with rfl | hr
    .exact#[p,o]
    .exact i r hr
   .rw[Mt,Mt,<- g];show qs.foldl sD (putK (mpT m) [.inl q.1,.inl q.2.1] (.int q.2.2))=_;rw[zr]
 let#[qs,c,a,f,e]:=all L vs r;exact#[qs,c,a,f [],e]
def QS (ds:List D)(Γ:G)(Q:RV->G->Prop):Prop:=∃ L:List PM,ds=[.lst (L.map pmD)]/\L.length<=3000000/\Q (.fz (.mp (mkM L))) Γ
theorem Pq(m:bH k X.A):B3 K X (.type "dict") NY QS:=#[As m,by
 intro B F A H g D E Q G e r q k;let#[L,rfl,j,q]:=q;let#[v,rfl,p,C,rfl,t,s]:=r.one;let#[h,rfl,c,w,u]:=K0 s;refine#[p,h,rfl,t,λq b=>#[e.sub _ _ (c q b).1,e.sub _ _ (c q b).2],by rw[u];exact Tj j (by decide),λS a=>k _ _ ?_];rw[w];have y:=e.alloc a (.dT (mpT (mkM L)));have f:F S=none:=by
  cases z:F S with
  | none=>rfl
  | some o=>rw[e.sub _ _ z] at a;cases a
 have x:=y.freeze (l:=S) f aw (e.dom _ a) λi d hd n=>e.sX a i d hd n;exact#[_,g,.fz (.mp (mkM L)),aY f,x,#[S,rfl,aw],q]]
end
noncomputable abbrev DM:=Option (Addr×MP)
structure NSX (K:Fg0) (F0 H0:Hp) (own:La0) (i j:Nat) (p:Addr) (F:Hp) (σ:_2.St) (H:Hp) (Γ:G) (xss:NR) (m:DM):Prop where
 s:NSt K H0 own i p F σ H Γ xss
 nf:∀ b o,F b=some o->F0 b=some o\/H0 b=none
 d:∀ pd kvs,m=some (pd,kvs)->Γ[j]?=some (some (.fz (.adr pd)))/\H pd=some (.dT (mpT kvs))/\F pd=none/\H0 pd=none
section
variable {p2:Pos}{xss:NR}{m:DM}
theorem NSX.grow(t:NSX K F0 H0 own i j p F σ H Γ xss m)(s:aB H H')(f:aB F F')(sub:aB F' H')(d:∀ b o,F' b=some o->F b=some o\/H b=none):NSX K F0 H0 own i j p F' σ H' Γ xss m:=by
 refine#[t.s.grow s f sub d,λb o h=>?_,λa c e=>?_]
 .rcases d b o h with q | q
  .exact t.nf b o q
  .let#[_,_,st]:=t.s.n;exact .inr (st.dom b q)
 .let#[l,k,n,g]:=t.d a c e;refine#[l,s _ _ k,?_,g];cases q:F' a with
  | none=>rfl
  | some o=>
   rcases d a o q with w | w
   .grind
   .simp_all
theorem NSX.up(t:NSX K F0 H0 own i j p F σ H Γ xss m)(s:aB H H'):NSX K F0 H0 own i j p F σ H' Γ xss m:=t.grow s (aB.refl F) (t.s.e.sub.trans s) λ_ _ h=>.inl h
noncomputable def DL (i j:Nat)(Γ:G)(a:NR):DM->G
 | none=>Ky i Γ a
 | some (_,kvs)=>(Ky i Γ a).set j (some (.fz (.mp kvs)))
theorem NSX.view(t:NSX K F0 H0 own i j p F σ H Γ xss m):∃ g,aB F g/\(∀ b o,g b=some o->F b=some o\/H0 b=none\/b∈own)/\E0n K g σ H (DL i j Γ xss m):=by
 let#[f,n,u]:=t.s.n;have k:∀ b o,fX F H (p::f) b=some o->F b=some o\/H0 b=none\/b∈own:=λb o h=>by
  delta fX at h;split at h
  .rename_i hm;rcases cm.mp hm with rfl | hm
   .exact .inr (.inr t.s.po)
   .rcases u.new b hm with w | w
    .exact .inr (.inr w)
    .exact .inr (.inl w)
  .exact .inl h
 have s:E0n K (fX F H (p::f)) σ H (Ky i Γ xss):=by
  refine(t.s.e.move n.DN n.A2).see (v:=.ref p) ?_ #[p,_,rfl,by delta fX;rw[if_pos (.head _)];exact n.top,uI n.len (λq h=>.tail _ h) n.row];let#[v,a,b]:=t.s.e.fz i _ t.s.at_;rw[a,show v=.ref p from b]
 cases m with
 | none=>exact#[_,n.DN,k,s]
 | some c=>
  let#[d,e]:=c;let#[y,r,B,A]:=t.d d e rfl;have l:aB (fX F H (p::f)) (upd (fX F H (p::f)) d (.dT (mpT e))):=λb o h=>by
   by_cases z:b=d
   .subst z;have:=n.A2 _ _ h;rw[r] at this;rw[aw];exact this
   .rw[ao z];exact h
  have x:aB (upd (fX F H (p::f)) d (.dT (mpT e))) H:=λb o h=>by
   by_cases z:b=d
   .subst z;rw[aw] at h;rw[r];exact h
   .rw[ao z] at h;exact n.A2 _ _ h
  refine#[_,n.DN.trans l,λb o h=>?_,(s.move l x).see (v:=.ref d) ?_ #[d,rfl,aw]]
  .by_cases z:b=d
   .simp_all
   .rw[ao z] at h;exact k b o h
  .let#[v,a,b]:=t.s.e.fz j _ y;rw[a,show v=.ref d from b]
abbrev TX:=(G->NR->DM->Prop)->G->NR->DM->Prop
def J3 (K:Fg0)(i j:Nat)(t:TS)(c:TX):Prop:=∀ (F0 H0:Hp) (own:La0) (p:Addr) (F:Hp) (σ:_2.St) (H:Hp) (Γ:G) (xss:NR) (m:DM) (D:Ends) (k:G->NR->DM->Prop),NSX K F0 H0 own i j p F σ H Γ xss m->
 (∀ F' aJ H' Γ' a b,aB F F'->NSX K F0 H0 own i j p F' aJ H' Γ' a b->k Γ' a b->D.nx aJ H')->c k Γ xss m->t D σ H
structure X3S (K:Fg0) (X:Cx) (i j:Nat) (st:Stmt) (t:TS) (n3:TX):Prop where
 pe:PS X st t
 rf:J3 K i j t n3
structure AF (K:Fg0) (X:Cx) (i j:Nat) (st:List Stmt) (t:TS) (n3:TX):Prop where
 pe:PSs X st t
 rf:J3 K i j t n3
variable {rest:List Stmt}{t:TS}{n3 m3:TX}{k:Expr}
noncomputable def Jx:TX:=λk Γ xss m=>k Γ xss m
theorem J7:AF K X i j [] DB Jx:=#[A8,λg f d p F b H c a m D k s e q=>e F b H c a m (aB.refl F) s q]
theorem nz(h:X3S K X i j st t n3):AF K X i j [st] t n3:=#[l7 h.pe,h.rf]
theorem lT(h:X3S K X i j st t n3)(n:AF K X i j rest u m3):AF K X i j (st::rest) (Ca t u) (λk=>n3 (m3 k)):=#[jj h.pe n.pe,λr o a p F v H w l m D k s E q=>
 h.rf r o a p F v H w l m _ _ s (λJ c I e g C x z A=>n.rf r o a p J c I e g C D k z (λF2 b G d f B y=>E F2 b G d f B (x.trans y)) A) q]
theorem NSX.go2(t:NSX K F0 H0 own i j p F σ H Γ xss m)(s:aB H H')(d:aB F F')(f:∀ b o,F' b=some o->F b=some o\/H b=none)(c:E0n K F' aJ H' Γ')(l:Γ'[i]?=Γ[i]?)(k:Γ'[j]?=Γ[j]?):NSX K F0 H0 own i j p F' aJ H' Γ' xss m:=by
 have g:=t.grow s d c.sub f;exact#[#[c,l.trans t.s.at_,g.s.n,t.s.po],g.nf,λe a h=>by
  let#[q,n]:=g.d e a h;exact#[k.trans q,n]]
theorem kJ.e0(b:kJ Γ)(e:En K B F σ H Γ):E0n K F σ H Γ:=yG e.sub e.len λm g a=>by
 let#[d,rfl]:=b.at a;let#[v,f,c]:=e.fz m d a;exact#[d,v,rfl,f,c]
noncomputable def sG (i j:Nat)(a:TS3):TX:=λk Γ xss m=>a { nx:=λΓ'=>Γ'[i]?=Γ[i]?/\Γ'[j]?=Γ[j]?/\kJ Γ'/\k Γ' xss m,rt:=λ_ _=>False } Γ
theorem kK(h:P3S K X st t s3):X3S K X i j st t (sG i j s3):=#[h.pe,λA z r p F n H f d m y k s u q=>by
 refine h.rf _ F n H f y { nx:=λc=>c[i]?=f[i]?/\c[j]?=f[j]?/\kJ c/\k c d m,rt:=λ_ _=>False } s.s.e #[λx e w c l g q=>?_,λ_ _ _ _ _ _ _ _ _ q=>q.elim,λ_ _ _ _ _ _ q=>q.elim,λ_ _ _ _ _ _ q=>q.elim] q;let#[a,v,b,q]:=q;exact u x e w c d m l (s.go2 (λb o h=>g.rest b o h λ_ q=>nomatch q) l (λb o h=>g.new b o h) (b.e0 g) a v) q]
noncomputable def ifX (d:TT3)(a b:TX):TX:=λk Γ xss m=>d Γ λc ak=>ak=Γ/\match c with
 | true=>a k Γ xss m
 | false=>b k Γ xss m
theorem M_{c:Expr}{a b:List Stmt}(v:P3T K X c tc A3)(x:AF K X i j a t n3)(w:AF K X i j b u m3):X3S K X i j (.If c a b pos) (GS tc t u) (ifX A3 n3 m3):=#[D8 v.pe x.pe w.pe,λz y e p F f H g d m A k s r q=>by
 refine v.rf _ F f H g _ _ s.s.e q λc H' Z=>?_;let#[E,B,D,C,_,n]:=Z;have l:=s.up (H':=H') λb o h=>C.rest b o h λ_ q=>nomatch q
 cases c with
 | true=>exact x.rf z y e p F f H' g d m A k l r n
 | false=>exact w.rf z y e p F f H' g d m A k l r n]
def E7 (i j:Nat)(xs:List D)(Γ:G)(c:NR)(m:DM)(e:TG3)(f:TX)(k:G->NR->DM->Prop)(_:Tag (e,f,k)):Prop:=∃ b:Nat->G->NR->DM->Prop,b 0 Γ c m/\(∀ n d Γ a m,xs[n]?=some d->b n Γ a m->e d Γ λΓ'=>Γ'[i]?=Γ[i]?/\Γ'[j]?=Γ[j]?/\f (b (n + 1)) Γ' a m)/\∀ Γ a m,b xs.length Γ a m->k Γ a m
noncomputable def yr (i j:Nat)(a:TI3)(b:TG3)(c:TX):TX:=λk Γ xss m=>a Γ λxs ak=>ak=Γ/\E7 i j xs Γ xss m b c k ⟨⟩
theorem jw{a:TX}{k:G->NR->DM->Prop}:yr i j i3 g3 a k Γ xss m=i3 Γ λxs ak=>ak=Γ/\E7 i j xs Γ xss m g3 a k ⟨⟩:=rfl
theorem jz{b3:TX}{k:G->NR->DM->Prop}{t:Tag (g3,b3,k)}(b:Nat->G->NR->DM->Prop)(f:b 0 Γ xss m)(c:∀ n d Γ a m,xs[n]?=some d->b n Γ a m->g3 d Γ λΓ'=>Γ'[i]?=Γ[i]?/\Γ'[j]?=Γ[j]?/\b3 (b (n + 1)) Γ' a m)(e:∀ Γ a m,b xs.length Γ a m->k Γ a m):E7 i j xs Γ xss m g3 b3 k t:=#[b,f,c,e]
theorem pM{U:TS}{b3:TX}(hp:Xf (model X.prog X.w) X.A X.env X.xe)(hc:X.calm=true)(hi:P3I K X tg iter wi i3)(hg:P3G K X tg g g3)(hb:AF K X i j body U b3)(hs:autoParam (∀ x,hB iter X.env x=pure x) wT) :
  X3S K X i j (.For tg iter body [] pos) (Kq wi g U) (yr i j i3 g3 b3):=#[D9 hp hc hi.pe hg.pe hb.pe hs,λC B l p F I H N D mm DD k s kk q=>by
 refine hi.rf _ F I H N _ _ s.s.e q λJ H1 F1 a1 A Y P R Z=>?_;let#[a2,Q,i0,it,ie]:=Z;have t1:NSX K C B l i j p F1 I H1 N D mm:=s.grow (λb o h=>P.rest b o h λ_ q=>nomatch q) Y P.sub λb o h=>P.new b o h;refine#[λm n I H=>n=A.length - m/\m<=A.length/\∃ u d e t,aB F1 u/\NSX K C B l i j p u I H d e t/\Q m d e t,#[_,rfl,eA _,F1,N,D,mm,aB.refl _,t1,i0],?_];rintro m n v S ⟨rfl,hm,F2,r,e,m2,G,E,iv⟩;by_cases lt:m < A.length
 .refine .inr #[R.go m S (G.trans E.s.e.sub) lt,λf T=>∃ u d e t,aB F1 u/\NSX K C B l i j p u f T d e t/\Q (m + 1) d e t,λf T Z=>?_,λx L y=>?_]
  .let#[u,d,w,t,a,b,c]:=Z;exact#[A.length - (m + 1),by lia,rfl,lt,u,d,w,t,a,b,c]
  have hd:A[m]?=some A[m]:=gE0 lt;let#[M,W,O,r3]:=R.turn G E.s.e hd y;have V:NSX K C B l i j p M v L r e m2:=E.grow (λb o h=>O.rest b o h λ_ q=>nomatch q) W O.sub λb o h=>O.new b o h;refine hg.rf _ M v L r x _ _ _ V.s.e r3 (it m _ r e m2 hd iv) λf d e4 Z=>?_;let#[a4,b4,q4]:=Z;have t4:NSX K C B l i j p M f L d e m2:=V.go2 (λ_ _ h=>h) (aB.refl _) (λ_ _ h=>.inl h) e4 a4 b4;exact hb.rf C B l p M f L d e m2 _ (Q (m + 1)) t4 (λu f T d w t sF t' q'=>#[u,d,w,t,(G.trans W).trans sF,t',q']) q4
 .have z:m=A.length:=by lia
  subst z;exact .inl #[R.stop _ S (G.trans E.s.e.sub) rfl,kk F2 v S r e m2 (Y.trans G) E (ie r e m2 iv)]]
noncomputable def rW (i j a b:Nat)(c:TE3):TX:=λk Γ xss m=>c (DL i j Γ xss m) (Og (λn=>∃ (y x:Nat) (xs:Li0),Γ[a]?=some (some (.fz (.int y)))/\Γ[b]?=some (some (.fz (.int x)))/\xss[y]?=some xs/\x < xs.length/\k Γ (xss.set y (xs.set x n)) m) ⟨⟩)
theorem vK{c:Nat}(G:P3 K X o to (bU ix3 (bor i) (bor jy)))(hk:P3B K X k (eE c) (bor c))(I:P3 K X e te e3)(ha:autoParam (∀ v,assign (.Subscript o k p2) X.env v=(do
   let O <- holding [v] (eval o X.env)
   let iv <- holding [v,O] (eval k X.env)
   IR p2
   holding [v,O,iv] (VB O iv v)
   release [v,O,iv] [])) wT)(hs:autoParam (SC [.Subscript o k p2] e pos.line X.env=pure false) wE)(hw:autoParam (SD [.Subscript o k p2] e X.env=pure none) wE)(h1:autoParam ((qd [.Subscript o k p2] X.env).map (·.2)=[assign (.Subscript o k p2) X.env]) wE)(hi:autoParam (i≠jy) wP) :
  X3S K X i j (.Assign [.Subscript o k p2] e pos) (gY te (CQ to (eE c) uW)) (rW i j jy c e3):=#[(G3 (bA G) hk I ha hs hw h1).pe,λF0 H0 S p F C H L l m DD k s W q=>by
 let#[Fv,_,_,ev]:=s.view;refine I.rf _ Fv C H _ _ _ ev q λv H1 Z=>?_;let#[F1,J,r,sF,e1,Q,n,hr,y,x,M,Y,hx,a,V,q]:=Z;subst hr;obtain rfl:v=.int n:=Q;have u:aB H H1:=λb o h=>e1.rest b o h λ_ q=>nomatch q
 have w:=s.up u;let#[N,ax,bx]:=s.s.e.fz c _ hx;let#[R,f,P]:=w.s.n;have U:y < l.length:=(gS0 a).1;obtain⟨qy,g⟩:∃ qy,R[y]?=some qy:=#[_,gE0 (by rw[f.len];exact U)];refine w.s.row f hi G.rf Y g λH2 d=>?_;have D:=w.up d;have A:=f.grow d (f.sub.trans d) λ_ _ h=>.inl h;refine#[N,ax,qy,_,(x:Int),x,rfl,bx,A.row y _ _ g a,by rw[lM0];exact Bq V,?_];have t:=D.s.put A (P.grow d) g (M.set x n);rw[Xr] at t;refine W F C _ L _ m (aB.refl F) #[t,s.nf,λE B h=>?_] q;let#[d1,d2,d3,d4]:=D.d E B h;have T:E≠qy:=λz=>by
  have:=A.row y _ _ g a;grind
 exact#[d1,by rw[ao T];exact d2,d3,d4]]
noncomputable def A0 (i j l:Nat)(a:TE3):TX:=λk Γ xss m=>a (DL i j Γ xss m) (Og (λn=>l < Γ.length/\l≠i/\l≠j/\k (Γ.set l (some (.fz (.int n)))) xss m) ⟨⟩)
theorem GD{l:Nat}(h:PS X st (gY te (dE l)))(C:P3 K X e te e3):X3S K X i j st (gY te (dE l)) (A0 i j l e3):=#[h,λM L w p F g H I a m N k s A q=>by
 let#[G,_,_,D]:=s.view;refine C.rf _ G g H _ _ _ D q λv H1 Z=>?_;let#[F1,t,r,J,E,u,n,B,x,z,y,q]:=Z;subst B;obtain rfl:v=.int n:=u;have c:aB H H1:=λb o h=>E.rest b o h λ_ q=>nomatch q
 have f:=s.up c;exact A F _ H1 _ a m (aB.refl F) (f.go2 (λ_ _ h=>h) (aB.refl _) (λ_ _ h=>.inl h) (f.s.e.put (d:=.int n) (v:=.int n) x rfl) (bh z) (bh y)) q]
noncomputable def newX (i j:Nat):TX:=λk Γ xss m=>m=none/\j < Γ.length/\j≠i/\∀ a,k (Γ.set j (some (.fz (.adr a)))) xss (some (a,[]))
theorem J8(h:PS X st (gY zb (dE j))):X3S K X i j st (gY zb (dE j)) (newX i j):=#[h,λC B r p F y H A f m D k s w Z=>by
 let#[rfl,g,t,q]:=Z;refine λa e=>?_;have x:F a=none:=by
  cases z:F a with
  | none=>rfl
  | some o=>rw[s.s.e.sub _ _ z] at e;cases e
 let#[_,_,l]:=s.s.n;have c:=s.up (H':=upd H a (.dT [])) λb o h=>by rw[ao (aV h e)];exact h
 refine w F _ _ _ f _ (aB.refl F) #[#[c.s.e.put (d:=.adr a) (v:=.ref a) g rfl,(bh t).trans c.s.at_,c.s.n,c.s.po],c.nf,λn u h=>?_] (q a);cases h;exact#[aG g,aw,x,l.dom _ e]]
noncomputable def N1 (c b:Nat):TX:=λk Γ xss m=>∃ a kvs y x n,m=some (a,kvs)/\Γ[c]?=some (some (.fz (.tup [.int y,.int x])))/\Γ[b]?=some (some (.fz (.int n)))/\kvs.length < sizeLine/\k Γ xss (some (a,i7 kvs (y,x,n)))
theorem J6{g f:Nat}(h:PS X st (DP (eE j) (eE g) (eE f))):X3S K X i j st (DP (eE j) (eE g) (eE f)) (N1 g f):=#[h,λF0 H0 S p F L H M l m DD k s T Z=>by
 let#[pd,e,y,x,n,rfl,hk,v,U,q]:=Z;let#[J,I,G,E]:=s.d pd e rfl;let#[O,ad,Y]:=s.s.e.fz j _ J;let#[vk,ak,b,r,rfl,d,P]:=s.s.e.fz g _ hk;let#[N,an,W]:=s.s.e.fz f _ v;have V:=aC.fZ (ns:=[y,x]) P;subst V;obtain rfl:O=.ref pd:=Y;obtain rfl:N=.int n:=W;refine#[_,an,_,ad,_,ak,pd,_,rfl,GB.t (k:=[.inl y,.inl x]) I (s.s.e.sub _ _ d) (by delta mpT;rw[lM0];exact U),?_];rw[zr (q:=(y,x,n))];let#[Q,ns,t]:=s.s.n;have u:∀ b o,b≠pd->H b=some o->upd H pd (.dT (mpT (i7 e (y,x,n)))) b=some o:=λb o z h=>by rw[ao z];exact h
 have A:∀ b r,H b=some (.lst r)->b≠pd:=λb r h z=>by rw[z,I] at h;cases h
 have c:aB F (upd H pd (.dT (mpT (i7 e (y,x,n))))):=λb o h=>by rw[ao (aV h G)];exact s.s.e.sub b o h
 refine T F L _ M l _ (aB.refl F) #[#[s.s.e.move (aB.refl F) c,s.s.at_,#[Q,#[c,u _ _ (A _ _ ns.top) ns.top,ns.nd,ns.len,λa q w D C=>u _ _ (A _ _ (ns.row a q w D C)) (ns.row a q w D C),ns.no],#[λb o d v=>u _ _ (λz=>by rw[z,E] at d;cases d) (t.keep b o d v),λb d=>?_,t.new]],s.s.po],s.nf,λR B h=>?_] q
 .by_cases z:b=pd
  .grind
  .rw[ao z] at d;exact t.dom b d
 .cases h;exact#[J,aw,G,E]]
end
structure Rc (F0 H0:Hp) (own:La0) (F F' H':Hp):Prop where
 s:aB F F'
 sub:aB F' H'
 new:∀ b o,F' b=some o->F0 b=some o\/H0 b=none\/b∈own
 keep:∀ b o,H0 b=some o->b∉own->H' b=some o
 dom:∀ b,H' b=none->H0 b=none
section
variable {p2:Pos}{xss:NR}{m:DM}
variable {rest:List Stmt}{t:TS}{n3:TX}{ev:Expr}{tv:TE}{v3:TE3}
abbrev TRX:=(D->Prop)->G->NR->DM->Prop
def PX (K:Fg0)(i j:Nat)(t:TS)(r3:TRX):Prop:=∀ (F0 H0:Hp) (own:La0) (p:Addr) (F:Hp) (σ:_2.St) (H:Hp) (Γ:G) (xss:NR) (m:DM) (a:Ends) (k:D->Prop),NSX K F0 H0 own i j p F σ H Γ xss m->
 (∀ v F' H' d,Rc F0 H0 own F F' H'->Rep K F' d v->k d->a.rt v H')->r3 k Γ xss m->t a σ H
structure X3R (K:Fg0) (X:Cx) (i j:Nat) (ss:List Stmt) (t:TS) (r3:TRX):Prop where
 pe:PSs X ss t
 rf:PX K i j t r3
noncomputable def OC (R:D->Prop)(_:Tag R):RV->G->Prop:=λr _=>∃ d,r=.fz d/\R d
noncomputable def NQ (i j:Nat)(a:TE3):TRX:=λk Γ xss m=>a (DL i j Γ xss m) (OC k ⟨⟩)
theorem J5(e:P3 K X ev tv v3):X3R K X i j [.Return (some ev) pos] (GR tv) (NQ i j v3):=#[l7 (zu e.pe),λI G x p F f H E l m J k s y q=>by
 let#[D,t,n,B]:=s.view;refine e.rf _ D f H _ _ _ B q λv C Z=>?_;let#[F1,g,r,u,a,w,d,z,q]:=Z;subst z;let#[_,_,c]:=s.s.n;refine y v F1 C d #[t.trans u,a.sub,λb o h=>?_,λb o h A=>a.rest b o (c.keep b o h A) λ_ q=>(nomatch q),λb h=>c.dom b (a.dom b h)] w q;rcases a.new b o h with h | h
 .rcases n b o h with h | h
  .rcases s.nf b o h with h | h
   .exact .inl h
   .exact .inr (.inl h)
  .exact .inr h
 .exact .inr (.inl (c.dom b h))]
theorem nV{r3:TRX}(h:X3S K X i j st t n3)(l:X3R K X i j rest u r3):X3R K X i j (st::rest) (Ca t u) (λk=>n3 (r3 k)):=#[jj h.pe l.pe,λo n a p F r H w g m D k s B q=>
 h.rf o n a p F r H w g m _ _ s (λG b E c e A x y z=>l.rf o n a p G b E c e A D k y (λv F2 C d f=>B v F2 C d #[x.trans f.s,f.sub,f.new,f.keep,f.dom]) z) q]
theorem M9{l:Nat}{x:Str}(d:X.N.Nodup)(hi:X.N[l]?=some x)(b:Loc X.env.scope x)(a:P3 K X e te e3)(hs:autoParam (Do e (some (.Name x pos')) pos.line X.env=pure false) wE)(c:autoParam (X.fn x=true\/X.env.scope.names.lookup x=some .local) wq0) :
  X3S K X i j (.Assign [.Name x pos'] e pos) (gY te (dE l)) (A0 i j l e3):=GD (zt d hi b a.pe hs c) a
def Jz (i:Nat)(b:TE3)(r3:TRX):TS3:=λD Γ=>b Γ λr ak=>DQ r λa=>bP ak i/\yP ak/\∃ xss:NR,a=sk xss/\∀ p,r3 (λd=>D.rt (.fz d) (noG ak)) (ak.set i (some (.fz (.adr p)))) xss none
theorem D4{x:Str}{r3:TRX}{L:TS3}(i j:Nat)(hs:P3S K X (.Assign [.Name x px] e pos) (gY te (dE i)) L)(S:P3 K X e te e3)(t:X3R K X i j ss u r3) :
  uh K X (.Assign [.Name x px] e pos::ss) (Ca (gY te (dE i)) u) (Jz i e3 r3):=#[jj hs.pe t.pe,λB F y H I DD D3 e k q=>S.rf B F y H I _ _ e q λv w Z=>by
  let#[E,g,r,s,a,A,O]:=Z;let#[J,rfl,G,c,xss,rfl,M]:=G4 O;let#[p,C,rfl,V,U,T,D]:=A;have il:=lB G;have W:=a.set (r:=.fz (.adr p)) G rfl;have l:yP (g.set i (some (.fz (.adr p)))):=λs hs=>by
   rcases List.mem_or_eq_of_mem_set hs with h | h
   .exact c s h
   .grind
  let#[Q,n]:=xB T;have P:NSt K w (p::C) i p E (y.set i (some (.ref p))) w (g.set i (some (.fz (.adr p)))) xss:=#[Pd W l,aG il,#[C,#[a.sub,V,U,Q,n,λz R=>(D z R).1],#[λb o h _=>h,λb h=>h,λq h=>.inl (.tail _ h)]],.head _];refine t.rf E w (p::C) p E _ w _ xss none DD _ #[P,λb o h=>.inl h,λ_ _ h=>nomatch h] (λv F2 Y d f A N=>?_) (M p);refine k.rt F2 y Y (noG g) v (.fz d) (s.trans f.s) #[f.sub,by delta noG;rw[lM0];exact a.len,λj d h=>(sZ h).elim,λj d h=>?_,λj d q h=>(sZ h).elim,λj d q h=>(sZ h).elim,λj m d d' q h=>?_,λj q h=>?_,a.keep.trans f.s,λb o h=>?_,λb o h t=>?_,λb h=>a.dom b (f.dom b h)] A N
  .rcases h with h | h <;> exact(sZ h).elim
  .rcases h with h | h <;> exact(sZ h).elim
  .let#[_,d,hd]:=a.par j q h;let#[_,z]:=c.at hd;cases z
  .rcases f.new b o h with h | h | h
   .exact a.new b o h
   .exact .inr (a.dom b h)
   .exact .inr (D b h).2.1
  .exact f.keep b o (a.rest b o h t) λz=>by rw[(D b z).2.1] at h;cases h]
end
end _3
namespace _2
open PySem PySem.Spec PyProof.Rows
theorem Mv{s:Shared}{a b:Addr}{e g d f:Int}{ia h:Lv0}(p:A.units < cLine)(k:Vals [.int e,.int g] ia)(j:Vals [.int d,.int f] h)(ta:s.heap.IsTuple a ia.toArray)(i:s.heap.IsTuple b h.toArray) :
  Vm A s (.ref a) (.ref b) (decide (e=d/\g=f)):=λc w E Q q=>by
 let#[m,u,t,o,r]:=ta;let#[l,B,z,n,v]:=i;refine wpAny_eqBool_tuple (knd:=cL c w) (x:=[.inl e,.inl g]) (y:=[.inl d,.inl f]) p #[m,_,o,u,t,r,by simpa using mi (a:=[.inl e,.inl g]) k] #[l,_,n,B,z,v,by simpa using mi (a:=[.inl d,.inl f]) j] ?_;rw[decide_eq_decide.mpr _3.lz];exact q
def NX (x y:V)(H:Hp)(Q:VK):Prop:=∃ (a p:Addr) (b c:Int) (ps:List (Addr×Int×Int)),x=.ref a/\y=.ref p/\H a=some (.tup [.int b,.int c])/\H p=some (.lst (ps.map λq=>V.ref q.1))/\(∀ q∈ps,H q.1=some (.tup [.int q.2.1,.int q.2.2]))/\Q (.bl (ps.any λq=>decide (q.2.1=b/\q.2.2=c))) H
noncomputable def eqP (ps:List (Addr×Int×Int))(a c:Int):Value->Bool
 | .ref b=>ps.any λq=>q.1 == b && decide (q.2.1=a/\q.2.2=c)
 | _=>false
theorem Fd{ps:List (Addr×Int×Int)}{d e:Int}(g:∀ q∈ps,H q.1=some (.tup [.int q.2.1,.int q.2.2])){q:Addr×Int×Int}(f:q∈ps):eqP ps d e (.ref q.1)=decide (q.2.1=d/\q.2.2=e):=by
 delta eqP;by_cases c:q.2.1=d/\q.2.2=e
 .rw[decide_eq_true c];exact Wn.mpr #[q,f,by rw[beq_self_eq_true,decide_eq_true c];rfl]
 .rw[decide_eq_false c,VE];intro r j h;rw[fT,beq_iff_eq,decide_eq_true_eq] at h;have a:=g r j;have k:=g q f;rw[h.1,k] at a;injection a with a
  injection a with a
  injection a with i b
  injection i with i
  injection b with b
  injection b with b
  exact c #[by lia,by lia]
theorem Lk(R:bH k X.A):OpR X (DA .In) NX:=by
 intro A s W H x y v u Q I J G h;let#[a,p,c,d,b,rfl,rfl,T,S,t,q]:=h;cases J;cases G;let#[f,r,O]:=_3.nN I S;let#[Z,L,E]:=_3.nM I T;have n:∀ w∈f,∃ q∈b,w=fC q.1:=λw o=>by
  let#[i,C]:=UJ.mp o;have lt:i < b.length:=by
   have:=(gS0 C).1;rw[<- r.length,lM0] at this;exact this
  let#[z,B,F]:=r.get (i:=i) (x:=.ref b[i].1) (by rw[ef,gE0 lt];rfl);rw[C] at B;cases B;exact#[b[i],RH lt,F]
 refine Wz (eqP b c d) O (λw o=>?_) #[.bl _,H,I,rfl,?_]
 .let#[m,g,rfl]:=n w (by simpa using o);let#[Y,K,D]:=_3.nM I (t m g);rw[Fd t g];exact Mv (by have:=R.units;show X.A.units + 1 < _;exact WF 0x8c3657e42557b0e this) K L D E
 .have e:f.toArray.any (eqP b c d)=b.any λq=>decide (q.2.1=c/\q.2.2=d):=by
   rw[List.any_toArray];have U:∀ {l:List (Addr×Int×Int)} {j:Lv0},(∀ q∈l,q∈b)->Vals (l.map λq=>V.ref q.1) j->j.any (eqP b c d)=l.any λq=>decide (q.2.1=c/\q.2.2=d):=by
    intro l
    induction l with
    | nil=>intro j _ r;cases r;rfl
    | cons m l P=>
     intro j g r;cases r with
     | cons N M=>
     cases N;rw[Rj,Rj,Fd t (g m (.head _)),P (λq h=>g q (.tail _ h)) M]
   exact U (λ_ h=>h) r
  rw[e];exact q
end _2
namespace _3
open PySem _2 PySem.Spec PyProof.Rows
def OO (x y:D)(Γ:G)(Q:RV->G->Prop):Prop:=∃ (a b:Int) (L:List (Int×Int)),x=.tup [.int a,.int b]/\y=.lst (L.map λq=>D.tup [.int q.1,.int q.2])/\Q (.fz (.bl (decide ((a,b)∈L)))) Γ
theorem pairs_at {F:Hp}:∀ {L:List (Int×Int)} {vs:List V},aC K F (L.map λq=>D.tup [.int q.1,.int q.2]) vs->∃ ps:List (Addr×Int×Int),vs=ps.map (λq=>V.ref q.1)/\(∀ q∈ps,F q.1=some (.tup [.int q.2.1,.int q.2.2]))/\ps.map (λq=>(q.2.1,q.2.2))=L
 | [],vs,h=>by cases h;exact#[[],rfl,λ_ h=>(nomatch h),rfl]
 | q::L,vs,h=>by
  let#[v,ws,rfl,c,a]:=h;let#[ps,rfl,d,j]:=pairs_at a;let#[b,i,rfl,g,f]:=c;have e:=aC.fZ (ns:=[q.1,q.2]) f;subst e;refine#[(b,q.1,q.2)::ps,rfl,λr hr=>?_,by simp_all];rcases cm.mp hr with rfl | hr
  .exact g
  .exact d r hr
theorem MG(m:bH k X.A):C3 K X .In NX OO:=#[Lk m,by
 intro B F w H z x y E D Q G e i g q k;let#[c,d,L,rfl,rfl,q]:=q;let#[a,C,rfl,o,l]:=i;let#[p,A,rfl,n,j]:=g;have u:=aC.fZ (ns:=[c,d]) l;subst u;let#[f,rfl,t,rfl]:=pairs_at j;refine#[a,p,c,d,f,rfl,rfl,e.sub _ _ o,n,λq b=>e.sub _ _ (t q b),k _ _ (mP e ?_)];have v:(f.any λq=>decide (q.2.1=c/\q.2.2=d))=decide ((c,d)∈f.map λq=>(q.2.1,q.2.2)):=by
  rw[Bool.eq_iff_iff,Wn,decide_eq_true_eq,kv];constructor
  .rintro⟨q,b,h⟩;rw[decide_eq_true_eq] at h;exact#[q,b,Sk h.1 h.2]
  .rintro⟨q,b,h⟩;injection h with s r
   exact#[q,b,decide_eq_true #[s,r]]
 rw[v];exact q]
section
variable {b:Expr}{tb ti:TE}{t:TA}{a3 i3:TE3}{p:Pos}
def BA (a:TE3):TE3:=λΓ _=>a Γ λ_ _=>False
theorem EC:∀ v H',Po K B F σ (λ_ _=>False) v H'->QQ v H':=λv H' Z=>by
 let#[_,_,_,_,_,_,z]:=Z;exact z.elim
theorem GH(c:P3X K X B F0 a ta a3)(g:P3B K X b tb b3):P3X K X B F0 (.BinOp a .LShift b pos) (tOp (rI yV λi j=>.int (i * 2 ^ j.toNat)) ta tb) (BA a3):=#[mQ Ex c.pe g.pe,λF d H f Q h w e q k=>c.rf F d H f _ _ w e q EC]
theorem B7{id:String}{x:Str}(n:B3 K X (.builtin id) r c3)(m:Gl X x)(l:X.mg x=none)(i:xa x=some (.builtin id))(f:P3X K X B F0 e te e3)(b:uG K X es t t3)(j:autoParam (x≠"__name__") wP)(c:autoParam (Yk x) wP)(d:autoParam (Yl X e es) wE)(a:autoParam (Ym pos X es) wE):P3X K X B F0 (.Call (.Name x p) (e::es) [] pos) (tCB r (ql te t)) (BA e3):=
 #[xP n.op m l i (gK f.pe b.pe d) j c d a,λF g H h Q o w e q k=>f.rf F g H h _ _ w e q EC]
theorem Dl(p:X.K=K)(o:X.calm=true)(hi:P3X K X B F0 iter ti i3)(r:Blk X.N X.env.scope sc Nc fr)(l:∀ av ax C ex f,P3G K (aT X sc Nc av ax C ex f) tg g g3)(n:∀ av ax C ex f,P3 K (aT X sc Nc av ax C ex f) elt te e3)(hs:autoParam (∀ x,hB iter X.env x=pure x) wT) :
  P3X K X B F0 (.ListComp elt [#[tg,iter,[],0]] sc pos) (dU fr (EW K ti) g (iE te)) (BA i3):=
 #[k7 (m:=λD h=>nq elt D h) o (by subst p;exact A_ hi.pe) r (λa b c d e=>(l a b c d e).pe) (λa b c d e D=>jU rfl (n a b c d e).pe) (λ_ _ _=>rfl) hs,λF i H j Q s w e q k=>hi.rf F i H j _ _ w e q EC]
end
end _3
set_option maxHeartbeats 4000000
namespace _k
open PySem _2 _3
local macro_rules|`(tactic|walk_at "n")=>`(tactic|exact ⟨rfl,rfl,rfl,by decide +kernel,rfl,by decide +kernel,by decide +kernel⟩)
local macro_rules|`(tactic|walk_at "m")=>`(tactic|exact ⟨rfl,by decide +kernel,by decide +kernel,by decide +kernel,by decide +kernel,rfl,by decide +kernel⟩)
noncomputable def fw (b:Option D):Option Sl:=b.map Sl.ow
theorem Ml{s:Option D}:bP (fw s::Γ) 0=True:=by cases s <;> rfl
theorem q6b{s:Option D}:bqa (fw s::Γ) 0=true:=by cases s <;> rfl
theorem QZ{n:Option D}:gA n none=none:=rfl
theorem QV{n:Option D}{d:D}:gA n (some (.fz d))=some (.fz d):=rfl
theorem QW{n:Option D}{d:D}:gA n (some (.ow d))=some (.ow (n.getD d)):=rfl
theorem Q0{n:Option D}{d:D}:gA n (some (.ln d))=some (.ln (n.getD d)):=rfl
theorem QY{n:Option D}{s:Option D}:gA n (fo s)=fo s:=by cases s <;> rfl
theorem QX{n:Option D}{s:Option D}:gA n (fw s)=fw (s.map λd=>n.getD d):=by cases s <;> rfl
inductive Lt where
 | r | p | b
deriving DecidableEq
noncomputable def Lt.c:Lt->Nat
 | .r=>114 | .p=>112 | .b=>98
noncomputable def Lt.s (l:Lt):Str:=sgn l.c
theorem Lt.sp:Lt.s .p=("p":Str):=by decide +kernel
theorem Lt.sb:Lt.s .b=("b":Str):=by decide +kernel
noncomputable def wy (ls:List Lt):Str:=#[(ls.map Lt.c).toArray]
theorem kN(ls:List Lt):signs (wy ls)=ls.map λl=>D.str l.s:=by
 delta signs wy;rw[zq]
 rfl
theorem yZ(ls:List Lt):asc (wy ls)=true:=by
 delta asc wy;rw[Array.all_eq_true_iff_forall_mem];intro x a;simp -iota only[List.mem_toArray,kv] at a;let#[l,_,rfl]:=a;cases l <;> decide
theorem bJ(ls:List Lt):(wy ls).length=ls.length:=by simp -iota [Str.length,wy]
theorem AN(ls:List Lt):(wy ls).cps.size=ls.length:=by simp -iota [wy]
noncomputable def nh (l:Lt)(h:Int):Int:=if l=.r then h else (h + 1) / 2
noncomputable def nw (l:Lt)(w:Int):Int:=if l=.p then w else (w + 1) / 2
noncomputable def gP (h w:Int):List Lt->List (Int×Int)
 | []=>[(h,w)]
 | l::ls=>(h,w)::gP (nh l h) (nw l w) ls
theorem dN (h w:Int):∀ ls:List Lt,(gP h w ls).length=ls.length + 1
 | []=>rfl
 | l::ls=>by rw[gP,eh,dN];rfl
noncomputable def cD (c:Int×Int):D:=.tup [.int c.1,.int c.2]
def Can (l:Lt)(h w:Int):Prop:=(l≠.p->2<=w)/\(l≠.r->2<=h)
noncomputable def Good (h w:Int):List Lt->Prop
 | []=>True
 | l::ls=>Can l h w/\Good (nh l h) (nw l w) ls
structure cP (h w:Int):Prop where
 h1:1<=h
 w1:1<=w
 h2:h<=64
 w2:w<=64
 m:h * w<=512
noncomputable def cat (h w:Int)(ls:List Lt)(k:Nat):Int×Int:=(gP h w ls).getD k (0,0)
theorem w5{h w:Int}{ls:List Lt}(hk:k<=ls.length):(gP h w ls)[k]?=some (cat h w ls k):=by
 delta cat
 have:k < (gP h w ls).length:=by rw[dN];lia
 rw[lx,gE0 this];rfl
theorem FJ{h w:Int}{ls:List Lt}(hk:k<=ls.length):((gP h w ls).map cD)[k]?=some (cD (cat h w ls k)):=by rw[ef,w5 hk];rfl
theorem cB(h w:Int)(ls:List Lt):cat h w ls 0=(h,w):=by cases ls <;> rfl
theorem kq{h w:Int}{l:Lt}{ls:List Lt}:cat h w (l::ls) (k + 1)=cat (nh l h) (nw l w) ls k:=rfl
theorem gb:∀ {ls:List Lt} {h w:Int} {k:Nat} {l:Lt},ls[k]?=some l->cat h w ls (k + 1)=(nh l (cat h w ls k).1,nw l (cat h w ls k).2)
 | [],_,_,k,l,e=>by simp -iota at e
 | l0::ls,h,w,0,l,e=>by
  have:l0=l:=by simpa using e
  subst this;rw[kq,cB,cB]
 | l0::ls,h,w,k + 1,l,e=>by
  rw[kq,kq];exact gb (by simpa using e)
theorem wU:∀ {ls:List Lt} {h w:Int} {k:Nat} {l:Lt},Good h w ls->ls[k]?=some l->Can l (cat h w ls k).1 (cat h w ls k).2
 | [],_,_,k,l,_,e=>by simp -iota at e
 | l0::ls,h,w,0,l,g,e=>by
  have:l0=l:=by simpa using e
  subst this;rw[cB];exact g.1
 | l0::ls,h,w,k + 1,l,g,e=>by
  rw[kq];exact wU g.2 (by simpa using e)
theorem mq{l:Lt}{h w:Int}(c:Can l h w)(h1:1<=h)(a:1<=w):1<=nh l h/\1<=nw l w/\nh l h<=h/\nw l w<=w:=by
 cases l <;> simp -iota [nh,nw] <;> lia
theorem dQ:∀ {ls:List Lt} {h w:Int} {k:Nat},Good h w ls->1<=h->1<=w->k<=ls.length->1<=(cat h w ls k).1/\1<=(cat h w ls k).2/\(cat h w ls k).1<=h/\(cat h w ls k).2<=w
 | ls,h,w,0,_,f,e,_=>by rw[cB];exact#[f,e,pF _,pF _]
 | [],_,_,k + 1,_,_,_,hk=>by simp -iota at hk
 | l::ls,h,w,k + 1,g,f,e,hk=>by
  rw[kq];let#[a,b,c,d]:=mq g.1 f e;let#[n,m,j,i]:=dQ (k:=k) g.2 a b (by simpa using hk);exact#[n,m,Q4 j c,Q4 i d]
theorem fV{h w:Int}{ls:List Lt}(hk:k<=ls.length):atI ((gP h w ls).map cD) (k:Int)=some (cD (cat h w ls k)):=gi (by lia) (by rw[fL];exact FJ hk)
theorem xc{a:Type}{xs:List a}{d:a}(e:xs[xs.length - 1]?=some d):atI xs (-1)=some d:=by
 have lt:=(gS0 e).1;have b:ixN xs.length (-1)=some (xs.length - 1):=by
  delta ixN;rw[if_neg (by decide),if_pos (by lia)]
  congr 1
  lia
 delta _2.atI;rw[b];exact e
theorem OM{l:Lt}:inV (V.str l.s) [V.str "r",V.str "b"]=!(l == .p):=by cases l <;> decide +kernel
theorem ON{l:Lt}:inV (V.str l.s) [V.str "p",V.str "b"]=!(l == .r):=by cases l <;> decide +kernel
theorem OJ{l:Lt}:in3 false (.str l.s) (kt ["r","b"]) Γ Q=Q (.fz (.bl (!(l == .p)))) Γ:=by
 refine propext #[λ⟨a,b,_,_,q⟩=>?_,λq=>#[_,rfl,rfl,rfl,?_]]
 .have e:a=[D.str "r",D.str "b"]:=(fS b).symm;subst e;have q:Q (.fz (.bl (inV (V.str l.s) [V.str "r",V.str "b"]))) Γ:=q;rw[OM] at q;exact q
 .show Q (.fz (.bl (inV (V.str l.s) [V.str "r",V.str "b"]))) Γ;rw[OM];exact q
theorem OK{l:Lt}:in3 false (.str l.s) (kt ["p","b"]) Γ Q=Q (.fz (.bl (!(l == .r)))) Γ:=by
 refine propext #[λ⟨a,b,_,_,q⟩=>?_,λq=>#[_,rfl,rfl,rfl,?_]]
 .have e:a=[D.str "p",D.str "b"]:=(fS b).symm;subst e;have q:Q (.fz (.bl (inV (V.str l.s) [V.str "p",V.str "b"]))) Γ:=q;rw[ON] at q;exact q
 .show Q (.fz (.bl (inV (V.str l.s) [V.str "p",V.str "b"]))) Γ;rw[ON];exact q
theorem Gq{b a:Type}{f:b->a}{xs:List b}{i:Int}{c:a}(e:atI (xs.map f) i=some c):∃ l,atI xs i=some l/\c=f l:=by
 delta _2.atI at e ⊢;rw[lM0] at e;cases q:ixN xs.length i with
 | none=>rw[q] at e;cases e
 | some j=>
  rw[q] at e;have e:(xs.map f)[j]?=some c:=e;rw[ef] at e;cases z:xs[j]? with
  | none=>rw[z] at e;cases e
  | some l=>rw[z] at e;cases e;exact#[l,z,rfl]
def Ka (ls:List Lt)(i:Int)(k:Lt->Prop)(_:Tag k):Prop:=(wy ls).length<=sizeLine/\∃ l,atI ls i=some l/\k l
theorem OD{ls:List Lt}{i:Int}:ix3 (.str (wy ls)) (.int i) Γ Q=Ka ls i (λl=>Q (.fz (.str l.s)) Γ) ⟨⟩:=by
 refine propext #[λ⟨b,c,a,q⟩=>#[b,?_],λ⟨b,l,a,q⟩=>#[b,l.c,?_,q]]
 .let#[l,d,rfl]:=Gq (f:=Lt.c) (xs:=ls) (by simpa [wy] using a);exact#[l,d,q]
 .have:=BX (f:=Lt.c) a;simpa [wy] using this
theorem atL{ls:List Lt}{l:Lt}(h:ls[k]?=some l):atI ls (k:Int)=some l:=gi (by lia) (by rw[fL];exact h)
theorem sEb{l:Lt}:(l.s == ("b":Str))=(l == .b):=by cases l <;> decide +kernel
theorem sEr{l:Lt}:(l.s == ("r":Str))=(l == .r):=by cases l <;> decide +kernel
theorem sEp{l:Lt}:(l.s == ("p":Str))=(l == .p):=by cases l <;> decide +kernel
theorem QU{a b c d e f:D}:cut [a,b,c,d,e,f] (some 2) none=[c,d,e,f]:=rfl
theorem Qt:(("corners":Str) == ("chosen":Str))=false:=by decide +kernel
theorem Qr:(("letters":Str) == ("chosen":Str))=false:=by decide +kernel
theorem Qp:(("letters":Str) == ("corners":Str))=false:=by decide +kernel
theorem Oi:(Lt.r == Lt.r)=true:=rfl
theorem Oj:(Lt.r == Lt.p)=false:=rfl
theorem Om:(Lt.p == Lt.r)=false:=rfl
theorem Oo:(Lt.p == Lt.p)=true:=rfl
theorem Ot:(Lt.b == Lt.r)=false:=rfl
theorem Ou:(Lt.b == Lt.p)=false:=rfl
theorem Ol:(Lt.r == Lt.b)=false:=rfl
theorem Oq:(Lt.p == Lt.b)=false:=rfl
theorem Ov:(Lt.b == Lt.b)=true:=rfl
theorem Pz{c:Bool}{x y:D}:atI [x,y] (if c=true then 1 else 0)=some (if c=true then y else x):=by cases c <;> rfl
set_option bootstrap.genMatcherCode true in
def mkL(s:String):Lean.MacroM (Array (Lean.TSyntax [`Lean.Parser.Tactic.simpStar,`Lean.Parser.Tactic.simpErase,`Lean.Parser.Tactic.simpLemma])):=do
 let mut xs:=#[]
 for w in s.splitOn " " do
  let n:=(w.dropWhile (·=='↓')).toString.toName
  let i:=match (<-Lean.Macro.resolveGlobalName n) with
   |(c,[])::_=>Lean.mkCIdent c
   |_=>Lean.mkIdent n
  let t<-if w.startsWith "↓" then `(Lean.Parser.Tactic.simpLemma|↓$i:ident) else `(Lean.Parser.Tactic.simpLemma|$i:ident)
  xs:=xs.push ⟨t.raw⟩
 return xs
set_option bootstrap.genMatcherCode true in
def mkLw:=mkL "jM List.length_cons List.length_nil Nat.reduceAdd Nat.reduceSub Nat.zero_add List.replicate List.cons_append List.nil_append List.append_nil ↓yj ↓tS ↓yi ↓OZ ↓Me ↓yk ↓Gk ↓Gm ↓Gi ↓Gj ↓L_ ↓rP ↓Kt vS ↓ym ↓yn ↓pC ↓oG ↓tR ↓QN ↓Mf ↓O1 ↓h_c iO GU ↓yh ↓O5 ↓QH ↓O0 vI Oa ↓O2 ↓OY Gat Bo.at ats RV.d RV.sl q9 i2 i2' qa ↓OG ↓OE oC oB HV HW wN H_ mx3 wQ Lw tW Mm Mi Mj tX sl3 ↓Mc ↓L9 tP y8 is3 knD dB dI dL dT ↓O4 qo beq_self_eq_true iQ E9 List.zip_cons_cons List.lookup_cons List.lookup_nil ↓G1 EA tQ ↓LA Il ↓OR HQ dS Kw RV.fz.injEq ↓G0 de putD tgN tgT iL3 iR1 ↓pj ↓Iw ↓FE ↓Mp List.isEmpty_nil List.isEmpty_cons ↓Mg ↓Ii ↓O3 ↓Ly et qh gB dM cM eb8 eb9 Option.bind_some Option.bind_none List.nodup_nil List.nodup_cons List.getElem?_cons_zero List.getElem?_cons_succ List.getElem?_nil List.set_cons_zero List.set_cons_succ exists_eq_left' exists_eq_left exists_eq' exists_eq exists_and_left exists_and_right Option.some.injEq D.int.injEq D.lst.injEq D.str.injEq D.tup.injEq D.bl.injEq D.ins.injEq D.ty.injEq List.cons.injEq and_true true_and and_false false_and true_or false_or or_false or_true and_assoc List.not_mem_nil not_false_eq_true o_ C5 yE Pa yB Bool.false_xor Bool.not_true Bool.not_false Bool.true_xor eb2 eb3 eb4 eb5 eb6 eb7 IE C6 Nat.reduceLT decide_true Gd Ge Gf ite_self Option.getD_some Option.getD_none PH PF PD PC LX LW LV if_pos if_true if_false List.all_cons List.all_nil Option.isNone_none Bool.and_true Bool.true_and decide_eq_true_eq not_true not_false_iff reduceCtorEq eq_self Bool.false_eq_true reduceIte Int.reduceEq QZ QV QW Q0 QY QX Ml frL Nat.reduceEqDiff ↓fz3 D.exc.injEq D.adr.injEq zj ↓Iu ↓Ih KD ↓OD sEb sEr sEp QU ↓OJ ↓OK Qt Qr Qp Oi Oj Om Oo Ot Ou Ol Oq Ov Pz NG iR2 OS ext3 Bg ↓QJ OU iQ EB ↓IA ↓Hg Dg LZ dvv Kj E3.wV OH isN OP tgP Py OO mg3 D.mp.injEq MR MO MQ MS e0b e1b e2b e3b q1b q2b q3b q4b q5b q6b k0b k1b k2b n0b n1b cond_false Nat.reduceBEq aslb o1b astb g0b g1b"
set_option bootstrap.genMatcherCode true in
local macro_rules | `(tactic| walk_at "r")=>do `(tactic| try simp -dsimp only [$(<-mkLw),*])
local macro_rules|`(tactic|ext)=>`(tactic|walk_at "r")
set_option bootstrap.genMatcherCode true in
local macro_rules | `(tactic| walk_at "o")=>do `(tactic| try simp -dsimp only [$(<-mkLw),*,-oC,oCi])
noncomputable def top (i:Nat):Stmt:=SS.main.body.getD i (.Pass #[0,0,0,0])
noncomputable abbrev cJ:Stmt:=inClass (top 2) 0
noncomputable abbrev dX:Stmt:=inClass (top 3) 0
noncomputable abbrev nE:Stmt:=top 11
noncomputable abbrev pU:Stmt:=top 12
noncomputable abbrev eO:Stmt:=top 13
noncomputable abbrev iY:Stmt:=top 15
noncomputable abbrev kW:Stmt:=inClass (top 17) 0
noncomputable abbrev i6:Stmt:=inClass (top 18) 0
noncomputable abbrev hU:Stmt:=inClass (top 20) 0
noncomputable abbrev g_:Stmt:=inClass (top 21) 0
noncomputable abbrev kP:Stmt:=top 22
noncomputable abbrev pT:Stmt:=top 23
noncomputable abbrev kO:Stmt:=top 27
noncomputable abbrev jN:Stmt:=top 28
noncomputable abbrev iP:Stmt:=top 29
noncomputable abbrev lZ:Stmt:=top 30
noncomputable abbrev gp:Stmt:=inClass (top 31) 0
noncomputable abbrev i4:Stmt:=inClass (top 31) 1
noncomputable abbrev jQ:Stmt:=inClass (top 31) 2
noncomputable abbrev nG:Stmt:=inClass (top 31) 4
noncomputable abbrev jR:Stmt:=inClass (top 31) 5
noncomputable abbrev i5:Stmt:=inClass (top 31) 6
noncomputable abbrev jS:Stmt:=inClass (top 31) 7
noncomputable abbrev dz:Stmt:=inClass (top 31) 8
noncomputable abbrev gn:Stmt:=inClass (top 31) 10
noncomputable abbrev pV:Stmt:=top 33
noncomputable abbrev fN:Stmt:=top 34
noncomputable abbrev rh:Stmt:=top 35
noncomputable abbrev gI:Stmt:=top 37
noncomputable abbrev sf:Stmt:=top 38
noncomputable abbrev jg:Stmt:=top 39
noncomputable abbrev fv:Stmt:=top 40
noncomputable abbrev dr:Stmt:=top 41
noncomputable abbrev se:Stmt:=top 42
noncomputable abbrev kT:Stmt:=top 44
noncomputable abbrev iZ:Stmt:=top 45
noncomputable abbrev kQ:Stmt:=top 46
noncomputable abbrev kR:Stmt:=top 47
noncomputable abbrev nF:Stmt:=top 48
noncomputable abbrev kS:Stmt:=top 49
noncomputable abbrev g9:Stmt:=top 50
noncomputable abbrev kU:Stmt:=top 51
noncomputable abbrev eP:Stmt:=top 52
noncomputable abbrev gJ:Stmt:=top 53
noncomputable abbrev gZ:Stmt:=top 54
noncomputable abbrev du:Stmt:=top 55
noncomputable abbrev jO:Stmt:=top 56
noncomputable abbrev dv:Stmt:=top 57
noncomputable abbrev g6:Stmt:=top 58
noncomputable abbrev jP:Stmt:=top 59
noncomputable abbrev DO:Stmt:=top 60
theorem jf:az ["self","words"] ["self","words"] (ai cJ):=by walk_at "n"
theorem mr:az ["self","found"] ["self","found"] (ai dX):=by walk_at "n"
theorem xv:az ["thing","low","high"] ["thing","low","high"] (ai nE):=by walk_at "n"
theorem zg:az ["height","width"] ["height","width"] (ai pU):=by walk_at "n"
theorem nD:az ["thing","height","width"] ["thing","height","width"] (ai eO):=by walk_at "n"
theorem cx:az ["plan","step","thing","height","width"] ["plan","step","thing"] (ai iY):=by walk_at "n"
theorem wb:az ["self"] ["self"] (ai kW):=by walk_at "n"
theorem sd:az ["self"] ["self"] (ai i6):=by walk_at "n"
theorem qQ:az ["self"] ["self"] (ai hU):=by walk_at "n"
theorem qP:az ["self"] ["self"] (ai g_):=by walk_at "n"
theorem v_:az [] [] (ai kP):=by walk_at "n"
theorem rZ:az ["word","rule"] ["word"] (ai pT):=by walk_at "n"
theorem vZ:az ["letter","height","width"] ["letter","height","width"] (ai kO):=by walk_at "n"
theorem dH:az ["height","width","way","corners","letter"] ["height","width","way"] (ai jN):=by walk_at "n"
theorem eM:az ["part","top","left","height","width"] ["part"] (ai iP):=by walk_at "n"
abbrev Yn(n:List (PySem.Str×PySem.NameKind)):PySem.Scope:={ kind:=.function,names:=n,isGenerator:=false,isCoroutine:=false,more:=[] }
noncomputable def nS:Scope:=Yn [(".0",.local),("y",.local),("x",.local),("range",.globalImplicit),("left",.free),("width",.free)]
theorem gy:Blk ["part","top","left","height","width"] (ai iP) nS ["y","x","left","width"] [none,none,some 2,some 4]:=by walk_at "m"
theorem zf:az ["plan","place"] ["plan","place"] (ai lZ):=by walk_at "n"
noncomputable def qb:Scope:=Yn [(".0",.local),("part",.local),("places_of",.globalImplicit),("place",.free)]
theorem ny:Blk ["plan","place"] (ai lZ) qb ["part","place"] [none,some 1]:=by walk_at "m"
theorem pS:az ["self","height","width","word","way"] ["self","height","width","word","way"] (ai gp):=by walk_at "n"
theorem r9:az ["self"] ["self"] (ai i4):=by walk_at "n"
theorem uq:az ["self"] ["self"] (ai jQ):=by walk_at "n"
theorem xw:az ["self"] ["self"] (ai nG):=by walk_at "n"
theorem ur:az ["self"] ["self"] (ai jR):=by walk_at "n"
theorem r_:az ["self","step"] ["self","step"] (ai i5):=by walk_at "n"
theorem dJ:az ["self","height","width","parts","step"] ["self"] (ai jS):=by walk_at "n"
theorem aU:az ["self","step","height","width","many_down","many_along","letter","parts"] ["self","step"] (ai dz):=by walk_at "n"
theorem b9:az ["self","place","many","letter","height","width"] ["self","place"] (ai gn):=by walk_at "n"
theorem zh:az ["at","many"] ["at","many"] (ai pV):=by walk_at "n"
theorem bN:az ["plan","step","place","height","width","letter","y","x","downs","alongs"] ["plan","step","place"] (ai fN):=by walk_at "n"
noncomputable def lR:Scope:=Yn [(".0",.local),("down",.local),("many",.local),("along",.local),("times",.local),("alongs",.free)]
theorem cn:Blk ["plan","step","place","height","width","letter","y","x","downs","alongs"] (ai fN) lR ["down","many","along","times","alongs"] [none,none,none,none,some 9]:=by walk_at "m"
theorem n_:az ["plan","step","place","shares","earlier"] ["plan","step","place"] (ai rh):=by walk_at "n"
noncomputable def uc:Scope:=Yn [(".0",.local),("behind",.local),("many",.local),("ahead",.local),("times",.local),("share_ahead",.globalImplicit),("earlier",.free),("plan",.free)]
theorem gf:Blk ["plan","step","place","shares","earlier"] (ai rh) uc ["behind","many","ahead","times","earlier","plan"] [none,none,none,none,some 4,some 0]:=by walk_at "m"
theorem mO:az ["plan","coarse_places"] ["plan"] (ai gI):=by walk_at "n"
noncomputable def mD:Scope:=Yn [(".0",.local),("place",.local),("counted",.local),("share",.globalImplicit),("plan",.free)]
theorem fE:Blk ["plan","coarse_places"] (ai gI) mD ["place","counted","plan"] [none,none,some 0]:=by walk_at "m"
theorem uS:az ["plan","place"] ["plan","place"] (ai sf):=by walk_at "n"
theorem aQ:az ["plan","place","step","word","top","left","height","width","y","x","behind"] ["plan","place"] (ai jg):=by walk_at "n"
noncomputable def qf:Scope:=Yn [(".0",.local),("covered",.local),("many",.local)]
theorem je:Blk ["plan","place","step","word","top","left","height","width","y","x","behind"] (ai jg) qf ["covered","many"] [none,none]:=by walk_at "m"
noncomputable def qc:Scope:=Yn [(".0",.local),("covered",.local),("many",.local)]
theorem jd:Blk ["plan","place","step","word","top","left","height","width","y","x","behind"] (ai jg) qc ["covered","many"] [none,none]:=by walk_at "m"
theorem og:az ["plan","place"] ["plan","place"] (ai fv):=by walk_at "n"
theorem ke:az ["plan","counts","place"] ["plan","counts","place"] (ai dr):=by walk_at "n"
noncomputable def kE:Scope:=Yn [(".0",.local),("covered",.local),("counts",.free)]
theorem iC:Blk ["plan","counts","place"] (ai dr) kE ["covered","counts"] [none,some 1]:=by walk_at "m"
noncomputable def kD:Scope:=Yn [(".0",.local),("covered",.local),("counts",.free)]
theorem iB:Blk ["plan","counts","place"] (ai dr) kD ["covered","counts"] [none,some 1]:=by walk_at "m"
theorem uR:az ["plan","place"] ["plan","place"] (ai se):=by walk_at "n"
theorem wa:az ["_law_script","_law_k"] ["_law_script","_law_k"] (ai kT):=by walk_at "n"
theorem r8:az ["_law_cell_here"] ["_law_cell_here"] (ai iZ):=by walk_at "n"
theorem gF:az ["_law_stream_here","_law_many","_law_digit","_law_number"] ["_law_stream_here","_law_many"] (ai kQ):=by walk_at "n"
theorem gG:az ["_law_stream_here","_law_far","_law_way_here","_law_great","_law_height"] ["_law_stream_here","_law_far"] (ai kR):=by walk_at "n"
theorem cC:az ["_law_stream_here","_law_height","_law_width","_law_most","_law_way_here","_law_k","_law_some","_law_letter"] ["_law_stream_here","_law_height","_law_width","_law_most"] (ai nF):=by walk_at "n"
theorem gH:az ["_law_stream_here","_law_far","_law_word","_law_height","_law_width"] ["_law_stream_here","_law_far"] (ai kS):=by walk_at "n"
theorem bS:az ["_law_told","_law_height","_law_width","_law_found","_law_letter"] ["_law_told"] (ai g9):=by walk_at "n"
theorem cI:az ["_law_sizes_here","_law_at","_law_found","_law_size_here","_law_longer","_law_place","_law_many"] ["_law_sizes_here","_law_at"] (ai kU):=by walk_at "n"
theorem fM:az ["_law_told","_law_step","_law_corners_here","_law_rows","_law_pillars"] ["_law_told","_law_step"] (ai eP):=by walk_at "n"
noncomputable def mF:Scope:=Yn [(".0",.local),("_law_k",.local),("_law_corners_here",.free),("_law_told",.free)]
theorem jG:Blk ["_law_told","_law_step","_law_corners_here","_law_rows","_law_pillars"] (ai eP) mF ["_law_k","_law_corners_here","_law_told"] [none,some 2,some 0]:=by walk_at "m"
noncomputable def mE:Scope:=Yn [(".0",.local),("_law_k",.local),("_law_corners_here",.free),("_law_told",.free)]
theorem jF:Blk ["_law_told","_law_step","_law_corners_here","_law_rows","_law_pillars"] (ai eP) mE ["_law_k","_law_corners_here","_law_told"] [none,some 2,some 0]:=by walk_at "m"
theorem cU:az ["_law_told","_law_step","_law_place","_law_rows","_law_pillars","_law_found","_law_y","_law_many"] ["_law_told","_law_step","_law_place"] (ai gJ):=by walk_at "n"
noncomputable def mG:Scope:=Yn [(".0",.local),("_law_x",.local),("_law_often",.local),("_law_many",.free),("_law_y",.free)]
theorem fF:Blk ["_law_told","_law_step","_law_place","_law_rows","_law_pillars","_law_found","_law_y","_law_many"] (ai gJ) mG ["_law_x","_law_often","_law_many","_law_y"] [none,none,some 7,some 6]:=by walk_at "m"
theorem gk:az ["_law_told","_law_step","_law_rows","_law_pillars"] ["_law_told","_law_step"] (ai gZ):=by walk_at "n"
theorem aE:az ["_law_told","_law_rows","_law_many","_law_often_at","_law_height","_law_width","_law_y","_law_x","_law_place","_law_often","_law_step","_law_corner","_law_low","_law_total"] ["_law_told"] (ai du):=by walk_at "n"
noncomputable def kG:Scope:=Yn [(".0",.local),("_law_y",.local),("_law_told",.free)]
theorem cO:Blk ["_law_told","_law_rows","_law_many","_law_often_at","_law_height","_law_width","_law_y","_law_x","_law_place","_law_often","_law_step","_law_corner","_law_low","_law_total"] (ai du) kG ["_law_y","_law_told"] [none,some 0]:=by walk_at "m"
noncomputable def kF:Scope:=Yn [(".0",.local),("_law_one",.local),("_law_often",.local),("_law_often_at",.free)]
theorem d_:Blk ["_law_told","_law_rows","_law_many","_law_often_at","_law_height","_law_width","_law_y","_law_x","_law_place","_law_often","_law_step","_law_corner","_law_low","_law_total"] (ai du) kF ["_law_one","_law_often","_law_often_at"] [none,none,some 3]:=by walk_at "m"
theorem uo:az ["_law_thing"] ["_law_thing"] (ai jO):=by walk_at "n"
theorem cQ:az ["_law_told","_law_y","_law_x","_law_corners_here","_law_step","_law_low","_law_place"] ["_law_told","_law_y","_law_x"] (ai dv):=by walk_at "n"
noncomputable def kI:Scope:=Yn [(".0",.local),("_law_one",.local),("_law_often",.local)]
theorem ej:Blk ["_law_told","_law_y","_law_x","_law_corners_here","_law_step","_law_low","_law_place"] (ai dv) kI ["_law_one","_law_often"] [none,none]:=by walk_at "m"
noncomputable def kH:Scope:=Yn [(".0",.local),("_law_one",.local),("_law_often",.local)]
theorem eg:Blk ["_law_told","_law_y","_law_x","_law_corners_here","_law_step","_law_low","_law_place"] (ai dv) kH ["_law_one","_law_often"] [none,none]:=by walk_at "m"
theorem dO:az ["_law_door","_law_plan_here","_law_thing","_law_found","e"] ["_law_door","_law_plan_here","_law_thing"] (ai g6):=by walk_at "n"
theorem iX:az ["_law_plan_here","_law_told","_law_place","_law_heavy","_law_often","_law_due","_law_found"] ["_law_plan_here","_law_told","_law_place","_law_heavy","_law_often"] (ai jP):=by walk_at "n"
theorem dW:az ["_law_script","_law_k","_law_stream_here","_law_told","_law_plan_here","_law_rows","_law_often","_law_places","_law_turn","_law_place","_law_y","_law_x","_law_some","_law_thing","_law_door"] ["_law_script"] (ai DO):=by walk_at "n"
set_option genInjectivity false in
set_option genSizeOf false in
structure Ad where
 a8:Addr
 bL:Addr
 bC:Addr
 bV:Addr
 bB:Addr
 aS:Addr
 dG:Addr
 aH:Addr
 bz:Addr
 bY:Addr
 eD:eK
 dZ:Addr
 gz:eK
 t8:Addr
 qt:eK
 vq:Addr
 t6:eK
 iV:Addr
 iu:eK
 i_:Addr
 iw:eK
 lP:Addr
 oU:eK
 jc:Addr
 lG:eK
 iz:Addr
 ko:eK
 iy:Addr
 kn:eK
 qz:Addr
 oM:eK
 vo:Addr
 tZ:eK
 qx:Addr
 oK:eK
 oW:Addr
 mX:eK
 qw:Addr
 oJ:eK
 vp:Addr
 t5:eK
 gw:Addr
 jB:eK
 ja:Addr
 lE:eK
 j4:Addr
 m8:eK
 nR:Addr
 qv:eK
 j5:Addr
 m9:eK
 jb:Addr
 lF:eK
 j6:Addr
 m_:eK
 dA:Addr
 fe:eK
 gv:Addr
 jA:eK
 vt:Addr
 t7:eK
 nj:Addr
 lC:eK
 BB:Addr
 yy:eK
 oX:Addr
 mY:eK
 lJ:Addr
 p_:eK
 jD:Addr
 nQ:eK
 jC:Addr
 iU:eK
 ix:Addr
 gu:eK
 lI:Addr
 p9:eK
 qE:Addr
 oQ:eK
 nk:Addr
 lD:eK
 qA:Addr
 oN:eK
 qB:Addr
 oO:eK
 t9:Addr
 qu:eK
 qC:Addr
 oP:eK
 lN:Addr
 kj:eK
 qF:Addr
 oR:eK
 oZ:Addr
 m5:eK
 o8:Addr
 m6:eK
 lL:Addr
 kh:eK
 lK:Addr
 kg:eK
 oY:Addr
 mZ:eK
 lO:Addr
 km:eK
 lM:Addr
 ki:eK
 o9:Addr
 m7:eK
 Fb:Addr
 Af:eK
structure Txt (K:Fg0) (mg:SV) (a:Ad):Prop where
 Al:Cls K a.bC
 zS:mg "Guessed"=some (.ref a.bC)
 mk_Guessed:Mk0 K a.bC
 CZ:Cls K a.bV
 CC:mg "Halves"=some (.ref a.bV)
 mk_Halves:Mk0 K a.bV
 Ak:Cls K a.bB
 zR:mg "Leaning"=some (.ref a.bB)
 mk_Leaning:Mk0 K a.bB
 aW:Cls K a.aS
 HY:mg "Plan"=some (.ref a.aS)
 Iy:Cls K a.dG
 HX:mg "Sums"=some (.ref a.dG)
 mk_Sums:Mk0 K a.dG
 la:mg "HalvedError"=some (.ref a.aH)
 tH:mg "NoPlace"=some (.ref a.bz)
 tj:c9 K a.aS "chosen"
 bD:c9 K a.aS "corners"
 cS:c9 K a.aS "letters"
 cT:M1 K mg "ALONG_PILLARS" a.a8 ["p","b"]
 eV:M1 K mg "ALONG_ROWS" a.bL ["r","b"]
 tys:TyS K
 cH:FY K "__init__" "HalvedError.__init__" cJ a.bY a.eD ["self","words"]
 gX:FY K "__init__" "NoPlace.__init__" dX a.dZ a.gz ["self","found"]
 bg:FX K mg "is_whole" "is_whole" nE a.t8 a.qt ["thing","low","high"]
 lV:FX K mg "is_size" "is_size" pU a.vq a.t6 ["height","width"]
 aJ:FX K mg "is_place_within" "is_place_within" eO a.iV a.iu ["thing","height","width"]
 aL:FX K mg "check_place" "check_place" iY a.i_ a.iw ["plan","step","thing"]
 qk:FY K "word" "Sums.word" kW a.lP a.oU ["self"]
 mM:FY K "word" "Halves.word" i6 a.jc a.lG ["self"]
 kM:FY K "word" "Guessed.word" hU a.iz a.ko ["self"]
 kL:FY K "word" "Leaning.word" g_ a.iy a.kn ["self"]
 iK:FX K mg "all_rules" "all_rules" kP a.qz a.oM []
 lU:FX K mg "rule_of" "rule_of" pT a.vo a.tZ ["word"]
 iJ:FX K mg "can_halve" "can_halve" kO a.qx a.oK ["letter","height","width"]
 gC:FX K mg "corners_of" "corners_of" jN a.oW a.mX ["height","width","way"]
 dg:FX K mg "places_of" "places_of" iP a.qw a.oJ ["part"]
 fj:FX K mg "part_of" "part_of" lZ a.vp a.t5 ["plan","place"]
 kc:FY K "__init__" "Plan.__init__" gp a.gw a.jB ["self","height","width","word","way"]
 mK:FY K "height" "Plan.height" i4 a.ja a.lE ["self"]
 nW:FY K "width" "Plan.width" jQ a.j4 a.m8 ["self"]
 rL:FY K "way" "Plan.way" nG a.nR a.qv ["self"]
 eL:FY K "steps" "Plan.steps" jR a.j5 a.m9 ["self"]
 fJ:FY K "corner" "Plan.corner" i5 a.jb a.lF ["self","step"]
 jL:FY K "parts" "Plan.parts" jS a.j6 a.m_ ["self"]
 fW:FY K "parts_of_step" "Plan.parts_of_step" dz a.dA a.fe ["self","step"]
 gj:FY K "halvings" "Plan.halvings" gn a.gv a.jA ["self","place"]
 fm:FX K mg "counted" "counted" pV a.vt a.t7 ["at","many"]
 fG:FX K mg "share_ahead" "share_ahead" fN a.nj a.lC ["plan","step","place"]
 fH:FX K mg "share" "share" rh a.BB a.yy ["plan","step","place"]
 a9:FX K mg "all_copies" "all_copies" gI a.oX a.mY ["plan"]
 dh:FX K mg "copies" "copies" sf a.lJ a.p_ ["plan","place"]
 bu:FX K mg "beneath" "beneath" jg a.jD a.nQ ["plan","place"]
 bI:FX K mg "later_halvings" "later_halvings" fv a.jC a.iU ["plan","place"]
 bM:FX K mg "weight_among" "weight_among" dr a.ix a.gu ["plan","counts","place"]
 df:FX K mg "weight" "weight" se a.lI a.p9 ["plan","place"]
 iN:FX K mg "_law_cell" "_law_cell" kT a.qE a.oQ ["_law_script","_law_k"]
 fI:FX K mg "_law_stream" "_law_stream" iZ a.nk a.lD ["_law_cell_here"]
 av:FX K mg "_law_take" "_law_take" kQ a.qA a.oN ["_law_stream_here","_law_many"]
 iL:FX K mg "_law_size" "_law_size" kR a.qB a.oO ["_law_stream_here","_law_far"]
 jK:FX K mg "_law_way" "_law_way" nF a.t9 a.qu ["_law_stream_here","_law_height","_law_width","_law_most"]
 iM:FX K mg "_law_plan" "_law_plan" kS a.qC a.oP ["_law_stream_here","_law_far"]
 aK:FX K mg "_law_corners" "_law_corners" g9 a.lN a.kj ["_law_told"]
 dj:FX K mg "_law_axis" "_law_axis" kU a.qF a.oR ["_law_sizes_here","_law_at"]
 cG:FX K mg "_law_sizes" "_law_sizes" eP a.oZ a.m5 ["_law_told","_law_step"]
 a_:FX K mg "_law_share" "_law_share" gJ a.o8 a.m6 ["_law_told","_law_step","_law_place"]
 cc:FX K mg "_law_singles" "_law_singles" gZ a.lL a.kh ["_law_told","_law_step"]
 eF:FX K mg "_law_weights" "_law_weights" du a.lK a.kg ["_law_told"]
 cF:FX K mg "_law_whole" "_law_whole" jO a.oY a.mZ ["_law_thing"]
 eJ:FX K mg "_law_beneath" "_law_beneath" dv a.lO a.km ["_law_told","_law_y","_law_x"]
 eI:FX K mg "_law_refused" "_law_refused" g6 a.lM a.ki ["_law_door","_law_plan_here","_law_thing"]
 gE:FX K mg "_law_right" "_law_right" jP a.o9 a.m7 ["_law_plan_here","_law_told","_law_place","_law_heavy","_law_often"]
 Ng:FX K mg "law" "law" DO a.Fb a.Af ["_law_script"]
 yY:Gz K a.bz
 rK:MU K a.aH a.aH a.bY []
 fi:MU K a.aH a.bz a.dZ ["found"]
 xnd:Ls [a.aH,a.bz]=true
 z_ValueError:mg "ValueError"=none
 QE:UD K a.aH (.type "type")=true
 QK:Lu K (.ref a.aH) "__getattribute__"=some (some (.builtin "type.__getattribute__"))
 QM:TQ K (.ref a.aH) (.type "type") "__init__"=some (.val (.ref a.bY))
 mk_Plan:Mk K a.aS a.gw
 qZ:Meth K a.bC "word" a.iz
 tG:Meth K a.bV "word" a.jc
 qY:Meth K a.bB "word" a.iy
 tF:Meth K a.aS "height" a.ja
 uz:Meth K a.aS "width" a.j4
 x_:Meth K a.aS "way" a.nR
 fU:Meth K a.aS "steps" a.j5
 iq:Meth K a.aS "corner" a.jb
 mV:Meth K a.aS "parts" a.j6
 kB:Meth K a.aS "parts_of_step" a.dA
 ju:Meth K a.aS "halvings" a.gv
 wJ:Meth K a.dG "word" a.lP
 uF:∃ t,mg "MOST_PLACES"=some (.int 512 t)
 qH:∃ t,mg "MOST_SIDE"=some (.int 64 t)
 z_bool:mg "bool"=none
 z_dict:mg "dict"=none
 z_int:mg "int"=none
 z_isinstance:mg "isinstance"=none
 z_len:mg "len"=none
 z_list:mg "list"=none
 z_max:mg "max"=none
 z_min:mg "min"=none
 z_range:mg "range"=none
 z_repr:mg "repr"=none
 z_reversed:mg "reversed"=none
 z_sorted:mg "sorted"=none
 z_str:mg "str"=none
 z_sum:mg "sum"=none
 z_tuple:mg "tuple"=none
 z_zip:mg "zip"=none
 ty:gR K
theorem wK{f:Nat->D}{n:Nat}{d:D}(h:((hV n).map f)[k]?=some d):k < n/\d=f k:=by
 have lt:k < n:=by have:=(gS0 h).1;simpa using this
 rw[ef,HZ lt] at h;cases h;exact#[lt,rfl]
theorem small{n:Nat}(h:n<=1000):n < sizeLine:=by rw[ea];lia
section
variable {a:Ad}
noncomputable def whD (d:D)(lo hi:Int):Bool:=match d with
 | .int i=>decide (lo<=i) && decide (i<=hi)
 | _=>false
def GJ:S3:=λΓ Q=>∃ (d:D) (lo hi:Int),Γ=[some (.fz d),some (.fz (.int lo)),some (.fz (.int hi))]/\knD d=true/\Q (.fz (.bl (whD d lo hi))) Γ
theorem fY(T:Txt K mg a):aM P w K mg base CX0 1 a.t8 a.qt ["thing","low","high"] (sp3 K 3 GJ):=by
 refine ok3 T.bg.F xv (hbody:=λe A b s H E f=>#[_,_,(ag (cf (P3W.pt (k8 (bX (aN (JY T.ty) T.z_isinstance (aa (bv 0) (Yj (sM (n:="bool") T.z_bool) af)))) (iS (cu (bX (aN (JX T.ty) T.z_isinstance (aa (bv 0) (Yj (sM (n:="int") T.z_int) af)))))))) (au (aD jm)) br)
   (au (aD (Et F_ F_ (bv 1) (bv 0) (bv 2))))),λc Q h g=>?_])
 let#[d,lo,j,rfl,hk,q]:=h;cases d <;> (try cases hk) <;> ext <;> (try exact q)
 rename_i i;by_cases h:lo<=i
 .simp only[E_,h,decide_true];simpa only[whD,h,decide_true,Xb] using q
 .simp only[E_,h,decide_false];simpa only[whD,h,decide_false,P8] using q
inductive Rl where
 | sum | half | guess | lean
noncomputable def Rl.cls (a:Ad):Rl->Addr
 | .sum=>a.dG | .half=>a.bV | .guess=>a.bC | .lean=>a.bB
noncomputable abbrev Rl.ob (a:Ad)(R:Rl):D:=.ins (R.cls a) [] []
noncomputable def Rl.num:Rl->Nat
 | .sum=>0 | .half=>1 | .guess=>2 | .lean=>3
noncomputable def Rl.word:Rl->Str
 | .sum=>"sum" | .half=>"half" | .guess=>"guess" | .lean=>"lean"
theorem dP(i:Int)(n:Nat):(rng i n).length=n:=by delta rng;simp
theorem eQ{n:Nat}{d:D}(h:(rng 0 n)[k]?=some d):k < n/\d=.int (k:Int):=by
 delta rng at h;let#[b,a]:=wK h;exact#[b,by rw[a];simp]
def vQ (x:Str):S3:=λΓ Q=>∃ d,Γ=[some (.fz d)]/\Q (.fz (.str x)) Γ
theorem wH(T:Txt K mg a):aM P w K mg base CX0 1 a.lP a.oU ["self"] (sp3 K 1 (vQ "sum")):=by
 refine ok3 T.qk.F wb (hbody:=λe A b s H E f=>#[_,_,(au (aD bE)),λc Q h g=>?_]);let#[d,rfl,q]:=h;ext;exact q
theorem sW(T:Txt K mg a):aM P w K mg base CX0 1 a.jc a.lG ["self"] (sp3 K 1 (vQ "half")):=by
 refine ok3 T.mM.F sd (hbody:=λe A b s H E f=>#[_,_,(au (aD bE)),λc Q h g=>?_]);let#[d,rfl,q]:=h;ext;exact q
theorem qW(T:Txt K mg a):aM P w K mg base CX0 1 a.iz a.ko ["self"] (sp3 K 1 (vQ "guess")):=by
 refine ok3 T.kM.F qQ (hbody:=λe A b s H E f=>#[_,_,(au (aD bE)),λc Q h g=>?_]);let#[d,rfl,q]:=h;ext;exact q
theorem qV(T:Txt K mg a):aM P w K mg base CX0 1 a.iy a.kn ["self"] (sp3 K 1 (vQ "lean")):=by
 refine ok3 T.kL.F qP (hbody:=λe A b s H E f=>#[_,_,(au (aD bE)),λc Q h g=>?_]);let#[d,rfl,q]:=h;ext;exact q
def G6 (a:Ad):S3:=λΓ Q=>Γ=[]/\Q (.fr (.lst [Rl.sum.ob a,Rl.half.ob a,Rl.guess.ob a,Rl.lean.ob a])) Γ
theorem wC(T:Txt K mg a):aM P w K mg base CX0 1 a.qz a.oM [] (sp3 K 0 (G6 a)):=by
 refine ok3 T.iK.F v_ (hbody:=λd A b s H E e=>#[_,_,(au (aD (bF (ab (ma T.mk_Sums T.HX) (ab (ma T.mk_Halves T.CC) (ab (ma T.mk_Guessed T.zS) (ab (ma T.mk_Leaning T.zR) ah))))))),λc Q h f=>?_]);let#[rfl,q]:=h;ext;exact#[by rw[ea];lia,q]
def KG (a:Ad):S3:=λΓ Q=>∃ (R:Rl),Γ=[some (.fz (.str R.word))]/\Q (.fz (R.ob a)) Γ
theorem zG(T:Txt K mg a):aM P w K mg base CX0 2 a.vo a.tZ ["word"] (sp3 K 1 (KG a)):=by
 refine ok3 T.lU.F rZ (hbody:=λj A f s H E b=>#[_,_,(ag (dY ic rfl (bR (Eu (by rfl) (wC T) b.dn (by rfl) T.iK.m T.iK.F.kp T.iK.b)) (aX (i:=1) rZ.nd rfl (cv rfl))
   (au (cf (aP (kb b) (P3.opd (P3.or (cz (bv 1) T.Iy T.wJ (wH T) b.dn T.qk.b) (P3.or (cz (bv 1) T.CZ T.tG (sW T) b.dn T.mM.b) (P3.or (cz (bv 1) T.Al T.qZ (qW T) b.dn T.kM.b) (cz (bv 1) T.Ak T.qY (qV T) b.dn T.kL.b))))) (bv 0) (aR _)) (au (aD (uv 1))) br)))
   (au h_)),λg Q h l=>?_])
 let#[R,rfl,q]:=h;ext;refine#[rfl,?_];ext;refine cj (λk c=>k<=R.num/\∃ s,c=[some (.fz (.str R.word)),fo s]) #[eA _,none,rfl] ?_ ?_
 .rintro k d c hd ⟨hk,s,rfl⟩
  match k,hd with
  | 0,hd=>
   cases hd;ext;refine .inl #[rfl,_,rfl,?_];ext;refine pG (λe=>?_) (λe=>?_)
   .have hR:R=.sum:=by cases R <;> first | rfl | exact absurd e (by decide +kernel)
    subst hR;ext;exact q
   .ext;exact#[by cases R <;> first | decide | exact absurd hk (by decide) | exact absurd e (by decide +kernel),some _,rfl]
  | 1,hd=>
   cases hd;ext;refine .inr (.inl #[rfl,_,rfl,?_]);ext;refine pG (λe=>?_) (λe=>?_)
   .have hR:R=.half:=by cases R <;> first | rfl | exact absurd e (by decide +kernel)
    subst hR;ext;exact q
   .ext;exact#[by cases R <;> first | decide | exact absurd hk (by decide) | exact absurd e (by decide +kernel),some _,rfl]
  | 2,hd=>
   cases hd;ext;refine .inr (.inr (.inl #[rfl,_,rfl,?_]));ext;refine pG (λe=>?_) (λe=>?_)
   .have hR:R=.guess:=by cases R <;> first | rfl | exact absurd e (by decide +kernel)
    subst hR;ext;exact q
   .ext;exact#[by cases R <;> first | decide | exact absurd hk (by decide) | exact absurd e (by decide +kernel),some _,rfl]
  | 3,hd=>
   cases hd;ext;refine .inr (.inr (.inr #[rfl,_,rfl,?_]));ext;refine pG (λe=>?_) (λe=>?_)
   .have hR:R=.lean:=by cases R <;> first | rfl | exact absurd e (by decide +kernel)
    subst hR;ext;exact q
   .ext;exact#[by cases R <;> first | decide | exact absurd hk (by decide) | exact absurd e (by decide +kernel),some _,rfl]
 .rintro c ⟨hk,_⟩;cases R <;> exact absurd (show 4<=_ from hk) (by decide)
noncomputable abbrev plD (a:Ad)(R:Rl)(h w:Int)(ls:List Lt):D:=.ins a.aS ["chosen","corners","letters"] [R.ob a,.tup ((gP h w ls).map cD),.str (wy ls)]
def Pj:S3:=λΓ Q=>∃ (l:Lt) (h w:Int),Γ=[some (.fz (.str l.s)),some (.fz (.int h)),some (.fz (.int w))]/\Can l h w/\Q (.fz (.bl true)) Γ
def Kv:S3:=λΓ Q=>∃ h w:Int,Γ=[some (.fz (.int h)),some (.fz (.int w))]/\cP h w/\Q (.fz (.bl true)) Γ
theorem zH(T:Txt K mg a):aM P w K mg base CX0 2 a.vq a.t6 ["height","width"] (sp3 K 2 Kv):=by
 refine ok3 T.lV.F zg (hbody:=λe A b s H E c=>#[_,_,(ag (cf (P3W.pt (k8 (cu (bX (ar (fY T) c.dn T.bg.m T.bg.F.kp T.bg.b (Yj (p3v 0) (aa WZ (Yj (wA (i:=64) (by rfl) T.qH) af)))))) (iS (cu (bX (ar (fY T) c.dn T.bg.m T.bg.F.kp T.bg.b (Yj (p3v 1) (aa WZ (Yj (wA (i:=64) (by rfl) T.qH) af))))))))) (au (aD jm)) br)
   (au (aD (cW F_ (P3.opd (bO (bv 0) (bv 1))) (P3.opd (wA (i:=512) (by rfl) T.uF)) (aR _))))),λd Q h g=>?_])
 let#[h,w,rfl,#[m,l,k,j,f],q]:=h;ext;refine#[_,_,_,rfl,rfl,?_];rw[show whD (.int h) 1 64=true by simp only[whD,fT,decide_eq_true_eq];lia];ext;refine#[_,_,_,rfl,rfl,?_];rw[show whD (.int w) 1 64=true by simp only[whD,fT,decide_eq_true_eq];lia];ext;refine#[.inl #[by lia,by lia],?_];rw[show E_ (h * w) 512=true by simp -iota only[E_,decide_eq_true_eq];exact f];exact q
theorem wB(T:Txt K mg a):aM P w K mg base CX0 1 a.qx a.oK ["letter","height","width"] (sp3 K 3 Pj):=by
 refine ok3 T.iJ.F vZ (hbody:=λf A b s H E j=>#[_,_,(ag (cf (P3W.pt (wu (aP (nv) (bv 0) (P3.opd (fO (p:=a.bL) (zs:=["r","b"]) T.eV)) (by with_unfolding_all rfl)) (sL (aP yL (bv 2) WZ (aR _))))) (au (aD jm)) br)
   (ag (cf (P3W.pt (wu (aP (nv) (bv 0) (P3.opd (fO (p:=a.a8) (zs:=["p","b"]) T.cT)) (by with_unfolding_all rfl)) (sL (aP yL (bv 1) WZ (aR _))))) (au (aD jm)) br)
   (au (aD (N_ (cW (nv) (bv 0) (P3.opd (fO (p:=a.bL) (zs:=["r","b"]) T.eV)) (by with_unfolding_all rfl)) (sN (cW (nv) (bv 0) (P3.opd (fO (p:=a.a8) (zs:=["p","b"]) T.cT)) (by with_unfolding_all rfl)))))))),λe Q h k=>?_])
 let#[l,h,w,rfl,#[i,g],q]:=h;have d:l≠.p->wX w 2=false:=λz=>by have:=i z;simp -iota only[wX,decide_eq_false_iff_not];lia
 have c:l≠.r->wX h 2=false:=λz=>by have:=g z;simp -iota only[wX,decide_eq_false_iff_not];lia
 cases l
 .ext;rw[d (by decide)];ext;exact q
 .ext;rw[c (by decide)];ext;exact q
 .ext;rw[d (by decide)];ext;rw[c (by decide)];ext;exact q
def MA:S3:=λΓ Q=>∃ (h w:Int) (ls:List Lt),Γ=[some (.fz (.int h)),some (.fz (.int w)),some (.fz (.str (wy ls)))]/\Good h w ls/\ls.length<=10/\Q (.fz (.tup ((gP h w ls).map cD))) Γ
theorem mn{h w:Int}{ls:List Lt}(hk:k < ls.length):((gP h w ls).take (k + 1)).map cD++[cD (cat h w ls (k + 1))]=((gP h w ls).take (k + 2)).map cD:=by
 have e:(gP h w ls).take (k + 1 + 1)=(gP h w ls).take (k + 1)++[cat h w ls (k + 1)]:=by
  conv=>lhs;rw[Rz]
  rw[w5 (by lia)];rfl
 rw[e,er];rfl
theorem wL{ls:List Lt}{d:D}(h:(ls.map λl=>D.str l.s)[k]?=some d):∃ l,ls[k]?=some l/\d=.str l.s:=by
 rw[ef] at h;cases q:ls[k]? with
 | none=>rw[q] at h;cases h
 | some l=>rw[q] at h;cases h;exact#[l,rfl,rfl]
theorem cZ{b:Type}{l:List b}{a:b}(h:l[k]?=some a):k < l.length:=(gS0 h).1
theorem uw(T:Txt K mg a):aM P w K mg base CX0 2 a.oW a.mX ["height","width","way"] (sp3 K 3 MA):=by
 refine ok3 T.gC.F dH (hbody:=λt A j s H E o=>#[_,_,(ag (cf (cu (bX (aN (Pn T.tys) T.z_isinstance (aa (bv 2) (Yj (sM (n:="str") T.z_str) af))))) (au h_) br)
   (ag (aI (i:=3) dH.nd rfl (cv rfl) (bF (ab (aF (ab (p3v 0) (ab (p3v 1) ah))) ah)))
   (ag (dY ic rfl (EX (p3v 2)) (aX (i:=4) dH.nd rfl (cv rfl))
   (ag (cf (cu (bX (ar (wB T) o.dn T.iJ.m T.iJ.F.kp T.iJ.b (Yj (p3v 4) (Yj (p3v 0) (Yj (p3v 1) af)))))) (au h_) br)
   (ag (cf (aP (nv) (bv 4) (P3.opd (fO (p:=a.bL) (zs:=["r","b"]) T.eV)) (by with_unfolding_all rfl)) (au (aI (i:=1) dH.nd rfl (cv rfl) (gM (P3.opd (aZ (bv 1) WZ)) WZ))) br)
   (ag (cf (aP (nv) (bv 4) (P3.opd (fO (p:=a.a8) (zs:=["p","b"]) T.cT)) (by with_unfolding_all rfl)) (au (aI (i:=0) dH.nd rfl (cv rfl) (gM (P3.opd (aZ (bv 0) WZ)) WZ))) br)
   (au (c_ (eu 3 (bv 3) (aF (ab (p3v 0) (ab (p3v 1) ah))))))))))
   (au (aD (bQ (IB (by rfl)) T.z_tuple (aa (bv 3) af))))))),λm Q h e=>?_])
 let#[h,w,b,rfl,g,r,q]:=h;ext;refine#[by rw[ea];lia,by rw[ea];lia,?_];refine#[yZ b,cj (λk f=>k<=b.length/\∃ s,f=[some (.fz (.int (cat h w b k).1)),some (.fz (.int (cat h w b k).2)),some (.fz (.str (wy b))),some (.ow (.lst (((gP h w b).take (k + 1)).map cD))),fo s]) #[eA _,none,by rw[cB];cases b <;> rfl] ?_ ?_]
 .rintro k d f hd ⟨hk,s,rfl⟩;rw[kN] at hd;let#[l,e,rfl]:=wL hd;have lt:=cZ e;ext;refine#[l,_,_,rfl,wU g e,?_];ext;have st:=gb (h:=h) (w:=w) e;have u:((gP h w b).take (k + 1)).length<=11:=by rw[ew,dN];lia
  have z1:(2:Nat)<=sizeLine:=by rw[ea];lia
  have z2:(((gP h w b).take (k + 1)).map cD).length < sizeLine:=by rw[lM0,ea];lia
  cases l
  .have c:cat h w b (k + 1)=((cat h w b k).1,((cat h w b k).2 + 1) / 2):=st;ext;refine#[#[by decide,by decide],?_];ext;refine#[z1,z2,lt,some (.str Lt.r.s),?_];rw[<- mn lt,c]
   rfl
  .have c:cat h w b (k + 1)=(((cat h w b k).1 + 1) / 2,(cat h w b k).2):=st;ext;refine#[#[by decide,by decide],?_];ext;refine#[z1,z2,lt,some (.str Lt.p.s),?_];rw[<- mn lt,c]
   rfl
  .have c:cat h w b (k + 1)=(((cat h w b k).1 + 1) / 2,((cat h w b k).2 + 1) / 2):=st;ext;refine#[#[by decide,by decide],?_];ext;refine#[#[by decide,by decide],?_];ext;refine#[z1,z2,lt,some (.str Lt.b.s),?_];rw[<- mn lt,c]
   rfl
 .rintro f ⟨hk,s,rfl⟩;ext;rw[kN,lM0,rr (by rw[dN];lia)];exact q
def K1 (a:Ad):S3:=λΓ Q=>∃ (R:Rl) (h w:Int) (ls:List Lt),Γ=[some (.ln (.ins a.aS [] [])),some (.fz (.int h)),some (.fz (.int w)),some (.fz (.str R.word)),some (.fz (.str (wy ls)))]/\cP h w/\Good h w ls/\ls.length<=10/\
 Q (.fz .non) [some (.ln (plD a R h w ls)),some (.fz (.int h)),some (.fz (.int w)),some (.fz (.str R.word)),some (.fz (.str (wy ls)))]
theorem pZ(T:Txt K mg a):aM P w K mg base CX0 3 a.gw a.jB ["self","height","width","word","way"] (sp3 K 5 (K1 a)):=by
 refine ok3 T.kc.F pS (hbody:=λj A b s H E c=>#[_,_,(ag (cf (cu (bX (ar (zH T) c.dn T.lV.m T.lV.F.kp T.lV.b (Yj (p3v 1) (Yj (p3v 2) af))))) (au h_) br)
   (ag (wc (C0:=a.aS) 0 (by rfl) T.aW T.tj (bv 0) (ar (zG T) c.dn T.lU.m T.lU.F.kp T.lU.b (Yj (p3v 3) af)))
   (ag (wc (C0:=a.aS) 0 (by rfl) T.aW T.bD (bv 0) (ar (uw T) c.dn T.gC.m T.gC.F.kp T.gC.b (Yj (p3v 1) (Yj (p3v 2) (Yj (p3v 4) af)))))
   (au (wc (C0:=a.aS) 0 (by rfl) T.aW T.cS (bv 0) (p3v 4)))))),λe Q h k=>?_])
 let#[R,h,w,i,rfl,f,g,d,q]:=h;ext;refine#[h,w,rfl,f,?_];ext;refine#[R,rfl,?_];ext;refine#[h,w,i,rfl,g,d,?_];ext;exact#[by decide +kernel,by decide +kernel,q]
def vY (a:Ad)(f:Rl->Int->Int->List Lt->D):S3:=λΓ Q=>∃ (R:Rl) (h w:Int) (ls:List Lt),Γ=[some (.fz (plD a R h w ls))]/\ls.length<=10/\Q (.fz (f R h w ls)) Γ
theorem xX(T:Txt K mg a):aM P w K mg base CX0 1 a.nR a.qv ["self"] (sp3 K 1 (vY a λ_ _ _ ls=>.str (wy ls))):=by
 refine ok3 T.rL.F xw (hbody:=λe A b s H E g=>#[_,_,(au (aD (eR (f:="letters") (bv 0) T.aW T.cS))),λc Q h i=>?_]);let#[R,h,w,ls,rfl,d,q]:=h;ext;exact q
theorem fR(T:Txt K mg a):aM P w K mg base CX0 1 a.j5 a.m9 ["self"] (sp3 K 1 (vY a λ_ _ _ ls=>.int ls.length)):=by
 refine ok3 T.eL.F ur (hbody:=λe A b s H E g=>#[_,_,(au (aD (aN (kr) T.z_len (Yj (eR (f:="letters") (bv 0) T.aW T.cS) af)))),λc Q h i=>?_]);let#[R,h,w,ls,rfl,d,q]:=h;ext;refine#[by rw[bJ,ea];lia,?_];rw[bJ];exact q
def Fy (a:Ad):S3:=λΓ Q=>∃ (R:Rl) (h w:Int) (ls:List Lt) (k:Nat),Γ=[some (.fz (plD a R h w ls)),some (.fz (.int k))]/\ls.length<=10/\k<=ls.length/\Q (.fz (cD (cat h w ls k))) Γ
theorem ik(T:Txt K mg a):aM P w K mg base CX0 2 a.jb a.lF ["self","step"] (sp3 K 2 (Fy a)):=by
 refine ok3 T.fJ.F r_ (hbody:=λi A b s H E e=>#[_,_,(ag (cf (cu (bX (ar (fY T) e.dn T.bg.m T.bg.F.kp T.bg.b (Yj (p3v 1) (aa WZ (Yj (cz (bv 0) T.aW T.fU (fR T) e.dn T.eL.b) af)))))) (au h_) br)
   (au (aD (aA (P3.opd (eR (f:="corners") (bv 0) T.aW T.bD)) (bv 1))))),λg Q h j=>?_])
 let#[R,h,w,d,k,rfl,c,hk,q]:=h;ext;refine#[by decide +kernel,R,h,w,d,rfl,c,?_];ext;refine#[_,_,_,rfl,rfl,?_];rw[show whD (.int k) 0 (d.length:Int)=true by simp only[whD,fT,decide_eq_true_eq];lia];ext;exact cA.mpr #[_,fV hk,q]
noncomputable abbrev pD (y x:Int):D:=.tup [.int y,.int x]
noncomputable def inD (h w:Int):D->Bool
 | .tup [a,b]=>whD a 0 (h - 1) && whD b 0 (w - 1)
 | _=>false
inductive Th:D->Prop where
 | two (a b:D) (ha:knD a=true) (hb:knD b=true):Th (.tup [a,b])
 | one (a:D):Th (.tup [a])
 | three (a b c:D):Th (.tup [a,b,c])
 | lst (xs:List D):Th (.lst xs)
 | non:Th .non
 | int (i:Int):Th (.int i)
def Dm:S3:=λΓ Q=>∃ (d:D) (h w:Int),Γ=[some (.fz d),some (.fz (.int h)),some (.fz (.int w))]/\Th d/\Q (.fz (.bl (inD h w d))) Γ
theorem Ni{i lo hi:Int}(h1:lo<=i)(a:i<=hi):whD (.int i) lo hi=true:=by
 show (decide (lo<=i) && decide (i<=hi))=true;rw[decide_eq_true h1,decide_eq_true a];rfl
theorem Ie{y x h w:Int}(h1:0<=y)(c:y < h)(a:0<=x)(b:x < w):inD h w (pD y x)=true:=by
 show (whD (.int y) 0 (h - 1) && whD (.int x) 0 (w - 1))=true;rw[Ni h1 (by lia),Ni a (by lia)];rfl
theorem Qz{y x h w:Int}(e:inD h w (pD y x)=true):0<=y/\y < h/\0<=x/\x < w:=by
 have:((decide (0<=y) && decide (y<=h - 1)) && (decide (0<=x) && decide (x<=w - 1)))=true:=e;simp -iota only[fT,decide_eq_true_eq] at this;lia
theorem cK(T:Txt K mg a):aM P w K mg base CX0 2 a.iV a.iu ["thing","height","width"] (sp3 K 3 Dm):=by
 refine ok3 T.aJ.F nD (hbody:=λo A c s H E f=>#[_,_,(ag (cf (P3W.pt (k8 (cu (bX (aN (Pm T.ty) T.z_isinstance (aa (bv 0) (Yj (sM (n:="tuple") T.z_tuple) af))))) (iS (aP (iA f) (P3.opd (aN (kr) T.z_len (aa (bv 0) af))) WZ (aR _))))) (au (aD jm)) br)
   (au (aD (sP (ar (fY T) f.dn T.bg.m T.bg.F.kp T.bg.b (Yj (aA (bv 0) WZ) (aa WZ (Yj (cy (bv 1) WZ) af)))) (sN (ar (fY T) f.dn T.bg.m T.bg.F.kp T.bg.b (Yj (aA (bv 0) WZ) (aa WZ (Yj (cy (bv 2) WZ) af))))))))),λj Q h r=>?_])
 let#[d,h,w,rfl,k,q]:=h;cases k with
 | two b g m l=>
  ext;rw[show (!(((2:Nat):Int) == 2))=false from rfl];ext;refine#[_,_,_,rfl,m,?_];rw[show inD h w (.tup [b,g])=(whD b 0 (h - 1) && whD g 0 (w - 1)) from rfl] at q;cases e:whD b 0 (h - 1)
  .rw[e,P8] at q;ext;exact q
  .rw[e,Xb] at q;ext;exact#[_,_,_,rfl,l,q]
 | one b=>
  ext;rw[show (!(((1:Nat):Int) == 2))=true from rfl];ext;exact q
 | three b g t=>
  ext;rw[show (!(((3:Nat):Int) == 2))=true from rfl];ext;exact q
 | lst p=>ext;exact q
 | non=>ext;exact q
 | int i=>ext;exact q
def Ft (a:Ad):S3:=λΓ Q=>∃ (R:Rl) (h w:Int) (ls:List Lt) (k:Nat) (y x:Int),Γ=[some (.fz (plD a R h w ls)),some (.fz (.int (k:Int))),some (.fz (pD y x))]/\ls.length<=10/\k<=ls.length/\0<=y/\y < (cat h w ls k).1/\0<=x/\x < (cat h w ls k).2/\Q (.fz .non) Γ
theorem ij(T:Txt K mg a):aM P w K mg base CX0 5 a.i_ a.iw ["plan","step","thing"] (sp3 K 3 (Ft a)):=by
 refine ok3 T.aL.F cx (hbody:=λn A b s H E d=>#[_,_,(ag (bW (is:=[3,4]) (l_ (bv 0) T.aW T.iq (ik T) d.dn T.fJ.b (Yj (p3v 1) af)) (aj (aq (i:=3) cx.nd rfl (cv rfl)) (aj (aq (i:=4) cx.nd rfl (cv rfl)) aO)) rfl)
   (au (cf (cu (bX (ar (cK T) d.dn T.aJ.m T.aJ.F.kp T.aJ.b (Yj (p3v 2) (Yj (p3v 3) (Yj (p3v 4) af)))))) (au h_) br))),λe Q h o=>?_])
 let#[R,h,w,f,k,y,x,rfl,c,hk,m,l,j,g,q]:=h;ext;refine#[by decide +kernel,R,h,w,f,k,rfl,c,hk,?_];delta cD;ext;refine#[_,_,_,rfl,.two _ _ rfl rfl,?_];rw[Ie m l j g];ext;exact q
noncomputable abbrev piD (q:Int×Int):D:=.tup [.int q.1,.int q.2]
noncomputable def dD (p n:Int):List (Int×Int):=if 2 * p + 1 < n then [(2 * p,1),(2 * p + 1,1)] else [(2 * p,2)]
def Ph:S3:=λΓ Q=>∃ (p n:Int),Γ=[some (.fz (.int p)),some (.fz (.int n))]/\Q (.fr (.lst ((dD p n).map piD))) Γ
theorem cm2{k:Int}:uj 2 k:=by delta uj;lia
theorem sl2{n:Nat}(h:n<=1000):n<=sizeLine:=Fn (small h)
theorem sT(T:Txt K mg a):aM P w K mg base CX0 1 a.vt a.t7 ["at","many"] (sp3 K 2 Ph):=by
 refine ok3 T.fm.F zh (hbody:=λd A b s H E f=>#[_,_,(ag (cf (aP yL (P3.opd (aZ (P3.opd (bO WZ (bv 0))) WZ)) (bv 1) (aR _)) (au (aD (bF (ab (aF (ab (bO WZ (bv 0)) (ab ae ah))) (ab (aF (ab (aZ (P3.opd (bO WZ (bv 0))) WZ) (ab ae ah))) ah))))) br)
   (au (aD (bF (ab (aF (ab (bO WZ (bv 0)) (ab ae ah))) ah))))),λc Q h g=>?_])
 let#[p,n,rfl,q]:=h;ext;refine#[cm2,pG (λe=>?_) (λe=>?_)]
 .have h:2 * p + 1 < n:=by simpa [wX] using e
  delta dD at q;rw[if_pos h] at q;ext;exact#[cm2,sl2 (by decide),cm2,sl2 (by decide),sl2 (by decide),q]
 .have h:¬ 2 * p + 1 < n:=by simpa [wX] using e
  delta dD at q;rw[if_neg h] at q;ext;exact#[cm2,sl2 (by decide),sl2 (by decide),q]
noncomputable def c7 (l:Lt)(h y:Int):List (Int×Int):=if l=.r then [(y,1)] else dD y h
noncomputable def c8 (l:Lt)(w x:Int):List (Int×Int):=if l=.p then [(x,1)] else dD x w
noncomputable def crs (A B:List (Int×Int)):List PM:=A.flatMap λd=>B.map λq=>(d.1,q.1,d.2 * q.2)
noncomputable def lS (l:Lt)(c:Int×Int)(y x:Int):List PM:=crs (c7 l c.1 y) (c8 l c.2 x)
def Qc (a:Ad):S3:=λΓ Q=>∃ (R:Rl) (h w:Int) (ls:List Lt) (k:Nat) (l:Lt) (y x:Int),Γ=[some (.fz (plD a R h w ls)),some (.fz (.int (k:Int))),some (.fz (pD y x))]/\ls.length<=10/\ls[k]?=some l/\Q (.fr (.lst ((lS l (cat h w ls k) y x).map pmD))) Γ
theorem BN{p n:Int}:(dD p n).length<=2:=by delta dD;split <;> simp
theorem BM{p n:Int}{q:Int×Int}(h:q∈dD p n):q.2=1\/q.2=2:=by
 delta dD at h;split at h
 .simp -iota only[cm,ey,or_false] at h;rcases h with rfl | rfl <;> simp
 .simp -iota only[cm,ey,or_false] at h;subst h;simp
theorem Gw{l:Lt}{h y:Int}:(c7 l h y).length<=2:=by delta c7;split;simp;exact BN
theorem Gy{l:Lt}{h y:Int}:(c8 l h y).length<=2:=by delta c8;split;simp;exact BN
theorem Gv{l:Lt}{h y:Int}{q:Int×Int}(m:q∈c7 l h y):q.2=1\/q.2=2:=by
 delta c7 at m;split at m
 .simp_all
 .exact BM m
theorem Gx{l:Lt}{h y:Int}{q:Int×Int}(m:q∈c8 l h y):q.2=1\/q.2=2:=by
 delta c8 at m;split at m
 .simp_all
 .exact BM m
theorem c6{a:Type}{f:a->D}{l:List a}{d:D}(h:(l.map f)[k]?=some d):∃ x,l[k]?=some x/\d=f x:=by
 rw[ef] at h;cases q:l[k]? with
 | none=>rw[q] at h;cases h
 | some x=>rw[q] at h;cases h;exact#[x,rfl,rfl]
theorem take_snoc{a:Type}{xs:List a}{x:a}(h:xs[k]?=some x):xs.take (k + 1)=xs.take k++[x]:=by rw[Rz,h];rfl
theorem j0{a b:Type}{f:a->List b}{xs:List a}{x:a}(h:xs[k]?=some x):(xs.take (k + 1)).flatMap f=(xs.take k).flatMap f++f x:=by rw[take_snoc h,S2];simp
theorem tY {a b:Type}{f:a->List b}{c:Nat}:∀ {xs:List a},(∀ x∈xs,(f x).length<=c)->(xs.flatMap f).length<=xs.length * c
 | [],_=>by simp
 | x::r,h=>by
  have g:=h x (.head _);have e:=tY (xs:=r) λy d=>h y (.tail _ d);rw[OI,dV,eh,UU,Wv];exact WF 0x497310b1e55480cb8 g e
theorem sQ(T:Txt K mg a):aM P w K mg base CX0 3 a.nj a.lC ["plan","step","place"] (sp3 K 3 (Qc a)):=by
 refine ok3 T.fG.F bN (hbody:=λa1 A G s H E z=>#[_,_,(ag (bW (is:=[3,4]) (l_ (bv 0) T.aW T.iq (ik T) z.dn T.fJ.b (Yj (p3v 1) af)) (aj (aq (i:=3) bN.nd rfl (cv rfl)) (aj (aq (i:=4) bN.nd rfl (cv rfl)) aO)) rfl)
   (ag (aI (i:=5) bN.nd rfl (cv rfl) (aA (P3.opd (cz (bv 0) T.aW T.x_ (xX T) z.dn T.rL.b)) (bv 1)))
   (ag (bW (is:=[6,7]) (p3v 2) (aj (aq (i:=6) bN.nd rfl (cv rfl)) (aj (aq (i:=7) bN.nd rfl (cv rfl)) aO)) rfl)
   (ag (aI (i:=8) bN.nd rfl (cv rfl) (mR (k9 (aP (nv) (bv 5) (P3.opd (fO (p:=a.a8) (zs:=["p","b"]) T.cT)) (by with_unfolding_all rfl)) (ar (sT T) z.dn T.fm.m T.fm.F.kp T.fm.b (Yj (p3v 6) (Yj (p3v 3) af))) (bF (ab (aF (ab (p3v 6) (ab ae ah))) ah)))))
   (ag (aI (i:=9) bN.nd rfl (Qo rfl) (mR (k9 (aP (nv) (bv 5) (P3.opd (fO (p:=a.bL) (zs:=["r","b"]) T.eV)) (by with_unfolding_all rfl)) (ar (sT T) z.dn T.fm.m T.fm.F.kp T.fm.b (Yj (p3v 7) (Yj (p3v 4) af))) (bF (ab (aF (ab (p3v 7) (ab ae ah))) ah)))))
   (au (aD (sO rfl (bR (p3v 8)) cn (λ_ _ _ _ _=>(fA (is:=[0,1]) (aj (aq (i:=0) cn.nd rfl (cv rfl)) (aj (aq (i:=1) cn.nd rfl (cv rfl)) aO)) rfl)) (λ_ _ _ _ _=>(bR (p3v 4))) (λ_ _ _ _ _=>(fA (is:=[2,3]) (aj (aq (i:=2) cn.nd rfl (cv rfl)) (aj (aq (i:=3) cn.nd rfl (cv rfl)) aO)) rfl)) (λ_ _ _ _ _=>(aF (ab (aF (ab (p3v 0) (ab (p3v 2) ah))) (ab (bO (bv 1) (bv 3)) ah)))))))))))),λO Q h hl=>?_])
 let#[R,h,w,I,k,l,y,x,rfl,t,hk,q]:=h;have lk:=cZ hk;ext;refine#[by decide +kernel,R,h,w,I,k,rfl,t,by lia,?_];delta lS at q;generalize cat h w I k=c at q ⊢;delta cD;ext;refine#[by decide +kernel,R,h,w,I,rfl,t,?_];ext;refine#[sl2 (by rw[bJ];lia),l,atL hk,?_];have S:=Gw (l:=l) (h:=c.1) (y:=y);have M:∀ q∈c7 l c.1 y,q.2=1\/q.2=2:=λq m=>Gv m;have B:=Gy (l:=l) (h:=c.2) (y:=x);have N:∀ q∈c8 l c.2 x,q.2=1\/q.2=2:=λq m=>Gx m;cases l
 case' r=>
  ext;refine#[sl2 (by decide),sl2 (by decide),x,c.2,rfl,?_];rw[show [D.tup [.int y,.int 1]]=(c7 .r c.1 y).map piD from rfl,show dD x c.2=c8 .r c.2 x from rfl]
 case' p=>
  ext;refine#[y,c.1,rfl,?_];rw[show dD y c.1=c7 .p c.1 y from rfl];ext;rw[show [D.tup [.int x,.int 1]]=(c8 .p c.2 x).map piD from rfl];refine#[sl2 (by decide),sl2 (by decide),?_]
 case' b=>
  ext;refine#[y,c.1,rfl,?_];rw[show dD y c.1=c7 .b c.1 y from rfl];ext;refine#[x,c.2,rfl,?_];rw[show dD x c.2=c8 .b c.2 x from rfl]
 all_goals
  generalize c7 _ c.1 y=Y at q S M ⊢;generalize c8 _ c.2 x=Z at q B N ⊢;ext;refine fB (λj o e=>j<=Y.length/\o=(crs (Y.take j) Z).map pmD/\∃ F C n g,e=[fo F,fo C,fo n,fo g,some (.fz (.lst (Z.map piD)))]) #[eA _,rfl,none,none,none,none,rfl] ?_ ?_
  .rintro j d o e hd ⟨W,rfl,F,C,n,g,rfl⟩;let#[v,J,rfl]:=c6 hd;have lt:=cZ J;have v2:=M v (ek J);have V:(crs (Y.take j) Z).length<=4:=by
    have:=tY (f:=λd:Int×Int=>Z.map λq=>((d.1,q.1,d.2 * q.2):PM)) (c:=2) (xs:=Y.take j) λx _=>by rw[lM0];exact B
    rw[ew] at this;delta crs;lia
   ext;refine#[λi o e=>o=(crs (Y.take j) Z++(Z.take i).map λq=>((v.1,q.1,v.2 * q.2):PM)).map pmD/\i<=Z.length/\∃ n g,e=[some (.fz (.int v.1)),some (.fz (.int v.2)),fo n,fo g,some (.fz (.lst (Z.map piD)))],#[by simp,by lia,n,g,rfl],?_,?_]
   .rintro i d o e hd ⟨rfl,X,n,g,rfl⟩;let#[u,L,rfl]:=c6 hd;have U:=cZ L;have u2:=N u (ek L);ext;refine#[small (by rw[lM0,dV,lM0,ew];lia),sl2 (by decide),.inl #[by lia,by lia],sl2 (by decide),?_,by lia,#[some _,rfl],#[some _,rfl]];rw[take_snoc L];simp -iota only[er,fq];rfl
   .rintro o e ⟨rfl,X,n,g,rfl⟩;refine#[lt,?_,some _,some _,n,g,rfl];rw[lM0,hG]
    congr 1
    exact(j0 J).symm
  .rintro o e ⟨W,rfl,F,C,n,g,rfl⟩;rw[show Y.take (Qg piD Y).length=Y by rw[lM0,hG]];have V:(crs Y Z).length<=4:=by
    have:=tY (f:=λd:Int×Int=>Z.map λq=>((d.1,q.1,d.2 * q.2):PM)) (c:=2) (xs:=Y) λx _=>by rw[lM0];exact B
    delta crs;lia
   exact#[small (by rw[lM0];lia),q]
noncomputable def stp (l:Lt)(c:Int×Int)(p:PM):List PM:=(lS l c p.1 p.2.1).map λq=>(q.1,q.2.1,q.2.2 * p.2.2)
noncomputable def shR (h w:Int):List Lt->Int->Int->List PM
 | [],y,x=>[(y,x,1)]
 | l::ls,y,x=>(shR (nh l h) (nw l w) ls y x).flatMap (stp l (h,w))
noncomputable def ayR (h:Int):List Lt->Int->List (Int×Int)
 | [],y=>[(y,1)]
 | l::ls,y=>(ayR (nh l h) ls y).flatMap λd=>(c7 l h d.1).map λc=>(c.1,c.2 * d.2)
noncomputable def axR (w:Int):List Lt->Int->List (Int×Int)
 | [],x=>[(x,1)]
 | l::ls,x=>(axR (nw l w) ls x).flatMap λd=>(c8 l w d.1).map λc=>(c.1,c.2 * d.2)
theorem E8 {a b:Type}{f g:a->List b}:∀ B:List a,(B.flatMap λc=>f c++g c).Perm (B.flatMap f++B.flatMap g)
 | []=>Au _
 | c::B=>by
  simp -iota only[OI];refine((E8 B).append_left (f c++g c)).trans ?_;simp -iota only[fq];refine BY _ ?_;rw[<- fq,<- fq];exact UK.append_right _
theorem By {b a d:Type}{g:b->a->List d}{B:List a}:∀ A:List b,(A.flatMap λq=>B.flatMap λc=>g q c).Perm (B.flatMap λc=>A.flatMap λq=>g q c)
 | []=>by simp
 | q::A=>by
  simp -iota only[OI];exact((By A).append_left _).trans (E8 B).symm
theorem Bz {a b:Type}{f g:a->List b}:∀ {A:List a},(∀ x∈A,(f x).Perm (g x))->(A.flatMap f).Perm (A.flatMap g)
 | [],_=>Au _
 | x::A,h=>by
  simp -iota only[OI];exact(h x (.head _)).append (Bz λy c=>h y (.tail _ c))
theorem n9:∀ (ls:List Lt) (h w y x:Int),(shR h w ls y x).Perm (crs (ayR h ls y) (axR w ls x))
 | [],_,_,_,_=>Au _
 | l::ls,h,w,y,x=>by
  refine(List.Perm.flatMap_right (stp l (h,w)) (n9 ls (nh l h) (nw l w) y x)).trans ?_;have e:(crs (ayR (nh l h) ls y) (axR (nw l w) ls x)).flatMap (stp l (h,w))=(ayR (nh l h) ls y).flatMap λd=>(axR (nw l w) ls x).flatMap λq=>(c7 l h d.1).flatMap λc=>(c8 l w q.1).map λe=>((c.1,e.1,c.2 * d.2 * (e.2 * q.2)):PM):=by
   delta crs;rw[Vv]
   congr 1;funext d
   rw[Wo]
   congr 1;funext q
   delta stp lS crs;rw[Wp]
   congr 1;funext c
   rw[zq]
   congr 1;funext e
   simp -iota only[Vg,W6,true_and];grind
  have a:crs (ayR h (l::ls) y) (axR w (l::ls) x)=(ayR (nh l h) ls y).flatMap λd=>(c7 l h d.1).flatMap λc=>(axR (nw l w) ls x).flatMap λq=>(c8 l w q.1).map λe=>((c.1,e.1,c.2 * d.2 * (e.2 * q.2)):PM):=by
   delta crs;simp -iota only[ayR,axR];rw[Vv]
   congr 1;funext d
   rw[Wo]
   congr 1;funext c
   rw[Wp]
   congr 1;funext q
   rw[zq]
   rfl
  rw[e,a];exact Bz λd _=>By _
structure Ri (n M:Int) (L:List (Int×Int)):Prop where
 up:L.Pairwise λa b=>a.1 < b.1
 lo:∀ p∈L,0<=p.1/\p.1 < n/\1<=p.2/\p.2<=M
theorem xE:∀ {L:List (Int×Int)} {lo hi:Int},(L.Pairwise λa b=>a.1 < b.1)->(∀ p∈L,lo<=p.1/\p.1 < hi)->lo<=hi->(L.length:Int)<=hi - lo
 | [],_,_,_,_,h=>by simpa using h
 | p::L,lo,hi,h,d,_=>by
  let#[f,e]:=Fk.mp h;have b:=d p (.head _);have:=xE (lo:=p.1 + 1) (hi:=hi) e (λq c=>#[by have:=f q c;lia,(d q (.tail _ c)).2]) (by lia);simp -iota only[eh];lia
theorem Ri.len{n M:Int}{L:List (Int×Int)}(h:Ri n M L)(b:0<=n):L.length<=n.toNat:=by
 have:=xE (lo:=0) (hi:=n) h.up (λp a=>#[(h.lo p a).1,(h.lo p a).2.1]) b;lia
theorem Ri.step{n m M:Int}{L:List (Int×Int)}{f:Int->List (Int×Int)}(h:Ri m M L)(l:0<=M)(j:(∀ p,f p=[(p,1)])/\m=n\/(∀ p,f p=dD p n)/\m=(n + 1) / 2) :
  Ri n (2 * M) (L.flatMap λd=>(f d.1).map λc=>(c.1,c.2 * d.2)):=by
 rcases j with ⟨j,rfl⟩ | ⟨j,rfl⟩
 .refine#[Sy.mpr #[λd _=>?_,h.up.imp ?_],λp e=>?_]
  .rw[j];simp
  .intro a b k x i y g;rw[j] at i g;simp -iota at i g;subst i g;exact k
  .let#[d,hd,e]:=lH.mp e;rw[j] at e;simp -iota at e;subst e;have:=h.lo d hd;simp -iota only[UY];lia
 .refine#[Sy.mpr #[λd _=>?_,h.up.imp ?_],λp e=>?_]
  .rw[j];delta dD;split <;> simp;lia
  .intro a b k x i y g;rw[j] at i g;delta dD at i g;split at i <;> split at g <;> simp -iota at i g
   .rcases i with rfl | rfl <;> rcases g with rfl | rfl <;> simp only <;> lia
   .rcases i with rfl | rfl <;> subst g <;> simp only <;> lia
   .grind
   .subst i g;simp only;lia
  .let#[d,hd,e]:=lH.mp e;have:=h.lo d hd;rw[j] at e;delta dD at e;split at e <;> simp -iota at e
   .grind
   .subst e;simp only;lia
theorem Dw(n:Nat):(1:Int)<=2 ^ n:=by
 induction n with
 | zero=>decide
 | succ n a=>rw[S7];lia
noncomputable def fh (h:Int):List Lt->Int
 | []=>h
 | l::ls=>fh (nh l h) ls
noncomputable def fwd (w:Int):List Lt->Int
 | []=>w
 | l::ls=>fwd (nw l w) ls
theorem J1:∀ (ls:List Lt) (h y:Int),0<=y->y < fh h ls->Ri h (2 ^ ls.length) (ayR h ls y)
 | [],h,y,b,a=>#[by simp -iota [ayR],by simp -iota only[ayR,cm,ey,or_false];rintro p rfl;exact#[b,a,pF _,pF _]]
 | l::ls,h,y,b,a=>by
  have:=J1 ls (nh l h) y b a;rw[eh,S7,Xs];refine this.step (Q4 (by decide) (Dw _)) ?_;by_cases e:l=.r
  .exact .inl #[λp=>by delta c7;rw[if_pos e],by delta nh;rw[if_pos e]]
  .exact .inr #[λp=>by delta c7;rw[if_neg e],by delta nh;rw[if_neg e]]
theorem J2:∀ (ls:List Lt) (h y:Int),0<=y->y < fwd h ls->Ri h (2 ^ ls.length) (axR h ls y)
 | [],h,y,b,a=>#[by simp -iota [axR],by simp -iota only[axR,cm,ey,or_false];rintro p rfl;exact#[b,a,pF _,pF _]]
 | l::ls,h,y,b,a=>by
  have:=J2 ls (nw l h) y b a;rw[eh,S7,Xs];refine this.step (Q4 (by decide) (Dw _)) ?_;by_cases e:l=.p
  .exact .inl #[λp=>by delta c8;rw[if_pos e],by delta nw;rw[if_pos e]]
  .exact .inr #[λp=>by delta c8;rw[if_neg e],by delta nw;rw[if_neg e]]
theorem Mx{n m M N:Int}{A B:List (Int×Int)}(i:Ri n M A)(g:Ri m N B):(crs A B).Pairwise pmL:=by
 refine Sy.mpr #[λd _=>V9.mpr (g.up.imp λh=>.inr #[rfl,.inl h]),i.up.imp ?_];intro a b c x f y e;let#[_,_,rfl]:=kv.mp f;let#[_,_,rfl]:=kv.mp e;exact .inl c
theorem Hr{a b:PM}(h1:pmL a b)(c:pmL b a):a=b:=by
 let#[h,g,f]:=a;let#[e,b2,d]:=b;delta pmL at h1 c;grind
theorem My{n m M N:Int}{A B:List (Int×Int)}(g:Ri n M A)(f:Ri m N B)(l:M<=2048)(k:N<=2048)(i:n<=64)(j:m<=64):∀ p∈crs A B,pmB p:=by
 intro p a;let#[d,hd,a]:=lH.mp a;let#[q,e,rfl]:=kv.mp a;have c:=g.lo d hd;have b:=f.lo q e;have:d.2 * q.2<=2048 * 2048:=Tv (by lia) (by lia) (by lia) (by decide);have h:0<=d.2 * q.2:=W2 (by lia) (by lia);exact#[c.1,Vw c.2.1 (by lia),b.1,Vw b.2.1 (by lia),h,Int.lt_of_le_of_lt this (by decide)]
theorem wZ{A B:List (Int×Int)}:(crs A B).length=A.length * B.length:=by
 delta crs
 induction A with
 | nil=>simp
 | cons a A b=>rw[OI,dV,b,lM0,eh,UU];lia
theorem Ap:∀ {ls:List Lt} {h w:Int} {k:Nat},k<=ls.length->fh h (ls.take k)=(cat h w ls k).1/\fwd w (ls.take k)=(cat h w ls k).2
 | ls,h,w,0,_=>by rw[cB];exact#[rfl,rfl]
 | [],_,_,k + 1,hk=>by simp -iota at hk
 | l::ls,h,w,k + 1,hk=>by
  rw[kq];exact Ap (ls:=ls) (h:=nh l h) (w:=nw l w) (k:=k) (by simpa using hk)
theorem FI:∀ {ls:List Lt} {h w:Int} {k i:Nat},i<=k->k<=ls.length->fh (cat h w ls i).1 ((ls.take k).drop i)=(cat h w ls k).1/\fwd (cat h w ls i).2 ((ls.take k).drop i)=(cat h w ls k).2
 | ls,h,w,k,0,_,hk=>by rw[cB,Md];exact Ap hk
 | [],_,_,k,i + 1,a,hk=>by simp -iota at hk;lia
 | l::ls,h,w,k + 1,i + 1,a,hk=>by
  rw[kq,kq];exact FI (ls:=ls) (h:=nh l h) (w:=nw l w) (k:=k) (i:=i) (by lia) (by simpa using hk)
 | l::ls,_,_,0,i + 1,a,_=>by lia
noncomputable def shK (h w:Int)(ls:List Lt)(k i:Nat)(y x:Int):List PM:=shR (cat h w ls i).1 (cat h w ls i).2 ((ls.take k).drop i) y x
theorem NK{h w:Int}{ls:List Lt}{y x:Int}{l:Lt}(a:ls[i]?=some l)(hi:i < k):shK h w ls k i y x=(shK h w ls k (i + 1) y x).flatMap (stp l (cat h w ls i)):=by
 have e:(ls.take k).drop i=l::(ls.take k).drop (i + 1):=by
  have b:(ls.take k)[i]?=some l:=by rw[Pc hi];exact a
  let#[lt,e]:=gS0 b;rw[vr lt,e]
 delta shK;rw[e,gb a]
 rfl
theorem NL{h w:Int}{ls:List Lt}{y x:Int}:shK h w ls k k y x=[(y,x,1)]:=by
 delta shK;rw[zv (by rw[ew];lia)];rfl
theorem DI{h w:Int}{ls:List Lt}{y x:Int}:shK h w ls k 0 y x=shR h w (ls.take k) y x:=by
 delta shK;rw[cB,Md]
structure InC (h w:Int) (ls:List Lt) (k:Nat) (y x:Int):Prop where
 y0:0<=y
 y1:y < (cat h w ls k).1
 x0:0<=x
 x1:x < (cat h w ls k).2
theorem rT{h w:Int}{ls:List Lt}{y x:Int}(hi:i<=k)(hk:k<=ls.length)(c:InC h w ls k y x) :
  Ri (cat h w ls i).1 (2 ^ ((ls.take k).drop i).length) (ayR (cat h w ls i).1 ((ls.take k).drop i) y)/\Ri (cat h w ls i).2 (2 ^ ((ls.take k).drop i).length) (axR (cat h w ls i).2 ((ls.take k).drop i) x):=by
 let#[b,a]:=FI (ls:=ls) (h:=h) (w:=w) hi hk;exact#[J1 _ _ _ c.y0 (by rw[b];exact c.y1),J2 _ _ _ c.x0 (by rw[a];exact c.x1)]
theorem vX{h w:Int}{ls:List Lt}{y x:Int}(a:cP h w)(g:Good h w ls)(hi:i<=k)(hk:k<=ls.length)(c:InC h w ls k y x):(shK h w ls k i y x).length<=4096:=by
 let#[d,b]:=rT hi hk c;have p:=(n9 ((ls.take k).drop i) (cat h w ls i).1 (cat h w ls i).2 y x).length_eq;let#[s,r,q,o]:=dQ (k:=i) g a.h1 a.w1 (by lia);have n:=a.h2;have m:=a.w2;have l:=d.len (by lia);have j:=b.len (by lia);delta shK;rw[p,wZ];have f:_<=64:=eH l (by lia);have e:_<=64:=eH j (by lia);exact Sv f e
noncomputable def shF (h w:Int)(ls:List Lt)(k:Nat)(y x:Int):List PM:=crs (ayR h (ls.take k) y) (axR w (ls.take k) x)
theorem Dx{n:Nat}(h:n<=10):(2:Int) ^ n<=2048:=by
 have:∀ m:Nat,m<=10->(2:Int) ^ m<=2048:=by decide
 exact this n h
theorem Cd{h w:Int}{ls:List Lt}{y x:Int}{L:List PM}(hk:k<=ls.length)(c:InC h w ls k y x)(p:(shK h w ls k 0 y x).Perm L)(s:L.Pairwise pmL):L=shF h w ls k y x:=by
 let#[e,d]:=rT (eA k) hk c;rw[DI] at p;rw[cB,Md] at e d;exact List.Perm.eq_of_pairwise (λa b _ _=>Hr) s (Mx e d) (p.symm.trans (n9 _ _ _ _ _))
theorem NJ{h w:Int}{ls:List Lt}{y x:Int}(a:cP h w)(g:ls.length<=10)(hk:k<=ls.length)(c:InC h w ls k y x):∀ p∈shK h w ls k 0 y x,pmB p:=by
 let#[d,b]:=rT (eA k) hk c;rw[DI];rw[cB,Md] at d b;intro p f;have e:=Dx (n:=(ls.take k).length) (by rw[ew];lia);exact My d b e e a.h2 a.w2 p ((n9 _ _ _ _ _).mem_iff.mp f)
theorem Gu{l:Lt}{c:Int×Int}{y x:Int}{q:PM}(h:q∈lS l c y x):1<=q.2.2/\q.2.2<=4:=by
 let#[d,hd,a]:=lH.mp h;let#[e,b,rfl]:=kv.mp a;rcases Gv hd with h1 | h1 <;> rcases Gx b with h2 | h2 <;> simp -iota only[h1,h2] <;> lia
theorem C7{l:Lt}{c:Int×Int}{y x:Int}:(lS l c y x).length<=4:=by
 delta lS;rw[wZ];exact Sv (Gw (l:=l) (h:=c.1) (y:=y)) (Gy (l:=l) (h:=c.2) (y:=x))
theorem xD{lo c:Int}{n:Nat}{d:D}(h:(uu lo c n)[k]?=some d):k < n/\d=.int (lo + (k:Int) * c):=by
 delta uu at h;exact wK h
theorem xC(lo c:Int)(n:Nat):(uu lo c n).length=n:=by simp -iota [uu]
def GY (a:Ad):S3:=λΓ Q=>∃ (R:Rl) (h w:Int) (ls:List Lt) (k:Nat) (y x:Int),Γ=[some (.fz (plD a R h w ls)),some (.fz (.int (k:Int))),some (.fz (pD y x))]/\cP h w/\Good h w ls/\ls.length<=10/\k<=ls.length/\InC h w ls k y x/\Q (.fr (.lst ((shF h w ls k y x).map pmD))) Γ
theorem sR(T:Txt K mg a):aM P w K mg base CX0 6 a.BB a.yy ["plan","step","place"] (sp3 K 3 (GY a)):=by
 refine ok3 T.fH.F n_ (hbody:=λa1 A J s H E U=>#[_,_,(ag (c_ (ar (ij T) U.dn T.aL.m T.aL.F.kp T.aL.b (Yj (p3v 0) (Yj (p3v 1) (Yj (p3v 2) af)))))
   (ag (aI (i:=3) n_.nd rfl (cv rfl) (mR (bF (ab (aF (ab (p3v 2) (ab ae ah))) ah))))
   (ag (dY ic rfl (EY (by rfl) T.z_reversed (by rfl) T.z_range (ab (p3v 1) ah)) (aX (i:=4) n_.nd rfl (Qo rfl))
   (au (we (i:=3) n_.nd rfl rfl rfl (bR (p3v 3)) gf (λ_ _ _ _ _=>(fA (is:=[0,1]) (aj (aq (i:=0) gf.nd rfl (cv rfl)) (aj (aq (i:=1) gf.nd rfl (cv rfl)) aO)) rfl)) (λ_ _ _ _ _=>(bR (ar (sQ T) U.dn T.fG.m T.fG.F.kp T.fG.b (Yj (p3v 5) (Yj (p3v 4) (Yj (p3v 0) af)))))) (λ_ _ _ _ _=>(fA (is:=[2,3]) (aj (aq (i:=2) gf.nd rfl (cv rfl)) (aj (aq (i:=3) gf.nd rfl (cv rfl)) aO)) rfl)) (λ_ _ _ _ _=>(aF (ab (p3v 2) (ab (bO (bv 3) (bv 1)) ah)))))))
   (au (aD (aN (Pk U) T.z_sorted (aa (bv 3) af))))))),λY Q h V=>?_])
 let#[R,h,w,f,k,y,x,rfl,G,g,z,hk,c,q]:=h;ext;refine#[R,h,w,f,k,y,x,rfl,z,hk,c.y0,c.y1,c.x0,c.x1,?_];ext;refine#[sl2 (by decide),sl2 (by decide),?_];refine#[by lia,by lia,cj (λj F=>j<=k/\∃ s,F=[some (.fz (plD a R h w f)),some (.fz (.int (k:Int))),some (.fz (pD y x)),some (.fz (.lst ((shK h w f k (k - j) y x).map pmD))),fo s]) #[eA _,none,?_] ?_ ?_]
 .rw[Xt,NL];rfl
 .rintro j d F hd ⟨hj,s,rfl⟩;let#[lt,rfl]:=xD hd;have lt:j < k:=by lia
  obtain⟨i,D⟩:∃ i,k - j=i + 1:=#[k - j - 1,by exact xl (Yi V1) (Yv (V3 (YM lt V1)))];have e1:(k:Int) - 1 + (j:Int) * -1=(i:Int):=by lia
  rw[e1,D];have e2:k - (j + 1)=i:=by lia
  have il:i < f.length:=by exact WF 0x52b2a890df0353cb8 hk D V2
  obtain⟨l,V⟩:∃ l,f[i]?=some l:=#[_,gE0 il];have st:=NK (h:=h) (w:=w) (y:=y) (x:=x) V (show i < k by exact YS D V2);have C:=vX (i:=i) G g (by exact WF 0xe4debd0306ccb D V2) hk c;rw[st] at C;generalize shK h w f k (i + 1) y x=L at st C ⊢;ext;refine fB (λj t b=>j<=L.length/\t=((L.take j).flatMap (stp l (cat h w f i))).map pmD/\∃ I B r o,b=[fo I,fo B,fo r,fo o,some (.fz (.int (i:Int))),some (.fz (plD a R h w f))]) #[eA _,rfl,none,none,none,none,rfl] ?_ ?_
  .rintro m d t b hd ⟨hm,rfl,I,B,r,o,rfl⟩;let#[v,O,rfl]:=c6 hd;have M:=cZ O;ext;refine#[R,h,w,f,i,l,v.1,v.2.1,rfl,z,V,?_];have Z:((L.take (m + 1)).flatMap (stp l (cat h w f i))).length<=4096:=by
    have e:=congrArg R9 (congrArg (Xu (stp l (cat h w f i))) (sv (m + 1) L));rw[S2,dV] at e;lia
   rw[j0 O,dV] at Z;generalize W:lS l (cat h w f i) v.1 v.2.1=A;have cp:∀ q∈A,1<=q.2.2/\q.2.2<=4:=λq hq=>Gu (W ▸ hq);have al:A.length<=4:=W ▸ C7;have X:stp l (cat h w f i) v=A.map λq=>(q.1,q.2.1,q.2.2 * v.2.2):=by delta stp;rw[W]
   ext;refine#[λn t b=>t=((L.take m).flatMap (stp l (cat h w f i))++(A.take n).map λq=>((q.1,q.2.1,q.2.2 * v.2.2):PM)).map pmD/\n<=A.length/\∃ r o,b=[some (.fz (pD v.1 v.2.1)),some (.fz (.int v.2.2)),fo r,fo o,some (.fz (.int (i:Int))),some (.fz (plD a R h w f))],#[by simp,by lia,r,o,rfl],?_,?_]
   .rintro n d t b hd ⟨rfl,hn,r,o,rfl⟩;let#[u,S,rfl]:=c6 hd;have N:=cZ S;have u2:=cp u (ek S);ext;have B:=congrArg R9 X;rw[lM0] at B;refine#[by rw[lM0,dV,lM0,ew,ea];lia,.inl #[by lia,by lia],sl2 (by decide),?_,N,#[some _,rfl],#[some _,rfl]];rw[take_snoc S];simp -iota only[er,fq];rfl
   .rintro t b ⟨rfl,hn,r,o,rfl⟩;refine#[M,?_,some _,some _,r,o,rfl];rw[lM0,hG,j0 O,X]
  .rintro t b ⟨hm,rfl,I,B,r,o,rfl⟩;rw[show L.take (Qg pmD L).length=L by rw[lM0,hG],<- st];rw[<- st] at C;ext;refine#[by rw[lM0,ea];lia,lt,some (.int (i:Int)),?_];rw[e2];rfl
 .rintro F ⟨hj,s,rfl⟩;ext;rw[xC,show k - ((k:Int)).toNat=0 by lia];have C:=vX (i:=0) G g (eA _) hk c;refine#[_,rfl,by lia,NJ G z hk c,λL p s=>?_];rw[Cd hk c p s];exact q
def Box (c:Int)(d:D):Prop:=∃ x m k:Int,d=.lst [.int x,.int m,.int k]/\0<=x/\0<=m/\m < 2147483647/\0<=k/\k<=c
theorem Box.up{c a:Int}{d:D}(b:Box c d)(h:c<=a):Box a d:=by
 let#[x,m,k,e,l,j,i,g,f]:=b;exact#[x,m,k,e,l,j,i,g,Q4 f h]
def MC:S3:=λΓ Q=>∃ (ns:Li0) (k:Int),Γ=[some (.fz (.scr ns)),some (.fz (.int k))]/\0<=k/\∀ r,Q (.fz (.int r)) Γ
theorem wG(T:Txt K mg a):aM P w K mg base CX0 1 a.qE a.oQ ["_law_script","_law_k"] (sp3 K 2 MC):=by
 refine ok3 T.iN.F wa (hbody:=λd A b s H E f=>#[_,_,(ag (cf (aP yL (bv 1) (P3.opd (aN (kr) T.z_len (aa (bv 0) af))) (aR _)) (au (aD (aA (bv 0) (bv 1)))) br)
   (au (aD (aZ (P3.opd (bO WZ (bv 1))) WZ)))),λc Q h g=>?_])
 let#[e,k,rfl,hk,q]:=h;ext;refine pG (λh=>?_) (λh=>?_)
 .ext;exact#[_,IF hk (of_decide_eq_true h),q _]
 .ext;exact#[.inl #[by decide,by decide],q _]
def Pr:S3:=λΓ Q=>∃ (x:Int),Γ=[some (.fz (.int x))]/\∀ d,Box 0 d->Q (.fr d) Γ
theorem sU(T:Txt K mg a):aM P w K mg base CX0 1 a.nk a.lD ["_law_cell_here"] (sp3 K 1 Pr):=by
 refine ok3 T.fI.F r8 (hbody:=λd A b s H E e=>#[_,_,(au (aD (bF (ab (aN (JW rfl) T.z_max (aa WZ (Yj (cy (bv 0) (P3.opd (Lb (v:=1000000000000000000) (by decide +kernel) #[by decide,by decide,by decide]))) af))) (ab (pX (bv 0) WZ) (ab ae ah)))))),λc Q h f=>?_]);let#[x,rfl,q]:=h;ext;exact#[by decide,by rw[ea];lia,q _ #[_,_,_,rfl,by delta fmax;split <;> lia,SY _ (by decide),R6 _ (by decide),by decide,by decide]]
theorem FG{i j m:Int}(h:0 < m)(a:m < 2 ^ 64):uj (i % m) j:=.inl #[by have:=SY i (show m≠0 by lia);lia,by have:=R6 i h;lia]
def Kl:S3:=λΓ Q=>∃ (d:D) (c n:Int),Γ=[some (.ln d),some (.fz (.int n))]/\Box c d/\c<=1000000/\0 < n/\n<=1000000000/\∀ r d',0<=r->r < n->Box (c + 1) d'->Q (.fz (.int r)) [some (.ln d'),some (.fz (.int n))]
theorem bj(T:Txt K mg a):aM P w K mg base CX0 1 a.qA a.oN ["_law_stream_here","_law_many"] (sp3 K 2 Kl):=by
 refine ok3 T.av.F gF (hbody:=λr A f s H E t=>#[_,_,(ag (xx 0 (bv 0) WZ (aZ (P3.opd (aA (bv 0) WZ)) WZ))
   (ag (cf (aP yM (P3.opd (aA (bv 0) WZ)) WZ (aR _)) (ag (aI (i:=2) gF.nd rfl (cv rfl) (pX (P3.opd (aA (bv 0) WZ)) (bv 1)))
   (ag (xx 0 (bv 0) WZ (gM (P3.opd (aA (bv 0) WZ)) (bv 1)))
   (au (aD (uv 2))))) br)
   (ag (aI (i:=3) gF.nd rfl (cv rfl) (pX (P3.opd (bO (P3.opd (aZ (P3.opd (aA (bv 0) WZ)) (P3.opd (bO WZ (P3.opd (aA (bv 0) WZ)))))) WZ)) WZ))
   (ag (aI (i:=3) gF.nd rfl (cv rfl) (pX (P3.opd (bO (bv 3) (bv 3))) WZ))
   (au (aD (pX (P3.opd (gM (P3.opd (pX (P3.opd (aZ (P3.opd (bO (bv 3) (P3.opd (aZ (bv 3) WZ)))) (P3.opd (bO WZ (P3.opd (aA (bv 0) WZ)))))) WZ)) WZ)) (bv 1)))))))),λl Q h u=>?_])
 let#[_,c,n,rfl,#[x,m,k,rfl,g,j,d,hk,p],v,b,o,q]:=h;ext;refine pG (λe=>?_) (λe=>?_)
 .ext;exact#[b,#[b,by lia],q _ _ (SY _ (by lia)) (R6 _ b) #[_,_,_,rfl,Int.ediv_nonneg g (by lia),j,d,by lia,by lia]]
 .ext;exact#[.inl #[by decide,by decide],.inr #[by decide,by decide],by decide,FG (by decide) (by decide),by decide,FG (by decide) (by decide),.inl #[by decide,by decide],by decide,#[by decide,by decide],b,q _ _ (SY _ (by lia)) (R6 _ b) #[_,_,_,rfl,g,j,d,by lia,by lia]]
theorem pick{p:D->Prop}{r:Int}{k:D->Prop}{t:Tag k}(e:0<=r)(h1:r < (xs.length:Int))(a:∀ x∈xs,p x)(q:∀ v,p v->k v):m1 (atI xs r) k t:=by
 let#[d,c,b]:=IH e h1;exact cA.mpr #[d,c,q d (a d b)]
theorem GI{ls:List Lt}{i:Int}{l:Lt}{k:Lt->Prop}{t:Tag k}(z:(wy ls).length<=sizeLine)(h:atI ls i=some l)(q:k l):Ka ls i k t:=#[z,l,h,q]
theorem z1:1<=sizeLine:=by rw[ea];decide
theorem z2:2<=sizeLine:=by rw[ea];decide
theorem z3:3<=sizeLine:=by rw[ea];decide
theorem z0:0 < sizeLine:=by rw[ea];decide
theorem z4:4<=sizeLine:=by rw[ea];decide
theorem z6:6<=sizeLine:=by rw[ea];decide
theorem size_of{x y:Int}(h1:0<=x)(c:x < 64)(b:0<=y)(a:y < fmin 64 (512 / (1 + x))):cP (1 + x) (1 + y):=by
 have e:fmin 64 (512 / (1 + x))<=64/\fmin 64 (512 / (1 + x))<=512 / (1 + x):=by delta fmin;split <;> lia
 have f:(1 + x) * (1 + y)<=(1 + x) * (512 / (1 + x)):=Int.mul_le_mul_of_nonneg_left (by lia) (by lia);have d:(1 + x) * (512 / (1 + x))<=512:=Int.mul_ediv_self_le (by lia);exact#[by lia,by lia,by lia,by lia,by lia]
theorem NH{x y:Int}(h1:0<=x)(c:x < 9)(b:0<=y)(a:y < 9):cP (1 + x) (1 + y):=by
 have d:(1 + x) * (1 + y)<=9 * 9:=Tv (by lia) (by lia) (by lia) (by lia);exact#[by lia,by lia,by lia,by lia,by lia]
theorem nine{r:Int}{v:D}(h:v∈[D.tup [.int 1,.int 2],.tup [.int 2,.int 2],.tup [.int 3,.int 3],.tup [.int 2,.int 1],.tup [.int 64,.int 8],.tup [.int 8,.int 64],.tup [.int 1,.int 64],.tup [.int 64,.int 1],.tup [.int 22,.int 23]]):∃ h w,v=pD h w/\cP h w:=by
 simp -iota only[cm,ey,or_false] at h;rcases h with rfl | rfl | rfl | rfl | rfl | rfl | rfl | rfl | rfl <;> exact#[_,_,rfl,by decide,by decide,by decide,by decide,by decide]
def GX:S3:=λΓ Q=>∃ (d:D),Γ=[some (.ln d),some (.fz (.bl true))]/\Box 510 d/\∀ h w d',cP h w->Box 520 d'->Q (.fz (pD h w)) [some (.ln d'),some (.fz (.bl true))]
theorem wD(T:Txt K mg a):aM P w K mg base CX0 2 a.qB a.oO ["_law_stream_here","_law_far"] (sp3 K 2 GX):=by
 refine ok3 T.iL.F gG (hbody:=λz A j s H E b=>#[_,_,(ag (aI (i:=2) gG.nd rfl (cv rfl) (ar (bj T) b.dn T.av.m T.av.F.kp T.av.b (aa (bv 0) (aa WZ af))))
   (ag (cf (aP (kb b) (bv 2) WZ (aR _)) (ag (aI (i:=3) gG.nd rfl (cv rfl) (bF (ab (aF (ab ae (ab ae ah))) (ab (aF (ab ae (ab ae ah))) (ab (aF (ab ae (ab ae ah))) (ab (aF (ab ae (ab ae ah))) (ab (aF (ab ae (ab ae ah))) (ab (aF (ab ae (ab ae ah))) (ab (aF (ab ae (ab ae ah))) (ab (aF (ab ae (ab ae ah))) (ab (aF (ab ae (ab ae ah))) ah)))))))))))
   (au (aD (aA (bv 3) (P3.opd (ar (bj T) b.dn T.av.m T.av.F.kp T.av.b (aa (bv 0) (Yj (aA (P3.opd (bF (ab ae (ab ae ah)))) (P3.opd (bQ ku T.z_int (aa (bv 1) af)))) af)))))))) br)
   (ag (cf (P3W.pt (wu (aP (kb b) (bv 2) WZ (aR _)) (sL (bX (p3v 1))))) (ag (aI (i:=4) gG.nd rfl (cv rfl) (aZ WZ (P3.opd (ar (bj T) b.dn T.av.m T.av.F.kp T.av.b (aa (bv 0) (aa WZ af))))))
   (au (aD (aF (ab (p3v 4) (ab (aZ WZ (P3.opd (ar (bj T) b.dn T.av.m T.av.F.kp T.av.b (aa (bv 0) (Yj (aN (JV rfl) T.z_min (aa WZ (Yj (gM WZ (bv 4)) af))) af))))) ah)))))) br)
   (au (aD (aF (ab (aZ WZ (P3.opd (ar (bj T) b.dn T.av.m T.av.F.kp T.av.b (aa (bv 0) (aa WZ af))))) (ab (aZ WZ (P3.opd (ar (bj T) b.dn T.av.m T.av.F.kp T.av.b (aa (bv 0) (aa WZ af))))) ah)))))))),λt Q h F=>?_])
 let#[d,rfl,x,q]:=h;ext;refine#[_,_,10,rfl,x,by decide,by decide,by decide,λC G D B n=>?_];ext;refine pG (λh=>?_) (λh=>?_)
 .ext;refine#[z2,z2,z2,z2,z2,z2,z2,z2,z2,sl2 (by decide),z2,_,_,9,rfl,n,by decide,by decide,by decide,λg o e c b2=>?_];ext;refine pick (p:=λv=>∃ h w,v=pD h w/\cP h w) e c (λv l=>nine (r:=0) l) (λv l=>?_);let#[h,w,rfl,u]:=l;ext;exact q _ _ _ u (b2.up (by decide))
 .ext;refine Px (λh=>?_) (λh=>?_)
  .ext;refine#[_,_,64,rfl,n,by decide,by decide,by decide,λg o e c b2=>?_];ext;have p:1<=512 / (1 + g):=Int.le_ediv_of_mul_le (by lia) (by lia);refine#[#[by lia,by lia],_,_,_,rfl,b2,by decide,by delta fmin;split <;> lia,by delta fmin;split <;> lia,λr3 y k f m=>?_];ext;exact#[z2,q _ _ _ (size_of e c k f) (m.up (by decide))]
  .ext;refine#[_,_,9,rfl,n,by decide,by decide,by decide,λg o e c b2=>?_];ext;refine#[_,_,9,rfl,b2,by decide,by decide,by decide,λr3 y k f m=>?_];ext;exact#[z2,q _ _ _ (NH e c k f) (m.up (by decide))]
theorem su{n:Nat}{i:Int}{d:D}(h:(rng i n)[k]?=some d):k < n/\d=.int (i + k):=by
 delta rng at h;exact wK h
theorem B2:jx "r"++jx "p"++jx "b"=wy [.r,.p,.b]:=by decide +kernel
theorem S_r:jx "r"++DJ++DJ=wy [.r]:=by decide +kernel
theorem S_p:DJ++jx "p"++DJ=wy [.p]:=by decide +kernel
theorem S_0:DJ++DJ++DJ=wy []:=by decide +kernel
theorem B1:(wy [.r,.p,.b] == jx "")=false:=by decide +kernel
theorem V_r:(wy [.r] == jx "")=false:=by decide +kernel
theorem V_p:(wy [.p] == jx "")=false:=by decide +kernel
theorem V_0:(wy [] == jx "")=true:=by decide +kernel
def Nk:S3:=λΓ Q=>∃ (d:D) (h w:Int),Γ=[some (.ln d),some (.fz (.int h)),some (.fz (.int w)),some (.fz (.int 10))]/\cP h w/\Box 520 d/\∀ ls d',ls.length<=10->Good h w ls->Box 540 d'->Q (.fz (.str (wy ls))) [some (.ln d'),some (.fz (.int h)),some (.fz (.int w)),some (.fz (.int 10))]
theorem Eb{ls:List Lt}{r:Int}{k:Lt->Prop}{t:Tag k}(a:0<=r)(h1:r < (ls.length:Int))(z:ls.length<=sizeLine)(q:∀ l∈ls,k l):Ka ls r k t:=by
 refine GI (l:=ls[r.toNat]) (by rw[bJ];exact z) (gi a (gE0 (by lia))) (q _ (RH _))
theorem vP(ls:List Lt)(l:Lt):wy ls++l.s=wy (ls++[l]):=by
 show (#[(wy ls).cps++l.s.cps]:Str)=_;delta wy
 congr 1
 rw[er];cases l <;> simp -iota [Lt.s,sgn]
theorem vj:∀ {ls:List Lt} {h w:Int} {l:Lt},Good h w ls->Can l (cat h w ls ls.length).1 (cat h w ls ls.length).2->Good h w (ls++[l])/\cat h w (ls++[l]) (ls++[l]).length=(nh l (cat h w ls ls.length).1,nw l (cat h w ls ls.length).2)
 | [],h,w,l,_,c=>#[#[c,trivial],rfl]
 | m::ls,h,w,l,g,c=>by
  let#[a,i2]:=vj (ls:=ls) (h:=nh m h) (w:=nw m w) (l:=l) g.2 c;exact#[#[g.1,a],i2]
theorem xW(T:Txt K mg a):aM P w K mg base CX0 2 a.t9 a.qu ["_law_stream_here","_law_height","_law_width","_law_most"] (sp3 K 4 Nk):=by
 refine ok3 T.jK.F cC (hbody:=λO A F s H E t=>#[_,_,(ag (aI (i:=4) cC.nd rfl (cv rfl) bE)
   (ag (dY ic rfl (b_ T.z_range (ab (ar (bj T) t.dn T.av.m T.av.F.kp T.av.b (aa (bv 0) (Yj (aZ (bv 3) WZ) af))) ah)) (aX (i:=5) cC.nd rfl (cv rfl))
   (ag (aI (i:=6) cC.nd rfl (cv rfl) (aZ (P3.opd (aZ (P3.opd (wz (P3.opd bE) (P3.opd (bQ ku T.z_int (Yj (cW yM (bv 2) WZ (aR _)) af))))) (P3.opd (wz (P3.opd bE) (P3.opd (bQ ku T.z_int (Yj (cW yM (bv 1) WZ (aR _)) af))))))) (P3.opd (wz (P3.opd bE) (P3.opd (bQ ku T.z_int (Yj (sP (cW yM (bv 2) WZ (aR _)) (sN (cW yM (bv 1) WZ (aR _)))) af)))))))
   (au (cf (aP (iA t) (bv 6) (P3.opd bE) (aR _)) (ag (aI (i:=7) cC.nd rfl (cv rfl) (aA (bv 6) (P3.opd (ar (bj T) t.dn T.av.m T.av.F.kp T.av.b (aa (bv 0) (Yj (aN (kr) T.z_len (aa (bv 6) af)) af))))))
   (ag (aI (i:=4) cC.nd rfl (cv rfl) (aZ (bv 4) (bv 7)))
   (ag (aI (i:=2) cC.nd rfl (cv rfl) (aA (P3.opd (bF (ab (p3v 2) (ab (gM (P3.opd (aZ (bv 2) WZ)) WZ) ah)))) (P3.opd (bQ ku T.z_int (Yj (cW (iA t) (bv 7) (P3.opd bE) (aR _)) af)))))
   (au (aI (i:=1) cC.nd rfl (cv rfl) (aA (P3.opd (bF (ab (p3v 1) (ab (gM (P3.opd (aZ (bv 1) WZ)) WZ) ah)))) (P3.opd (bQ ku T.z_int (Yj (cW (iA t) (bv 7) (P3.opd bE) (aR _)) af))))))))) br))))
   (au (aD (uv 4))))),λL Q h u=>?_])
 let#[d,h,w,rfl,G,j,q]:=h;ext;refine#[_,_,11,rfl,j,by decide,by decide,by decide,λU N V S R=>?_];ext;refine#[by lia,by lia,cj (λk B=>∃ b d D C z,b.length<=k/\Good h w b/\Box (521 + k) d/\B=[some (.ln d),some (.fz (.int (cat h w b b.length).1)),some (.fz (.int (cat h w b b.length).2)),some (.fz (.int 10)),some (.fz (.str (wy b))),fo D,fo C,fo z]) #[[],N,none,none,none,cb _,trivial,R.up (by decide),rfl] ?_ ?_]
 .rintro k d B hd ⟨b,d,D,C,z,hk,g,j,rfl⟩;let#[lk,rfl]:=su hd;let#[J,p2,_,_]:=dQ (k:=b.length) g G.h1 G.w1 (cb _);have f:∀ l,Can l (cat h w b b.length).1 (cat h w b b.length).2->Good h w (b++[l])/\cat h w (b++[l]) (b++[l]).length=(nh l (cat h w b b.length).1,nw l (cat h w b b.length).2):=λl c=>vj g c;generalize M:cat h w b b.length=c at J p2 f ⊢;let#[H,W]:=c;dsimp only at J p2 f ⊢;cases p:Io W 1
  .cases o:Io H 1
   .simp -dsimp only[tgN,tW,tX,q1b,q2b,q3b,q4b,q5b,↓yj,↓yi,↓rP,↓yn,↓h_c,↓pC,↓oG,↓ym,Gat,R7,Q3,Qh,Qk,Rr,exists_eq',Bo.at,oC,RV.d,qa,i2',↓tR,ats,p,oB,wQ,if_pos,qo,Ux,or_true,o,ky,if_false,or_false,q9,vI,↓yk,↓Gk,↓Gm,↓yh,RV.sl,S_0,S_r,S_p,B2,yE,TV,yB,V_0,V_r,V_p,B1,TY,exists_eq_left',Tw,RU,↓Gi,↓Gj,↓tS,↓pj,wN,eh,ud,Q2,dM,jl,ey,not_false_eq_true,Qe,and_true,et,eb8,eb9,EO,qh,gB,true_and];exact#[by rw[ea];decide +kernel,by rw[ea];decide +kernel,by rw[ea];decide +kernel,by rw[ea];decide +kernel,by rw[ea];decide +kernel,b,d,some _,some _,z,by lia,g,j.up (by lia),by rw[M];rfl]
   .simp -dsimp only[tgN,tW,tX,q1b,q2b,q3b,q4b,q5b,↓yj,↓yi,↓rP,↓yn,↓h_c,↓pC,↓oG,↓ym,Gat,R7,Q3,Qh,Qk,Rr,exists_eq',Bo.at,oC,RV.d,qa,i2',↓tR,ats,p,oB,wQ,if_pos,qo,Ux,or_true,o,ky,if_false,or_false,q9,vI,↓yk,↓Gk,↓Gm,↓yh,RV.sl,S_0,S_r,S_p,B2,yE,TV,yB,V_0,V_r,V_p,B1,TY,exists_eq_left',Tw,RU,↓Gi,↓Gj,↓tS,↓pj,wN,eh,ud,Q2,dM,jl,ey,not_false_eq_true,Qe,and_true,et,eb8,eb9,EO,qh,gB,true_and];refine#[by rw[ea];decide +kernel,by rw[ea];decide +kernel,by rw[ea];decide +kernel,by rw[ea];decide +kernel,by rw[ea];decide +kernel,by rw[bJ,ea];decide,_,_,_,rfl,j,by lia,by rw[bJ];decide,by rw[bJ];decide,λI x r m b2=>?_];rw[bJ] at m;ext;refine Eb r m (by rw[ea];decide) (λl u=>?_);let#[v,y]:=f l (by have e:=of_decide_eq_true o;rw[ih.mp u];exact#[λn=>absurd rfl n,λ_=>by lia]);ext;exact#[by rw[bJ,show l.s.length=1 by cases l <;> decide +kernel,ea];lia,#[by decide,by decide],z2,#[by decide,by decide],z2,b++[l],x,some _,some _,some (.str l.s),by rw[dV];simp -iota only[eh,ud];lia,v,b2.up (by lia),by rw[y,vP];cases l <;> rfl]
  .cases o:Io H 1
   .simp -dsimp only[tgN,tW,tX,q1b,q2b,q3b,q4b,q5b,↓yj,↓yi,↓rP,↓yn,↓h_c,↓pC,↓oG,↓ym,Gat,R7,Q3,Qh,Qk,Rr,exists_eq',Bo.at,oC,RV.d,qa,i2',↓tR,ats,p,oB,wQ,if_pos,qo,Ux,or_true,o,ky,if_false,or_false,q9,vI,↓yk,↓Gk,↓Gm,↓yh,RV.sl,S_0,S_r,S_p,B2,yE,TV,yB,V_0,V_r,V_p,B1,TY,exists_eq_left',Tw,RU,↓Gi,↓Gj,↓tS,↓pj,wN,eh,ud,Q2,dM,jl,ey,not_false_eq_true,Qe,and_true,et,eb8,eb9,EO,qh,gB,true_and];refine#[by rw[ea];decide +kernel,by rw[ea];decide +kernel,by rw[ea];decide +kernel,by rw[ea];decide +kernel,by rw[ea];decide +kernel,by rw[bJ,ea];decide,_,_,_,rfl,j,by lia,by rw[bJ];decide,by rw[bJ];decide,λI x r m b2=>?_];rw[bJ] at m;ext;refine Eb r m (by rw[ea];decide) (λl u=>?_);let#[v,y]:=f l (by have e:=of_decide_eq_true p;rw[ih.mp u];exact#[λ_=>by lia,λn=>absurd rfl n]);ext;exact#[by rw[bJ,show l.s.length=1 by cases l <;> decide +kernel,ea];lia,#[by decide,by decide],z2,#[by decide,by decide],z2,b++[l],x,some _,some _,some (.str l.s),by rw[dV];simp -iota only[eh,ud];lia,v,b2.up (by lia),by rw[y,vP];cases l <;> rfl]
   .simp -dsimp only[tgN,tW,tX,q1b,q2b,q3b,q4b,q5b,↓yj,↓yi,↓rP,↓yn,↓h_c,↓pC,↓oG,↓ym,Gat,R7,Q3,Qh,Qk,Rr,exists_eq',Bo.at,oC,RV.d,qa,i2',↓tR,ats,p,oB,wQ,if_pos,qo,Ux,or_true,o,ky,if_false,or_false,q9,vI,↓yk,↓Gk,↓Gm,↓yh,RV.sl,S_0,S_r,S_p,B2,yE,TV,yB,V_0,V_r,V_p,B1,TY,exists_eq_left',Tw,RU,↓Gi,↓Gj,↓tS,↓pj,wN,eh,ud,Q2,dM,jl,ey,not_false_eq_true,Qe,and_true,et,eb8,eb9,EO,qh,gB,true_and];refine#[by rw[ea];decide +kernel,by rw[ea];decide +kernel,by rw[ea];decide +kernel,by rw[ea];decide +kernel,by rw[ea];decide +kernel,by rw[bJ,ea];decide,_,_,_,rfl,j,by lia,by rw[bJ];decide,by rw[bJ];decide,λI x r m b2=>?_];rw[bJ] at m;ext;refine Eb r m (by rw[ea];decide) (λl u=>?_);let#[v,y]:=f l (by have e:=of_decide_eq_true p;have X:=of_decide_eq_true o;exact#[λ_=>by lia,λ_=>by lia]);ext;exact#[by rw[bJ,show l.s.length=1 by cases l <;> decide +kernel,ea];lia,#[by decide,by decide],z2,#[by decide,by decide],z2,b++[l],x,some _,some _,some (.str l.s),by rw[dV];simp -iota only[eh,ud];lia,v,b2.up (by lia),by rw[y,vP];cases l <;> rfl]
 .rintro B ⟨b,d,D,C,z,hk,g,j,rfl⟩;rw[dP] at hk j;ext;exact q _ _ (by lia) g (j.up (by lia))
noncomputable def nZ (R:Rl)(h w:Int)(ls:List Lt):D:=.tup [.int h,.int w,.str R.word,.str (wy ls)]
def Hs:S3:=λΓ Q=>∃ (d:D),Γ=[some (.ln d),some (.fz (.bl true))]/\Box 500 d/\∀ R h w ls d',cP h w->Good h w ls->ls.length<=10->Box 560 d'->Q (.fz (nZ R h w ls)) [some (.ln d'),some (.fz (.bl true))]
theorem four{v:D}(h:v∈[D.str (jx "sum"),.str (jx "half"),.str (jx "guess"),.str (jx "lean")]):∃ R:Rl,v=.str R.word:=by
 simp -iota only[cm,ey,or_false] at h;rcases h with rfl | rfl | rfl | rfl
 .exact#[.sum,rfl]
 .exact#[.half,rfl]
 .exact#[.guess,rfl]
 .exact#[.lean,rfl]
theorem wF(T:Txt K mg a):aM P w K mg base CX0 3 a.qC a.oP ["_law_stream_here","_law_far"] (sp3 K 2 Hs):=by
 refine ok3 T.iM.F gH (hbody:=λr A b s H E e=>#[_,_,(ag (aI (i:=2) gH.nd rfl (cv rfl) (aA (P3.opd (bF (ab bE (ab bE (ab bE (ab bE ah)))))) (P3.opd (ar (bj T) e.dn T.av.m T.av.F.kp T.av.b (aa (bv 0) (aa WZ af))))))
   (ag (bW (is:=[3,4]) (ar (wD T) e.dn T.iL.m T.iL.F.kp T.iL.b (aa (bv 0) (Yj (p3v 1) af))) (aj (aq (i:=3) gH.nd rfl (cv rfl)) (aj (aq (i:=4) gH.nd rfl (cv rfl)) aO)) rfl)
   (au (aD (aF (ab (p3v 3) (ab (p3v 4) (ab (p3v 2) (ab (ar (xW T) e.dn T.jK.m T.jK.F.kp T.jK.b (aa (bv 0) (Yj (p3v 3) (Yj (p3v 4) (aa WZ af))))) ah))))))))),λk Q h y=>?_])
 let#[d,rfl,o,q]:=h;ext;refine#[sl2 (by decide),_,_,4,rfl,o,by decide,by decide,by decide,λx C n l u=>?_];ext;refine pick (p:=λv=>∃ R:Rl,v=.str R.word) n l (λv c=>four c) (λv c=>?_);let#[R,rfl]:=c;ext;refine#[_,rfl,u.up (by decide),λh w B j b2=>?_];ext;refine#[_,h,w,rfl,j,b2,λm z f g t=>?_];ext;exact#[sl2 (by decide),q R h w m _ j g f (t.up (by decide))]
theorem Pf{a b c d:D}:cut [a,b,c,d] none (some 2)=[a,b]:=rfl
def zW:S3:=λΓ Q=>∃ (R:Rl) (h w:Int) (ls:List Lt),Γ=[some (.fz (nZ R h w ls))]/\ls.length<=10/\Q (.fr (.lst ((gP h w ls).map cD))) Γ
theorem cR(T:Txt K mg a):aM P w K mg base CX0 1 a.lN a.kj ["_law_told"] (sp3 K 1 zW):=by
 refine ok3 T.aK.F bS (hbody:=λo A e s H E g=>#[_,_,(ag (bW (is:=[1,2]) (uY (by rfl) (bv 0) xS (xR WZ)) (aj (aq (i:=1) bS.nd rfl (cv rfl)) (aj (aq (i:=2) bS.nd rfl (cv rfl)) aO)) rfl)
   (ag (aI (i:=3) bS.nd rfl (cv rfl) (bF (ab (aF (ab (p3v 1) (ab (p3v 2) ah))) ah)))
   (ag (dY ic rfl (EX (aA (bv 0) WZ)) (aX (i:=4) bS.nd rfl (cv rfl))
   (ag (aI (i:=2) bS.nd rfl (cv rfl) (aA (P3.opd (bF (ab (p3v 2) (ab (gM (P3.opd (aZ (bv 2) WZ)) WZ) ah)))) (P3.opd (bQ ku T.z_int (Yj (cW (iA g) (bv 4) (P3.opd bE) (aR _)) af)))))
   (ag (aI (i:=1) bS.nd rfl (cv rfl) (aA (P3.opd (bF (ab (p3v 1) (ab (gM (P3.opd (aZ (bv 1) WZ)) WZ) ah)))) (P3.opd (bQ ku T.z_int (Yj (cW (iA g) (bv 4) (P3.opd bE) (aR _)) af)))))
   (au (c_ (eu 3 (bv 3) (aF (ab (p3v 1) (ab (p3v 2) ah)))))))))
   (au (aD (uv 3)))))),λm Q h f=>?_])
 let#[R,h,w,b,rfl,n,q]:=h;delta nZ at q ⊢;ext;rw[Pf];ext;refine#[by decide,sl2 (by decide),sl2 (by decide),yZ b,cj (λk c=>k<=b.length/\∃ s,c=[some (.fz (.tup [.int h,.int w,.str R.word,.str (wy b)])),some (.fz (.int (cat h w b k).1)),some (.fz (.int (cat h w b k).2)),some (.ow (.lst (((gP h w b).take (k + 1)).map cD))),fo s]) #[eA _,none,by rw[cB];cases b <;> rfl] ?_ ?_]
 .rintro k d c hd ⟨hk,s,rfl⟩;rw[kN] at hd;let#[l,f,rfl]:=wL hd;have lt:=cZ f;have st:=gb (h:=h) (w:=w) f;have p:((gP h w b).take (k + 1)).length<=11:=by rw[ew,dN];lia
  have j:=mn (h:=h) (w:=w) lt;rw[st] at j;ext;refine#[#[by decide,by decide],sl2 (by decide),#[by decide,by decide],sl2 (by decide),sl2 (by decide),small (by rw[lM0];lia),lt,some (.str l.s),?_];rw[<- j,st];cases l <;> rfl
 .rintro c ⟨hk,s,rfl⟩;ext;rw[kN,lM0,rr (by rw[dN];lia)];exact q
noncomputable abbrev il (ns:Li0):D:=.lst (ns.map .int)
noncomputable def lax:Li0->Int->List (Int×Int)
 | [],p=>[(p,1)]
 | n::ns,p=>(lax ns p).flatMap λd=>(dD d.1 n).map λc=>(c.1,c.2 * d.2)
def Ia:S3:=λΓ Q=>∃ (ns:Li0) (p:Int),Γ=[some (.fz (il ns)),some (.fz (.int p))]/\(∀ i,i<=ns.length->(lax (ns.drop i) p).length<=64)/\Q (.fz (.lst ((lax ns p).map piD))) Γ
theorem oz(T:Txt K mg a):aM P w K mg base CX0 1 a.qF a.oR ["_law_sizes_here","_law_at"] (sp3 K 2 Ia):=by
 refine ok3 T.dj.F cI (hbody:=λR A z s H E S=>#[_,_,(ag (aI (i:=2) cI.nd rfl (cv rfl) (mR (bF (ab (aF (ab (p3v 1) (ab ae ah))) ah))))
   (ag (dY ic rfl (Ig (by rfl) (by rfl) T.z_reversed (ab (p3v 0) ah)) (aX (i:=3) cI.nd rfl (cv rfl))
   (ag (aI (i:=4) cI.nd rfl (cv rfl) (bF ah))
   (ag (dY ic rfl (bR (p3v 2)) (fA (is:=[5,6]) (aj (aq (i:=5) cI.nd rfl (cv rfl)) (aj (aq (i:=6) cI.nd rfl (cv rfl)) aO)) rfl)
   (au (cf (aP yL (P3.opd (aZ (P3.opd (bO WZ (bv 5))) WZ)) (bv 3) (aR _)) (au (c_ (pY 4 (by rfl) (bv 4) (P3.opd (bF (ab (aF (ab (bO WZ (bv 5)) (ab (p3v 6) ah))) (ab (aF (ab (aZ (P3.opd (bO WZ (bv 5))) WZ) (ab (p3v 6) ah))) ah))))))) (au (c_ (eu 4 (bv 4) (aF (ab (bO WZ (bv 5)) (ab (bO WZ (bv 6)) ah)))))))))
   (au (aI (i:=2) cI.nd rfl (cv rfl) (mR (uv 4)))))))
   (au (aD (uv 2))))),λI Q h U=>?_])
 let#[b,p,rfl,N,q]:=h;ext;refine#[sl2 (by decide),sl2 (by decide),cj (λj l=>j<=b.length/\∃ y x k g,l=[some (.fz (il b)),some (.fz (.int p)),some (.fz (.lst ((lax (b.drop (b.length - j)) p).map piD))),fo y,fo x,fo k,fo g]) #[eA _,none,none,none,none,?_] ?_ ?_]
 .rw[Xt,Wq];rfl
 .rintro j d l hd ⟨M,y,x,k,g,rfl⟩;have B:j < b.length:=by have:=cZ hd;rw[P6,lM0] at this;exact this
  obtain⟨i,G⟩:∃ i,b.length - j=i + 1:=#[b.length - j - 1,by exact xl (Yi V1) (Yv (V3 (YM B V1)))];have C:i < b.length:=by exact YS G V2
  have hd:d=.int b[i]:=by
   rw[UL (by rw[lM0];exact B),lM0,show b.length - 1 - j=i by lia,ef,gE0 C] at hd;exact(fS hd).symm
  subst hd;have O:b.length - (j + 1)=i:=by lia
  have st:lax (b.drop i) p=(lax (b.drop (i + 1)) p).flatMap λd=>(dD d.1 b[i]).map λc=>(c.1,c.2 * d.2):=by
   rw[vr C];rfl
  have r:=N i (by exact Yc C);rw[st] at r;rw[G];generalize lax (b.drop (i + 1)) p=L at st r ⊢;generalize b[i]=n at st r ⊢;ext;refine#[eA _,cj (λm l=>m<=L.length/\∃ k g,l=[some (.fz (il b)),some (.fz (.int p)),some (.fz (.lst (L.map piD))),some (.fz (.int n)),some (.ow (.lst (((L.take m).flatMap λd=>(dD d.1 n).map λc=>(c.1,c.2 * d.2)).map piD))),fo k,fo g]) #[eA _,k,g,rfl] ?_ ?_]
  .rintro m d l hd ⟨J,k,g,rfl⟩;let#[v,D,rfl]:=c6 hd;have o:=cZ D;have u:((L.take (m + 1)).flatMap λd=>(dD d.1 n).map λc=>(c.1,c.2 * d.2)).length<=64:=by
    have e:=congrArg R9 (congrArg (Xu λd:Int×Int=>(dD d.1 n).map λc=>(c.1,c.2 * d.2)) (sv (m + 1) L));rw[S2,dV] at e;exact WF 0x17f7fd57279f76b4d7b2b r e
   rw[j0 D,dV,lM0] at u;have t:=j0 (f:=λd:Int×Int=>(dD d.1 n).map λc=>(c.1,c.2 * d.2)) D;ext;refine#[cm2,pG (λe=>?_) (λe=>?_)]
   .have h:2 * v.1 + 1 < n:=by simpa [wX] using e
    have F:dD v.1 n=[(2 * v.1,1),(2 * v.1 + 1,1)]:=by delta dD;rw[if_pos h]
    rw[F] at t u;ext;refine#[cm2,sl2 (by decide),cm2,sl2 (by decide),sl2 (by decide),by rw[lM0,ea];lia,o,some (.int v.1),some (.int v.2),?_];rw[t,er];simp -iota only[eN,Uu,UY];rfl
   .have h:¬ 2 * v.1 + 1 < n:=by simpa [wX] using e
    have F:dD v.1 n=[(2 * v.1,2)]:=by delta dD;rw[if_neg h]
    rw[F] at t u;ext;refine#[cm2,cm2,sl2 (by decide),by rw[lM0,ea];lia,o,some (.int v.1),some (.int v.2),?_];rw[t,er];rfl
  .rintro l ⟨J,k,g,rfl⟩;ext;rw[show L.take (Qg piD L).length=L by rw[lM0,hG],<- st];refine#[B,some (.int n),none,k,g,?_];rw[O];rfl
 .rintro l ⟨M,y,x,k,g,rfl⟩;ext;rw[P6,lM0,S5];exact q
noncomputable def hs (h w:Int)(ls:List Lt)(k:Nat):Li0:=((hV k).filter λi=>ls[i]? != some .r).map λi=>(cat h w ls i).1
noncomputable def ws (h w:Int)(ls:List Lt)(k:Nat):Li0:=((hV k).filter λi=>ls[i]? != some .p).map λi=>(cat h w ls i).2
theorem O9{p:Nat->Bool}{f:Nat->Int}:((hV (k + 1)).filter p).map f=((hV k).filter p).map f++(if p k=true then [f k] else []):=by
 rw[Re,Vx,er]
 congr 1
 by_cases h:p k=true <;> simp -iota [h]
theorem p8{p:Nat->Bool}{f:Nat->Int}:(((hV k).filter p).map f).length<=k:=by
 rw[lM0];exact eH (Sz _ _) (by simp)
def EM:S3:=λΓ Q=>∃ (R:Rl) (h w:Int) (ls:List Lt) (k:Nat),Γ=[some (.fz (nZ R h w ls)),some (.fz (.int (k:Int)))]/\ls.length<=10/\k<=ls.length/\Q (.fz (.tup [il (hs h w ls k),il (ws h w ls k)])) Γ
theorem mT(T:Txt K mg a):aM P w K mg base CX0 2 a.oZ a.m5 ["_law_told","_law_step"] (sp3 K 2 EM):=by
 refine ok3 T.cG.F fM (hbody:=λy A m s H E n=>#[_,_,(ag (aI (i:=2) fM.nd rfl (Qo rfl) (mR (ar (cR T) n.dn T.aK.m T.aK.F.kp T.aK.b (Yj (p3v 0) af))))
   (ag (oh (i:=3) fM.nd rfl rfl rfl (b_ T.z_range (ab (p3v 1) ah)) jF (λ_ _ _ _ _=>(aX (i:=0) jF.nd rfl (cv rfl))) (λ_ _ _ _ _=>(aP (iA n) (P3.opd (aA (P3.opd (aA (bv 2) WZ)) (bv 0))) (P3.opd bE) (aR _))) (λ_ _ _ _ _=>(aA (P3.opd (aA (bv 1) (bv 0))) WZ)))
   (ag (oh (i:=4) fM.nd rfl rfl rfl (b_ T.z_range (ab (p3v 1) ah)) jG (λ_ _ _ _ _=>(aX (i:=0) jG.nd rfl (cv rfl))) (λ_ _ _ _ _=>(aP (iA n) (P3.opd (aA (P3.opd (aA (bv 2) WZ)) (bv 0))) (P3.opd bE) (aR _))) (λ_ _ _ _ _=>(aA (P3.opd (aA (bv 1) (bv 0))) WZ)))
   (au (aD (aF (ab (p3v 3) (ab (p3v 4) ah)))))))),λv Q h f=>?_])
 let#[R,h,w,c,k,rfl,o,hk,q]:=h;delta nZ at q ⊢;ext;refine#[R,h,w,c,rfl,o,?_];ext;refine#[by lia,by lia,fB (λj e b=>j<=k/\e=(hs h w c j).map .int/\∃ s,b=[fo s,some (.fz (.lst ((gP h w c).map cD))),some (.fz (.tup [.int h,.int w,.str R.word,.str (wy c)]))]) #[eA _,rfl,none,rfl] ?_ ?_]
 .rintro j d e b hd ⟨t,rfl,s,rfl⟩;let#[lt,rfl]:=eQ hd;have g:j < k:=by lia
  obtain⟨l,f⟩:∃ l,c[j]?=some l:=#[_,gE0 (by lia)];have fs:hs h w c (j + 1)=_:=O9;have x:(hs h w c j).length<=j:=p8;rw[f] at fs;ext;refine#[sl2 (by rw[bJ];lia),l,atL f,?_];cases l
  case' r=>
   ext;exact#[g,by rw[fs,if_neg (by decide),jn];rfl,#[some _,rfl]]
  all_goals
   ext;refine#[small (by rw[lM0];lia),cA.mpr #[_,fV (by lia),?_]];delta cD;ext;refine#[g,?_,some (.int (j:Int)),rfl];rw[fs,if_pos (by decide),er];rfl
 .rintro e b ⟨t,rfl,s,rfl⟩;have u:(rng 0 ((k:Int)).toNat).length=k:=by rw[dP];lia
  rw[u];have B:(hs h w c k).length<=k:=p8;ext;refine#[small (by rw[lM0];lia),by lia,by lia,fB (λj e b=>j<=k/\e=(ws h w c j).map .int/\∃ s,b=[fo s,some (.fz (.lst ((gP h w c).map cD))),some (.fz (.tup [.int h,.int w,.str R.word,.str (wy c)]))]) #[eA _,rfl,none,rfl] ?_ ?_]
  .rintro j d e b hd ⟨t,rfl,s,rfl⟩;let#[lt,rfl]:=eQ hd;have g:j < k:=by lia
   obtain⟨l,f⟩:∃ l,c[j]?=some l:=#[_,gE0 (by lia)];have fs:ws h w c (j + 1)=_:=O9;have x:(ws h w c j).length<=j:=p8;rw[f] at fs;ext;refine#[sl2 (by rw[bJ];lia),l,atL f,?_];cases l
   case' p=>
    ext;exact#[g,by rw[fs,if_neg (by decide),jn];rfl,#[some _,rfl]]
   all_goals
    ext;refine#[small (by rw[lM0];lia),cA.mpr #[_,fV (by lia),?_]];delta cD;ext;refine#[g,?_,some (.int (j:Int)),rfl];rw[fs,if_pos (by decide),er];rfl
  .rintro e b ⟨t,rfl,s,rfl⟩;rw[u];have z:(ws h w c k).length<=k:=p8;ext;exact#[small (by rw[lM0];lia),sl2 (by decide),q]
theorem wO:∀ (ns:Li0) (p:Int) (i:Nat),(lax (ns.drop i) p).length<=(lax ns p).length
 | [],p,i=>by rw[List.drop_nil];exact cb _
 | n::ns,p,0=>cb _
 | n::ns,p,i + 1=>by
  have b:=wO ns p i;have a:∀ L:List (Int×Int),L.length<=(L.flatMap λd=>(dD d.1 n).map λc=>(c.1,c.2 * d.2)).length:=by
   intro L
   induction L with
   | nil=>simp
   | cons d L e=>
    rw[OI,dV,lM0,eh];have:1<=(dD d.1 n).length:=by delta dD;split <;> simp
    lia
  exact eH b (a _)
theorem JQ{L:List (Int×Int)}{f:Int->List (Int×Int)}(a:∀ p,f p=[(p,1)]):(L.flatMap λd=>(f d.1).map λc=>(c.1,c.2 * d.2))=L:=by simp_all
theorem Im{p:Nat->Bool}{f:Nat->Int}:((hV (k + 1)).filter p).map f=(if p 0=true then [f 0] else [])++((hV k).filter λi=>p (i + 1)).map λi=>f (i + 1):=by
 rw[Uv,List.filter_cons,List.filter_map];by_cases h:p 0=true <;> simp -iota [h,V0]
theorem JL:∀ (ls:List Lt) (h w y:Int) (k:Nat),k<=ls.length->lax (hs h w ls k) y=ayR h (ls.take k) y
 | ls,h,w,y,0,_=>rfl
 | [],_,_,_,k + 1,hk=>by simp -iota at hk
 | l::ls,h,w,y,k + 1,hk=>by
  have a:=JL ls (nh l h) (nw l w) y k (by simpa using hk);have e:hs h w (l::ls) (k + 1)=(if (some l != some Lt.r)=true then [h] else [])++hs (nh l h) (nw l w) ls k:=by
   delta hs;rw[Im];rfl
  rw[PU,ayR,<- a,e];cases l
  .rw[if_neg (by decide),Gh];exact(JQ λp=>rfl).symm
  .rw[if_pos (by decide)];rfl
  .rw[if_pos (by decide)];rfl
theorem Jb:∀ (ls:List Lt) (h w y:Int) (k:Nat),k<=ls.length->lax (ws h w ls k) y=axR w (ls.take k) y
 | ls,h,w,y,0,_=>rfl
 | [],_,_,_,k + 1,hk=>by simp -iota at hk
 | l::ls,h,w,y,k + 1,hk=>by
  have a:=Jb ls (nh l h) (nw l w) y k (by simpa using hk);have e:ws h w (l::ls) (k + 1)=(if (some l != some Lt.p)=true then [w] else [])++ws (nh l h) (nw l w) ls k:=by
   delta ws;rw[Im];rfl
  rw[PU,axR,<- a,e];cases l
  .rw[if_pos (by decide)];rfl
  .rw[if_neg (by decide),Gh];exact(JQ λp=>rfl).symm
  .rw[if_pos (by decide)];rfl
def tJ:S3:=λΓ Q=>∃ (R:Rl) (h w:Int) (ls:List Lt) (k:Nat) (y x:Int),Γ=[some (.fz (nZ R h w ls)),some (.fz (.int (k:Int))),some (.fz (pD y x))]/\cP h w/\Good h w ls/\ls.length<=10/\k<=ls.length/\InC h w ls k y x/\Q (.fr (.lst ((shF h w ls k y x).map pmD))) Γ
theorem fQ(T:Txt K mg a):aM P w K mg base CX0 3 a.o8 a.m6 ["_law_told","_law_step","_law_place"] (sp3 K 3 tJ):=by
 refine ok3 T.a_.F cU (hbody:=λa2 A C s H E I=>#[_,_,(ag (bW (is:=[3,4]) (ar (mT T) I.dn T.cG.m T.cG.F.kp T.cG.b (Yj (p3v 0) (Yj (p3v 1) af))) (aj (aq (i:=3) cU.nd rfl (cv rfl)) (aj (aq (i:=4) cU.nd rfl (cv rfl)) aO)) rfl)
   (ag (aI (i:=5) cU.nd rfl (cv rfl) (bF ah))
   (ag (dY ic rfl (bR (ar (oz T) I.dn T.dj.m T.dj.F.kp T.dj.b (Yj (p3v 3) (Yj (aA (bv 2) WZ) af)))) (fA (is:=[6,7]) (aj (aq (i:=6) cU.nd rfl (Qo rfl)) (aj (aq (i:=7) cU.nd rfl (Qo rfl)) aO)) rfl)
   (au (c_ (pY 5 (by rfl) (bv 5) (P3.opd (jW rfl (bR (ar (oz T) I.dn T.dj.m T.dj.F.kp T.dj.b (Yj (p3v 4) (Yj (aA (bv 2) WZ) af)))) fF (λ_ _ _ _ _=>(fA (is:=[0,1]) (aj (aq (i:=0) fF.nd rfl (cv rfl)) (aj (aq (i:=1) fF.nd rfl (cv rfl)) aO)) rfl)) (λ_ _ _ _ _=>(aF (ab (aF (ab (p3v 3) (ab (p3v 0) ah))) (ab (bO (bv 2) (bv 1)) ah))))))))))
   (au (aD (uv 5)))))),λS Q h hl=>?_])
 let#[R,h,w,b,k,y,x,rfl,l,g,J,hk,c,q]:=h;let#[j,L]:=rT (eA k) hk c;rw[cB,Md] at j L;have N:=j.len (by have:=l.h1;lia);have M:=L.len (by have:=l.w1;lia);have h2:=l.h2;have w2:=l.w2;delta shF at q;have a1:=Dx (n:=(b.take k).length) (by rw[ew];lia);rw[<- JL b h w y k hk] at N q j;rw[<- Jb b h w x k hk] at M q;ext;refine#[R,h,w,b,k,rfl,J,hk,?_];ext;refine#[eA _,_,y,rfl,λi _=>eH (wO _ _ i) (by lia),?_];ext;have V:∀ i,i<=(ws h w b k).length->(lax ((ws h w b k).drop i) x).length<=64:=λi _=>eH (wO _ _ i) (by lia);generalize hA:lax (hs h w b k) y=A at N q j ⊢;generalize Y:lax (ws h w b k) x=Z at M q;refine cj (λm o=>m<=A.length/\∃ t r,o=[some (.fz (nZ R h w b)),some (.fz (.int (k:Int))),some (.fz (pD y x)),some (.fz (il (hs h w b k))),some (.fz (il (ws h w b k))),some (.ow (.lst ((crs (A.take m) Z).map pmD))),fo t,fo r]) #[eA _,none,none,rfl] ?_ ?_
 .rintro m d o hd ⟨X,t,r,rfl⟩;let#[v,G,rfl]:=c6 hd;have D:=cZ G;have v2:=j.lo v (ek G);have cl:(crs (A.take m) Z).length<=4096:=by
   rw[wZ,ew];exact Sv (show min m A.length<=64 by lia) (show Z.length<=64 by lia)
  have ft:=j0 (f:=λd:Int×Int=>Z.map λq=>((d.1,q.1,d.2 * q.2):PM)) G;ext;refine#[_,x,rfl,V,?_];rw[Y];ext;refine#[small (by rw[lM0];lia),jE (λn p e=>n<=Z.length/\p=((Z.take n).map λq=>((v.1,q.1,v.2 * q.2):PM)).map pmD/\∃ B z,e=[fo B,fo z,some (.fz (.int v.2)),some (.fz (.int v.1))]) #[eA _,rfl,none,none,rfl] ?_ ?_]
  .rintro n d p e hd U ⟨W,rfl,B,z,rfl⟩;let#[u,O,rfl]:=c6 hd;have F:=cZ O;ext;refine#[sl2 (by decide),.inl #[by lia,by lia],sl2 (by decide),F,?_,some (.int u.1),some (.int u.2),rfl];rw[take_snoc O,er,er];rfl
  .rintro p e U ⟨W,rfl,B,z,rfl⟩;rw[show Z.take (Qg piD Z).length=Z by rw[lM0,hG]];ext;refine#[by rw[lM0,lM0,lM0,ea];lia,D,some (.int v.1),some (.int v.2),?_];rw[show crs (A.take (m + 1)) Z=_ from ft,er];rfl
 .rintro o ⟨X,t,r,rfl⟩;ext;rw[lM0,hG];exact q
def Bm:S3:=λΓ Q=>∃ (R:Rl) (h w:Int) (ls:List Lt) (k:Nat),Γ=[some (.fz (nZ R h w ls)),some (.fz (.int (k:Int)))]/\ls.length<=10/\k<=ls.length/\Q (.fz (.int (((hs h w ls k).length + (ws h w ls k).length:Nat):Int))) Γ
theorem kf(T:Txt K mg a):aM P w K mg base CX0 3 a.lL a.kh ["_law_told","_law_step"] (sp3 K 2 Bm):=by
 refine ok3 T.cc.F gk (hbody:=λg A b s H E f=>#[_,_,(ag (bW (is:=[2,3]) (ar (mT T) f.dn T.cG.m T.cG.F.kp T.cG.b (Yj (p3v 0) (Yj (p3v 1) af))) (aj (aq (i:=2) gk.nd rfl (cv rfl)) (aj (aq (i:=3) gk.nd rfl (cv rfl)) aO)) rfl)
   (au (aD (aZ (P3.opd (aN (kr) T.z_len (aa (bv 2) af))) (P3.opd (aN (kr) T.z_len (aa (bv 3) af))))))),λe Q h j=>?_])
 let#[R,h,w,c,k,rfl,d,hk,q]:=h;ext;refine#[R,h,w,c,k,rfl,d,hk,?_];have m:(hs h w c k).length<=k:=p8;have l:(ws h w c k).length<=k:=p8;ext;rw[lM0,lM0];rw[Int.natCast_add] at q;exact q
def EL:S3:=λΓ Q=>∃ n:Int,Γ=[some (.fz (.int n))]/\Q (.fz (.bl true)) Γ
theorem mS(T:Txt K mg a):aM P w K mg base CX0 1 a.oY a.mZ ["_law_thing"] (sp3 K 1 EL):=by
 refine ok3 T.cF.F uo (hbody:=λd A b s H E e=>#[_,_,(au (aD (sP (aN (JX T.ty) T.z_isinstance (aa (bv 0) (Yj (sM (n:="int") T.z_int) af))) (sN (Lc (aN (JY T.ty) T.z_isinstance (aa (bv 0) (Yj (sM (n:="bool") T.z_bool) af)))))))),λc Q h f=>?_]);let#[n,rfl,q]:=h;ext
 try unfold EB
 ext;exact q
theorem sV(T:Txt K mg a):aM P w K mg base CX0 1 a.ja a.lE ["self"] (sp3 K 1 (vY a λ_ h _ _=>.int h)):=by
 refine ok3 T.mK.F r9 (hbody:=λg A b s H E i=>#[_,_,(au (aD (aA (P3.opd (aA (P3.opd (eR (f:="corners") (bv 0) T.aW T.bD)) WZ)) WZ))),λc Q h j=>?_]);let#[R,h,w,ls,rfl,d,q]:=h;ext;have e:=fV (h:=h) (w:=w) (ls:=ls) (k:=0) (eA _);rw[cB] at e;refine cA.mpr #[_,e,?_];delta cD;ext;exact q
theorem uy(T:Txt K mg a):aM P w K mg base CX0 1 a.j4 a.m8 ["self"] (sp3 K 1 (vY a λ_ _ w _=>.int w)):=by
 refine ok3 T.nW.F uq (hbody:=λg A b s H E i=>#[_,_,(au (aD (aA (P3.opd (aA (P3.opd (eR (f:="corners") (bv 0) T.aW T.bD)) WZ)) WZ))),λc Q h j=>?_]);let#[R,h,w,ls,rfl,d,q]:=h;ext;have e:=fV (h:=h) (w:=w) (ls:=ls) (k:=0) (eA _);rw[cB] at e;refine cA.mpr #[_,e,?_];delta cD;ext;exact q
structure Pt where
 s:Nat
 wd:Str
 t:Int
 l:Int
 hh:Int
 ww:Int
noncomputable def Pt.dd (p:Pt):D:=.tup [.int p.s,.str p.wd,.int p.t,.int p.l,.int p.hh,.int p.ww]
noncomputable def wm (t l:Int)(n:Nat)(y:Nat):List (Int×Int):=(hV n).map λ(x:Nat)=>(t + (y:Int),l + (x:Int))
noncomputable def plc (t l hh ww:Int)(k:Nat):List (Int×Int):=((hV k).map λy=>wm t l ww.toNat y).flatten
noncomputable def Pt.pl (p:Pt):List (Int×Int):=plc p.t p.l p.hh p.ww p.hh.toNat
noncomputable abbrev qD (q:Int×Int):D:=.tup [.int q.1,.int q.2]
structure PtB (p:Pt):Prop where
 t0:0<=p.t
 l0:0<=p.l
 h0:0<=p.hh
 w0:0<=p.ww
 t1:p.t<=64
 l1:p.l<=64
 h1:p.hh<=64
 w1:p.ww<=64
def D_:S3:=λΓ Q=>∃ p:Pt,Γ=[some (.fz p.dd)]/\PtB p/\Q (.fr (.lst (p.pl.map qD))) Γ
theorem Jt{t l hh ww:Int}:plc t l hh ww (k + 1)=plc t l hh ww k++wm t l ww.toNat k:=by
 delta plc;rw[Re,er,vx];simp
theorem xO{t l:Int}{n y:Nat}:(wm t l n y).length=n:=by simp -iota [wm]
theorem rn {t l hh ww:Int}:∀ k:Nat,(plc t l hh ww k).length=k * ww.toNat
 | 0=>by simp -iota [plc]
 | n + 1=>by rw[Jt,dV,rn n,xO,UU,Wv]
theorem ou(T:Txt K mg a):aM P w K mg base CX0 1 a.qw a.oJ ["part"] (sp3 K 1 D_):=by
 refine ok3 T.dg.F eM (hbody:=λC A f s H E F=>#[_,_,(ag (bW (is:=[1,2,3,4]) (uY (by rfl) (bv 0) (xR WZ) xS) (aj (aq (i:=1) eM.nd rfl (cv rfl)) (aj (aq (i:=2) eM.nd rfl (Qo rfl)) (aj (aq (i:=3) eM.nd rfl (cv rfl)) (aj (aq (i:=4) eM.nd rfl (Qo rfl)) aO)))) rfl)
   (au (aD (sO rfl (ve (by rfl) T.z_range (ab (p3v 1) (ab (aZ (bv 1) (bv 3)) ah))) gy (λ_ _ _ _ _=>(aX (i:=0) gy.nd rfl (cv rfl))) (λ_ _ _ _ _=>(ve (by rfl) T.z_range (ab (p3v 2) (ab (aZ (bv 2) (bv 3)) ah)))) (λ_ _ _ _ _=>(aX (i:=1) gy.nd rfl (cv rfl))) (λ_ _ _ _ _=>(aF (ab (p3v 0) (ab (p3v 1) ah)))))))),λg Q h G=>?_])
 let#[#[D,wd,t,l,hh,ww],rfl,#[p,v,z,n,o,u,y,m],q]:=h;dsimp only at p v z n o u y m;delta Pt.dd;ext;refine#[by simp [_h.sIx],?_];ext;refine#[by lia,by lia,by lia,by lia,?_];rw[show (t + hh - t).toNat=hh.toNat by lia];refine fB (λk e b=>e=(plc t l hh ww k).map qD/\k<=64/\∃ s c,b=[fo s,fo c,some (.fz (.int l)),some (.fz (.int ww))]) #[rfl,by lia,none,none,rfl] ?_ ?_
 .rintro k d e b hd ⟨rfl,hk,s,c,rfl⟩;let#[lt,rfl]:=su hd;ext;refine#[by lia,by lia,by lia,by lia,?_];rw[show (l + ww - l).toNat=ww.toNat by lia];have B:=rn (t:=t) (l:=l) (hh:=hh) (ww:=ww) k;have I:k * ww.toNat<=64 * 64:=Sv (by lia) (by lia);refine#[λj e b=>e=(plc t l hh ww k++wm t l j k).map qD/\j<=64/\∃ c,b=[some (.fz (.int (t + (k:Int)))),fo c,some (.fz (.int l)),some (.fz (.int ww))],#[by simp -iota [wm],by lia,c,rfl],?_,?_]
  .rintro j d e b hd ⟨rfl,x,c,rfl⟩;let#[r,rfl]:=su hd;ext;refine#[?_,by rw[ea];lia,?_,by lia,some _,rfl]
   .rw[lM0,dV,B,xO,ea];lia
   .delta wm;rw[Re];simp -iota only[er,fq];rfl
  .rintro e b ⟨rfl,x,c,rfl⟩;refine#[?_,by lia,some _,c,rfl];rw[dP,Jt]
 .rintro e b ⟨rfl,hk,s,c,rfl⟩;rw[dP];ext;refine#[?_,q];rw[lM0,rn,ea];have:hh.toNat * ww.toNat<=64 * 64:=Sv (by lia) (by lia);lia
noncomputable def xQ (h w:Int)(ls:List Lt)(k:Nat):Lt->List Pt
 | .r=>[#[k,"row",0,(cat h w ls (k + 1)).2,(cat h w ls (k + 1)).1,(cat h w ls k).2 - (cat h w ls (k + 1)).2]]
 | .p=>[#[k,"pillar",(cat h w ls (k + 1)).1,0,(cat h w ls k).1 - (cat h w ls (k + 1)).1,(cat h w ls (k + 1)).2]]
 | .b=>[#[k,"row",0,(cat h w ls (k + 1)).2,(cat h w ls (k + 1)).1,(cat h w ls k).2 - (cat h w ls (k + 1)).2],#[k,"pillar",(cat h w ls (k + 1)).1,0,(cat h w ls k).1 - (cat h w ls (k + 1)).1,(cat h w ls (k + 1)).2],
   #[k,"both",(cat h w ls (k + 1)).1,(cat h w ls (k + 1)).2,(cat h w ls k).1 - (cat h w ls (k + 1)).1,(cat h w ls k).2 - (cat h w ls (k + 1)).2]]
noncomputable def pat (h w:Int)(ls:List Lt)(k:Nat):List Pt:=match ls[k]? with
 | some l=>xQ h w ls k l
 | none=>[]
theorem zD{h w:Int}{ls:List Lt}{l:Lt}(a:ls[k]?=some l):pat h w ls k=xQ h w ls k l:=by delta pat;rw[a]
def Hl (a:Ad):S3:=λΓ Q=>∃ (R:Rl) (h w:Int) (ls:List Lt) (k:Nat),Γ=[some (.fz (plD a R h w ls)),some (.fz (.int k))]/\ls.length<=10/\k < ls.length/\Q (.fr (.lst ((pat h w ls k).map Pt.dd))) Γ
theorem kA(T:Txt K mg a):aM P w K mg base CX0 1 a.dA a.fe ["self","step"] (sp3 K 2 (Hl a)):=by
 refine ok3 T.fW.F aU (hbody:=λm A b s H E g=>#[_,_,(ag (bW (is:=[2,3]) (aA (P3.opd (eR (f:="corners") (bv 0) T.aW T.bD)) (bv 1)) (aj (aq (i:=2) aU.nd rfl (cv rfl)) (aj (aq (i:=3) aU.nd rfl (cv rfl)) aO)) rfl)
   (ag (bW (is:=[4,5]) (aA (P3.opd (eR (f:="corners") (bv 0) T.aW T.bD)) (P3.opd (aZ (bv 1) WZ))) (aj (aq (i:=4) aU.nd rfl (cv rfl)) (aj (aq (i:=5) aU.nd rfl (cv rfl)) aO)) rfl)
   (ag (aI (i:=6) aU.nd rfl (cv rfl) (aA (P3.opd (eR (f:="letters") (bv 0) T.aW T.cS)) (bv 1)))
   (ag (aI (i:=7) aU.nd rfl (cv rfl) (bF ah))
   (ag (cf (aP (nv) (bv 6) (P3.opd (fO (p:=a.bL) (zs:=["r","b"]) T.eV)) (by with_unfolding_all rfl)) (au (c_ (eu 7 (bv 7) (aF (ab (p3v 1) (ab bE (ab ae (ab (p3v 5) (ab (p3v 4) (ab (cy (bv 3) (bv 5)) ah)))))))))) br)
   (ag (cf (aP (nv) (bv 6) (P3.opd (fO (p:=a.a8) (zs:=["p","b"]) T.cT)) (by with_unfolding_all rfl)) (au (c_ (eu 7 (bv 7) (aF (ab (p3v 1) (ab bE (ab (p3v 4) (ab ae (ab (cy (bv 2) (bv 4)) (ab (p3v 5) ah)))))))))) br)
   (ag (cf (aP (kb g) (bv 6) (P3.opd bE) (aR _)) (au (c_ (eu 7 (bv 7) (aF (ab (p3v 1) (ab bE (ab (p3v 4) (ab (p3v 5) (ab (cy (bv 2) (bv 4)) (ab (cy (bv 3) (bv 5)) ah)))))))))) br)
   (au (aD (uv 7)))))))))),λe Q h c=>?_])
 let#[R,h,w,d,k,rfl,j,hk,q]:=h;ext;refine cA.mpr #[_,fV (by lia),?_];delta cD;ext;refine cA.mpr #[_,fV (k:=k + 1) (by lia),?_];delta cD;ext;obtain⟨l,c⟩:∃ l,d[k]?=some l:=#[d[k],by simp -iota [hk]];refine#[sl2 (by rw[bJ];lia),l,atL c,?_];ext;rw[zD c] at q;cases l
 .ext;exact#[sl2 (by decide),sl2 (by decide),small (by decide),q]
 .ext;exact#[sl2 (by decide),sl2 (by decide),small (by decide),q]
 .ext;exact#[sl2 (by decide),sl2 (by decide),small (by decide),sl2 (by decide),small (by decide),sl2 (by decide),small (by decide),q]
noncomputable def nI (h w:Int)(ls:List Lt)(i:Nat):List Pt:=#[ls.length,"coarse",0,0,(cat h w ls ls.length).1,(cat h w ls ls.length).2]::((hV i).map λi=>pat h w ls (ls.length - 1 - i)).flatten
noncomputable abbrev pts (h w:Int)(ls:List Lt):List Pt:=nI h w ls ls.length
theorem qm{h w:Int}{ls:List Lt}:nI h w ls i++pat h w ls (ls.length - 1 - i)=nI h w ls (i + 1):=by
 delta nI;rw[Re,er,vx,KI];simp
theorem Bb{h w:Int}{ls:List Lt}:(pat h w ls k).length<=3:=by
 delta pat
 cases ls[k]? with
 | none=>simp
 | some l=>cases l <;> simp [xQ]
theorem jV {h w:Int}{ls:List Lt}:∀ i:Nat,(nI h w ls i).length<=1 + 3 * i
 | 0=>by simp -iota [nI]
 | i + 1=>by
  rw[<- qm,dV];have:=jV (h:=h) (w:=w) (ls:=ls) i;have:=Bb (h:=h) (w:=w) (ls:=ls) (k:=ls.length - 1 - i);lia
def HD (a:Ad):S3:=λΓ Q=>∃ (R:Rl) (h w:Int) (ls:List Lt),Γ=[some (.fz (plD a R h w ls))]/\ls.length<=10/\Q (.fr (.lst ((pts h w ls).map Pt.dd))) Γ
theorem mU(T:Txt K mg a):aM P w K mg base CX0 2 a.j6 a.m_ ["self"] (sp3 K 1 (HD a)):=by
 refine ok3 T.jL.F dJ (hbody:=λm A e s H E g=>#[_,_,(ag (bW (is:=[1,2]) (aA (P3.opd (eR (f:="corners") (bv 0) T.aW T.bD)) (P3.opd (wx WZ))) (aj (aq (i:=1) dJ.nd rfl (cv rfl)) (aj (aq (i:=2) dJ.nd rfl (cv rfl)) aO)) rfl)
   (ag (aI (i:=3) dJ.nd rfl (cv rfl) (bF (ab (aF (ab (cz (bv 0) T.aW T.fU (fR T) g.dn T.eL.b) (ab bE (ab ae (ab ae (ab (p3v 1) (ab (p3v 2) ah))))))) ah)))
   (ag (dY ic rfl (EY (by rfl) T.z_reversed (by rfl) T.z_range (ab (cz (bv 0) T.aW T.fU (fR T) g.dn T.eL.b) ah)) (aX (i:=4) dJ.nd rfl (cv rfl))
   (au (c_ (pY 3 (by rfl) (bv 3) (P3.opd (l_ (bv 0) T.aW T.kB (kA T) g.dn T.fW.b (Yj (p3v 4) af)))))))
   (au (aD (uv 3)))))),λj Q h p=>?_])
 let#[R,h,w,ls,rfl,b,q]:=h;ext;refine cA.mpr #[cD (cat h w ls ls.length),xc (by rw[lM0,dN];exact FJ (cb _)),?_];delta cD;ext;refine#[by decide +kernel,R,h,w,ls,rfl,b,?_];ext;refine#[sl2 (by decide),sl2 (by decide),?_];refine#[by decide +kernel,R,h,w,ls,rfl,b,?_];ext;refine#[by lia,by lia,?_];rw[fL];refine cj (λi c=>i<=ls.length/\∃ s,c=[some (.fz (plD a R h w ls)),some (.fz (.int (cat h w ls ls.length).1)),some (.fz (.int (cat h w ls ls.length).2)),some (.ow (.lst ((nI h w ls i).map Pt.dd))),fo s]) #[by lia,none,rfl] ?_ ?_
 .rintro i d c hd ⟨l,s,rfl⟩;let#[lt,rfl]:=xD hd;ext;refine#[by decide +kernel,R,h,w,ls,ls.length - 1 - i,by rw[show (ls.length:Int) - 1 + (i:Int) * -1=((ls.length - 1 - i:Nat):Int) by lia],b,by exact Yz V2 (V3 (Yq lt)),?_];ext;have o:=jV (h:=h) (w:=w) (ls:=ls) i;have n:=Bb (h:=h) (w:=w) (ls:=ls) (k:=ls.length - 1 - i);exact#[by rw[lM0,lM0,ea];lia,by exact Yb lt,some _,by rw[<- qm,er];rfl]
 .rintro c ⟨l,s,rfl⟩;rw[xC];ext;exact q
noncomputable def bk (h w:Int):List Lt->Int->Int->Nat×Int×Int
 | [],y,x=>(0,y,x)
 | l::ls,y,x=>if y < nh l h/\x < nw l w then ((bk (nh l h) (nw l w) ls y x).1 + 1,(bk (nh l h) (nw l w) ls y x).2) else (1,y - (if nh l h<=y then nh l h else 0),x - (if nw l w<=x then nw l w else 0))
theorem Gb:∀ {ls:List Lt} {h w y x:Int} {k:Nat},Good h w ls->1<=h->1<=w->k<=ls.length->y < (cat h w ls k).1->x < (cat h w ls k).2->bk h w ls y x=(k + (bk (cat h w ls k).1 (cat h w ls k).2 (ls.drop k) y x).1,(bk (cat h w ls k).1 (cat h w ls k).2 (ls.drop k) y x).2)
 | ls,h,w,y,x,0,_,_,_,_,_,_=>by rw[cB,Md,Q2]
 | [],_,_,_,_,k + 1,_,_,_,hk,_,_=>by simp -iota at hk
 | l::ls,h,w,y,x,k + 1,g,i,f,hk,c,d=>by
  let#[b,p2,_,_]:=mq g.1 i f;rw[kq] at c d ⊢;have a:k<=ls.length:=by simpa using hk
  let#[_,_,m,j]:=dQ (k:=k) g.2 b p2 a;have e:=Gb (k:=k) g.2 b p2 a c d;rw[bk,if_pos #[by lia,by lia],e,List.drop_succ_cons];exact Sk (by grind) rfl
theorem qg{ls:List Lt}{h w y x:Int}(g:Good h w ls)(h1:1<=h)(a:1<=w)(b:y < (cat h w ls ls.length).1)(c:x < (cat h w ls ls.length).2):bk h w ls y x=(ls.length,y,x):=by
 rw[Gb g h1 a (cb _) b c,Wq];rfl
theorem rG{ls:List Lt}{h w y x:Int}{l:Lt}(g:Good h w ls)(h1:1<=h)(c:1<=w)(a:ls[k]?=some l)(d:y < (cat h w ls k).1)(e:x < (cat h w ls k).2)(b:¬ (y < (cat h w ls (k + 1)).1/\x < (cat h w ls (k + 1)).2)) :
  bk h w ls y x=(k + 1,y - (if (cat h w ls (k + 1)).1<=y then (cat h w ls (k + 1)).1 else 0),x - (if (cat h w ls (k + 1)).2<=x then (cat h w ls (k + 1)).2 else 0)):=by
 have lk:=cZ a;rw[Gb g h1 c (by lia) d e,vr lk,(gS0 a).2];rw[gb a] at b ⊢;rw[bk,if_neg b]
theorem x8{t l y x:Int}{n:Nat}:(y,x)∈wm t l n k↔y=t + k/\l<=x/\x < l + n:=by
 delta wm;rw[kv];constructor
 .rintro⟨j,a,e⟩;rw[FS] at a;injection e with f d
  lia
 .rintro⟨e,c,b⟩;exact#[(x - l).toNat,FS.mpr (by lia),Sk (by show _=y;lia) (by show _=x;lia)]
theorem tw{p:Pt}(b:PtB p){y x:Int}:(y,x)∈p.pl↔p.t<=y/\y < p.t + p.hh/\p.l<=x/\x < p.l + p.ww:=by
 have:=b.h0;have:=b.w0;delta Pt.pl plc;rw[Uj];constructor
 .rintro⟨L,c,a⟩;let#[k,hk,rfl]:=kv.mp c;rw[FS] at hk;let#[e,g,f]:=x8.mp a;lia
 .rintro⟨g,f,d,h⟩;exact#[_,kv.mpr #[(y - p.t).toNat,FS.mpr (by lia),rfl],x8.mpr #[by lia,d,by lia]]
noncomputable def Pt.bk (p:Pt)(y x:Int):Nat×Int×Int:=(if p.wd == "coarse" then p.s else p.s + 1,y - p.t,x - p.l)
structure PtG (h w:Int) (ls:List Lt) (p:Pt):Prop where
 b:PtB p
 s:p.s<=10
 r:∀ y x,(y,x)∈p.pl->p.bk y x=_k.bk h w ls y x
theorem Jc:(("row":Str) == ("coarse":Str))=false:=by decide +kernel
theorem Jd:(("pillar":Str) == ("coarse":Str))=false:=by decide +kernel
theorem Nq:(("both":Str) == ("coarse":Str))=false:=by decide +kernel
theorem Np:(("coarse":Str) == ("coarse":Str))=true:=by decide +kernel
theorem Em{h w:Int}{ls:List Lt}{l:Lt}(g:Good h w ls)(a:cP h w)(D:ls.length<=10)(f:ls[k]?=some l):∀ p∈xQ h w ls k l,PtG h w ls p:=by
 have lt:=cZ f;have st:=gb (h:=h) (w:=w) f;let#[J,I]:=wU g f;let#[O,N,M,L]:=dQ (k:=k) g a.h1 a.w1 (by lia);let#[K,b2,_,_]:=dQ (k:=k + 1) g a.h1 a.w1 (by lia);have:=a.h2;have:=a.w2;have mk:∀ (wd:Str) (t l d b:Int),(wd == ("coarse":Str))=false->0<=t->0<=l->0<=d->0<=b->t + d<=(cat h w ls k).1->l + b<=(cat h w ls k).2->((cat h w ls (k + 1)).1<=t\/(cat h w ls (k + 1)).2<=l)->
   (t=0/\d<=(cat h w ls (k + 1)).1\/t=(cat h w ls (k + 1)).1)->(l=0/\b<=(cat h w ls (k + 1)).2\/l=(cat h w ls (k + 1)).2)->PtG h w ls #[k,wd,t,l,d,b]:=by
  intro wd t l d b B q A F n G E H o z;have i:PtB #[k,wd,t,l,d,b]:=#[q,A,F,n,by dsimp only;lia,by dsimp only;lia,by dsimp only;lia,by dsimp only;lia];refine#[i,by dsimp only;lia,λy x C=>?_];let#[m1,v,s,r]:=(tw i).mp C;dsimp only at m1 v s r;rw[rG g a.h1 a.w1 f (by lia) (by lia) (by lia)];delta Pt.bk;dsimp only;rw[B];refine Sk rfl (Sk ?_ ?_)
  .show y - t=y - _;rcases o with ⟨e,u⟩ | e
   .rw[if_neg (by lia),e]
   .rw[if_pos (by lia),e]
  .show x - l=x - _;rcases z with ⟨e,u⟩ | e
   .rw[if_neg (by lia),e]
   .rw[if_pos (by lia),e]
 intro p c;cases l
 .have m:(cat h w ls (k + 1)).1=(cat h w ls k).1:=by rw[st];rfl
  have j:(cat h w ls (k + 1)).2=((cat h w ls k).2 + 1) / 2:=by rw[st];rfl
  simp only[xQ,cm,ey,or_false] at c;subst c;exact mk _ _ _ _ _ Jc (by lia) (by lia) (by lia) (by lia) (by lia) (by lia) (.inr (pF _)) (.inl #[rfl,pF _]) (.inr rfl)
 .have m:(cat h w ls (k + 1)).1=((cat h w ls k).1 + 1) / 2:=by rw[st];rfl
  have j:(cat h w ls (k + 1)).2=(cat h w ls k).2:=by rw[st];rfl
  simp only[xQ,cm,ey,or_false] at c;subst c;exact mk _ _ _ _ _ Jd (by lia) (by lia) (by lia) (by lia) (by lia) (by lia) (.inl (pF _)) (.inr rfl) (.inl #[rfl,pF _])
 .have m:(cat h w ls (k + 1)).1=((cat h w ls k).1 + 1) / 2:=by rw[st];rfl
  have j:(cat h w ls (k + 1)).2=((cat h w ls k).2 + 1) / 2:=by rw[st];rfl
  simp only[xQ,cm,ey,or_false] at c;rcases c with rfl | rfl | rfl
  .exact mk _ _ _ _ _ Jc (by lia) (by lia) (by lia) (by lia) (by lia) (by lia) (.inr (pF _)) (.inl #[rfl,pF _]) (.inr rfl)
  .exact mk _ _ _ _ _ Jd (by lia) (by lia) (by lia) (by lia) (by lia) (by lia) (.inl (pF _)) (.inr rfl) (.inl #[rfl,pF _])
  .exact mk _ _ _ _ _ Nq (by lia) (by lia) (by lia) (by lia) (by lia) (by lia) (.inl (pF _)) (.inr rfl) (.inr rfl)
noncomputable def cN (h w:Int)(ls:List Lt):Pt:=#[ls.length,"coarse",0,0,(cat h w ls ls.length).1,(cat h w ls ls.length).2]
theorem BK{h w:Int}{ls:List Lt}(g:Good h w ls)(a:cP h w)(b:ls.length<=10):PtG h w ls (cN h w ls):=by
 let#[n,m,l,j]:=dQ (k:=ls.length) g a.h1 a.w1 (cb _);have:=a.h2;have:=a.w2;have c:PtB (cN h w ls):=by delta cN;exact#[by dsimp only;lia,by dsimp only;lia,by dsimp only;lia,by dsimp only;lia,by dsimp only;lia,by dsimp only;lia,by dsimp only;lia,by dsimp only;lia]
 refine#[c,b,λy x i=>?_];let#[m1,f,e,d]:=(tw c).mp i;delta cN at m1 f e d;dsimp only at m1 f e d;rw[qg g a.h1 a.w1 (by lia) (by lia)];delta Pt.bk cN;rw[Np];refine Sk rfl (Sk ?_ ?_)
 .show y - 0=y;lia
 .show x - 0=x;lia
theorem N2{h w:Int}{ls:List Lt}(g:Good h w ls)(c:cP h w)(a:ls.length<=10):∀ p∈pts h w ls,PtG h w ls p:=by
 intro p hp;rcases cm.mp hp with rfl | hp
 .exact BK g c a
 .rw[Uj] at hp;let#[d,b,hp]:=hp;let#[i,_,rfl]:=kv.mp b;cases q:ls[ls.length - 1 - i]? with
  | none=>delta pat at hp;rw[q] at hp;cases hp
  | some l=>rw[zD q] at hp;exact Em g c a q p hp
theorem lvl:∀ (ls:List Lt) (h w y x:Int),y < h->x < w->(y < (cat h w ls ls.length).1/\x < (cat h w ls ls.length).2)\/∃ (k:Nat) (l:Lt),ls[k]?=some l/\y < (cat h w ls k).1/\x < (cat h w ls k).2/\¬ (y < (cat h w ls (k + 1)).1/\x < (cat h w ls (k + 1)).2)
 | [],h,w,y,x,a,b=>.inl #[a,b]
 | l::ls,h,w,y,x,a,b=>by
  by_cases c:y < nh l h/\x < nw l w
  .rcases lvl ls (nh l h) (nw l w) y x c.1 c.2 with r | ⟨k,d,i,g,f,e⟩
   .exact .inl r
   .exact .inr #[k + 1,d,i,g,f,e]
  .refine .inr #[0,l,rfl,by rw[cB];exact a,by rw[cB];exact b,?_];rw[kq,cB];exact c
theorem KR{h w y x:Int}{ls:List Lt}(g:Good h w ls)(c:cP h w)(a:ls.length<=10)(o:0<=y)(f:y < h)(q:0<=x)(i:x < w):∃ p∈pts h w ls,(y,x)∈p.pl:=by
 rcases lvl ls h w y x f i with ⟨n,m⟩ | ⟨k,l,b,n,m,t⟩
 .refine#[cN h w ls,.head _,(tw (BK g c a).b).mpr ?_];delta cN;dsimp only;lia
 .have lt:=cZ b;have e:=Em g c a b;have st:=gb (h:=h) (w:=w) b;have fin:∀ p∈xQ h w ls k l,p.t<=y/\y < p.t + p.hh/\p.l<=x/\x < p.l + p.ww->∃ p∈pts h w ls,(y,x)∈p.pl:=λp d j=>by
   refine#[p,ei _ (Uj.mpr #[_,kv.mpr #[ls.length - 1 - k,FS.mpr (by exact Yz V2 (V3 (Yq lt))),rfl],?_]),(tw (e p d).b).mpr j];rw[show ls.length - 1 - (ls.length - 1 - k)=k by exact xl (WF 0x4cdb55e28ba8a12f8 V1 (V3 (Ya V2))) (WF 0x4d0ee5f6aafc7a2f8 V1 (V3 (Ye lt V1))),zD b];exact d
  cases l
  .have s:(cat h w ls (k + 1)).1=(cat h w ls k).1:=by rw[st];rfl
   exact fin _ (.head _) (by dsimp only;lia)
  .have r:(cat h w ls (k + 1)).2=(cat h w ls k).2:=by rw[st];rfl
   exact fin _ (.head _) (by dsimp only;lia)
  .by_cases v:y < (cat h w ls (k + 1)).1
   .exact fin _ (.head _) (by dsimp only;lia)
   .by_cases u:x < (cat h w ls (k + 1)).2
    .exact fin _ (.tail _ (.head _)) (by dsimp only;lia)
    .exact fin _ (.tail _ (.tail _ (.head _))) (by dsimp only;lia)
def La (a:Ad):S3:=λΓ Q=>∃ (R:Rl) (h w:Int) (ls:List Lt) (y x:Int),Γ=[some (.fz (plD a R h w ls)),some (.fz (pD y x))]/\cP h w/\Good h w ls/\ls.length<=10/\(0<=y/\y < h/\0<=x/\x < w)/\∀ p:Pt,PtG h w ls p->(y,x)∈p.pl->Q (.fz p.dd) Γ
theorem Mr{L:List Pt}{y x:Int}{p:Pt}(h:L[k]?=some p):(L.take (k + 1)).filter (λp=>decide ((y,x)∈p.pl))=(L.take k).filter (λp=>decide ((y,x)∈p.pl))++(if (y,x)∈p.pl then [p] else []):=by
 rw[take_snoc h,Vx]
 congr 1
 by_cases c:(y,x)∈p.pl <;> simp -iota [c]
theorem sS(T:Txt K mg a):aM P w K mg base CX0 3 a.vp a.t5 ["plan","place"] (sp3 K 2 (La a)):=by
 refine ok3 T.fj.F zf (hbody:=λI A o s H E r=>#[_,_,(au (aD (aA (P3.opd (Es rfl (bR (cz (bv 0) T.aW T.mV (mU T) r.dn T.jL.b)) ny (λ_ _ _ _ _=>(aX (i:=0) ny.nd rfl (cv rfl))) (λ_ _ _ _ _=>(aP (MG r) (bv 1) (P3.opd (ar (ou T) r.dn T.dg.m T.dg.F.kp T.dg.b (Yj (p3v 0) af))) (by with_unfolding_all rfl))) (λ_ _ _ _ _=>(p3v 0)))) WZ))),λD Q h J=>?_]);let#[R,h,w,b,y,x,rfl,u,g,l,f,q]:=h;have z:=N2 g u l;have v:(pts h w b).length<=31:=eH (jV b.length) (by lia);ext;refine#[by decide +kernel,R,h,w,b,rfl,l,?_];ext;refine fB (λk m j=>m=(((pts h w b).take k).filter λp=>decide ((y,x)∈p.pl)).map Pt.dd/\∃ s,j=[fo s,some (.fz (pD y x))]) #[rfl,none,rfl] ?_ ?_
 .rintro k d m j hd ⟨rfl,s,rfl⟩;let#[p,t,rfl]:=c6 hd;have C:=ek t;have B:(((pts h w b).take k).filter λp=>decide ((y,x)∈p.pl)).length<=31:=eH (Sz _ _) (by rw[ew];exact eH (sg _ _) v);have fs:=Mr (y:=y) (x:=x) t;ext;refine#[p,rfl,(z p C).b,?_];ext;refine#[_,rfl,?_];by_cases c:(y,x)∈p.pl
  .rw[decide_eq_true c];rw[if_pos c] at fs;ext;exact#[small (by rw[lM0];lia),by rw[fs,er];rfl,some _,rfl]
  .rw[decide_eq_false c];rw[if_neg c,jn] at fs;ext;exact#[by rw[fs],some _,rfl]
 .rintro m j ⟨rfl,s,rfl⟩;rw[show (Qg Pt.dd (pts h w b)).length=(pts h w b).length from lM0 _,hG];have B:((pts h w b).filter λp=>decide ((y,x)∈p.pl)).length<=31:=eH (Sz _ _) v;let#[p,t,C]:=KR g u l f.1 f.2.1 f.2.2.1 f.2.2.2;cases e:(pts h w b).filter λp=>decide ((y,x)∈p.pl) with
  | nil=>simp_all
  | cons n rest=>
   have G:n∈(pts h w b).filter λp=>decide ((y,x)∈p.pl):=by rw[e];exact .head _
   let#[m1,F]:=WE.mp G;rw[e,eh] at B;ext;exact#[small (by rw[lM0];lia),q n (z n m1) (of_decide_eq_true F)]
noncomputable def Lt.n:Lt->Int
 | .b=>2
 | _=>1
noncomputable def kd (h w:Int)(ls:List Lt)(y x:Int)(i:Nat):Int:=if inD (cat h w ls i).1 (cat h w ls i).2 (pD y x) then (ls.getD i .r).n else 0
noncomputable def nO (h w:Int)(ls:List Lt)(y x:Int):Nat->Int
 | 0=>0
 | k + 1=>nO h w ls y x k + kd h w ls y x k
def L8 (a:Ad):S3:=λΓ Q=>∃ (R:Rl) (h w:Int) (ls:List Lt) (y x:Int),Γ=[some (.fz (plD a R h w ls)),some (.fz (pD y x))]/\ls.length<=10/\inD h w (pD y x)=true/\Q (.fz (.int (nO h w ls y x ls.length))) Γ
theorem Dc{ls:List Lt}{cs:List (Int×Int)}{d:D}(h:(uk (signs (wy ls)) (cs.map cD))[k]?=some d):∃ l c,ls[k]?=some l/\cs[k]?=some c/\d=.tup [.str l.s,cD c]:=by
 rw[kN] at h;let#[x,y,b,a,rfl]:=rJ h;let#[l,e,rfl]:=wL b;let#[c,f,rfl]:=c6 a;exact#[l,c,e,f,rfl]
theorem jr(T:Txt K mg a):aM P w K mg base CX0 3 a.gv a.jA ["self","place"] (sp3 K 2 (L8 a)):=by
 refine ok3 T.gj.F b9 (hbody:=λF A p s H E g=>#[_,_,(ag (cf (cu (bX (ar (cK T) g.dn T.aJ.m T.aJ.F.kp T.aJ.b (Yj (p3v 1) (Yj (cz (bv 0) T.aW T.tF (sV T) g.dn T.mK.b) (Yj (cz (bv 0) T.aW T.uz (uy T) g.dn T.nW.b) af)))))) (au h_) br)
   (ag (aI (i:=2) b9.nd rfl (cv rfl) ae)
   (ag (dY ic rfl (OV (by rfl) (by rfl) T.z_zip (ab (eR (f:="letters") (bv 0) T.aW T.cS) (ab (eR (f:="corners") (bv 0) T.aW T.bD) ah))) (Ik (i:=3) (j:=4) (k:=5) (by rfl) rfl (aq (i:=3) b9.nd rfl (cv rfl)) (aj (aq (i:=4) b9.nd rfl (cv rfl)) (aj (aq (i:=5) b9.nd rfl (cv rfl)) aO)))
   (au (cf (bX (ar (cK T) g.dn T.aJ.m T.aJ.F.kp T.aJ.b (Yj (p3v 1) (Yj (p3v 4) (Yj (p3v 5) af))))) (au (KC (i:=2) b9.nd rfl (cv rfl) (k9 (aP (kb g) (bv 3) (P3.opd bE) (aR _)) ae ae))) br)))
   (au (aD (uv 2)))))),λB Q h r=>?_])
 let#[R,h,w,ls,y,x,rfl,m,t,q]:=h;ext;refine#[by decide +kernel,R,h,w,ls,rfl,m,?_];ext;refine#[by decide +kernel,R,h,w,ls,rfl,m,?_];ext;refine#[_,_,_,rfl,.two _ _ rfl rfl,?_];rw[t];ext;refine#[yZ ls,by rw[AN,lM0,dN];lia,?_];refine cj (λi n=>i<=ls.length/\∃ s o b,n=[some (.fz (plD a R h w ls)),some (.fz (pD y x)),some (.fz (.int (nO h w ls y x i))),fo s,fo o,fo b]) #[by lia,none,none,none,rfl] ?_ ?_
 .rintro i d n hd ⟨C,s,o,b,rfl⟩;let#[l,c,r,v,rfl]:=Dc hd;have lt:=cZ r;have u:c=cat h w ls i:=by
   have:=w5 (h:=h) (w:=w) (ls:=ls) (k:=i) (by lia);rw[this] at v;exact(fS v).symm
  subst u;delta cD;ext;refine#[_,_,_,rfl,.two _ _ rfl rfl,?_];have D:ls.getD i .r=l:=by rw[lx,r];rfl
  have e:nO h w ls y x (i + 1)=nO h w ls y x i + (if inD (cat h w ls i).1 (cat h w ls i).2 (pD y x) then l.n else 0):=by
   show _ + kd h w ls y x i=_;delta kd;rw[D]
  cases z:inD (cat h w ls i).1 (cat h w ls i).2 (pD y x)
  .ext;rw[z] at e;exact#[lt,some _,some _,some _,by rw[e,if_neg (by decide),Int.add_zero];rfl]
  .ext;rw[z] at e;cases l
   .ext;exact#[lt,some _,some _,some _,by rw[e,if_pos rfl];rfl]
   .ext;exact#[lt,some _,some _,some _,by rw[e,if_pos rfl];rfl]
   .ext;exact#[lt,some _,some _,some _,by rw[e,if_pos rfl];rfl]
 .rintro n ⟨C,s,o,b,rfl⟩;rw[xn,lY,AN,lM0,dN,show min ls.length (ls.length + 1)=ls.length by lia];ext;exact q
noncomputable def cY (h:Int):List Lt->Int->Int
 | [],_=>1
 | l::ls,y=>if l=.r then cY (nh l h) ls y else (if 2 * (y / 2) + 1 < h then 1 else 2) * cY (nh l h) ls (y / 2)
noncomputable def cX (w:Int):List Lt->Int->Int
 | [],_=>1
 | l::ls,x=>if l=.p then cX (nw l w) ls x else (if 2 * (x / 2) + 1 < w then 1 else 2) * cX (nw l w) ls (x / 2)
theorem FF{d n:Int}{c:Int×Int}(h:c∈dD d n):c.1 / 2=d/\c.2=if 2 * (c.1 / 2) + 1 < n then 1 else 2:=by
 delta dD at h;split at h
 .rename_i e;simp -iota only[cm,ey,or_false] at h;rcases h with rfl | rfl
  .grind
  .grind
 .simp_all
theorem BO{y n:Int}(h:y < n):∃ m,(y,m)∈dD (y / 2) n:=by
 delta dD;split
 .rename_i e;by_cases z:y=2 * (y / 2)
  .exact#[1,by rw[cm];exact .inl (Sk z rfl)]
  .exact#[1,by grind]
 .rename_i e;exact#[2,by rw[cm];exact .inl (Sk (by show y=_;lia) rfl)]
theorem Gn:∀ (ls:List Lt) (h f:Int),∀ p∈ayR h ls f,p.2=cY h ls p.1
 | [],h,f,p,b=>by
  simp -iota only[ayR,cm,ey,or_false] at b;subst b;rfl
 | l::ls,h,f,p,b=>by
  simp -iota only[ayR,lH,kv] at b;let#[d,hd,c,a,rfl]:=b;have g:=Gn ls (nh l h) f d hd;delta c7 at a;unfold cY;by_cases e:l=.r
  .rw[if_pos e] at a ⊢;simp -iota only[cm,ey,or_false] at a;subst a;show 1 * d.2=_;rw[UY,g]
  .rw[if_neg e] at a ⊢;let#[i,j]:=FF a;show c.2 * d.2=_;rw[g,i,j,i]
theorem Gp:∀ (ls:List Lt) (w f:Int),∀ p∈axR w ls f,p.2=cX w ls p.1
 | [],w,f,p,b=>by
  simp -iota only[axR,cm,ey,or_false] at b;subst b;rfl
 | l::ls,w,f,p,b=>by
  simp -iota only[axR,lH,kv] at b;let#[d,hd,c,a,rfl]:=b;have g:=Gp ls (nw l w) f d hd;delta c8 at a;unfold cX;by_cases e:l=.p
  .rw[if_pos e] at a ⊢;simp -iota only[cm,ey,or_false] at a;subst a;show 1 * d.2=_;rw[UY,g]
  .rw[if_neg e] at a ⊢;let#[h,i]:=FF a;show c.2 * d.2=_;rw[g,h,i,h]
theorem Ay:∀ (ls:List Lt) (h y:Int),0<=y->y < h->∃ d m,0<=d/\d < fh h ls/\(y,m)∈ayR h ls d
 | [],h,y,g,f=>#[y,1,g,f,by simp -iota [ayR]]
 | l::ls,h,y,g,f=>by
  by_cases e:l=.r
  .let#[d,m,a,b,c]:=Ay ls (nh l h) y g (by delta nh;rw[if_pos e];exact f);refine#[d,1 * m,a,b,?_];simp -iota only[ayR,lH,kv];exact#[(y,m),c,(y,1),by delta c7;rw[if_pos e];exact .head _,rfl]
  .let#[d,m,a,b,c]:=Ay ls (nh l h) (y / 2) (by lia) (by delta nh;rw[if_neg e];lia);let#[n,i]:=BO (y:=y) (n:=h) f;refine#[d,n * m,a,b,?_];simp -iota only[ayR,lH,kv];exact#[(y / 2,m),c,(y,n),by delta c7;rw[if_neg e];exact i,rfl]
theorem Az:∀ (ls:List Lt) (w x:Int),0<=x->x < w->∃ d m,0<=d/\d < fwd w ls/\(x,m)∈axR w ls d
 | [],w,x,g,f=>#[x,1,g,f,by simp -iota [axR]]
 | l::ls,w,x,g,f=>by
  by_cases e:l=.p
  .let#[d,m,a,b,c]:=Az ls (nw l w) x g (by delta nw;rw[if_pos e];exact f);refine#[d,1 * m,a,b,?_];simp -iota only[axR,lH,kv];exact#[(x,m),c,(x,1),by delta c8;rw[if_pos e];exact .head _,rfl]
  .let#[d,m,a,b,c]:=Az ls (nw l w) (x / 2) (by lia) (by delta nw;rw[if_neg e];lia);let#[n,h]:=BO (y:=x) (n:=w) f;refine#[d,n * m,a,b,?_];simp -iota only[axR,lH,kv];exact#[(x / 2,m),c,(x,n),by delta c8;rw[if_neg e];exact h,rfl]
noncomputable def cpF (h w:Int)(ls:List Lt)(y x:Int):Int:=cY h ls y * cX w ls x
theorem vW{h w:Int}{ls:List Lt}{y x:Int}:∀ p∈shF h w ls ls.length y x,p.2.2=cpF h w ls p.1 p.2.1:=by
 intro p a;delta shF crs at a;rw[hG,lH] at a;let#[d,hd,a]:=a;let#[q,b,rfl]:=kv.mp a;show d.2 * q.2=cY h ls d.1 * cX w ls q.1;rw[Gn ls h y d hd,Gp ls w x q b]
theorem DH{h w:Int}{ls:List Lt}{y x:Int}(c:0<=y)(e:y < h)(d:0<=x)(f:x < w):∃ a b,InC h w ls ls.length a b/\∃ p∈shF h w ls ls.length a b,p.1=y/\p.2.1=x:=by
 let#[a,m,o,q,l]:=Ay ls h y c e;let#[b,n,k,b2,j]:=Az ls w x d f;let#[i,g]:=Ap (ls:=ls) (h:=h) (w:=w) (cb ls.length);rw[hG] at i g;refine#[a,b,#[o,by simp_all,k,by simp_all],(y,x,m * n),?_,rfl,rfl];delta shF crs;rw[hG,lH];exact#[_,l,kv.mpr #[_,j,rfl]]
noncomputable def cpL (h w:Int)(ls:List Lt)(L:List (Int×Int)):List PM:=L.flatMap λq=>shF h w ls ls.length q.1 q.2
noncomputable def cpM (h w:Int)(ls:List Lt):MP:=mkM (cpL h w ls (cN h w ls).pl)
theorem BJ{h w:Int}{ls:List Lt}{y x:Int}(g:Good h w ls)(f:cP h w)(e:ls.length<=10):(y,x)∈(cN h w ls).pl↔InC h w ls ls.length y x:=by
 rw[tw (BK g f e).b];delta cN;dsimp only;constructor
 .rintro⟨a,b,c,d⟩;exact#[a,by lia,c,by lia]
 .rintro⟨a,b,c,d⟩;exact#[a,by lia,c,by lia]
theorem Fu{h w:Int}{ls:List Lt}{y x:Int}(g:Good h w ls)(k:cP h w)(d:ls.length<=10)(i:0<=y)(m:y < h)(j:0<=x)(o:x < w):getM (cpM h w ls) y x=some (cpF h w ls y x):=by
 refine zL (f:=cpF h w ls) (λq r=>?_) (λy x n h=>by simp -iota [getM] at h) y x (.inl ?_)
 .let#[c,_,t]:=lH.mp r;exact vW q t
 .let#[a,b,l,p,s,e]:=DH (ls:=ls) i m j o;exact#[p,lH.mpr #[(a,b),(BJ g k d).mpr l,s],e]
theorem tm{a b h w:Int}(e:1<=a)(d:1<=b)(h1:a<=h)(c:b<=w)(m:h * w<=512):a.toNat * b.toNat<=512:=by
 have g:a * b<=h * w:=Tv h1 c (by lia) (by lia);have f:((a.toNat * b.toNat:Nat):Int)=a * b:=by rw[Int.natCast_mul,Va (by lia),Va (by lia)]
 lia
theorem Iq{h w:Int}{ls:List Lt}(g:Good h w ls)(a:cP h w):(cN h w ls).pl.length<=512:=by
 let#[e,d,c,b]:=dQ (k:=ls.length) g a.h1 a.w1 (cb _);show (plc _ _ _ _ _).length<=512;rw[rn];exact tm e d c b a.m
theorem fK{h w:Int}{ls:List Lt}{y x:Int}(a:cP h w)(g:Good h w ls)(hk:k<=ls.length)(c:InC h w ls k y x):(shF h w ls k y x).length<=4096:=by
 have e:=vX a g (eA k) hk c;rw[DI] at e;have p:=(n9 (ls.take k) h w y x).length_eq;delta shF;lia
def Ir (a:Ad):S3:=λΓ Q=>∃ (R:Rl) (h w:Int) (ls:List Lt),Γ=[some (.fz (plD a R h w ls))]/\cP h w/\Good h w ls/\ls.length<=10/\Q (.fz (.mp (cpM h w ls))) Γ
theorem fP(T:Txt K mg a):aM P w K mg base CX0 7 a.oX a.mY ["plan"] (sp3 K 1 (Ir a)):=by
 refine ok3 T.a9.F mO (hbody:=λM A v s H E r=>#[_,_,(ag (aI (i:=1) mO.nd rfl (cv rfl) (ar (ou T) r.dn T.dg.m T.dg.F.kp T.dg.b (Yj (aA (P3.opd (cz (bv 0) T.aW T.mV (mU T) r.dn T.jL.b)) WZ) af)))
   (au (aD (bQ (Pq r) T.z_dict (Yj (sO rfl (bR (p3v 1)) fE (λ_ _ _ _ _=>(aX (i:=0) fE.nd rfl (cv rfl))) (λ_ _ _ _ _=>(bR (ar (sR T) r.dn T.fH.m T.fH.F.kp T.fH.b (Yj (p3v 2) (Yj (cz (bv 2) T.aW T.fU (fR T) r.dn T.eL.b) (Yj (p3v 0) af)))))) (λ_ _ _ _ _=>(aX (i:=1) fE.nd rfl (cv rfl))) (λ_ _ _ _ _=>(p3v 1))) af))))),λF Q h U=>?_])
 let#[R,h,w,b,rfl,o,g,l,q]:=h;have N:(pts h w b).length<=31:=eH (jV b.length) (by lia);ext;refine#[by decide +kernel,R,h,w,b,rfl,l,?_];have J:(pts h w b).map Pt.dd=(cN h w b).dd::((pts h w b).drop 1).map Pt.dd:=rfl;rw[J];ext;refine#[cN h w b,rfl,(BK g o l).b,?_];have L:=Iq g o;have u:=λ(q:Int×Int) (t:q∈(cN h w b).pl)=>(BJ (y:=q.1) (x:=q.2) g o l).mp t;delta cpM at q;generalize (cN h w b).pl=C at L u q ⊢;ext;refine fB (λk n e=>n=(cpL h w b (C.take k)).map pmD/\∃ s m,e=[fo s,fo m,some (.fz (plD a R h w b))]) #[rfl,none,none,rfl] ?_ ?_
 .rintro k d n e hd ⟨rfl,s,m,rfl⟩;let#[c,z,rfl]:=c6 hd;have lk:=cZ z;have B:=u c (ek z);ext;refine#[by decide +kernel,R,h,w,b,rfl,l,?_];ext;refine#[R,h,w,b,b.length,c.1,c.2,rfl,o,g,l,cb _,B,?_];have G:=fK o g (cb _) B;have tl:(cpL h w b (C.take k)).length<=k * 4096:=by
   have:=tY (f:=λq:Int×Int=>shF h w b b.length q.1 q.2) (c:=4096) (xs:=C.take k) λq t=>fK o g (cb _) (u q (Oz t));delta cpL;rw[ew] at this;exact eH this (SN _ (xr _ _))
  generalize I:shF h w b b.length c.1 c.2=S at G;ext;refine#[λj n e=>n=(cpL h w b (C.take k)++S.take j).map pmD/\∃ m,e=[some (.fz (qD c)),fo m,some (.fz (plD a R h w b))],#[by simp,m,rfl],?_,?_]
  .rintro j d n e hd ⟨rfl,m,rfl⟩;let#[p,D,rfl]:=c6 hd;have O:=cZ D;ext;refine#[by rw[lM0,dV,ew,ea];lia,?_,some _,rfl];rw[take_snoc D];simp -iota only[er,fq];rfl
  .rintro n e ⟨rfl,m,rfl⟩;refine#[?_,some _,m,rfl];rw[show S.take (Qg pmD S).length=S by rw[lM0,hG]];delta cpL;rw[j0 z,I]
 .rintro n e ⟨rfl,s,m,rfl⟩;rw[show C.take (Qg qD C).length=C by simp_all];have tl:(cpL h w b C).length<=C.length * 4096:=tY (f:=λq:Int×Int=>shF h w b b.length q.1 q.2) λq t=>fK o g (cb _) (u q t);ext;exact#[by rw[lM0,ea];lia,_,rfl,by lia,q]
structure Inp (h w y x:Int):Prop where
 y0:0<=y
 y1:y < h
 x0:0<=x
 x1:x < w
theorem Inp.c{h w y x:Int}{ls:List Lt}(i:Inp h w y x):InC h w ls 0 y x:=by
 constructor <;> first | exact i.y0 | exact i.x0 | (rw[cB];first | exact i.y1 | exact i.x1)
def Pg (a:Ad):S3:=λΓ Q=>∃ (R:Rl) (h w:Int) (ls:List Lt) (y x:Int),Γ=[some (.fz (plD a R h w ls)),some (.fz (pD y x))]/\cP h w/\Good h w ls/\ls.length<=10/\Inp h w y x/\Q (.fz (.int (cpF h w ls y x))) Γ
theorem va(T:Txt K mg a):aM P w K mg base CX0 8 a.lJ a.p_ ["plan","place"] (sp3 K 2 (Pg a)):=by
 refine ok3 T.dh.F uS (hbody:=λj A d s H E e=>#[_,_,(ag (c_ (ar (ij T) e.dn T.aL.m T.aL.F.kp T.aL.b (Yj (p3v 0) (aa WZ (Yj (p3v 1) af)))))
   (au (aD (uZ e (P3.opd (ar (fP T) e.dn T.a9.m T.a9.F.kp T.a9.b (Yj (p3v 0) af))) (bv 1))))),λi Q h k=>?_])
 let#[R,h,w,ls,y,x,rfl,f,g,c,b,q]:=h;ext;refine#[R,h,w,ls,0,y,x,rfl,c,eA _,b.y0,(b.c (ls:=ls)).y1,b.x0,(b.c (ls:=ls)).x1,?_];ext;refine#[R,h,w,ls,rfl,f,g,c,?_];ext;exact#[_,Fu g f c b.y0 b.y1 b.x0 b.x1,q]
theorem vC:∀ {ls:List Lt} {h w y x:Int},Good h w ls->1<=h->1<=w->Inp h w y x->(bk h w ls y x).1<=ls.length/\InC h w ls (bk h w ls y x).1 (bk h w ls y x).2.1 (bk h w ls y x).2.2
 | [],h,w,y,x,_,_,_,i=>#[cb _,#[i.y0,i.y1,i.x0,i.x1]]
 | l::ls,h,w,y,x,g,n,k,i=>by
  let#[m,p2,_,_]:=mq g.1 n k;have f:=i.y0;have o:=i.y1;have j:=i.x0;have p:=i.x1;by_cases c:y < nh l h/\x < nw l w
  .let#[a,b]:=vC (ls:=ls) g.2 m p2 #[f,c.1,j,c.2];rw[bk,if_pos c];exact#[by simp_all,#[b.y0,b.y1,b.x0,b.x1]]
  .rw[bk,if_neg c];have r:h<=2 * nh l h:=by delta nh;split <;> lia
   have q:w<=2 * nw l w:=by delta nw;split <;> lia
   have e:0<=y - (if nh l h<=y then nh l h else 0)/\y - (if nh l h<=y then nh l h else 0) < nh l h:=by split <;> lia
   have d:0<=x - (if nw l w<=x then nw l w else 0)/\x - (if nw l w<=x then nw l w else 0) < nw l w:=by split <;> lia
   refine#[by simp_all,#[e.1,?_,d.1,?_]]
   .rw[kq,cB];exact e.2
   .rw[kq,cB];exact d.2
noncomputable def shB (h w:Int)(ls:List Lt)(y x:Int):List PM:=shF h w ls (bk h w ls y x).1 (bk h w ls y x).2.1 (bk h w ls y x).2.2
def Pw (a:Ad):S3:=λΓ Q=>∃ (R:Rl) (h w:Int) (ls:List Lt) (y x:Int),Γ=[some (.fz (plD a R h w ls)),some (.fz (pD y x))]/\cP h w/\Good h w ls/\ls.length<=10/\Inp h w y x/\Q (.fr (.lst ((shB h w ls y x).map λp=>pD p.1 p.2.1))) Γ
theorem nK(T:Txt K mg a):aM P w K mg base CX0 7 a.jD a.nQ ["plan","place"] (sp3 K 2 (Pw a)):=by
 refine ok3 T.bu.F aQ (hbody:=λG A u s H E o=>#[_,_,(ag (c_ (ar (ij T) o.dn T.aL.m T.aL.F.kp T.aL.b (Yj (p3v 0) (aa WZ (Yj (p3v 1) af)))))
   (ag (bW (is:=[2,3,4,5,6,7]) (ar (sS T) o.dn T.fj.m T.fj.F.kp T.fj.b (Yj (p3v 0) (Yj (p3v 1) af))) (aj (aq (i:=2) aQ.nd rfl (cv rfl)) (aj (aq (i:=3) aQ.nd rfl (cv rfl)) (aj (aq (i:=4) aQ.nd rfl (cv rfl)) (aj (aq (i:=5) aQ.nd rfl (cv rfl)) (aj (aq (i:=6) aQ.nd rfl (cv rfl)) (aj (aq (i:=7) aQ.nd rfl (cv rfl)) aO)))))) rfl)
   (ag (bW (is:=[8,9]) (p3v 1) (aj (aq (i:=8) aQ.nd rfl (cv rfl)) (aj (aq (i:=9) aQ.nd rfl (cv rfl)) aO)) rfl)
   (ag (aI (i:=10) aQ.nd rfl (cv rfl) (k9 (aP (kb o) (bv 3) (P3.opd bE) (aR _)) (p3v 2) (aZ (bv 2) WZ)))
   (au (aD (jW rfl (bR (ar (sR T) o.dn T.fH.m T.fH.F.kp T.fH.b (Yj (p3v 0) (Yj (p3v 10) (Yj (aF (ab (cy (bv 8) (bv 4)) (ab (cy (bv 9) (bv 5)) ah))) af))))) je (λ_ _ _ _ _=>(fA (is:=[0,1]) (aj (aq (i:=0) je.nd rfl (cv rfl)) (aj (aq (i:=1) je.nd rfl (cv rfl)) aO)) rfl)) (λ_ _ _ _ _=>(p3v 0))))))))),λz Q h I=>?_])
 let#[R,h,w,ls,y,x,rfl,n,g,m,b,q]:=h;ext;refine#[R,h,w,ls,0,y,x,rfl,m,eA _,b.y0,(b.c (ls:=ls)).y1,b.x0,(b.c (ls:=ls)).x1,?_];ext;refine#[R,h,w,ls,y,x,rfl,n,g,m,#[b.y0,b.y1,b.x0,b.x1],λp C B=>?_];have D:=C.r y x B;let#[c,b2]:=vC g n.h1 n.w1 b;delta shB at q;rw[<- D] at c b2 q;have l:=fK n g c b2;delta Pt.dd;unfold Pt.bk at q c b2 l;dsimp only at q c b2 l;ext;cases e:(p.wd == jx "coarse")
 case' false=>
  rw[e,if_neg (by decide)] at q c b2 l;ext;rw[show (p.s:Int) + 1=((p.s + 1:Nat):Int) by lia];generalize p.s + 1=k at q c b2 l ⊢
 case' true=>
  rw[e,if_pos rfl] at q c b2 l;ext;generalize p.s=k at q c b2 l ⊢
 all_goals
  refine#[sl2 (by decide),R,h,w,ls,k,y - p.t,x - p.l,rfl,n,g,m,c,b2,?_];generalize shF h w ls k (y - p.t) (x - p.l)=S at q l ⊢;ext;refine#[by rw[lM0,ea];lia,jE (λj r f=>r=(S.take j).map (λp=>pD p.1 p.2.1)/\∃ s t,f=[fo s,fo t]) #[rfl,none,none,rfl] ?_ ?_]
  .rintro j d r f hd hk ⟨rfl,s,t,rfl⟩;let#[v,F,rfl]:=c6 hd;ext;exact#[by rw[take_snoc F,er];rfl,some _,some _,rfl]
  .rintro r f hk ⟨rfl,s,t,rfl⟩;rw[show S.take (Qg pmD S).length=S by simp_all];ext;exact q
theorem z_ {l:Lt}{ls:List Lt}{h w y x:Int}:∀ k:Nat,nO h w (l::ls) y x (k + 1)=(if inD h w (pD y x) then l.n else 0) + nO (nh l h) (nw l w) ls y x k
 | 0=>by
  show (0:Int) + kd h w (l::ls) y x 0=_ + 0;delta kd;rw[cB];show 0 + (if inD h w (pD y x)=true then l.n else 0)=_;lia
 | k + 1=>by
  show nO h w (l::ls) y x (k + 1) + kd h w (l::ls) y x (k + 1)=_ + (nO (nh l h) (nw l w) ls y x k + kd (nh l h) (nw l w) ls y x k);rw[z_ k];have e:kd h w (l::ls) y x (k + 1)=kd (nh l h) (nw l w) ls y x k:=rfl;rw[e];lia
theorem EZ:∀ {ls:List Lt} {h w y x:Int},Good h w ls->1<=h->1<=w->¬ (y < h/\x < w)->nO h w ls y x ls.length=0
 | [],_,_,_,_,_,_,_,_=>rfl
 | l::ls,h,w,y,x,g,i,c,f=>by
  let#[d,p2,k,j]:=mq g.1 i c;rw[eh,z_,EZ g.2 d p2 (by lia)];have:inD h w (pD y x)=false:=by
   cases e:inD h w (pD y x) with
   | false=>rfl
   | true=>let#[_,a,_,b]:=Qz e;exact absurd #[a,b] f
  rw[this];rfl
noncomputable def sgl:List Lt->Int
 | []=>0
 | l::ls=>l.n + sgl ls
theorem wR:∀ {ls:List Lt} {h w y x:Int},Good h w ls->1<=h->1<=w->Inp h w y x->nO h w ls y x ls.length=sgl (ls.take (bk h w ls y x).1)
 | [],_,_,_,_,_,_,_,_=>rfl
 | l::ls,h,w,y,x,g,d,b,i=>by
  let#[a,p2,_,_]:=mq g.1 d b;rw[eh,z_,Ie i.y0 i.y1 i.x0 i.x1];by_cases c:y < nh l h/\x < nw l w
  .rw[wR g.2 a p2 #[i.y0,c.1,i.x0,c.2],bk,if_pos c]
   rfl
  .rw[EZ g.2 a p2 c,bk,if_neg c]
   rfl
theorem uQ:∀ ls:List Lt,0<=sgl ls/\sgl ls<=2 * ls.length
 | []=>by simp -iota [sgl]
 | l::ls=>by
  have:=uQ ls;rw[sgl,eh];cases l <;> simp only[Lt.n] <;> lia
theorem BU:∀ {ls:List Lt} {h w:Int},Good h w ls->1<=h->1<=w->(bk h w ls 0 0).1=ls.length
 | [],_,_,_,_,_=>rfl
 | l::ls,h,w,g,c,a=>by
  let#[b,p2,_,_]:=mq g.1 c a;rw[bk,if_pos #[by lia,by lia],eh];rw[BU g.2 b p2]
theorem rV:∀ (ls:List Lt) (k:Nat),sgl (ls.take k)<=sgl ls
 | _,0=>by rw[UW];exact(uQ _).1
 | [],k + 1=>pF _
 | l::ls,k + 1=>by
  have:=rV ls k;rw[PU,sgl,sgl];lia
noncomputable def lat (h w:Int)(ls:List Lt)(y x:Int):Int:=sgl ls - sgl (ls.take (bk h w ls y x).1)
theorem OB{h w y x:Int}{ls:List Lt}(d:ls.length<=10):0<=lat h w ls y x/\lat h w ls y x<=20:=by
 have a:=rV ls (bk h w ls y x).1;have b:=uQ ls;have c:=uQ (ls.take (bk h w ls y x).1);delta lat;lia
def OA (a:Ad):S3:=λΓ Q=>∃ (R:Rl) (h w:Int) (ls:List Lt) (y x:Int),Γ=[some (.fz (plD a R h w ls)),some (.fz (pD y x))]/\cP h w/\Good h w ls/\ls.length<=10/\Inp h w y x/\Q (.fz (.int (lat h w ls y x))) Γ
theorem iT(T:Txt K mg a):aM P w K mg base CX0 4 a.jC a.iU ["plan","place"] (sp3 K 2 (OA a)):=by
 refine ok3 T.bI.F og (hbody:=λp A e s H E k=>#[_,_,(au (aD (cy (P3.opd (l_ (bv 0) T.aW T.ju (jr T) k.dn T.gj.b (Yj (aF (ab ae (ab ae ah))) af))) (P3.opd (l_ (bv 0) T.aW T.ju (jr T) k.dn T.gj.b (Yj (p3v 1) af)))))),λm Q h r=>?_]);let#[R,h,w,j,y,x,rfl,i,g,c,b,q]:=h;have f:=i.h1;have d:=i.w1;have n:Inp h w 0 0:=#[by lia,by lia,by lia,by lia];have l:=wR g f d n;rw[BU g f d,hG] at l;have o:=wR g f d b;delta lat at q;rw[<- l,<- o] at q;ext;refine#[by decide +kernel,sl2 (by decide),R,h,w,j,0,0,rfl,c,Ie (by lia) (by lia) (by lia) (by lia),?_];ext;refine#[by decide +kernel,R,h,w,j,y,x,rfl,c,Ie b.y0 b.y1 b.x0 b.x1,?_];ext;exact q
theorem Jm{h w:Int}{ls:List Lt}{y x:Int}(hk:k<=ls.length)(e:InC h w ls k y x):∀ p∈shF h w ls k y x,Inp h w p.1 p.2.1:=by
 let#[c,b]:=rT (eA k) hk e;rw[cB,Md] at c b;intro p a;delta shF crs at a;let#[d,hd,a]:=lH.mp a;let#[q,f,rfl]:=kv.mp a;let#[j,i,_,_]:=c.lo d hd;let#[g,b2,_,_]:=b.lo q f;exact#[j,i,g,b2]
theorem ME:∀ (ls:List Lt) (h y:Int),0<=cY h ls y/\cY h ls y<=2 ^ ls.length
 | [],_,_=>by simp -iota [cY]
 | l::ls,h,y=>by
  rw[eh,S7];unfold cY;split
  .have:=ME ls (nh l h) y;lia
  .have:=ME ls (nh l h) (y / 2);split <;> lia
theorem MF:∀ (ls:List Lt) (h y:Int),0<=cX h ls y/\cX h ls y<=2 ^ ls.length
 | [],_,_=>by simp -iota [cX]
 | l::ls,h,y=>by
  rw[eh,S7];unfold cX;split
  .have:=MF ls (nw l h) y;lia
  .have:=MF ls (nw l h) (y / 2);split <;> lia
theorem Fx{h w y x:Int}{ls:List Lt}(d:ls.length<=10):0<=cpF h w ls y x/\cpF h w ls y x<=4194304:=by
 have a:=ME ls h y;have b:=MF ls w x;have c:=Dx d;delta cpF;refine#[W2 a.1 b.1,?_];exact Q4 (Tv (Q4 a.2 c) (Q4 b.2 c) b.1 (by decide)) (by decide)
noncomputable def cpS (h w:Int)(ls:List Lt)(L:List PM):Li0:=L.map λp=>cpF h w ls p.1 p.2.1
noncomputable def wgt (h w:Int)(ls:List Lt)(y x:Int):Int:=(cpS h w ls (shB h w ls y x)).sum * 2 ^ (2 * lat h w ls y x).toNat
theorem Fw{h w:Int}{ls:List Lt}(a:ls.length<=10){L:List PM}(c:L.length<=4096):uO (cpS h w ls L):=by
 refine#[by delta cpS;rw[lM0];lia,λn b=>?_];let#[p,_,rfl]:=kv.mp b;have:=Fx (h:=h) (w:=w) (y:=p.1) (x:=p.2.1) a;lia
theorem BL {h w:Int}{ls:List Lt}(c:ls.length<=10):∀ {L:List PM},0<=(cpS h w ls L).sum/\(cpS h w ls L).sum<=4194304 * L.length
 | []=>by simp -iota [cpS]
 | p::L=>by
  have a:=Fx (h:=h) (w:=w) (y:=p.1) (x:=p.2.1) c;have b:=BL (h:=h) (w:=w) c (L:=L);have e:cpS h w ls (p::L)=cpF h w ls p.1 p.2.1::cpS h w ls L:=rfl;rw[e,TU,eh];lia
def AI (h w:Int)(ls:List Lt)(m:MP):Prop:=∀ y x,Inp h w y x->getM m y x=some (cpF h w ls y x)
def Nl (a:Ad):S3:=λΓ Q=>∃ (R:Rl) (h w:Int) (ls:List Lt) (m:MP) (y x:Int),Γ=[some (.fz (plD a R h w ls)),some (.fz (.mp m)),some (.fz (pD y x))]/\cP h w/\Good h w ls/\ls.length<=10/\AI h w ls m/\Inp h w y x/\Q (.fz (.int (wgt h w ls y x))) Γ
theorem qR(T:Txt K mg a):aM P w K mg base CX0 8 a.ix a.gu ["plan","counts","place"] (sp3 K 3 (Nl a)):=by
 refine ok3 T.bM.F ke (hbody:=λF A l s H E o=>#[_,_,(au (aD (Ep (P3.opd (aN (FW rfl) T.z_sum (Yj (jW rfl (bR (ar (nK T) o.dn T.bu.m T.bu.F.kp T.bu.b (Yj (p3v 0) (Yj (p3v 2) af)))) iC (λ_ _ _ _ _=>(aX (i:=0) iC.nd rfl (cv rfl))) (λ_ _ _ _ _=>(uZ o (bv 1) (bv 0)))) af))) (P3.opd (bO WZ (P3.opd (ar (iT T) o.dn T.bI.m T.bI.F.kp T.bI.b (Yj (p3v 0) (Yj (p3v 2) af))))))))),λB Q h J=>?_]);let#[R,h,w,e,m,y,x,rfl,f,g,b,C,n,q]:=h;let#[z,b2]:=vC g f.h1 f.w1 n;have r:(shB h w e y x).length<=4096:=fK f g z b2;have t:∀ p∈shB h w e y x,Inp h w p.1 p.2.1:=Jm z b2;delta wgt at q;ext;refine#[R,h,w,e,y,x,rfl,f,g,b,n,?_];generalize shB h w e y x=S at r t q ⊢;ext;refine#[by rw[lM0,ea];lia,jE (λj k c=>k=(cpS h w e (S.take j)).map D.int/\∃ s,c=[fo s,some (.fz (.mp m))]) #[rfl,none,rfl] ?_ ?_]
 .rintro j d k c hd hk ⟨rfl,s,rfl⟩;let#[v,u,rfl]:=c6 hd;ext;refine#[_,C v.1 v.2.1 (t v (ek u)),?_,some _,rfl];delta cpS;rw[take_snoc u,er,er];rfl
 .rintro k c hk ⟨rfl,s,rfl⟩;rw[show S.take (Qg (λp:PM=>pD p.1 p.2.1) S).length=S by rw[lM0,hG]];ext;refine#[_,rfl,Fw b r,?_];ext;refine#[R,h,w,e,y,x,rfl,f,g,b,n,?_];have I:=OB (h:=h) (w:=w) (y:=y) (x:=x) b;have G:=BL (h:=h) (w:=w) b (L:=S);ext;exact#[cm2,#[by lia,by lia,by lia],q]
def Nj (a:Ad):S3:=λΓ Q=>∃ (R:Rl) (h w:Int) (ls:List Lt) (y x:Int),Γ=[some (.fz (plD a R h w ls)),some (.fz (pD y x))]/\cP h w/\Good h w ls/\ls.length<=10/\Inp h w y x/\Q (.fz (.int (wgt h w ls y x))) Γ
theorem u_(T:Txt K mg a):aM P w K mg base CX0 9 a.lI a.p9 ["plan","place"] (sp3 K 2 (Nj a)):=by
 refine ok3 T.df.F uR (hbody:=λl A d s H E f=>#[_,_,(au (aD (ar (qR T) f.dn T.bM.m T.bM.F.kp T.bM.b (Yj (p3v 0) (Yj (ar (fP T) f.dn T.a9.m T.a9.F.kp T.a9.b (Yj (p3v 0) af)) (Yj (p3v 1) af)))))),λj Q h m=>?_]);let#[R,h,w,e,y,x,rfl,c,g,b,k,q]:=h;ext;refine#[R,h,w,e,rfl,c,g,b,?_];ext;exact#[R,h,w,e,_,y,x,rfl,c,g,b,λy x i=>Fu g c b i.y0 i.y1 i.x0 i.x1,k,q]
def LJ:S3:=λΓ Q=>∃ (R:Rl) (h w:Int) (ls:List Lt) (y x:Int),Γ=[some (.fz (nZ R h w ls)),some (.fz (.int y)),some (.fz (.int x))]/\cP h w/\Good h w ls/\ls.length<=10/\Inp h w y x/\Q (.fr (.lst ((shB h w ls y x).map λp=>pD p.1 p.2.1))) Γ
theorem rB{a y:Int}:a * (if a<=y then 1 else 0)=if a<=y then a else 0:=by
 by_cases h:a<=y
 .simp_all
 .rw[if_neg h,if_neg h,Int.mul_zero]
theorem qU(T:Txt K mg a):aM P w K mg base CX0 4 a.lO a.km ["_law_told","_law_y","_law_x"] (sp3 K 3 LJ):=by
 refine ok3 T.eJ.F cQ (hbody:=λa4 A G s H E L=>#[_,_,(ag (aI (i:=3) cQ.nd rfl (cv rfl) (mR (ar (cR T) L.dn T.aK.m T.aK.F.kp T.aK.b (Yj (p3v 0) af))))
   (ag (dY ic rfl (b_ T.z_range (ab (aN (kr) T.z_len (Yj (aA (bv 0) WZ) af)) ah)) (aX (i:=4) cQ.nd rfl (cv rfl))
   (ag (aI (i:=5) cQ.nd rfl (cv rfl) (aA (bv 3) (P3.opd (aZ (bv 4) WZ))))
   (au (cf (P3W.pt (k8 (aP qI (bv 1) (P3.opd (aA (bv 5) WZ)) (aR _)) (iS (aP qI (bv 2) (P3.opd (aA (bv 5) WZ)) (aR _))))) (ag (aI (i:=6) cQ.nd rfl (cv rfl) (aF (ab (cy (bv 1) (P3.opd (bO (P3.opd (aA (bv 5) WZ)) (P3.opd (bQ ku T.z_int (Yj (cW qI (bv 1) (P3.opd (aA (bv 5) WZ)) (aR _)) af)))))) (ab (cy (bv 2) (P3.opd (bO (P3.opd (aA (bv 5) WZ)) (P3.opd (bQ ku T.z_int (Yj (cW qI (bv 2) (P3.opd (aA (bv 5) WZ)) (aR _)) af)))))) ah))))
   (au (aD (jW rfl (bR (ar (fQ T) L.dn T.a_.m T.a_.F.kp T.a_.b (Yj (p3v 0) (Yj (aZ (bv 4) WZ) (Yj (p3v 6) af))))) eg (λ_ _ _ _ _=>(fA (is:=[0,1]) (aj (aq (i:=0) eg.nd rfl (cv rfl)) (aj (aq (i:=1) eg.nd rfl (cv rfl)) aO)) rfl)) (λ_ _ _ _ _=>(p3v 0)))))) br))))
   (au (aD (jW rfl (bR (ar (fQ T) L.dn T.a_.m T.a_.F.kp T.a_.b (Yj (p3v 0) (Yj (aN (kr) T.z_len (Yj (aA (bv 0) WZ) af)) (Yj (aF (ab (p3v 1) (ab (p3v 2) ah))) af))))) ej (λ_ _ _ _ _=>(fA (is:=[0,1]) (aj (aq (i:=0) ej.nd rfl (cv rfl)) (aj (aq (i:=1) ej.nd rfl (cv rfl)) aO)) rfl)) (λ_ _ _ _ _=>(p3v 0))))))),λX Q h O=>?_])
 let#[R,h,w,b,y,x,rfl,e,g,o,I,q]:=h;let#[N,b2]:=vC g e.h1 e.w1 I;have f:(shB h w b y x).length<=4096:=fK e g N b2;ext;refine#[R,h,w,b,rfl,o,?_];ext;delta nZ at q ⊢;ext;rw[bJ];have h2:=e.h2;have w2:=e.w2;refine#[sl2 (by lia),by lia,by lia,cj (λk B=>k<=b.length/\y < (cat h w b k).1/\x < (cat h w b k).2/\∃ F D r,B=[some (.fz (.tup [.int h,.int w,.str R.word,.str (wy b)])),some (.fz (.int y)),some (.fz (.int x)),some (.fz (.lst ((gP h w b).map cD))),fo F,fo D,fo r]) #[eA _,by rw[cB];exact I.y1,by rw[cB];exact I.x1,none,none,none,rfl] ?_ ?_]
 .rintro k d B hd ⟨hk,t,u,F,D,r,rfl⟩;let#[lt,rfl]:=eQ hd;have lk:k < b.length:=by lia
  obtain⟨l,O⟩:∃ l,b[k]?=some l:=#[_,gE0 lk];let#[c1,c2,c3,c4]:=dQ (k:=k + 1) g e.h1 e.w1 (by lia);ext;refine cA.mpr #[_,fV (k:=k + 1) (by lia),?_];delta cD;have Z:(y < (cat h w b (k + 1)).1/\x < (cat h w b (k + 1)).2)\/¬ (y < (cat h w b (k + 1)).1/\x < (cat h w b (k + 1)).2):=Decidable.em _;have z:=rG g e.h1 e.w1 O t u;ext;generalize U:cat h w b (k + 1)=C at c1 c2 c3 c4 Z z ⊢;have M:oV y C.1=decide (C.1<=y):=rfl;have V:oV x C.2=decide (C.2<=x):=rfl;by_cases a:y < C.1/\x < C.2
  .rw[M,decide_eq_false (by lia)];ext;rw[V,decide_eq_false (by lia)];ext;exact#[by lia,by rw[U];exact a.1,by rw[U];exact a.2,some _,some _,r,rfl]
  have z:=z a;delta shB at q f;rw[z] at q f N b2;dsimp only at q f N b2;by_cases W:C.1<=y
  case' pos=>rw[M,decide_eq_true W]
  case' neg=>
   have a2:C.2<=x:=by lia
   rw[M,decide_eq_false W];ext;rw[V,decide_eq_true a2]
  all_goals
   ext;rw[rB,rB,show (k:Int) + 1=((k + 1:Nat):Int) by lia];refine#[.inl #[by lia,by lia],.inl #[by lia,by lia],sl2 (by decide),R,h,w,b,k + 1,_,_,rfl,e,g,o,by lia,b2,?_];generalize shF h w b (k + 1) (y - if C.1<=y then C.1 else 0) (x - if C.2<=x then C.2 else 0)=S at q f ⊢;ext;refine#[by rw[lM0,ea];lia,jE (λj m c=>m=(S.take j).map (λp=>pD p.1 p.2.1)/\∃ s n,c=[fo s,fo n]) #[rfl,none,none,rfl] ?_ ?_]
   .rintro j d m c hd hk ⟨rfl,s,n,rfl⟩;let#[v,J,rfl]:=c6 hd;ext;exact#[by rw[take_snoc J,er];rfl,some _,some _,rfl]
   .rintro m c hk ⟨rfl,s,n,rfl⟩;rw[show S.take (Qg pmD S).length=S by rw[lM0,hG]];ext;exact q
 .rintro B ⟨hk,t,u,F,D,r,rfl⟩;have Y:(rng 0 ((b.length:Int)).toNat).length=b.length:=by rw[dP];lia
  rw[Y] at t u;have eb:=qg g e.h1 e.w1 t u;delta shB at q f;rw[eb] at q f b2;dsimp only at q f b2;ext;rw[bJ];refine#[sl2 (by lia),sl2 (by decide),R,h,w,b,b.length,y,x,rfl,e,g,o,cb _,b2,?_];generalize shF h w b b.length y x=S at q f ⊢;ext;refine#[by rw[lM0,ea];lia,jE (λj m c=>m=(S.take j).map (λp=>pD p.1 p.2.1)/\∃ s n,c=[fo s,fo n]) #[rfl,none,none,rfl] ?_ ?_]
  .rintro j d m c hd hk ⟨rfl,s,n,rfl⟩;let#[v,J,rfl]:=c6 hd;ext;exact#[by rw[take_snoc J,er];rfl,some _,some _,rfl]
  .rintro m c hk ⟨rfl,s,n,rfl⟩;rw[show S.take (Qg pmD S).length=S by rw[lM0,hG]];ext;exact q
noncomputable def mkR (H W:Nat)(f:Nat->Nat->Int):LL0:=(hV H).map λy=>(hV W).map λx=>f y x
theorem Bh{H W y:Nat}{f:Nat->Nat->Int}(h:y < H):(mkR H W f)[y]?=some ((hV W).map (f y)):=by delta mkR;rw[ef,HZ h];rfl
theorem mk_congr{H W:Nat}{f g:Nat->Nat->Int}(h:∀ y x,y < H->x < W->f y x=g y x):mkR H W f=mkR H W g:=
 IQ λy a=>IQ λx b=>h y x (FS.mp a) (FS.mp b)
theorem A7{a:Type}{n:Nat}{v:a}{g:Nat->a}:((hV n).map g).set k v=(hV n).map λi=>if i=k then v else g i:=by
 apply TK;intro i;rw[Ss,lM0,List.length_range];by_cases e:k=i
 .subst e;by_cases l:k < n
  .rw[if_pos rfl,if_pos l,ef,HZ l];simp
  .simp_all
 .rw[if_neg e,ef,ef];cases q:(hV n)[i]? with
  | none=>rfl
  | some j=>
   have:j=i:=by
    let#[_,h]:=gS0 q;simpa using h.symm
   subst this;show some (g j)=some (if j=k then v else g j);rw[if_neg (lj e)]
theorem zJ{H W y x:Nat}{n:Int}{f:Nat->Nat->Int}:(mkR H W f).set y (((hV W).map (f y)).set x n)=mkR H W λa x'=>if a=y/\x'=x then n else f a x':=by
 delta mkR;rw[A7,A7];refine IQ λi _=>?_;by_cases e:i=y
 .simp_all
 .rw[if_neg e];exact IQ λj _=>(if_neg λz=>e z.1).symm
theorem yu {f:Int->Int->Int}:∀ {L m:MP},(∀ q∈L,q.2.2=f q.1 q.2.1)->(∀ y x n,getM m y x=some n->n=f y x)->∀ y x n,getM (L.foldl i7 m) y x=some n->n=f y x
 | [],_,_,a=>a
 | q::L,m,b,a=>yu (L:=L) (m:=i7 m q) (λr c=>b r (.tail _ c)) (λy x n h=>by
  rw[wW] at h;split at h
  .rename_i e;rw[e.1,e.2];injection h with h
   rw[<- h];exact b q (.head _)
  .exact a y x n h)
structure qj (h w:Int) (ls:List Lt) (c n j:Nat) (m:MP):Prop where
 v:∀ y x z,getM m y x=some z->z=cpF h w ls y x
 s:∀ a b:Nat,InC h w ls ls.length a b->(a < n\/a=n/\b < j)->∀ p∈shF h w ls ls.length a b,(getM m p.1 p.2.1).isSome=true
 l:m.length<=4096 * (c * n + j)
theorem qj.nil{h w:Int}{ls:List Lt}{c:Nat}:qj h w ls c 0 0 []:=#[λy x z e=>by simp -iota [getM] at e,λa b _ z=>by lia,by simp]
theorem qj.go{h w:Int}{ls:List Lt}{c n:Nat}{m:MP}(d:qj h w ls c n j m)(k:(shF h w ls ls.length n j).length<=4096):qj h w ls c n (j + 1) ((shF h w ls ls.length n j).foldl i7 m):=by
 refine#[yu vW d.v,λa b i z p g=>?_,?_]
 .have:(∃ q∈shF h w ls ls.length n j,q.1=p.1/\q.2.1=p.2.1)\/(getM m p.1 p.2.1).isSome=true:=by
   by_cases e:a=n/\b=j
   .rw[e.1,e.2] at g;exact .inl #[p,g,rfl,rfl]
   .exact .inr (d.s a b i (by lia) p g)
  rw[zL (f:=cpF h w ls) vW d.v _ _ this];rfl
 .have:=zK (shF h w ls ls.length n j) m;have:=d.l;lia
theorem qj.row{h w:Int}{ls:List Lt}{n c:Nat}{m:MP}(d:qj h w ls c n c m)(g:(cat h w ls ls.length).2=c):qj h w ls c (n + 1) 0 m:=by
 refine#[d.v,λa b e z p f=>d.s a b e ?_ p f,by have:=d.l;rw[Xv];exact this];have:=e.x1;rw[g] at this;lia
theorem qj.all{h w:Int}{ls:List Lt}{c n:Nat}{m:MP}(d:qj h w ls c n 0 m)(o:(cat h w ls ls.length).1=n):AI h w ls m:=by
 intro y x e;let#[a,b,f,p,i,l,j]:=DH (ls:=ls) e.y0 e.y1 e.x0 e.x1;have s:=f.y0;have r:=f.y1;have q:=f.x0;obtain⟨a,rfl⟩:∃ k:Nat,a=k:=#[a.toNat,by lia];obtain⟨b,rfl⟩:∃ k:Nat,b=k:=#[b.toNat,by lia];have:=d.s a b f (by lia) p i;let#[z,g]:=wh.mp this;rw[l,j] at g;rw[g,d.v _ _ _ g]
theorem y3{h w y x:Int}{ls:List Lt}(g:Good h w ls)(h1:1<=h)(a:1<=w)(c:InC h w ls ls.length y x):wgt h w ls y x=(cpS h w ls (shF h w ls ls.length y x)).sum:=by
 delta wgt shB lat
 rw[qg g h1 a c.y1 c.x1,hG,Int.sub_self];show _ * 2 ^ 0=_;rw[Int.pow_zero,Int.mul_one]
noncomputable def F2 (h w:Int)(ls:List Lt)(s n j:Nat)(y x:Nat):Int:=
 if ((y:Int) < (cat h w ls ls.length).1/\(x:Int) < (cat h w ls ls.length).2)\/¬ ((y:Int) < (cat h w ls s).1/\(x:Int) < (cat h w ls s).2)\/(¬ ((y:Int) < (cat h w ls (s + 1)).1/\(x:Int) < (cat h w ls (s + 1)).2)/\(y < n\/y=n/\x < j)) then wgt h w ls y x else 1
noncomputable def F1 (h w:Int)(ls:List Lt)(n j:Nat)(y x:Nat):Int:=
 if ((y:Int) < (cat h w ls ls.length).1/\(x:Int) < (cat h w ls ls.length).2)/\(y < n\/y=n/\x < j) then wgt h w ls y x else 1
theorem Rf{h w:Int}{ls:List Lt}:F1 h w ls 0 0=λ_ _=>1:=by
 funext y x
 delta F1;rw[if_neg (by lia)]
theorem P2{h w:Int}{ls:List Lt}{n:Nat}{v:Int}(e:v=wgt h w ls n j)(c:(n:Int) < (cat h w ls ls.length).1/\(j:Int) < (cat h w ls ls.length).2){y x:Nat}:(if y=n/\x=j then v else F1 h w ls n j y x)=F1 h w ls n (j + 1) y x:=by
 by_cases z:y=n/\x=j
 .rw[if_pos z,z.1,z.2,e];delta F1;rw[if_pos #[c,by lia]]
 .rw[if_neg z];delta F1;by_cases u:((y:Int) < (cat h w ls ls.length).1/\(x:Int) < (cat h w ls ls.length).2)/\(y < n\/y=n/\x < j)
  .rw[if_pos u,if_pos #[u.1,by lia]]
  .rw[if_neg u,if_neg (λq=>u #[q.1,by lia])]
theorem M6{h w:Int}{ls:List Lt}{n c:Nat}(a:(cat h w ls ls.length).2=c){y x:Nat}:F1 h w ls n c y x=F1 h w ls (n + 1) 0 y x:=by
 delta F1;rw[a];by_cases u:((y:Int) < (cat h w ls ls.length).1/\(x:Int) < c)/\(y < n\/y=n/\x < c)
 .rw[if_pos u,if_pos #[u.1,by lia]]
 .rw[if_neg u,if_neg (λq=>u #[q.1,by lia])]
theorem M7{h w:Int}{ls:List Lt}{n:Nat}(c:(cat h w ls ls.length).1=n){y x:Nat}(a:(y:Int) < h)(b:(x:Int) < w):F1 h w ls n 0 y x=F2 h w ls 0 0 0 y x:=by
 delta F1 F2;rw[cB];by_cases u:(y:Int) < (cat h w ls ls.length).1/\(x:Int) < (cat h w ls ls.length).2
 .simp_all
 .rw[if_neg (λq=>u q.1),if_neg];rintro(q | q | q)
  .exact u q
  .exact q #[a,b]
  .lia
theorem M5{h w:Int}{ls:List Lt}{y x:Nat}:F2 h w ls ls.length 0 0 y x=wgt h w ls y x:=by
 delta F2;rw[if_pos];by_cases u:(y:Int) < (cat h w ls ls.length).1/\(x:Int) < (cat h w ls ls.length).2
 .exact .inl u
 .exact .inr (.inl u)
theorem P1{h w:Int}{ls:List Lt}{s n:Nat}{v:Int}(e:v=wgt h w ls n j)(c:¬ ((n:Int) < (cat h w ls (s + 1)).1/\(j:Int) < (cat h w ls (s + 1)).2)){y x:Nat}:(if y=n/\x=j then v else F2 h w ls s n j y x)=F2 h w ls s n (j + 1) y x:=by
 by_cases z:y=n/\x=j
 .rw[if_pos z,z.1,z.2,e];delta F2;rw[if_pos (.inr (.inr #[c,by lia]))]
 .rw[if_neg z];delta F2
  congr 1
  apply propext;refine or_congr U1 (or_congr U1 (and_congr U1 ?_));lia
theorem I9{h w:Int}{ls:List Lt}{s n:Nat}(c:(n:Int) < (cat h w ls (s + 1)).1/\(j:Int) < (cat h w ls (s + 1)).2){y x:Nat}:F2 h w ls s n j y x=F2 h w ls s n (j + 1) y x:=by
 delta F2
 congr 1
 apply propext;refine or_congr U1 (or_congr U1 #[λq=>#[q.1,by lia],λq=>#[q.1,?_]]);by_cases z:y=n/\x=j
 .exact absurd (by rw[z.1,z.2];exact c) q.1
 .lia
theorem M4{h w:Int}{ls:List Lt}{s n c:Nat}(a:(cat h w ls s).2=c){y x:Nat}:F2 h w ls s n c y x=F2 h w ls s (n + 1) 0 y x:=by
 delta F2;rw[a]
 congr 1
 apply propext;refine or_congr U1 #[?_,?_]
 .rintro(q | q)
  .exact .inl q
  .exact .inr #[q.1,by lia]
 .rintro(q | q)
  .exact .inl q
  .by_cases z:(y:Int) < (cat h w ls s).1/\(x:Int) < c
   .exact .inr #[q.1,by lia]
   .exact .inl z
theorem IZ{h w:Int}{ls:List Lt}{s n:Nat}(c:(cat h w ls s).1=n){y x:Nat}(b:(cat h w ls (s + 1)).1<=(cat h w ls s).1)(a:(cat h w ls (s + 1)).2<=(cat h w ls s).2):F2 h w ls s n 0 y x=F2 h w ls (s + 1) 0 0 y x:=by
 delta F2
 congr 1
 apply propext;refine or_congr U1 #[?_,?_]
 .rintro(q | q)
  .exact .inl λz=>q #[by lia,by lia]
  .exact .inl q.1
 .rintro(q | q)
  .by_cases z:(y:Int) < (cat h w ls s).1/\(x:Int) < (cat h w ls s).2
   .simp_all
   .exact .inl z
  .lia
theorem Aa:∀ (ls:List Lt) (h w:Int) (k:Nat),k<=ls.length->(((hs h w ls k).length + (ws h w ls k).length:Nat):Int)=sgl (ls.take k)
 | ls,_,_,0,_=>rfl
 | [],_,_,k + 1,hk=>by simp -iota at hk
 | l::ls,h,w,k + 1,hk=>by
  have a:=Aa ls (nh l h) (nw l w) k (by simpa using hk);have e:hs h w (l::ls) (k + 1)=(if (some l != some Lt.r)=true then [h] else [])++hs (nh l h) (nw l w) ls k:=by delta hs;rw[Im];rfl
  have b:ws h w (l::ls) (k + 1)=(if (some l != some Lt.p)=true then [w] else [])++ws (nh l h) (nw l w) ls k:=by delta ws;rw[Im];rfl
  rw[PU,sgl,<- a,e,b,dV,dV];cases l <;> simp [Lt.n] <;> lia
theorem Dp{h w y x:Int}{ls:List Lt}{l:Lt}(g:Good h w ls)(h1:1<=h)(a:1<=w)(e:ls[k]?=some l)(b:y < (cat h w ls k).1)(c:x < (cat h w ls k).2)(d:¬ (y < (cat h w ls (k + 1)).1/\x < (cat h w ls (k + 1)).2)) :
  wgt h w ls y x=(cpS h w ls (shF h w ls (k + 1) (y - (if (cat h w ls (k + 1)).1<=y then (cat h w ls (k + 1)).1 else 0)) (x - (if (cat h w ls (k + 1)).2<=x then (cat h w ls (k + 1)).2 else 0)))).sum * 2 ^ (2 * (sgl ls - sgl (ls.take (k + 1)))).toNat:=by
 delta wgt shB lat
 rw[rG g h1 a e b c d]
theorem kZ{k:G->NR->DM->Prop}{a:NR}{m:DM}:sG i j s3 k Γ a m=s3 { nx:=λΓ'=>Γ'[i]?=Γ[i]?/\Γ'[j]?=Γ[j]?/\kJ Γ'/\k Γ' a m,rt:=λ_ _=>False } Γ:=rfl
noncomputable def stW (R:Rl)(h w:Int)(ls:List Lt)(p pd:Addr)(c v:Int)(f e s8 s9 d b a s13:Option Sl):G:=
 [some (.fz (.tup [.int h,.int w,.str R.word,.str (wy ls)])),some (.fz (.adr p)),some (.fz (.int (((hs h w ls ls.length).length + (ws h w ls ls.length).length:Nat):Int))),some (.fz (.adr pd)),some (.fz (.int c)),some (.fz (.int v)),f,e,s8,s9,d,b,a,s13]
noncomputable def T1i:TX:=λk=>yr 1 3 (iL3 (j_ 3 tJ (f_ (bof (iO 0)) (f_ (bof (nu wN (f_ (bof (bU ix3 (bor 0) (bof (t3C (D.int 3))))) oA))) (f_ (bof (y9 (eU (iO 6) (eU (iO 7) qX)))) oA))))) (tgT [8,9])
 (λk=>N1 8 9 (rW 1 3 6 7 (bU q9 (bof (bU ix3 (bof (bU ix3 (bor 1) (bor 6))) (bor 7))) (bor 9)) k))
 (rW 1 3 6 7 (bU (i2' λi j=>D.int (i - j)) (bof (bU ix3 (bof (bU ix3 (bor 1) (bor 6))) (bor 7))) (bof (t3C (D.int 1)))) k)
noncomputable def T1:TX:=yr 1 3 (iR1 (eU (iO 4) qX)) (tgN 6) (yr 1 3 (iR1 (eU (iO 5) qX)) (tgN 7) T1i)
theorem rY{j i h g:Option Sl}{f e s8 s9 d c b s13:Option Sl}{pd:Addr}{a:NR}{m:MP}:DL 1 3 [j,some (.fz (.adr p)),i,some (.fz (.adr pd)),h,g,f,e,s8,s9,d,c,b,s13] a (some (pd,m))=[j,some (.fz (.lst (a.map il))),i,some (.fz (.mp m)),h,g,f,e,s8,s9,d,c,b,s13]:=rfl
theorem w_{H W n:Nat}{f:Nat->Nat->Int}(h:n < H):atI ((mkR H W f).map il) (n:Int)=some (il ((hV W).map (f n))):=gi (by lia) (by rw[fL,ef,Bh h];rfl)
theorem AA{W:Nat}{f:Nat->Int}(h:j < W):atI (((hV W).map f).map D.int) (j:Int)=some (.int (f j)):=gi (by lia) (by rw[fL,ef,ef,HZ h];rfl)
noncomputable abbrev zI (n:Nat):Option Sl:=some (.fz (.int n))
theorem Nn{R:Rl}{H W:Nat}{ls:List Lt}{pd:Addr}{kk:G->NR->DM->Prop}{V n:Nat}{s8 s9:Option D}{l k b s13:Option Sl}{c v:Int}{M:MP}(s:cP H W)(g:Good H W ls)(o:ls.length<=10)(r:InC H W ls ls.length n j)(I:qj H W ls V n j M)(T:V * n + j < 512)(u:n < H)(E:j < W)(q:∀ s8 s9,kk (stW R H W ls p pd c v (zI n) (zI j) (fo s8) (fo s9) l k b s13) (mkR H W (F1 H W ls n (j + 1))) (some (pd,(shF H W ls ls.length n j).foldl i7 M))) :
  T1i kk (stW R H W ls p pd c v (zI n) (zI j) (fo s8) (fo s9) l k b s13) (mkR H W (F1 H W ls n j)) (some (pd,M)):=by
 delta T1i;rw[jw];delta stW;have N:=fK s g (cb _) r;have B:F1 H W ls n j n j=1:=by delta F1;rw[if_neg (by lia)]
 ext;rw[bJ];refine#[sl2 (by lia),sl2 (by decide),R,H,W,ls,ls.length,n,j,rfl,s,g,o,cb _,r,?_];ext;refine jz (λi z a m=>(∃ s8 s9,z=stW R H W ls p pd c v (zI n) (zI j) (fo s8) (fo s9) l k b s13)/\m=some (pd,((shF H W ls ls.length n j).take i).foldl i7 M)/\a=mkR H W λy x=>if y=n/\x=j then 1 + (cpS H W ls ((shF H W ls ls.length n j).take i)).sum else F1 H W ls n j y x) ?_ ?_ ?_
 .exact#[#[_,_,rfl],rfl,mk_congr λy x _ _=>by
   by_cases e:y=n/\x=j
   .rw[if_pos e,e.1,e.2,B];rfl
   .rw[if_neg e]]
 .rintro i d z a m hd ⟨⟨s8,s9,rfl⟩,rfl,rfl⟩;let#[t,A,rfl]:=c6 hd;delta stW;ext;have O:(((shF H W ls ls.length n j).take i).foldl i7 M).length<=4096 * 513:=by
   have S:=zK ((shF H W ls ls.length n j).take i) M;have Q:=I.l;have P:((shF H W ls ls.length n j).take i).length<=4096:=by rw[ew];lia
   lia
  refine#[pd,_,t.1,t.2.1,t.2.2,rfl,rfl,rfl,by rw[ea];lia,?_];delta rW;rw[rY];delta zI;have U:=BL (h:=H) (w:=W) o (L:=(shF H W ls ls.length n j).take i);have lt:((shF H W ls ls.length n j).take i).length<=4096:=by rw[ew];lia
  have F:=vW t (ek A);have K:=Fx (h:=H) (w:=W) (y:=t.1) (x:=t.2.1) o;ext;refine cA.mpr #[_,w_ u,?_];ext;refine cA.mpr #[_,AA E,?_];ext;refine#[_,rfl,n,j,_,rfl,rfl,Bh u,by simp_all,#[some _,some _,rfl],?_,?_]
  .rw[take_snoc A,Wa];rfl
  .rw[zJ];refine mk_congr λy x _ _=>?_;by_cases e:y=n/\x=j
   .rw[if_pos e,if_pos e,take_snoc A,F];delta cpS;rw[er,List.sum_append];simp -iota only[eN,Uu,TU,List.sum_nil];lia
   .rw[if_neg e,if_neg e,if_neg e]
 .rintro z a m ⟨⟨s8,s9,rfl⟩,rfl,rfl⟩;rw[lM0,hG];delta rW stW;rw[rY];delta zI;ext;refine cA.mpr #[_,w_ u,?_];ext;refine cA.mpr #[_,AA E,?_];ext;refine#[_,rfl,n,j,_,rfl,rfl,Bh u,by simp_all,?_];have J:(mkR H W (F1 H W ls n (j + 1)))=(mkR H W λy x=>if y=n/\x=j then 1 + (cpS H W ls (shF H W ls ls.length n j)).sum else F1 H W ls n j y x).set n (((hV W).map λx=>if n=n/\x=j then 1 + (cpS H W ls (shF H W ls ls.length n j)).sum else F1 H W ls n j n x).set j (1 + (cpS H W ls (shF H W ls ls.length n j)).sum - 1)):=by
   rw[zJ (f:=λy x=>if y=n/\x=j then 1 + (cpS H W ls (shF H W ls ls.length n j)).sum else F1 H W ls n j y x)];refine mk_congr λy x _ _=>?_;rw[<- P2 (v:=1 + (cpS H W ls (shF H W ls ls.length n j)).sum - 1) (by rw[y3 g s.h1 s.w1 r];lia) #[r.y1,r.x1]];by_cases e:y=n/\x=j
   .rw[if_pos e,if_pos e]
   .simp_all
  have C:=q s8 s9;rw[J] at C;exact C
theorem GL{R:Rl}{H W:Nat}{ls:List Lt}{pd:Addr}{kk:G->NR->DM->Prop}{l k i s13:Option Sl}(r:cP H W)(g:Good H W ls)(B:ls.length<=10)(q:∀ u e c b M,AI H W ls M->kk (stW R H W ls p pd (cat H W ls ls.length).1 (cat H W ls ls.length).2 (fo u) (fo e) (fo c) (fo b) l k i s13) (mkR H W (F2 H W ls 0 0 0)) (some (pd,M))) :
  T1 kk (stW R H W ls p pd (cat H W ls ls.length).1 (cat H W ls ls.length).2 none none none none l k i s13) (mkR H W λ_ _=>1) (some (pd,[])):=by
 have N:=r.h1;have I:=r.w1;have T:=r.h2;have P:=r.w2;let#[A,z,w,v]:=dQ g N I (cb ls.length);obtain⟨C,t⟩:∃ C:Nat,(cat H W ls ls.length).1=C:=#[(cat H W ls ls.length).1.toNat,by lia];obtain⟨V,s⟩:∃ V:Nat,(cat H W ls ls.length).2=V:=#[(cat H W ls ls.length).2.toNat,by lia];have O:V * C<=512:=by
  have:=tm A z w v r.m;rw[t,s,fL,fL,Xo] at this;exact this
 rw[t] at A w;rw[s] at z v;rw[t,s] at q ⊢;delta T1;rw[jw];delta stW;ext;refine#[by lia,by lia,jz (λn o a m=>n<=C/\a=mkR H W (F1 H W ls n 0)/\(∃ M,m=some (pd,M)/\qj H W ls V n 0 M)/\∃ u e c b,o=stW R H W ls p pd C V (fo u) (fo e) (fo c) (fo b) l k i s13) ?_ ?_ ?_]
 .exact#[eA _,by rw[Rf],#[_,rfl,.nil],none,none,none,none,rfl]
 .rintro n d o a m hd ⟨J,rfl,⟨M,rfl,h⟩,u,e,c,b,rfl⟩;let#[D,rfl]:=eQ hd;rw[fL] at D;delta stW;ext;rw[jw];ext;refine#[by lia,by lia,jz (λj o a m=>j<=V/\a=mkR H W (F1 H W ls n j)/\(∃ M,m=some (pd,M)/\qj H W ls V n j M)/\∃ e c b,o=stW R H W ls p pd C V (zI n) (fo e) (fo c) (fo b) l k i s13) ?_ ?_ ?_]
  .exact#[eA _,rfl,#[_,rfl,h],_,_,_,rfl]
  .rintro j d o a m hd ⟨K,rfl,⟨M,rfl,h⟩,e,c,b,rfl⟩;let#[E,rfl]:=eQ hd;rw[fL] at E;have F:InC H W ls ls.length n j:=#[by lia,by rw[t];lia,by lia,by rw[s];lia];have L:V * n + j < 512:=by
    have:V * (n + 1)<=V * C:=Nat.mul_le_mul_left _ D;rw[Xv] at this;exact WF 0x1aaee6f26de50587aa87ab38b48 O E this
   delta stW;ext;refine Nn r g B F h L (by lia) (by lia) λc b=>#[by lia,rfl,#[_,rfl,h.go (fK r g (cb _) F)],some _,c,b,rfl]
  .rintro o a m ⟨K,rfl,⟨M,rfl,h⟩,e,c,b,rfl⟩;rw[dP,fL] at h ⊢;exact#[by lia,mk_congr λy x _ _=>M6 s,#[_,rfl,h.row s],some _,e,c,b,rfl]
 .rintro o a m ⟨J,rfl,⟨M,rfl,h⟩,u,e,c,b,rfl⟩;rw[dP,fL] at h ⊢;rw[mk_congr (f:=F1 H W ls C 0) (g:=F2 H W ls 0 0 0) λy x Q S=>M7 t (by lia) (by lia)];exact q _ _ _ _ M (h.all t)
noncomputable def T2b:TX:=λk=>sG 1 3 (rX 8 (y9 (eU (bU (i2' λi j=>D.int (i - j)) (bor 6) (bof (bU (i2 uj λi j=>D.int (i * j)) (bof (bU ix3 (bor 12) (bof (t3C (D.int 0))))) (bof (nu wQ (f_ (bof (bU (qa oV) (bor 6) (bof (bU ix3 (bor 12) (bof (t3C (D.int 0))))))) oA))))))
  (eU (bU (i2' λi j=>D.int (i - j)) (bor 7) (bof (bU (i2 uj λi j=>D.int (i * j)) (bof (bU ix3 (bor 12) (bof (t3C (D.int 1))))) (bof (nu wQ (f_ (bof (bU (qa oV) (bor 7) (bof (bU ix3 (bor 12) (bof (t3C (D.int 1))))))) oA)))))) qX))))
  (A0 1 3 13 (nu ND (f_ (bof (vz [none,none,some 3] (iL3 (j_ 3 tJ (f_ (bof (iO 0)) (f_ (bof (bU q9 (bor 10) (bof (t3C (D.int 1))))) (f_ (bof (iO 8)) oA))))) (tgT [0,1]) (bU mg3 (bor 2) (bor 0)))) oA))
   (rW 1 3 6 7 (bU (i2 yV λi j=>D.int (i * 2 ^ j.toNat)) (bor 13) (bof (bU (i2 uj λi j=>D.int (i * j)) (bof (t3C (D.int 2))) (bof (bU (i2' λi j=>D.int (i - j)) (bor 2) (bof (j_ 2 Bm (f_ (bof (iO 0)) (f_ (bof (bU q9 (bor 10) (bof (t3C (D.int 1))))) oA))))))))) k))
noncomputable def T2i:TX:=ifX (or3 (tst (bU (qa oV) (bor 6) (bof (bU ix3 (bor 12) (bof (t3C (D.int 0))))))) (tst (bU (qa oV) (bor 7) (bof (bU ix3 (bor 12) (bof (t3C (D.int 1)))))))) T2b Jx
noncomputable def T2:TX:=yr 1 3 (iR1 (eU (nu wN (f_ (bof (bU ix3 (bor 0) (bof (t3C (D.int 3))))) oA)) qX)) (tgN 10) (λk=>
 sG 1 3 (rX 11 (bU ix3 (bof (j_ 1 zW (f_ (bof (iO 0)) oA))) (bor 10)))
  (sG 1 3 (rX 12 (bU ix3 (bof (j_ 1 zW (f_ (bof (iO 0)) oA))) (bof (bU q9 (bor 10) (bof (t3C (D.int 1)))))))
   (yr 1 3 (iR1 (eU (bU ix3 (bor 11) (bof (t3C (D.int 0)))) qX)) (tgN 6) (yr 1 3 (iR1 (eU (bU ix3 (bor 11) (bof (t3C (D.int 1)))) qX)) (tgN 7) T2i) k)))
theorem Kd{R:Rl}{H W:Nat}{ls:List Lt}{pd:Addr}{kk:G->NR->DM->Prop}{s n:Nat}{l:Lt}{s8 s9 s13:Option D}{c v:Int}{M:MP}(a:cP H W)(g:Good H W ls)(b:ls.length<=10)(Y:AI H W ls M)(E:ls[s]?=some l)(m:InC H W ls s n j)(X:n < H)(lW:j < W)(o:¬ ((n:Int) < (cat H W ls (s + 1)).1/\(j:Int) < (cat H W ls (s + 1)).2))(q:∀ s8 s9 s13,kk (stW R H W ls p pd c v (zI n) (zI j) (fo s8) (fo s9) (zI s) (some (.fz (cD (cat H W ls s)))) (some (.fz (cD (cat H W ls (s + 1))))) (fo s13)) (mkR H W (F2 H W ls s n (j + 1))) (some (pd,M))) :
  T2b kk (stW R H W ls p pd c v (zI n) (zI j) (fo s8) (fo s9) (zI s) (some (.fz (cD (cat H W ls s)))) (some (.fz (cD (cat H W ls (s + 1))))) (fo s13)) (mkR H W (F2 H W ls s n j)) (some (pd,M)):=by
 have B:=cZ E;let#[K,J,I,F]:=dQ (k:=s + 1) g a.h1 a.w1 B;have h2:=a.h2;have w2:=a.w2;have N:=Dp g a.h1 a.w1 E m.y1 m.x1 o;have Q:=rG g a.h1 a.w1 E m.y1 m.x1 o;let#[i,b2]:=vC g a.h1 a.w1 (#[m.y0,by lia,m.x0,by lia]:Inp H W n j);rw[Q] at i b2;have u:=fK a g i b2;have z:∀ p∈shF H W ls (s + 1) (n - (if (cat H W ls (s + 1)).1<=n then (cat H W ls (s + 1)).1 else 0)) (j - (if (cat H W ls (s + 1)).2<=j then (cat H W ls (s + 1)).2 else 0)),Inp H W p.1 p.2.1:=Jm i b2;have f:∀ s8 s9 s13,kk (stW R H W ls p pd c v (zI n) (zI j) (fo s8) (fo s9) (zI s) (some (.fz (cD (cat H W ls s)))) (some (.fz (cD (cat H W ls (s + 1))))) (fo s13)) ((mkR H W (F2 H W ls s n j)).set n (((hV W).map (F2 H W ls s n j n)).set j (wgt H W ls n j))) (some (pd,M)):=by
  intro s8 s9 s13;rw[zJ,mk_congr λy x _ _=>P1 (s:=s) rfl o];exact q s8 s9 s13
 clear q
 rw[N] at f
 clear N Q
 delta T2b;rw[kZ];delta stW cD zI at f ⊢;generalize hC:cat H W ls (s + 1)=C at K J I F o i b2 u z f ⊢;have f1:oV (n:Int) C.1=decide (C.1<=n):=rfl;have f2:oV (j:Int) C.2=decide (C.2<=j):=rfl;ext;rw[rB,rB];refine#[.inl #[by lia,by lia],.inl #[by lia,by lia],sl2 (by decide),?_];delta A0;rw[rY];ext;rw[show (s:Int) + 1=((s + 1:Nat):Int) by lia];refine#[R,H,W,ls,s + 1,_,_,rfl,a,g,b,i,b2,?_];generalize shF H W ls (s + 1) (n - if C.1<=n then C.1 else 0) (j - if C.2<=j then C.2 else 0)=S at u z f ⊢;ext;refine#[by rw[lM0,ea];lia,jE (λj r e=>r=(cpS H W ls (S.take j)).map D.int/\∃ s A,e=[fo s,fo A,some (.fz (.mp M))]) #[rfl,none,none,rfl] ?_ ?_]
 .rintro j d r e hd hk ⟨rfl,s,A,rfl⟩;let#[t,O,rfl]:=c6 hd;ext;refine#[_,Y t.1 t.2.1 (z t (ek O)),?_,some _,some _,rfl];delta cpS;rw[take_snoc O,er,er];rfl
 .rintro r e hk ⟨rfl,A,U,rfl⟩;rw[lM0,hG];have T:=BL (h:=H) (w:=W) b (L:=S);have so:=Fw (h:=H) (w:=W) b u;ext;refine#[_,rfl,so,?_];generalize (cpS H W ls S).sum=V at T f ⊢;refine#[_,rfl,by show (13:Nat) < 14;decide,by decide,by decide,?_];dsimp only[List.set];delta rW;rw[rY];ext;rw[show (s:Int) + 1=((s + 1:Nat):Int) by lia];refine#[R,H,W,ls,s + 1,rfl,b,i,?_];have Z:=Aa ls H W (s + 1) i;have P:=Aa ls H W ls.length (cb _);rw[hG] at P;have g1:=rV ls (s + 1);have g2:=uQ ls;have g3:=uQ (ls.take (s + 1));rw[Z];ext;rw[P] at f ⊢;exact#[cm2,#[by lia,by lia,by lia],_,rfl,n,j,_,rfl,rfl,Bh X,by simp_all,f (some _) s9 (some _)]
theorem Nm{R:Rl}{H W:Nat}{ls:List Lt}{pd:Addr}{kk:G->NR->DM->Prop}{s n:Nat}{l:Lt}{s8 s9 s13:Option D}{c v:Int}{M:MP}(h:cP H W)(g:Good H W ls)(d:ls.length<=10)(r:AI H W ls M)(o:ls[s]?=some l)(m:InC H W ls s n j)(k:n < H)(i:j < W)(q:∀ s8 s9 s13,kk (stW R H W ls p pd c v (zI n) (zI j) (fo s8) (fo s9) (zI s) (some (.fz (cD (cat H W ls s)))) (some (.fz (cD (cat H W ls (s + 1))))) (fo s13)) (mkR H W (F2 H W ls s n (j + 1))) (some (pd,M))) :
  T2i kk (stW R H W ls p pd c v (zI n) (zI j) (fo s8) (fo s9) (zI s) (some (.fz (cD (cat H W ls s)))) (some (.fz (cD (cat H W ls (s + 1))))) (fo s13)) (mkR H W (F2 H W ls s n j)) (some (pd,M)):=by
 by_cases e:(n:Int) < (cat H W ls (s + 1)).1/\(j:Int) < (cat H W ls (s + 1)).2
 .have a:=q s8 s9 s13;rw[<- mk_congr λy x _ _=>I9 (s:=s) e] at a;delta T2i ifX;delta stW cD zI at a ⊢;ext;rw[show oV (n:Int) (cat H W ls (s + 1)).1=decide ((cat H W ls (s + 1)).1<=n) from rfl,decide_eq_false (by lia)];ext;rw[show oV (j:Int) (cat H W ls (s + 1)).2=decide ((cat H W ls (s + 1)).2<=j) from rfl,decide_eq_false (by lia)];ext;exact a
 .have b:=Kd (s8:=s8) (s9:=s9) (s13:=s13) h g d r o m k i e q;delta T2i ifX;unfold stW cD zI at b ⊢;by_cases f:(cat H W ls (s + 1)).1<=n
  .ext;rw[show oV (n:Int) (cat H W ls (s + 1)).1=decide ((cat H W ls (s + 1)).1<=n) from rfl,decide_eq_true f];ext;exact b
  .ext;rw[show oV (n:Int) (cat H W ls (s + 1)).1=decide ((cat H W ls (s + 1)).1<=n) from rfl,decide_eq_false f];ext;rw[show oV (j:Int) (cat H W ls (s + 1)).2=decide ((cat H W ls (s + 1)).2<=j) from rfl,decide_eq_true (by lia)];ext;exact b
theorem GK{R:Rl}{H W:Nat}{ls:List Lt}{pd:Addr}{kk:G->NR->DM->Prop}{i e s8 s9:Option D}{c v:Int}{M:MP}(z:cP H W)(g:Good H W ls)(u:ls.length<=10)(T:AI H W ls M)(q:∀ i e s8 s9 t r o s13,kk (stW R H W ls p pd c v (fo i) (fo e) (fo s8) (fo s9) (fo t) (fo r) (fo o) (fo s13)) (mkR H W λy x=>wgt H W ls y x) (some (pd,M))) :
  T2 kk (stW R H W ls p pd c v (fo i) (fo e) (fo s8) (fo s9) none none none none) (mkR H W (F2 H W ls 0 0 0)) (some (pd,M)):=by
 have S:=z.h1;have N:=z.w1;have h2:=z.h2;have w2:=z.w2;delta T2;rw[jw];delta stW;ext;rw[bJ];refine#[sl2 (by lia),by lia,by lia,jz (λs f a m=>s<=ls.length/\a=mkR H W (F2 H W ls s 0 0)/\m=some (pd,M)/\∃ i e s8 s9 t r o s13,f=stW R H W ls p pd c v (fo i) (fo e) (fo s8) (fo s9) (fo t) (fo r) (fo o) (fo s13)) ?_ ?_ ?_]
 .exact#[eA _,rfl,rfl,_,_,_,_,none,none,none,none,rfl]
 .rintro s d f a m hd ⟨hs,rfl,rfl,i,e,s8,s9,t,r,o,s13,rfl⟩;let#[J,rfl]:=eQ hd;rw[fL] at J;obtain⟨l,L⟩:∃ l,ls[s]?=some l:=#[_,gE0 J];let#[Z,Y,X,U]:=dQ (k:=s) g S N (by lia);have st:=gb (h:=H) (w:=W) L;have I:(cat H W ls (s + 1)).1<=(cat H W ls s).1:=by rw[st];delta nh;dsimp only;split <;> lia
  have F:(cat H W ls (s + 1)).2<=(cat H W ls s).2:=by rw[st];delta nw;dsimp only;split <;> lia
  clear st
  obtain⟨C,E⟩:∃ C:Nat,(cat H W ls s).1=C:=#[(cat H W ls s).1.toNat,by lia];obtain⟨V,B⟩:∃ V:Nat,(cat H W ls s).2=V:=#[(cat H W ls s).2.toNat,by lia];delta stW;ext;rw[kZ];ext;refine#[R,H,W,ls,rfl,u,?_];ext;refine cA.mpr #[_,fV (k:=s) (by lia),?_];ext;rw[kZ];ext;refine#[R,H,W,ls,rfl,u,?_];ext;refine cA.mpr #[_,fV (k:=s + 1) (by lia),?_];ext;rw[jw];rw[show cD (cat H W ls s)=.tup [.int C,.int V] by delta cD;rw[E,B]];ext;refine#[by lia,by lia,jz (λn f a m=>n<=C/\a=mkR H W (F2 H W ls s n 0)/\m=some (pd,M)/\∃ i e s8 s9 s13,f=stW R H W ls p pd c v (fo i) (fo e) (fo s8) (fo s9) (zI s) (some (.fz (.tup [.int C,.int V]))) (some (.fz (cD (cat H W ls (s + 1))))) (fo s13)) ?_ ?_ ?_]
  .exact#[eA _,rfl,rfl,_,_,_,_,_,rfl]
  .rintro n d f a m hd ⟨P,rfl,rfl,i,e,s8,s9,s13,rfl⟩;let#[A,rfl]:=eQ hd;rw[fL] at A;delta stW zI;ext;rw[jw];ext;refine#[by lia,by lia,jz (λj f a m=>j<=V/\a=mkR H W (F2 H W ls s n j)/\m=some (pd,M)/\∃ e s8 s9 s13,f=stW R H W ls p pd c v (zI n) (fo e) (fo s8) (fo s9) (zI s) (some (.fz (.tup [.int C,.int V]))) (some (.fz (cD (cat H W ls (s + 1))))) (fo s13)) ?_ ?_ ?_]
   .exact#[eA _,rfl,rfl,_,_,_,_,rfl]
   .rintro j d f a m hd ⟨Q,rfl,rfl,e,s8,s9,s13,rfl⟩;let#[K,rfl]:=eQ hd;rw[fL] at K;have O:InC H W ls s n j:=#[by lia,by rw[E];lia,by lia,by rw[B];lia];delta stW zI;ext;have b:=Nm (R:=R) (p:=p) (pd:=pd) (c:=c) (v:=v) (s8:=s8) (s9:=s9) (s13:=s13) (kk:=λf a m=>j + 1<=V/\a=mkR H W (F2 H W ls s n (j + 1))/\m=some (pd,M)/\∃ e s8 s9 s13,f=stW R H W ls p pd c v (zI n) (fo e) (fo s8) (fo s9) (zI s) (some (.fz (.tup [.int C,.int V]))) (some (.fz (cD (cat H W ls (s + 1))))) (fo s13)) z g u T L O (by lia) (by lia) λs8 s9 s13=>#[by exact Yb K,rfl,rfl,some _,s8,s9,s13,by rw[show cD (cat H W ls s)=.tup [.int C,.int V] by delta cD;rw[E,B]];rfl];rw[show cD (cat H W ls s)=.tup [.int C,.int V] by delta cD;rw[E,B]] at b;exact b
   .rintro f a m ⟨Q,rfl,rfl,e,s8,s9,s13,rfl⟩;rw[dP,fL];exact#[by exact Yb A,mk_congr λy x _ _=>M4 B,rfl,some _,e,s8,s9,s13,rfl]
  .rintro f a m ⟨P,rfl,rfl,i,e,s8,s9,s13,rfl⟩;rw[dP,fL];exact#[by lia,mk_congr λy x _ _=>IZ E I F,rfl,i,e,s8,s9,some _,some _,some _,s13,rfl]
 .rintro f a m ⟨hs,rfl,rfl,i,e,s8,s9,t,r,o,s13,rfl⟩;rw[dP,fL,mk_congr λy x _ _=>M5];exact q _ _ _ _ _ _ _ _
def LF:S3:=λΓ Q=>∃ (R:Rl) (h w:Int) (ls:List Lt),Γ=[some (.fz (nZ R h w ls))]/\cP h w/\Good h w ls/\ls.length<=10/\∀ m,AI h w ls m->Q (.fz (.tup [.lst ((mkR h.toNat w.toNat λy x=>wgt h w ls y x).map il),.mp m])) Γ
theorem qS(T:Txt K mg a):aM P w K mg base CX0 4 a.lK a.kg ["_law_told"] (sp3 K 1 LF):=by
 refine ok3 T.eF.F aE (hbody:=λJ A o s H E b=>#[_,_,(D4 1 3 (zi (i:=1) aE.nd rfl rfl rfl (b_ T.z_range (ab (aA (bv 0) WZ) ah)) cO (λ_ _ _ _ _=>(aX (i:=0) cO.nd rfl (cv rfl))) (λ_ _ _ _ _=>(Be (P3.opd (bF (ab ae ah))) (P3.opd (aA (bv 1) WZ))))) (Er rfl (b_ T.z_range (ab (aA (bv 0) WZ) ah)) cO (λ_ _ _ _ _=>(aX (i:=0) cO.nd rfl (cv rfl))) (λ_ _ _ _ _=>(Be (P3.opd (bF (ab ae ah))) (P3.opd (aA (bv 1) WZ)))))
   (nV (kK (aI (i:=2) aE.nd rfl (cv rfl) (ar (kf T) b.dn T.cc.m T.cc.F.kp T.cc.b (Yj (p3v 0) (Yj (aN (kr) T.z_len (Yj (aA (bv 0) WZ) af)) af)))))
   (nV (J8 (zt (i:=3) aE.nd rfl (Qo rfl) Ei))
   (nV (kK (bW (is:=[4,5]) (aA (P3.opd (ar (cR T) b.dn T.aK.m T.aK.F.kp T.aK.b (Yj (p3v 0) af))) (P3.opd (wx WZ))) (aj (aq (i:=4) aE.nd rfl (cv rfl)) (aj (aq (i:=5) aE.nd rfl (cv rfl)) aO)) rfl))
   (nV (pM ic rfl (b_ T.z_range (ab (p3v 4) ah)) (aX (i:=6) aE.nd rfl (cv rfl))
   (nz (pM ic rfl (b_ T.z_range (ab (p3v 5) ah)) (aX (i:=7) aE.nd rfl (cv rfl))
   (lT (pM ic rfl (bR (ar (fQ T) b.dn T.a_.m T.a_.F.kp T.a_.b (Yj (p3v 0) (Yj (aN (kr) T.z_len (Yj (aA (bv 0) WZ) af)) (Yj (aF (ab (p3v 6) (ab (p3v 7) ah))) af))))) (fA (is:=[8,9]) (aj (aq (i:=8) aE.nd rfl (cv rfl)) (aj (aq (i:=9) aE.nd rfl (cv rfl)) aO)) rfl)
   (lT (J6 (Hn (JK b) (pv 3) (pv 8) (pv 9) rfl))
   (nz (vK (aA (bv 1) (bv 6)) (bv 7) (aZ (P3.opd (aA (P3.opd (aA (bv 1) (bv 6))) (bv 7))) (bv 9))))))
   (nz (vK (aA (bv 1) (bv 6)) (bv 7) (cy (P3.opd (aA (P3.opd (aA (bv 1) (bv 6))) (bv 7))) WZ)))))))
   (nV (pM ic rfl (b_ T.z_range (ab (aN (kr) T.z_len (Yj (aA (bv 0) WZ) af)) ah)) (aX (i:=10) aE.nd rfl (cv rfl))
   (lT (kK (aI (i:=11) aE.nd rfl (cv rfl) (aA (P3.opd (ar (cR T) b.dn T.aK.m T.aK.F.kp T.aK.b (Yj (p3v 0) af))) (bv 10))))
   (lT (kK (aI (i:=12) aE.nd rfl (cv rfl) (aA (P3.opd (ar (cR T) b.dn T.aK.m T.aK.F.kp T.aK.b (Yj (p3v 0) af))) (P3.opd (aZ (bv 10) WZ)))))
   (nz (pM ic rfl (b_ T.z_range (ab (aA (bv 11) WZ) ah)) (aX (i:=6) aE.nd rfl (cv rfl))
   (nz (pM ic rfl (b_ T.z_range (ab (aA (bv 11) WZ) ah)) (aX (i:=7) aE.nd rfl (cv rfl))
   (nz (M_ (P3W.pt (k8 (aP qI (bv 6) (P3.opd (aA (bv 12) WZ)) (aR _)) (iS (aP qI (bv 7) (P3.opd (aA (bv 12) WZ)) (aR _))))) (lT (kK (aI (i:=8) aE.nd rfl (cv rfl) (aF (ab (cy (bv 6) (P3.opd (bO (P3.opd (aA (bv 12) WZ)) (P3.opd (bQ ku T.z_int (Yj (cW qI (bv 6) (P3.opd (aA (bv 12) WZ)) (aR _)) af)))))) (ab (cy (bv 7) (P3.opd (bO (P3.opd (aA (bv 12) WZ)) (P3.opd (bQ ku T.z_int (Yj (cW qI (bv 7) (P3.opd (aA (bv 12) WZ)) (aR _)) af)))))) ah)))))
   (lT (M9 (l:=13) aE.nd rfl (cv rfl) (aN (FW rfl) T.z_sum (Yj (jW rfl (bR (ar (fQ T) b.dn T.a_.m T.a_.F.kp T.a_.b (Yj (p3v 0) (Yj (aZ (bv 10) WZ) (Yj (p3v 8) af))))) d_ (λ_ _ _ _ _=>(fA (is:=[0,1]) (aj (aq (i:=0) d_.nd rfl (cv rfl)) (aj (aq (i:=1) d_.nd rfl (cv rfl)) aO)) rfl)) (λ_ _ _ _ _=>(uZ b (bv 2) (bv 0)))) af)))
   (nz (vK (aA (bv 1) (bv 6)) (bv 7) (Ep (bv 13) (P3.opd (bO WZ (P3.opd (cy (bv 2) (P3.opd (ar (kf T) b.dn T.cc.m T.cc.F.kp T.cc.b (Yj (p3v 0) (Yj (aZ (bv 10) WZ) af))))))))))))) J7)))))))))
   (J5 (aF (ab (p3v 1) (ab (p3v 3) ah)))))))))),λu Q h S=>?_])
 let#[R,h,w,j,rfl,f,g,c,q]:=h;delta nZ at q ⊢;delta Jz;ext;have V:=f.h1;have N:=f.w1;have U:=f.h2;have L:=f.w2;obtain⟨H,rfl⟩:∃ H:Nat,h=H:=#[h.toNat,by lia];obtain⟨W,rfl⟩:∃ W:Nat,w=W:=#[w.toNat,by lia];simp -iota only[fL] at q ⊢;refine#[by lia,by lia,small (by rw[dP];lia),CY (λk m e=>k<=H/\m=sk (mkR k W λ_ _=>1)/\∃ s,e=[fo s,some (.fz (.tup [.int H,.int W,.str R.word,.str (wy j)]))]) #[eA _,rfl,none,rfl] ?_ ?_]
 .rintro k d m e hd hk ⟨r,rfl,s,rfl⟩;let#[lt,rfl]:=eQ hd;ext;refine#[sl2 (by decide),by lia,by lia,by rw[fL,ea];lia,by lia,?_,some _,rfl];rw[fL];delta sk mkR;rw[Re,er,er]
  congr 1
  show [_]=[((hV W).map λ_=>(1:Int)).map D.int]
  congr 1
  rw[zq];have:∀ n:Nat,(ji n [D.int 1]).flatten=(hV n).map (D.int ∘ λ_=>(1:Int)):=by
   intro n
   induction n with
   | zero=>rfl
   | succ n I=>rw[Re,er,<- I,List.replicate_succ'];simp
  exact this W
 rintro m e hk ⟨r,rfl,s,rfl⟩;rw[dP];ext;refine#[λs hs=>?_,_,rfl,λp=>?_]
 .simp -iota only[cm,ey,or_false,Rr,reduceCtorEq] at hs;subst hs;exact#[_,rfl]
 rw[kZ];ext;rw[bJ];refine#[sl2 (by lia),R,H,W,j,j.length,rfl,c,cb _,?_];ext;refine#[rfl,by show (3:Nat) < 14;decide,by decide,λO=>?_];rw[kZ];ext;refine#[R,H,W,j,rfl,c,?_];ext;refine cA.mpr #[cD (cat H W j j.length),xc (by rw[lM0,dN];exact FJ (cb _)),?_];delta cD;ext;refine GL f g c ?_;intro z y x v M t;refine GK f g c t ?_;intro z y x v G F C B;delta stW NQ;rw[rY];ext;exact#[sl2 (by decide),_,rfl,q M t]
theorem Fe:∀ L:List PM,gx 20 (L.map λp=>pD p.1 p.2.1) (L.map λp=>pD p.1 p.2.1)=some true
 | []=>rfl
 | p::L=>by
  have e:eqN 20 (pD p.1 p.2.1) (pD p.1 p.2.1)=some true:=by simp [eqN,gx]
  simp only[eN,gx,e,Fe L];rfl
theorem BF(L:List PM):eqN (20 + 1) (.lst (L.map λp=>pD p.1 p.2.1)) (.lst (L.map λp=>pD p.1 p.2.1))=some true:=Fe L
def ER (a:Ad):S3:=λΓ Q=>∃ (R:Rl) (h w:Int) (ls:List Lt) (y x:Int),Γ=[some (.fz (plD a R h w ls)),some (.fz (nZ R h w ls)),some (.fz (pD y x)),some (.fz (.int (wgt h w ls y x))),some (.fz (.int (cpF h w ls y x)))]/\cP h w/\Good h w ls/\ls.length<=10/\Inp h w y x/\Q (.fz (.bl true)) Γ
theorem ux(T:Txt K mg a):aM P w K mg base CX0 10 a.o9 a.m7 ["_law_plan_here","_law_told","_law_place","_law_heavy","_law_often"] (sp3 K 5 (ER a)):=by
 refine ok3 T.gE.F iX (hbody:=λl A j s H E c=>#[_,_,(ag (cf (P3W.pt (k8 (cu (bX (ar (mS T) c.dn T.cF.m T.cF.F.kp T.cF.b (Yj (ar (va T) c.dn T.dh.m T.dh.F.kp T.dh.b (Yj (p3v 0) (Yj (p3v 2) af))) af)))) (iS (aP (iA c) (P3.opd (ar (va T) c.dn T.dh.m T.dh.F.kp T.dh.b (Yj (p3v 0) (Yj (p3v 2) af)))) (bv 4) (aR _))))) (au (aD jm)) br)
   (ag (cf (P3W.pt (k8 (cu (bX (ar (mS T) c.dn T.cF.m T.cF.F.kp T.cF.b (Yj (ar (u_ T) c.dn T.df.m T.df.F.kp T.df.b (Yj (p3v 0) (Yj (p3v 2) af))) af)))) (iS (aP (iA c) (P3.opd (ar (u_ T) c.dn T.df.m T.df.F.kp T.df.b (Yj (p3v 0) (Yj (p3v 2) af)))) (bv 3) (aR _))))) (au (aD jm)) br)
   (ag (aI (i:=5) iX.nd rfl (cv rfl) (mR (ar (qU T) c.dn T.eJ.m T.eJ.F.kp T.eJ.b (Yj (p3v 1) (Yj (aA (bv 2) WZ) (Yj (aA (bv 2) WZ) af))))))
   (ag (aI (i:=6) iX.nd rfl (cv rfl) (ar (nK T) c.dn T.bu.m T.bu.F.kp T.bu.b (Yj (p3v 0) (Yj (p3v 2) af))))
   (ag (cf (P3W.pt (k8 (cu (bX (aN (Pp T.ty) T.z_isinstance (aa (bv 6) (Yj (sM (n:="list") T.z_list) af))))) (iS (aP (iA c) (bv 6) (bv 5) (aR _))))) (au (aD jm)) br)
   (ag (c_ (eu 6 (bv 6) (aF (ab ae (ab ae ah)))))
   (au (aD (cW (kb c) (P3.opd (ar (nK T) c.dn T.bu.m T.bu.F.kp T.bu.b (Yj (p3v 0) (Yj (p3v 2) af)))) (bv 5) (aR _)))))))))),λk Q h p=>?_])
 let#[R,h,w,e,y,x,rfl,d,g,b,f,q]:=h;ext;refine#[R,h,w,e,y,x,rfl,d,g,b,f,?_];ext;refine#[_,rfl,?_];ext;refine#[R,h,w,e,y,x,rfl,d,g,b,f,?_];ext;refine#[R,h,w,e,y,x,rfl,d,g,b,f,?_];ext;refine#[_,rfl,?_];ext;refine#[R,h,w,e,y,x,rfl,d,g,b,f,?_];ext;refine#[R,h,w,e,y,x,rfl,d,g,b,f,?_];ext;refine#[R,h,w,e,y,x,rfl,d,g,b,f,?_];ext;refine#[true,BF (shB h w e y x),?_];ext;let#[m,b2]:=vC g d.h1 d.w1 f;have o:(shB h w e y x).length<=4096:=fK d g m b2;refine#[sl2 (by decide),by rw[lM0,ea];lia,R,h,w,e,y,x,rfl,d,g,b,f,?_];ext;refine#[true,BF (shB h w e y x),?_];ext;exact q
theorem Qw{ys:List V}(h:ys.length=1):∃ y,ys=[y]:=by
 match ys,h with
 | [y],_=>exact#[y,rfl]
theorem js(T:Txt K mg a):aM P w K mg base CX0 1 a.bY a.eD ["self","words"] (Qa K):=by
 refine T.cH.F.ok jf (λd H Q E h=>by let#[e,C,c,y,rfl,_]:=h;rfl) λg A b s H d Q E j h=>#[_,l7 (rm (Ed (by rfl) T.z_ValueError (gK (i8 (i:=0) rfl (.inl rfl)) (gK (i8 (i:=1) rfl (.inl rfl)) pW)))),?_];let#[e,C,c,y,rfl,mk,q,f]:=h;exact#[.ref e,rfl,y,rfl,e,C,c,y,rfl,mk,q,f]
theorem mv(T:Txt K mg a):aM P w K mg base CX0 2 a.dZ a.gz ["self","found"] (GW K a.bz ["found"]):=by
 refine T.gX.F.ok mr (λg H Q E h=>by let#[e,f,rfl,c,_]:=h;simpa using c) λm A b s H g Q E k h=>#[_,jj (rm (HA (E:=E0) (ds:=[]) (dvs:=[]) T.QE T.QK T.QM T.cH.F.kp (by rfl) T.la (js T) k T.cH.b .nil sJ (gK (i8 (i:=0) rfl (.inl rfl)) (gK Ee pW))))
  (l7 (Hm (i8 (i:=0) rfl (.inl rfl)) (i8 (i:=1) rfl (.inl rfl)) (by rfl))),?_]
 let#[e,f,rfl,c,q,l]:=h;let#[y,rfl]:=Qw c;exact#[.ref e,rfl,e,a.bz,none,_,rfl,T.fi.xm.makes,q,y,rfl,.ref e,rfl,e,a.bz,rfl,T.fi.cl,T.fi.tk _ (.head _),.inl #[q,λd hd j=>l d hd j]]
noncomputable def npX (a:Ad)(d:D):XD:=#[a.bz,["found"],[d]]
noncomputable def Mz (a:Ad):S3X:=λΓ Q W=>∃ (R:Rl) (h w:Int) (ls:List Lt) (d:D),Γ=[some (.fz (plD a R h w ls)),some (.fz (.int ((0:Nat):Int))),some (.fz d)]/\ls.length<=10/\Th d/\inD h w d=false/\W (npX a d) Γ
theorem jq(T:Txt K mg a):aM P w K mg base (CX1 P w base) 5 a.i_ a.iw ["plan","step","thing"] (qO K 3 (Mz a)):=by
 refine Ey T.aL.F cx (hbody:=λl A b s H E c=>#[_,_,(λB o W g=>(lX (P3S.x (bW (is:=[3,4]) (l_ (bv 0) T.aW T.iq (ik T) c.dn T.fJ.b (Yj (p3v 1) af)) (aj (aq (i:=3) cx.nd rfl (cv rfl)) (aj (aq (i:=4) cx.nd rfl (cv rfl)) aO)) rfl))
   (nB (Nh (cu (bX (ar (cK T) c.dn T.aJ.m T.aJ.F.kp T.aJ.b (Yj (p3v 2) (Yj (p3v 3) (Yj (p3v 4) af)))))) (nB (Dk (by rfl) g T.fi.xm (mv T) c.dn (by rfl) T.tH T.gX.b Hf (by decide) (ab (p3v 2) ah))) (br).x)))),λf Q n h m=>?_])
 let#[R,h,w,k,d,rfl,e,j,hd,q]:=h;ext;refine#[by decide +kernel,R,h,w,k,0,rfl,e,eA _,?_];rw[cB];delta cD;ext;refine#[_,_,_,rfl,j,?_];rw[hd];ext;exact q
noncomputable def Ag (a:Ad):S3X:=λΓ Q W=>∃ (R:Rl) (h w:Int) (ls:List Lt) (d:D),Γ=[some (.fz (plD a R h w ls)),some (.fz d)]/\cP h w/\Good h w ls/\ls.length<=10/\Th d/\inD h w d=false/\W (npX a d) Γ
theorem xV(T:Txt K mg a):aM P w K mg base (CX1 P w base) 8 a.lJ a.p_ ["plan","place"] (qO K 2 (Ag a)):=by
 refine Ey T.dh.F uS (hbody:=λl A b s H E c=>#[_,_,(λB p W i=>(lX (vO (rg i (jq T) (dR.of Bc) c.dn T.aL.m T.aL.F.kp T.aL.b (Yj (p3v 0) (aa WZ (Yj (p3v 1) af)))))
   (nB (P3S.x (aD (uZ c (P3.opd (ar (fP T) c.dn T.a9.m T.a9.F.kp T.a9.b (Yj (p3v 0) af))) (bv 1))))))),λf Q o h n=>?_])
 let#[R,h,w,k,d,rfl,m,g,e,j,hd,q]:=h;ext;exact#[R,h,w,k,d,rfl,e,j,hd,q]
theorem oy(T:Txt K mg a):aM P w K mg base (CX1 P w base) 7 a.jD a.nQ ["plan","place"] (qO K 2 (Ag a)):=by
 refine Ey T.bu.F aQ (hbody:=λm A c s H E b=>#[_,_,(λB r W j=>(lX (vO (rg j (jq T) (dR.of Bc) b.dn T.aL.m T.aL.F.kp T.aL.b (Yj (p3v 0) (aa WZ (Yj (p3v 1) af)))))
   (lX (P3S.x (bW (is:=[2,3,4,5,6,7]) (ar (sS T) b.dn T.fj.m T.fj.F.kp T.fj.b (Yj (p3v 0) (Yj (p3v 1) af))) (aj (aq (i:=2) aQ.nd rfl (cv rfl)) (aj (aq (i:=3) aQ.nd rfl (cv rfl)) (aj (aq (i:=4) aQ.nd rfl (cv rfl)) (aj (aq (i:=5) aQ.nd rfl (cv rfl)) (aj (aq (i:=6) aQ.nd rfl (cv rfl)) (aj (aq (i:=7) aQ.nd rfl (cv rfl)) aO)))))) rfl))
   (lX (P3S.x (bW (is:=[8,9]) (p3v 1) (aj (aq (i:=8) aQ.nd rfl (cv rfl)) (aj (aq (i:=9) aQ.nd rfl (cv rfl)) aO)) rfl))
   (lX (P3S.x (aI (i:=10) aQ.nd rfl (cv rfl) (k9 (aP (kb b) (bv 3) (P3.opd bE) (aR _)) (p3v 2) (aZ (bv 2) WZ))))
   (nB (P3S.x (aD (jW rfl (bR (ar (sR T) b.dn T.fH.m T.fH.F.kp T.fH.b (Yj (p3v 0) (Yj (p3v 10) (Yj (aF (ab (cy (bv 8) (bv 4)) (ab (cy (bv 9) (bv 5)) ah))) af))))) jd (λ_ _ _ _ _=>(fA (is:=[0,1]) (aj (aq (i:=0) jd.nd rfl (cv rfl)) (aj (aq (i:=1) jd.nd rfl (cv rfl)) aO)) rfl)) (λ_ _ _ _ _=>(p3v 0))))))))))),λf Q p h o=>?_])
 let#[R,h,w,l,d,rfl,n,g,e,k,hd,q]:=h;ext;exact#[R,h,w,l,d,rfl,e,k,hd,q]
noncomputable def Kc (a:Ad):S3X:=λΓ Q W=>∃ (R:Rl) (h w:Int) (ls:List Lt) (m:MP) (d:D),Γ=[some (.fz (plD a R h w ls)),some (.fz (.mp m)),some (.fz d)]/\cP h w/\Good h w ls/\ls.length<=10/\Th d/\inD h w d=false/\W (npX a d) Γ
theorem oo(T:Txt K mg a):aM P w K mg base (CX1 P w base) 8 a.ix a.gu ["plan","counts","place"] (qO K 3 (Kc a)):=by
 refine Ey T.bM.F ke (hbody:=λo A b s H E c=>#[_,_,(λB t W j=>(nB (Dj (GH (B7 (FW rfl) (by rfl) T.z_sum (by decide +kernel) (Dl (by rfl) rfl (rg j (oy T) (dR.of Bc) c.dn T.bu.m T.bu.F.kp T.bu.b (Yj (p3v 0) (Yj (p3v 2) af))) iB (λ_ _ _ _ _=>(aX (i:=0) iB.nd rfl (cv rfl))) (λ_ _ _ _ _=>(uZ c (bv 1) (bv 0)))) af) (P3.opd (bO WZ (P3.opd (ar (iT T) c.dn T.bI.m T.bI.F.kp T.bI.b (Yj (p3v 0) (Yj (p3v 2) af)))))))))),λf Q r h p=>?_]);let#[R,h,w,n,m,d,rfl,l,g,e,k,hd,q]:=h;delta G7 BA;ext;exact#[R,h,w,n,d,rfl,l,g,e,k,hd,q]
theorem xU(T:Txt K mg a):aM P w K mg base (CX1 P w base) 9 a.lI a.p9 ["plan","place"] (qO K 2 (Ag a)):=by
 refine Ey T.df.F uR (hbody:=λm A c s H E i=>#[_,_,(λB p W k=>(nB (Dj (rg k (oo T) (dR.of Bc) i.dn T.bM.m T.bM.F.kp T.bM.b (Yj (p3v 0) (Yj (ar (fP T) i.dn T.a9.m T.a9.F.kp T.a9.b (Yj (p3v 0) af)) (Yj (p3v 1) af))))))),λj Q o h n=>?_]);let#[R,h,w,f,d,rfl,e,g,b,l,hd,q]:=h;ext;refine#[R,h,w,f,rfl,e,g,b,?_];ext;exact#[R,h,w,f,_,d,rfl,e,g,b,l,hd,q]
section
variable {U:Addr}
theorem HI{n:Nat}{c b a:Addr}{S:S3X}{W:XD->G->Prop}(h:f=c\/f=b\/f=a)(q:pq j n f S t3 W Γ Q):pq j n c S t3 W Γ Q\/pq j n b S t3 W Γ Q\/pq j n a S t3 W Γ Q:=by
 rcases h with rfl | rfl | rfl
 .exact .inl q
 .exact .inr (.inl q)
 .exact .inr (.inr q)
theorem Du(x:yS K U C):rz K C (.ref C)=some true:=by
 let#[e,rest,b,a,d,c,_]:=x.mro;delta rz;rw[b,EO,if_neg (by rw[a];simp),a]
 congr 1
 exact Ro.mpr (.head _)
end
def LI (a:Ad):S3:=λΓ Q=>∃ (f:Addr) (R:Rl) (h w:Int) (ls:List Lt) (d:D),Γ=[some (.fz (.adr f)),some (.fz (plD a R h w ls)),some (.fz d)]/\(f=a.lJ\/f=a.jD\/f=a.lI)/\cP h w/\Good h w ls/\ls.length<=10/\Th d/\okR d/\inD h w d=false/\Q (.fz (.bl true)) Γ
theorem qT(T:Txt K mg a):aM P w K mg base CX0 10 a.lM a.ki ["_law_door","_law_plan_here","_law_thing"] (sp3 K 3 (LI a)):=by
 refine ok3 T.eI.F dO (hbody:=λu A l s H E b=>#[_,_,(ag (aI (i:=3) dO.nd rfl (cv rfl) zE)
   (ag (P3S.ofX λB y=>(J_ (i:=4) (by rfl) T.yY rfl rfl (by rfl) T.tH dO.nd rfl rfl (λc F1 E W k=>(nB (vO (P3X.or (rM (j:=0) k T.dh.F (xV T) Eo b.dn T.dh.b (by first | exact cv rfl | exact Qo (cv rfl) | exact Qo (Qo rfl)) (Yj (p3v 1) (Yj (p3v 2) af))) (P3X.or (rM (j:=0) k T.bu.F (oy T) Eo b.dn T.bu.b (by first | exact cv rfl | exact Qo (cv rfl) | exact Qo (Qo rfl)) (Yj (p3v 1) (Yj (p3v 2) af))) (rM (j:=0) k T.df.F (xU T) Eo b.dn T.df.b (by first | exact cv rfl | exact Qo (cv rfl) | exact Qo (Qo rfl)) (Yj (p3v 1) (Yj (p3v 2) af)))))))) (λc e=>((au (aI (i:=3) dO.nd rfl (cv rfl) (p3v 4)))).x)))
   (au (aD (sP (cW IC (bv 3) (P3.opd zE) (aR _)) (sP (aN (Pl (P:=λC=>XIs K C) (by rfl) (λ_ h=>h)) T.z_isinstance (aa (bv 3) (Yj (rq T.la) af))) (sN (cW (kb b) (P3.opd (aN (BS (by rfl) b) T.z_repr (Yj (HF (P:=λC=>C9 K C/\c9 K C "found") (f:="found") (by rfl) (bv 3) (λ_ h=>h) (by rfl)) af))) (P3.opd (aN (BS (by rfl) b) T.z_repr (aa (bv 2) af))) (aR _))))))))),λn Q h v=>?_])
 let#[f,R,h,w,r,d,rfl,t,p,g,m,o,ok,hd,q]:=h;ext;refine HI t #[rfl,?_];ext;refine#[R,h,w,r,d,rfl,p,g,m,o,hd,Du T.fi.un,?_];delta npX;ext;have x:=T.fi;exact#[x.is,true,x.un.up T.rK.un,#[x.is.ga,x.is.gh,x.is.hd,x.is.ex],x.na _ (.head _),ok,ok,q]
theorem nab{i:Int}(h1:-1<=i)(a:i<=64):i.natAbs < 10 ^ 60:=by
 have:i.natAbs<=64:=by lia
 exact Tj this (by decide)
theorem Ce{i:Int}(h1:-1<=i)(a:i<=64):Sh 100 1 (.int i):=.int (nab h1 a)
theorem nJ(h:∀ x∈xs,Sh 100 1 x)(a:xs.length<=3):okR (.tup xs):=.inl #[.inl rfl,(Sh.tup (l:=3) h a).up (by decide) (by decide)]
theorem Lp(h:∀ x∈xs,Sh 100 1 x)(a:xs.length<=3):okR (.lst xs):=.inl #[.inl rfl,(Sh.lst (l:=3) h a).up (by decide) (by decide)]
theorem al1{P:D->Prop}{a:D}(c:P a):∀ x∈[a],P x:=by intro x b;simp -iota only[cm,ey,or_false] at b;subst b;exact c
theorem al2{P:D->Prop}{a b:D}(e:P a)(d:P b):∀ x∈[a,b],P x:=by intro x c;simp -iota only[cm,ey,or_false] at c;rcases c with rfl | rfl <;> assumption
theorem al3{P:D->Prop}{a b c:D}(g:P a)(f:P b)(e:P c):∀ x∈[a,b,c],P x:=by intro x d;simp -iota only[cm,ey,or_false] at d;rcases d with rfl | rfl | rfl <;> assumption
theorem Kb{i lo hi:Int}(h:i < lo\/hi < i):whD (.int i) lo hi=false:=by
 show (decide (lo<=i) && decide (i<=hi))=false;rcases h with h | h
 .rw[decide_eq_false (by lia),P8]
 .simp_all
theorem things{h w y x r:Int}(h1:1<=h)(s:1<=w)(u:h<=64)(q:w<=64)(g:Inp h w y x)(t:0<=r)(j:r < 10) :
  ∃ d,atI [D.tup [.int h,.int x],.tup [.int y,.int w],.tup [.int (-1),.int x],.lst [.int y,.int x],.tup [.int y],.non,.tup [.int y,.bl true],.tup [.int y,.str "0"],.int 0,.tup [.int y,.int x,.int 0]] r=some d/\Th d/\okR d/\inD h w d=false:=by
 have n:=g.y0;have m:=g.y1;have p:=g.x0;have o:=g.x1;obtain⟨k,rfl⟩:∃ k:Nat,r=k:=#[r.toNat,by lia];have c:Sh 100 1 (.int y):=Ce (by lia) (by lia);have f:Sh 100 1 (.int x):=Ce (by lia) (by lia);have a:∀ (L:List D) (d:D),L[k]?=some d->atI L (k:Int)=some d:=λL d e=>gi (by lia) (by rw[fL];exact e);have l:∀ b:Bool,(b && false)=false:=λb=>by cases b <;> rfl
 match k,j,a with
 | 0,_,a=>exact#[_,a _ _ rfl,.two _ _ rfl rfl,nJ (al2 (Ce (by lia) (by lia)) f) (by simp),by show (whD (.int h) 0 (h - 1) && _)=false;rw[Kb (.inr (by lia)),P8]]
 | 1,_,a=>exact#[_,a _ _ rfl,.two _ _ rfl rfl,nJ (al2 c (Ce (by lia) (by lia))) (by simp),by show (whD (.int y) 0 (h - 1) && whD (.int w) 0 (w - 1))=false;rw[Kb (i:=w) (.inr (by lia)),l]]
 | 2,_,a=>exact#[_,a _ _ rfl,.two _ _ rfl rfl,nJ (al2 (Ce (by lia) (by lia)) f) (by simp),(by show (whD (.int (-1)) 0 (h - 1) && whD (.int x) 0 (w - 1))=false;rw[Kb (i:=-1) (.inl (by lia)),P8])]
 | 3,_,a=>exact#[_,a _ _ rfl,.lst _,Lp (al2 c f) (by simp),rfl]
 | 4,_,a=>exact#[_,a _ _ rfl,.one _,nJ (al1 c) (by simp),rfl]
 | 5,_,a=>exact#[_,a _ _ rfl,.non,.inr (.inl rfl),rfl]
 | 6,_,a=>exact#[_,a _ _ rfl,.two _ _ rfl rfl,nJ (al2 c (.bl true)) (by simp),by show (_ && false)=false;rw[l]]
 | 7,_,a=>exact#[_,a _ _ rfl,.two _ _ rfl rfl,nJ (al2 c (.str (by decide +kernel))) (by simp),by show (_ && false)=false;rw[l]]
 | 8,_,a=>exact#[_,a _ _ rfl,.int _,.inr (.inr (.inr (.inl #[_,rfl,by decide]))),rfl]
 | 9,_,a=>exact#[_,a _ _ rfl,.three _ _ _,nJ (al3 c f (Ce (by lia) (by lia))) (by simp),rfl]
 | k + 10,j,_=>exact absurd j (by lia)
theorem HP(T:Txt K mg a):aM P w K mg base CX0 11 a.Fb a.Af ["_law_script"] (sp3 K 1 (JG 63)):=by
 refine ok3 T.Ng.F dW (hbody:=λa0 A a4 s H E F=>#[_,_,(ag (dY ic rfl (b_ T.z_range (ab (aN (JW rfl) T.z_max (aa WZ (Yj (aN (JV rfl) T.z_min (aa WZ (Yj (aN (kr) T.z_len (aa (bv 0) af)) af))) af))) ah)) (aX (i:=1) dW.nd rfl (cv rfl))
   (ag (aI (i:=2) dW.nd rfl (cv rfl) (ar (sU T) F.dn T.fI.m T.fI.F.kp T.fI.b (Yj (ar (wG T) F.dn T.iN.m T.iN.F.kp T.iN.b (Yj (p3v 0) (Yj (p3v 1) af))) af)))
   (ag (aI (i:=3) dW.nd rfl (cv rfl) (ar (wF T) F.dn T.iM.m T.iM.F.kp T.iM.b (aa (bv 2) (Yj jm af))))
   (ag (aI (i:=4) dW.nd rfl (cv rfl) (mR (HG T.mk_Plan (pZ T) F.dn (by rfl) T.HY T.kc.b (ab (aA (bv 3) WZ) (ab (aA (bv 3) WZ) (ab (aA (bv 3) WZ) (ab (aA (bv 3) WZ) ah)))))))
   (ag (bW (is:=[5,6]) (ar (qS T) F.dn T.eF.m T.eF.F.kp T.eF.b (Yj (p3v 3) af)) (aj (aq (i:=5) dW.nd rfl (cv rfl)) (aj (aq (i:=6) dW.nd rfl (cv rfl)) aO)) rfl)
   (ag (aI (i:=7) dW.nd rfl (cv rfl) (bF (ab (aF (ab ae (ab ae ah))) (ab (aF (ab (cy (P3.opd (aA (bv 3) WZ)) WZ) (ab (cy (P3.opd (aA (bv 3) WZ)) WZ) ah))) ah))))
   (ag (dY ic rfl (b_ T.z_range (ab ae ah)) (aX (i:=8) dW.nd rfl (cv rfl))
   (au (c_ (eu 7 (bv 7) (aF (ab (ar (bj T) F.dn T.av.m T.av.F.kp T.av.b (aa (bv 2) (Yj (aA (bv 3) WZ) af))) (ab (ar (bj T) F.dn T.av.m T.av.F.kp T.av.b (aa (bv 2) (Yj (aA (bv 3) WZ) af))) ah)))))))
   (ag (dY ic rfl (bR (p3v 7)) (aX (i:=9) dW.nd rfl (cv rfl))
   (au (cf (cu (bX (ar (ux T) F.dn T.gE.m T.gE.F.kp T.gE.b (Yj (p3v 4) (Yj (p3v 3) (Yj (p3v 9) (Yj (aA (P3.opd (aA (bv 5) (P3.opd (aA (bv 9) WZ)))) (P3.opd (aA (bv 9) WZ))) (Yj (uZ F (bv 6) (bv 9)) af)))))))) (au (aD jm)) br)))
   (ag (bW (is:=[10,11]) (aA (bv 7) (P3.opd (wx WZ))) (aj (aq (i:=10) dW.nd rfl (cv rfl)) (aj (aq (i:=11) dW.nd rfl (cv rfl)) aO)) rfl)
   (ag (aI (i:=12) dW.nd rfl (cv rfl) (mR (bF (ab (aF (ab (aA (bv 3) WZ) (ab (p3v 11) ah))) (ab (aF (ab (p3v 10) (ab (aA (bv 3) WZ) ah))) (ab (aF (ab (wx WZ) (ab (p3v 11) ah))) (ab (bF (ab (p3v 10) (ab (p3v 11) ah))) (ab (aF (ab (p3v 10) ah)) (ab zE (ab (aF (ab (p3v 10) (ab jm ah))) (ab (aF (ab (p3v 10) (ab bE ah))) (ab ae (ab (aF (ab (p3v 10) (ab (p3v 11) (ab ae ah)))) ah)))))))))))))
   (ag (aI (i:=13) dW.nd rfl (cv rfl) (aA (bv 12) (P3.opd (ar (bj T) F.dn T.av.m T.av.F.kp T.av.b (aa (bv 2) (aa WZ af))))))
   (au (dY ic rfl (bR (bF (ab (rq T.dh.m) (ab (rq T.bu.m) (ab (rq T.df.m) ah))))) (aX (i:=14) dW.nd rfl (cv rfl))
   (au (cf (cu (bX (ar (qT T) F.dn T.eI.m T.eI.F.kp T.eI.b (Yj (p3v 14) (Yj (p3v 4) (Yj (p3v 13) af)))))) (au (aD jm)) br)))))))))))))))
   (au (aD jm))),λa9 Q h hl=>?_])
 let#[O,rfl,hn,q]:=h;ext;have m1:fmax 1 (fmin 6 (O.length:Int))<=6:=by delta fmax fmin;split <;> split <;> lia
 have m2:1<=fmax 1 (fmin 6 (O.length:Int)):=by delta fmax fmin;split <;> split <;> lia
 refine#[by lia,by lia,cj (λk n=>∃ s1 s2 s3 s4 s5 s6 W t o C B z v b,n=[some (.fz (.scr O)),fo s1,fw s2,fo s3,fo s4,fo s5,fo s6,fo W,fo t,fo o,fo C,fo B,fo z,fo v,fo b]) #[none,none,none,none,none,none,none,none,none,none,none,none,none,none,rfl] ?_ ?_]
 .rintro k0 x n hd ⟨s1,s2,s3,s4,s5,s6,W,t,o,C,B,z,v,b,rfl⟩;let#[lk,rfl]:=eQ hd;ext;refine#[O,_,rfl,by lia,λr0=>?_];ext;refine#[_,rfl,λd0 b0=>?_];ext;refine#[_,rfl,b0.up (by decide),λR h w m d1 J g I b1=>?_];delta nZ;walk_at "o";refine#[R,h,w,m,rfl,J,g,I,?_];ext;refine#[R,h,w,m,rfl,J,g,I,λM gc=>?_];generalize a7:(mkR h.toNat w.toNat λy x=>wgt h w m y x).map il=U;have h1:=J.h1;have w1:=J.w1;have h2:=J.h2;have w2:=J.w2;ext;refine#[sl2 (by decide),sl2 (by decide),sl2 (by decide),by decide,by decide,?_];refine cj (λk n=>∃ (L:List (Int×Int)) (d:D) (t:Option D),Box (560 + 2 * (k:Int)) d/\L.length=2 + k/\(∀ p∈L,Inp h w p.1 p.2)/\n=[some (.fz (.scr O)),some (.fz (.int (k0:Int))),some (.ow d),some (.fz (.tup [.int h,.int w,.str R.word,.str (wy m)])),some (.fz (plD a R h w m)),some (.fz (.lst U)),some (.fz (.mp M)),some (.ow (.lst (L.map piD))),fo t,fo o,fo C,fo B,fo z,fo v,fo b]) #[[(0,0),(h - 1,w - 1)],d1,t,b1.up (by lia),rfl,?_,rfl] ?_ ?_
  .intro p hp;simp -iota only[cm,ey,or_false] at hp;rcases hp with rfl | rfl
   .constructor <;> (dsimp only;lia)
   .constructor <;> (dsimp only;lia)
  .rintro k x n G ⟨L,dk,t,bk,Ll,V,rfl⟩;let#[lt,rfl]:=eQ G;have lt':k < 6:=lt;ext;refine#[dk,_,_,rfl,bk,by lia,by lia,by lia,λr1 e1 l1 u1 c1=>?_];ext;refine#[e1,_,_,rfl,c1,by lia,by lia,by lia,λr2 e2 l2 u2 c2=>?_];ext;refine#[sl2 (by decide),by rw[lM0,ea];lia,L++[(r1,r2)],e2,some _,c2.up (by lia),by rw[dV];show L.length + 1=_;lia,λp hp=>?_,by rw[er];rfl];rcases gs.mp hp with hp | hp
   .exact V p hp
   .simp -iota only[cm,ey,or_false] at hp;subst hp;exact#[l1,u1,l2,u2]
  .rintro n ⟨L,dk,t,bk,Ll,V,rfl⟩;ext;refine cj (λj n=>∃ o,n=[some (.fz (.scr O)),some (.fz (.int (k0:Int))),some (.ow dk),some (.fz (.tup [.int h,.int w,.str R.word,.str (wy m)])),some (.fz (plD a R h w m)),some (.fz (.lst U)),some (.fz (.mp M)),some (.fz (.lst (L.map piD))),fo t,fo o,fo C,fo B,fo z,fo v,fo b]) #[o,rfl] ?_ ?_
   .rintro j x n G ⟨o,rfl⟩;let#[p,hp,rfl]:=c6 G;have N:=V p (ek hp);have y0:=N.y0;have y1:=N.y1;have x0:=N.x0;have x1:=N.x1;obtain⟨Y,hY⟩:∃ Y:Nat,p.1=Y:=#[p.1.toNat,by lia];obtain⟨X,hX⟩:∃ X:Nat,p.2=X:=#[p.2.toNat,by lia];have a1:atI U p.1=some (il ((hV w.toNat).map λ(x:Nat)=>wgt h w m p.1 x)):=by
     rw[<- a7,hY];exact w_ (f:=λy x=>wgt h w m y x) (by lia)
    have a2:atI (((hV w.toNat).map λ(x:Nat)=>wgt h w m p.1 x).map D.int) p.2=some (.int (wgt h w m p.1 p.2)):=by
     rw[hX];exact AA (f:=λx=>wgt h w m p.1 x) (by lia)
    ext;refine cA.mpr #[_,a1,?_];ext;refine cA.mpr #[_,a2,?_];ext;refine#[_,gc p.1 p.2 N,?_];ext;refine#[R,h,w,m,p.1,p.2,rfl,J,g,I,N,?_];ext;exact#[some _,rfl]
   .rintro n ⟨o,rfl⟩;have LL:L.length=8:=Ll;obtain⟨p,hp⟩:∃ p,L[7]?=some p:=#[_,gE0 (by lia)];have N:=V p (ek hp);have hz:atI (L.map piD) (-1)=some (piD p):=xc (by rw[lM0,LL,ef,hp];rfl);ext;refine cA.mpr #[_,hz,?_];walk_at "o";have a8:Box 572 dk:=bk;refine#[sl2 (by decide),sl2 (by decide),sl2 (by decide),sl2 (by decide),sl2 (by decide),sl2 (by decide),sl2 (by decide),sl2 (by decide),sl2 (by decide),dk,_,_,rfl,a8,by decide,by decide,by decide,λr e l u c=>?_];let#[d,S,th,a5,a6]:=things h1 w1 h2 w2 N l u;ext;refine cA.mpr #[_,S,?_]
    clear S
    ext;generalize D.lst [D.tup [D.int h,D.int p.2],D.tup [D.int p.1,D.int w],D.tup [D.int (-1),D.int p.2],D.lst [D.int p.1,D.int p.2],D.tup [D.int p.1],D.non,D.tup [D.int p.1,D.bl true],D.tup [D.int p.1,D.str "0"],D.int 0,D.tup [D.int p.1,D.int p.2,D.int 0]]=Z;refine#[sl2 (by decide),cj (λj n=>∃ b,n=[some (.fz (.scr O)),some (.fz (.int (k0:Int))),some (.ow e),some (.fz (.tup [.int h,.int w,.str R.word,.str (wy m)])),some (.fz (plD a R h w m)),some (.fz (.lst U)),some (.fz (.mp M)),some (.fz (.lst (L.map piD))),fo t,fo o,some (.fz (.int p.1)),some (.fz (.int p.2)),some (.fz Z),some (.fz d),fo b]) #[b,rfl] ?_ ?_]
    .rintro j x n G ⟨b,rfl⟩;obtain⟨f,rfl,hf⟩:∃ f,x=.adr f/\(f=a.lJ\/f=a.jD\/f=a.lI):=by
      have:=ek G;simp -iota only[cm,ey,or_false] at this;rcases this with rfl | rfl | rfl
      .exact#[_,rfl,.inl rfl]
      .exact#[_,rfl,.inr (.inl rfl)]
      .exact#[_,rfl,.inr (.inr rfl)]
     ext;refine#[f,R,h,w,m,d,rfl,hf,J,g,I,th,a5,a6,?_];ext;exact#[some _,rfl]
    .rintro n ⟨b,rfl⟩;ext;exact#[some _,some e,some _,some _,some _,some _,some _,t,o,some _,some _,some _,some _,b,rfl]
 .rintro n ⟨s1,s2,s3,s4,s5,s6,W,t,o,C,B,z,v,b,rfl⟩;ext;exact q _
theorem ln6{g:Type}{us:List g}(h:us.length=6):∃ a b c d e f,us=[a,b,c,d,e,f]:=by
 match us,h with
 | [a,b,c,d,e,f],_=>exact#[a,b,c,d,e,f,rfl]
def vV (K:Fg0):Sp:=λvs H Q _=>∃ (p:Addr) (ns:Li0),vs=[.ref p]/\SqL K H p (ns.map V.int)/\ns.length<=63/\∀ H',Q (.bl true) H'
theorem Lq(T:Txt K mg a):aM P w K mg base CX0 11 a.Fb a.Af ["_law_script"] (vV K):=LK (HP T)
set_option bootstrap.genMatcherCode true in
local macro_rules | `(tactic| walk_at "q")=>`(tactic| (intro _ _ _ _ _ _ us hl;first | (have h:=ln0 hl;subst h;rfl) | (obtain⟨_,h⟩:=ln1 hl;subst h;rfl) | (obtain⟨_,_,h⟩:=ln2 hl;subst h;rfl) | (obtain⟨_,_,_,h⟩:=ln3 hl;subst h;rfl) | (obtain⟨_,_,_,_,h⟩:=ln4 hl;subst h;rfl) | (obtain⟨_,_,_,_,_,h⟩:=ln5 hl;subst h;rfl) | (obtain⟨_,_,_,_,_,_,h⟩:=ln6 hl;subst h;rfl)))
theorem all_mk{l:SL}{h:Heap}{fa:Addr}(X:K.In h)(G:h.Ns eW mg)(z':mg "law"=some (.ref fa)){bC:Addr}{bV:Addr}{bB:Addr}{H:Addr}{dG:Addr}{aH:Addr}{bz:Addr}{a8:Addr}{f:Option Addr}{g:Nat}{d:Array (Option Value)}{b:Tok}{a:Tok}{bL:Addr}{y:Option Addr}{z:Nat}{u:Array (Option Value)}{k:Tok}{j:Tok}{f0 f1 f2 f3 f4 f5 f6 f7 f8 f9 t2 t1 s9 s8 s7 s6 s5 s4 s1 r' r0 r7 r6 r5 r4 r2 r1 q' q0 q7 q6 q5 q4 q3 q2 q1 p9 p4 p1 o0 o9 o8 o7 o6 o5 o4 o2 o1 n' n0 A2:Addr}{d0 d1 d2 d3 d4 d5 d6 d7 d8 d9 x0 x7 x5 x4 x3 x2 x1 w' w0 w7 w3 w2 w1 v' v0 v9 v8 v7 v6 v5 v4 v2 v1 u' u0 u9 u8 u7 u6 u5 u4 u2 u1 t0 t9 t8 t7 t6 t5 t4 A6:eK}{t:Tok}{I:Tok}(a7:hP K eW "Guessed"=some (some (.ref bC)))(S:ya K bC DJ=true)(a4:rd K bC=true)(Q:Gc K bC=true)(N:ez K (.ref bC) "__setattr__"=some (some (.builtin "object.__setattr__")))(V:AC K bC=true)(Y:kx K (.ref bC)=true)(a1:ez K (.ref bC) "__init__"=some (some (.builtin "object.__init__")))(b7:hP K eW "Halves"=some (some (.ref bV)))(a':ya K bV DJ=true)(b6:rd K bV=true)(a0:Gc K bV=true)(a9:ez K (.ref bV) "__setattr__"=some (some (.builtin "object.__setattr__")))(b1:AC K bV=true)(b4:kx K (.ref bV)=true)(b5:ez K (.ref bV) "__init__"=some (some (.builtin "object.__init__")))(a6:hP K eW "Leaning"=some (some (.ref bB)))(R:ya K bB DJ=true)(a2:rd K bB=true)(O:Gc K bB=true)(M:ez K (.ref bB) "__setattr__"=some (some (.builtin "object.__setattr__")))(U:AC K bB=true)(W:kx K (.ref bB)=true)(Z:ez K (.ref bB) "__init__"=some (some (.builtin "object.__init__")))(f':hP K eW "Plan"=some (some (.ref H)))(e1:ya K H DJ=true)(e0:rd K H=true)(c0:Gc K H=true)(c4:ez K (.ref H) "__setattr__"=some (some (.builtin "object.__setattr__")))(e4:AC K H=true)(e6:kx K (.ref H)=true)(e':hP K eW "Sums"=some (some (.ref dG)))(c':ya K dG DJ=true)(e8:rd K dG=true)(c5:Gc K dG=true)(c2:ez K (.ref dG) "__setattr__"=some (some (.builtin "object.__setattr__")))(e2:AC K dG=true)(e5:kx K (.ref dG)=true)(e7:ez K (.ref dG) "__init__"=some (some (.builtin "object.__init__")))(r:hP K eW "HalvedError"=some (some (.ref aH)))(a5:hP K eW "NoPlace"=some (some (.ref bz)))(A:ez K (.ref H) "chosen"=some none)(o:ez K (.ref H) "corners"=some none)(n:ez K (.ref H) "letters"=some none)(m:hP K eW "ALONG_PILLARS"=some (some (.ref a8)))(i:K.lookup a8=some #[.type "tuple",f,.seq (Vz9 [.str (jx "p") b,.str (jx "b") a]) g,d])(E:hP K eW "ALONG_ROWS"=some (some (.ref bL)))(B:K.lookup bL=some #[.type "tuple",y,.seq (Vz9 [.str (jx "r") k,.str (jx "b") j]) z,u])(n4:bp K (.type "bool") (.type "str")=some false)(m4:bp K (.type "int") (.type "str")=some false)(k6:bp K (.type "NoneType") (.type "str")=some false)(j5:bp K (.type "str") (.type "str")=some true)(l4:bp K (.type "list") (.type "str")=some false)(i':bp K (.type "tuple") (.type "str")=some false)(m9:bp K (.type "dict") (.type "str")=some false)(F0:FM K aH "__init__" "HalvedError.__init__" cJ f0 d0)(F1:FM K bz "__init__" "NoPlace.__init__" dX f1 d1)(F2:FN K "is_whole" "is_whole" nE f2 d2)(F3:FN K "is_size" "is_size" pU f3 d3)(F4:FN K "is_place_within" "is_place_within" eO f4 d4)(F5:FN K "check_place" "check_place" iY f5 d5)(F6:FM K dG "word" "Sums.word" kW f6 d6)(F7:FM K bV "word" "Halves.word" i6 f7 d7)(F8:FM K bC "word" "Guessed.word" hU f8 d8)(F9:FM K bB "word" "Leaning.word" g_ f9 d9)(L0:FN K "all_rules" "all_rules" kP t2 x0)(L7:FN K "rule_of" "rule_of" pT t1 x7)(L3:FN K "can_halve" "can_halve" kO s9 x5)(L1:FN K "corners_of" "corners_of" jN s8 x4)(K':FN K "places_of" "places_of" iP s7 x3)(J':FN K "part_of" "part_of" lZ s6 x2)(i1:FM K H "__init__" "Plan.__init__" gp s5 x1)(z7:FM K H "height" "Plan.height" i4 s4 w')(z5:FM K H "width" "Plan.width" jQ s1 w0)(y':FM K H "way" "Plan.way" nG r' w7)(y0:FM K H "steps" "Plan.steps" jR r0 w3)(y5:FM K H "corner" "Plan.corner" i5 r7 w2)(y2:FM K H "parts" "Plan.parts" jS r6 w1)(y1:FM K H "parts_of_step" "Plan.parts_of_step" dz r5 v')(x':FM K H "halvings" "Plan.halvings" gn r4 v0)(J0:FN K "counted" "counted" pV r2 v9)(I':FN K "share_ahead" "share_ahead" fN r1 v8)(I0:FN K "share" "share" rh q' v7)(I8:FN K "all_copies" "all_copies" gI q0 v6)(I7:FN K "copies" "copies" sf q7 v5)(I6:FN K "beneath" "beneath" jg q6 v4)(I5:FN K "later_halvings" "later_halvings" fv q5 v2)(I4:FN K "weight_among" "weight_among" dr q4 v1)(I3:FN K "weight" "weight" se q3 u')(I2:FN K "_law_cell" "_law_cell" kT q2 u0)(I1:FN K "_law_stream" "_law_stream" iZ q1 u9)(H7:FN K "_law_take" "_law_take" kQ p9 u8)(H6:FN K "_law_size" "_law_size" kR p4 u7)(H5:FN K "_law_way" "_law_way" nF p1 u6)(H4:FN K "_law_plan" "_law_plan" kS o0 u5)(H3:FN K "_law_corners" "_law_corners" g9 o9 u4)(G':FN K "_law_axis" "_law_axis" kU o8 u2)(E5:FN K "_law_sizes" "_law_sizes" eP o7 u1)(E1:FN K "_law_share" "_law_share" gJ o6 t0)(D':FN K "_law_singles" "_law_singles" gZ o5 t9)(D3:FN K "_law_weights" "_law_weights" du o4 t8)(D2:FN K "_law_whole" "_law_whole" jO o2 t7)(C':FN K "_law_beneath" "_law_beneath" dv o1 t6)(B':FN K "_law_refused" "_law_refused" g6 n' t5)(A':FN K "_law_right" "_law_right" jP n0 t4)(h0:FN K "law" "law" DO A2 A6)(k_xt_NoPlace:Rw K (.ref bz)=some (.type "type"))(k_xe_NoPlace:rz K bz (.type "BaseException")=some true)(k_xo_HalvedError:xoB K aH aH f0 []=true)(k_xo_NoPlace:xoB K aH bz f1 ["found"]=true)(k_xnd:Ls [aH,bz]=true)(D:hP K eW "ValueError"=some none)(k_h_rd:UD K aH (.type "type")=true)(k_h_ga:Lu K (.ref aH) "__getattribute__"=some (some (.builtin "type.__getattribute__")))(k_h_fc:TQ K (.ref aH) (.type "type") "__init__"=some (.val (.ref f0)))(x:hP K eW "MOST_PLACES"=some (some (.int 512 t)))(J:hP K eW "MOST_SIDE"=some (some (.int 64 I)))(g7:hP K eW "bool"=some none)(g5:hP K eW "dict"=some none)(h9:hP K eW "int"=some none)(C:hP K eW "isinstance"=some none)(h8:hP K eW "len"=some none)(g4:hP K eW "list"=some none)(h7:hP K eW "max"=some none)(h6:hP K eW "min"=some none)(c1:hP K eW "range"=some none)(g2:hP K eW "repr"=some none)(L:hP K eW "reversed"=some none)(b0:hP K eW "sorted"=some none)(h5:hP K eW "str"=some none)(h4:hP K eW "sum"=some none)(b':hP K eW "tuple"=some none)(g0:hP K eW "zip"=some none)(n7:bp K (.type "bool") (.type "bool")=some true)(n6:bp K (.type "bool") (.type "int")=some true)(n5:bp K (.type "bool") (.type "list")=some false)(n2:bp K (.type "bool") (.type "tuple")=some false)(m7:bp K (.type "int") (.type "bool")=some false)(m6:bp K (.type "int") (.type "int")=some true)(m5:bp K (.type "int") (.type "list")=some false)(m2:bp K (.type "int") (.type "tuple")=some false)(l1:bp K (.type "NoneType") (.type "bool")=some false)(k':bp K (.type "NoneType") (.type "int")=some false)(k0:bp K (.type "NoneType") (.type "list")=some false)(k5:bp K (.type "NoneType") (.type "tuple")=some false)(k4:bp K (.type "str") (.type "bool")=some false)(j':bp K (.type "str") (.type "int")=some false)(j6:bp K (.type "str") (.type "list")=some false)(j4:bp K (.type "str") (.type "tuple")=some false)(l':bp K (.type "list") (.type "bool")=some false)(l0:bp K (.type "list") (.type "int")=some false)(l9:bp K (.type "list") (.type "list")=some true)(l2:bp K (.type "list") (.type "tuple")=some false)(j3:bp K (.type "tuple") (.type "bool")=some false)(j2:bp K (.type "tuple") (.type "int")=some false)(j1:bp K (.type "tuple") (.type "list")=some false)(i0:bp K (.type "tuple") (.type "tuple")=some true)(n1:bp K (.type "dict") (.type "bool")=some false)(m':bp K (.type "dict") (.type "int")=some false)(m0:bp K (.type "dict") (.type "list")=some false)(m8:bp K (.type "dict") (.type "tuple")=some false) :
  ∃ (fd:eK) (g8:List (Addr×Str)),(∀ (s:Shared) (v:Value),VP s fd #[[v],[]] [("_law_script",v)])/\(∀ p∈g8,p.1∈([]:La0)/\K.lookup p.1=none/\∃ c,UV h c p.1)/\∀ base:Heap,K.In base->base.Ns eW mg->(∀ P q,g8.lookup P=some q->xj base P q)->aM l.prog w K mg base CX0 11 fa fd ["_law_script"] (vV K):=by
 have e:=z'.symm.trans (vl X G h0.n);cases e;let#[oc,od,kV,dc,pm,an,cd,ct,sl,rfl,lk,hc]:=h0.F.ex;have T:Txt K mg #[a8,bL,bC,bV,bB,H,dG,aH,bz,f0,d0,f1,d1,f2,d2,f3,d3,f4,d4,f5,d5,f6,d6,f7,d7,f8,d8,f9,d9,t2,x0,t1,x7,s9,x5,s8,x4,s7,x3,s6,x2,s5,x1,s4,w',s1,w0,r',w7,r0,w3,r7,w2,r6,w1,r5,v',r4,v0,r2,v9,r1,v8,q',v7,q0,v6,q7,v5,q6,v4,q5,v2,q4,v1,q3,u',q2,u0,q1,u9,p9,u8,p4,u7,p1,u6,o0,u5,o9,u4,o8,u2,o7,u1,o6,t0,o5,t9,o4,t8,o2,t7,o1,t6,n',t5,n0,t4,fa,_]:=#[#[S,a4,Q,N],
  vl X G a7,
  #[V,a1,Y],
  #[a',b6,a0,a9],
  vl X G b7,
  #[b1,b5,b4],
  #[R,a2,O,M],
  vl X G a6,
  #[U,Z,W],
  #[e1,e0,c0,c4],
  vl X G f',
  #[c',e8,c5,c2],
  vl X G e',
  #[e2,e7,e5],
  vl X G r,
  vl X G a5,
  A,
  o,
  n,
  #[vl X G m,λF=>.inr #[_,_,_,i,rfl,rfl,z2,.cons #[_,rfl] (.cons #[_,rfl] (.nil))]],
  #[vl X G E,λF=>.inr #[_,_,_,B,rfl,rfl,z2,.cons #[_,rfl] (.cons #[_,rfl] (.nil))]],
  #[n4,m4,k6,j5,l4,i',m9],
  fy F0 (by walk_at "q"),
  fy F1 (by walk_at "q"),
  fx X G F2 (by walk_at "q"),
  fx X G F3 (by walk_at "q"),
  fx X G F4 (by walk_at "q"),
  fx X G F5 (by walk_at "q"),
  fy F6 (by walk_at "q"),
  fy F7 (by walk_at "q"),
  fy F8 (by walk_at "q"),
  fy F9 (by walk_at "q"),
  fx X G L0 (by walk_at "q"),
  fx X G L7 (by walk_at "q"),
  fx X G L3 (by walk_at "q"),
  fx X G L1 (by walk_at "q"),
  fx X G K' (by walk_at "q"),
  fx X G J' (by walk_at "q"),
  fy i1 (by walk_at "q"),
  fy z7 (by walk_at "q"),
  fy z5 (by walk_at "q"),
  fy y' (by walk_at "q"),
  fy y0 (by walk_at "q"),
  fy y5 (by walk_at "q"),
  fy y2 (by walk_at "q"),
  fy y1 (by walk_at "q"),
  fy x' (by walk_at "q"),
  fx X G J0 (by walk_at "q"),
  fx X G I' (by walk_at "q"),
  fx X G I0 (by walk_at "q"),
  fx X G I8 (by walk_at "q"),
  fx X G I7 (by walk_at "q"),
  fx X G I6 (by walk_at "q"),
  fx X G I5 (by walk_at "q"),
  fx X G I4 (by walk_at "q"),
  fx X G I3 (by walk_at "q"),
  fx X G I2 (by walk_at "q"),
  fx X G I1 (by walk_at "q"),
  fx X G H7 (by walk_at "q"),
  fx X G H6 (by walk_at "q"),
  fx X G H5 (by walk_at "q"),
  fx X G H4 (by walk_at "q"),
  fx X G H3 (by walk_at "q"),
  fx X G G' (by walk_at "q"),
  fx X G E5 (by walk_at "q"),
  fx X G E1 (by walk_at "q"),
  fx X G D' (by walk_at "q"),
  fx X G D3 (by walk_at "q"),
  fx X G D2 (by walk_at "q"),
  fx X G C' (by walk_at "q"),
  fx X G B' (by walk_at "q"),
  fx X G A' (by walk_at "q"),
  fx X G h0 (by walk_at "q"),
  #[k_xt_NoPlace,k_xe_NoPlace],
  Ja k_xo_HalvedError,
  Ja k_xo_NoPlace,
  k_xnd,
  ip X G D,
  k_h_rd,
  k_h_ga,
  k_h_fc,
  #[e4,i1.m,i1.i,e6],
  F8.me,
  F7.me,
  F9.me,
  z7.me,
  z5.me,
  y'.me,
  y0.me,
  y5.me,
  y2.me,
  y1.me,
  x'.me,
  F6.me,
  #[_,vl X G x],
  #[_,vl X G J],
  ip X G g7,
  ip X G g5,
  ip X G h9,
  ip X G C,
  ip X G h8,
  ip X G g4,
  ip X G h7,
  ip X G h6,
  ip X G c1,
  ip X G g2,
  ip X G L,
  ip X G b0,
  ip X G h5,
  ip X G h4,
  ip X G b',
  ip X G g0,
  #[n7,n6,n5,n2,m7,m6,m5,m2,l1,k',k0,k5,k4,j',j6,j4,l',l0,l9,l2,j3,j2,j1,i0,n1,m',m0,m8]]
 exact#[_,[],λs v=>.of_eq rfl,(λp hp=>by cases hp),λbase _ _ _=>Lq T]
theorem walk{l:SL}{q:vn}{e:Ls0}{XP:(SV)->Heap->Prop}{j:World->Heap->Prop}{d:DefRec}{K:Params->Fg0}{ts:La0}(o:l.most=some 63)(g:d.params.defaults=[])(t:∀ (w:World) (h:Heap),j w h->(K w.params).In h/\∀ P∈ts,h.get? P=some (WY #[]))(F:∀ (w:World) (mg:SV) (i:Addr) (h:Heap),(K w.params).In h->h.Ns eW mg->mg d.name=some (.ref i)->
   ∃ (fd:eK) (b:List (Addr×Str)),(∀ (s:Shared) (u:Value),VP s fd #[[u],[]] [("_law_script",u)])/\(∀ p∈b,p.1∈ts/\(K w.params).lookup p.1=none/\∃ c,UV h c p.1)/\
    ∀ base:Heap,(K w.params).In base->base.Ns eW mg->(∀ P q,b.lookup P=some q->xj base P q)->aM l.prog w (K w.params) mg base CX0 11 i fd ["_law_script"] (vV (K w.params))) :
  W9 q e XP j l.row.toRowW d [] (λf vs=>WU f vs):=
 _2.Dq (n:=63) (k:=11) (x:="_law_script") (CX:=λ_=>CX0) (sp:=vV) o (by decide) g #[rfl,by decide,by decide,rfl] t F (λ_ _ a m r _ v=>#[a,m,rfl,v,r,λ_=>rfl]) λ_ _ _ _ _ z=>z
end
end _k
set_option bootstrap.genMatcherCode true in
local macro_rules | `(tactic| walk_at "p")=>`(tactic| first | (refine' _2.FN.mk ?k1 ?k2;(case k1=>k_is);(case k2=>refine' _2.E6 ?k3 ?k4 ?k5;(case k3=>k_is);(case k4=>k_is);(case k5=>k_is))) | (refine' _2.FM.mk ?k1 ?k6 ?k2;(case k1=>k_is);(case k6=>k_is);(case k2=>refine' _2.E6 ?k3 ?k4 ?k5;(case k3=>k_is);(case k4=>k_is);(case k5=>k_is))))
namespace PySem.W.Fast
abbrev T:=True
theorem G9:T:=trivial
theorem tw7490587196322485588:T:=G9
def g9(q:Lean.Name)(c:Lean.Syntax):List String->List Lean.Syntax
 | []=>[]
 | s::l=>c.setArg 1 (c[1].setArg 1 (c[1][1].setArg 0 (Lean.mkIdent (.mkSimple ("tw"++toString (q.str s).hash)))))::g9 q c l
def h9:Nat->List Char->List String->List String
 | _,[],a=>a
 | n,b::l,a=>h9 (n+1) l (if b=='1' then ("o_"++toString n)::a else a)
local macro_rules | `(universe $_)=>do
 return Lean.mkNullNode (g9 ((`PySem.Challenge).str "cw_halvedpictures_k61_copies_and_weights_holds") (<-`(def x:T:=G9)).raw (h9 43 "101100101011111111101110111111111111011111011101111111111101111101110111111111110111110111011111111111011111011101111111111101111101110111111111110111111011111101111110101111110111101110111111011111101111110111111011111101111110111111011111101111110111111011111111111110111110111011111101111110111111011111101111111111101111101110111111011111101111111111101111101110111111011111101111111111101111110111111011101111110111111011110111101111011101111110111111011111101111110111111011111101111110111111011111101111011111111111110101111110111101111011110111111011110111111011110111111011111101111110111111010111111011111101111110111111011111101111011110111111011110111111011110111111010111111011111".toList ("heap_39 heap_46 heap_736 tree_47 tree_77 tree_99 tree_121 tree_143 tree_165 tree_208 tree_217 tree_310 tree_360 tree_396 tree_446 tree_474 tree_565 tree_641 tree_719 tree_735 view_39 sts_49 sts_78 sts_100 sts_122 sts_144 sts_166 sts_209 sts_218 sts_311 sts_361 sts_397 sts_447 sts_475 sts_566 sts_642 sts_720 env_41".splitOn " "))).toArray
universe o
end PySem.W.Fast
open PySem PySem.W PyProof.Rows
set_option maxRecDepth 100000 in
set_option maxHeartbeats 0 in
theorem PySem.Challenge.cw_halvedpictures_k61_copies_and_weights_holds : PySem.Challenge.rw_halvedpictures_k61_copies_and_weights.Holds := by
 w_on;o_law;k_head;(case hw=>w_witness2)
 k_fill
 refine _k.walk (ts:=[]) (l:=PySem.Challenge.rw_halvedpictures_k61_copies_and_weights) rfl rfl (fun w h Y=>⟨PySem.W.kIn_of Y,(fun _ z=>by cases z)⟩) ?F
 case F=>
  intro w mg fa h KX G hmg
  refine' _k.all_mk KX G hmg ?aC_Guessed ?pg_Guessed ?hd_Guessed ?po_Guessed ?sa_Guessed ?mk_Guessed ?kc_Guessed ?in_Guessed ?aC_Halves ?pg_Halves ?hd_Halves ?po_Halves ?sa_Halves ?mk_Halves ?kc_Halves ?in_Halves ?aC_Leaning ?pg_Leaning ?hd_Leaning ?po_Leaning ?sa_Leaning ?mk_Leaning ?kc_Leaning ?in_Leaning ?aC_Plan ?pg_Plan ?hd_Plan ?po_Plan ?sa_Plan ?mk_Plan ?kc_Plan ?aC_Sums ?pg_Sums ?hd_Sums ?po_Sums ?sa_Sums ?mk_Sums ?kc_Sums ?in_Sums ?aC_HalvedError ?aC_NoPlace ?n_Plan_chosen ?n_Plan_corners ?n_Plan_letters ?q_ALONG_PILLARS ?lk_ALONG_PILLARS ?q_ALONG_ROWS ?lk_ALONG_ROWS ?y_bs ?y_is ?y_ns ?y_ss ?y_ls ?y_ts ?y_ds ?F0 ?F1 ?F2 ?F3 ?F4 ?F5 ?F6 ?F7 ?F8 ?F9 ?F10 ?F11 ?F12 ?F13 ?F14 ?F15 ?F16 ?F17 ?F18 ?F19 ?F20 ?F21 ?F22 ?F23 ?F24 ?F25 ?F26 ?F27 ?F28 ?F29 ?F30 ?F31 ?F32 ?F33 ?F34 ?F35 ?F36 ?F37 ?F38 ?F39 ?F40 ?F41 ?F42 ?F43 ?F44 ?F45 ?F46 ?F47 ?F48 ?F49 ?F50 ?k_xt_NoPlace ?k_xe_NoPlace ?k_xo_HalvedError ?k_xo_NoPlace ?k_xnd ?z_ValueError ?k_h_rd ?k_h_ga ?k_h_fc ?q_MOST_PLACES ?q_MOST_SIDE ?z_bool ?z_dict ?z_int ?z_isinstance ?z_len ?z_list ?z_max ?z_min ?z_range ?z_repr ?z_reversed ?z_sorted ?z_str ?z_sum ?z_tuple ?z_zip ?y_bb ?y_bi ?y_bl ?y_bt ?y_ib ?y_ii ?y_il ?y_it ?y_nb ?y_ni ?y_nl ?y_nt ?y_sb ?y_si ?y_sl ?y_st ?y_lb ?y_li ?y_ll ?y_lt ?y_tb ?y_ti ?y_tl ?y_tt ?y_db ?y_di ?y_dl ?y_dt
  (case aC_Guessed | pg_Guessed | hd_Guessed | po_Guessed | sa_Guessed | mk_Guessed | kc_Guessed | in_Guessed | aC_Halves | pg_Halves | hd_Halves | po_Halves=>k_is)
  (case sa_Halves | mk_Halves | kc_Halves | in_Halves | aC_Leaning | pg_Leaning | hd_Leaning | po_Leaning | sa_Leaning | mk_Leaning | kc_Leaning | in_Leaning=>k_is)
  (case aC_Plan | pg_Plan | hd_Plan | po_Plan | sa_Plan | mk_Plan | kc_Plan | aC_Sums | pg_Sums | hd_Sums | po_Sums | sa_Sums=>k_is)
  (case mk_Sums | kc_Sums | in_Sums | aC_HalvedError | aC_NoPlace | n_Plan_chosen | n_Plan_corners | n_Plan_letters | q_ALONG_PILLARS | lk_ALONG_PILLARS | q_ALONG_ROWS | lk_ALONG_ROWS=>k_is)
  (case y_bs | y_is | y_ns | y_ss | y_ls | y_ts | y_ds=>kit_is)
  (case F0 | F1 | F2 | F3 | F4 | F5 | F6 | F7 | F8 | F9 | F10 | F11=>walk_at "p")
  (case F12 | F13 | F14 | F15 | F16 | F17 | F18 | F19 | F20 | F21 | F22 | F23=>walk_at "p")
  (case F24 | F25 | F26 | F27 | F28 | F29 | F30 | F31 | F32 | F33 | F34 | F35=>walk_at "p")
  (case F36 | F37 | F38 | F39 | F40 | F41 | F42 | F43 | F44 | F45 | F46 | F47=>walk_at "p")
  (case F48 | F49 | F50=>walk_at "p")
  (case k_xt_NoPlace | k_xe_NoPlace | k_xo_HalvedError | k_xo_NoPlace | k_xnd=>first | k_is | kernel_rfl)
  (case z_ValueError=>k_is)
  (case k_h_rd | k_h_ga | k_h_fc=>first | k_is | kernel_rfl)
  (case q_MOST_PLACES | q_MOST_SIDE | z_bool | z_dict | z_int | z_isinstance | z_len | z_list | z_max | z_min | z_range | z_repr=>k_is)
  (case z_reversed | z_sorted | z_str | z_sum | z_tuple | z_zip=>k_is)
  (case y_bb | y_bi | y_bl | y_bt | y_ib | y_ii | y_il | y_it | y_nb | y_ni | y_nl | y_nt=>kit_is)
  (case y_sb | y_si | y_sl | y_st | y_lb | y_li | y_ll | y_lt | y_tb | y_ti | y_tl | y_tt=>kit_is)
  (case y_db | y_di | y_dl | y_dt=>kit_is)
