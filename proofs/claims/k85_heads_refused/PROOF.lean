import PyProof.Rows.All
import Wide.All
import OpenK.AllK
import Wide.FinOn
import Lean
import KE.KRevIter
import KE.KPairComp
import KE.KIntText
import PyProof.NsDelKeeps
import PyProof.NeKinds
import KE.KNestM
import KE.KLam
import OpenK.KTop
import PyProof.FactsAll.dict_1
import PyProof.FactsAll.subtypes_4
import PyProof.Rows.SetFrom
import PyProof.SetNew
import PyProof.SetRoads
import PyProof.Rows.SortRuns
import PyProof.Rows.SortIns
import PyProof.Rows.SortShell
import PyProof.Rows.SortWalk
import KE.KSortTup
import KE.KDictOf
import PyProof.AttrMissHeap
import KE.KRevIter
import PyProof.SeqI3
import PyProof.SliceList
import PyProof.ListIndex
import PyProof.SeqWrite
import PyProof.InstEq
import PyProof.TupleKey
import PyProof.IsRules
import PyProof.EqAt
import PyProof.EqKinds
import PyProof.TupleCall
import PyProof.Rows.StrLawsPart
import PyProof.Rows.StrFirst
import PyProof.WalkInts
import PySem.Challenge.RW_halvedpictures_k85_heads_refused
set_option Elab.async false
set_option linter.all false
set_option maxRecDepth 100000
namespace PySem.W.Fast
abbrev T:=True
theorem G9:T:=trivial
theorem tw3940355632423885605:T:=G9
def g9(q:Lean.Name)(c:Lean.Syntax):List String->List Lean.Syntax
 | []=>[]
 | s::l=>c.setArg 1 (c[1].setArg 1 (c[1][1].setArg 0 (Lean.mkIdent (.mkSimple ("tw"++toString (q.str s).hash)))))::g9 q c l
def h9:Nat->List Char->List String->List String
 | _,[],a=>a
 | n,b::l,a=>h9 (n+1) l (if b=='1' then ("o_"++toString n)::a else a)
local macro_rules | `(universe $_)=>do
 return Lean.mkNullNode (g9 (`E85.ew85) (<-`(def x:T:=G9)).raw (h9 43 "101100101011111111101110111111111111011111011101111111111101111101110111111111110111110111011111111111011111011101111111111101111101110111111111110111110111011111111111011111011101111111111101111101110111111111110111110111011111111111011111101111110111101011111101111110111101111011101111011111101111110111101111110111101111110111111011111101111111111111010111101111110111111011111101111011101111110111111011111101111110111111011111101111110111111011111101111110111111111111101111101110111111011111101111110111111011111111111011111011101111110111111011111111111011111011101111110111111011111111111011111101111110111011111101111110111101111011101111110111111011111101111110111111011111101111110111111011111101111011111111111110111101110111111011111101111110111111011111101111111111111011110111011111101111110111111011111101111110111111111110101111110111101111011111101111110111111011111101111110111111011111101111011111101011111101111110111111011111101111110111111011111".toList ("heap_39 heap_46 heap_1012 tree_47 tree_77 tree_99 tree_121 tree_143 tree_165 tree_187 tree_209 tree_231 tree_253 tree_294 tree_315 tree_395 tree_423 tree_516 tree_566 tree_602 tree_652 tree_675 tree_766 tree_824 tree_880 tree_960 tree_1011 view_39 sts_49 sts_78 sts_100 sts_122 sts_144 sts_166 sts_188 sts_210 sts_232 sts_254 sts_295 sts_316 sts_396 sts_424 sts_517 sts_567 sts_603 sts_653 sts_676 sts_767 sts_825 sts_881 sts_961 env_41".splitOn " "))).toArray
universe o
end PySem.W.Fast
namespace E85
open PySem PySem.W PyProof.Rows
class Hy (G : outParam Prop) : Prop where
 h : G
def Dp {G : Prop} (_ : Hy G) (T : Prop) : Prop := T
theorem PySem.W.holds_open {r : OpenRow} {q : Program} {loose : List Str} {Xt : Shared -> Bool} {XP : (Str -> Option Value) -> Heap -> Prop} {α : Type} {Yf : Shared -> α} {Ya : World -> α} {YP : World -> Heap -> Prop} {d : DefRec} {kwd : List (Str × Expr)} {N : Nat} {G : Prop} [i : Hy G]
 (left : LeftO r.prog q loose Xt Yf Ya N) (hY : ∀ w s, Yf s = Ya w -> YP w s.heap) (hYk : ∀ w h h', YP w h -> (∀ b o, h.get? b = some o -> h'.get? b = some o) -> YP w h')
 (hX : ∀ s, Xt s = true -> XP (s.heap.nsMap mainGlobals) s.heap) (hXk : ∀ mg h h', XP mg h -> (∀ b o, h.get? b = some o -> h'.get? b = some o) -> XP mg h')
 (hdef : defOf q r.name = some (d, kwd)) (hp : r.prog.theDef r.name = some (d.params, d.body, d.scope)) (hk : kwWritten? d.params.kwonlyargs d.params.kw_defaults = some kwd) (hRf : ∀ s, Xt s = true -> RecFacts r.records s.heap) (hwr : (!r.writes || r.records.isEmpty) = true)
 (k1 : r.wellSaid = true) (ok : (chainsOk q && opensWell r.prog && (frees r.toRowW && r.within.isEmpty)) = true) (hb : r.prog.bare) (hw : r.toRowW.promised)
 (call : Dp i (WalkO q loose XP YP r.toRowW d kwd fun f vs => PySem.call f vs)) : r.Holds := _root_.PySem.W.holds_open left hY hYk hX hXk hdef hp hk hRf hwr k1 ok hb hw call
set_option maxRecDepth 100000 in
set_option maxHeartbeats 0 in
noncomputable def ew85 : PSigma fun G : Prop => Hy G -> PySem.Challenge.rw_halvedpictures_k85_heads_refused.Holds := ⟨_, by
 intro hG
 w_on;o_law;k_head;(case hw=>w_witness2)
 k_fill
 unfold Dp
 exact hG.h⟩
end E85
open Array renaming toList_extract->Ji,getElem?_eq_some_iff->VE,append_empty->Xn,getElem?_toList->Xv,getElem?_setIfInBounds_self_of_lt->Xy,length_toList->XW,append_assoc->ai3,size_ofFn->ao6
open BEq renaming comm->al3
open Bool renaming and_eq_true->eN,false_ne_true->ic,false_eq_true->ry,eq_iff_iff->TM,or_eq_true->Wg,and_false->YD,noConfusion->YV,eq_false_iff->ZV,or_false->aa0,not_eq_true'->al4,false_and->ap2
open Char renaming toNat->aj1
open Classical renaming propDecidable->Yw
open False renaming elim->ke
open ForInStep renaming yield->VX
open Int renaming toNat_natCast->ks,toNat_of_nonneg->Ya,emod_lt_of_pos->Yr,le_refl->Yv,emod_nonneg->Zh,natCast_nonneg->ZJ,eq_ofNat_of_zero_le->ac0,natCast_mul->ae0,le_trans->al2,toNat->an2
open List renaming replicate->bw,mem_cons_of_mem->cb,length_append->cn,mem_cons->dk,length_cons->ed,getElem?_map->ef,length_replicate->ey,mem_cons_self->eH,mem_append_right->eP,size_toArray->eR,lookup_cons->eS,getElem?_append_left->eW,not_mem_nil->fT,map_cons->gr,range->gs,map_append->hD,mem_of_getElem?->hF,mem_append->kS,mem_append_left->ml,mem_singleton->ng,getElem?_eq_none->nA,append_assoc->nR,append_nil->nT,mem_map->ot,take_of_length_le->pa,replicate_succ->rd,length_set->rk,length_nil->rp,nodup_cons->tj,length_eq_zero_iff->xt,getElem?_append_right->yp,map_map->Gc,length_take->HT,getElem?_replicate->IR,cons_append->Ja,nil_append->Os,mem_replicate->Rb,take_length->Re,extract->Su,lookup->SF,mem_of_mem_take->SZ,flatten_cons->Tf,getElem?_set_self->UV,length_drop->Vy,mem_or_eq_of_mem_set->VW,getElem?_set_ne->Wj,map_nil->Wp,ext_getElem?->WB,zip_cons_cons->Xo,forIn_cons->Xq,dropLast_concat_getLast->Xr,foldl_append->Xw,mem_range->XE,filterMap->XG,all_eq_true->XO,mem_flatten->XQ,drop_eq_getElem_cons->XU,getElem?_range->XX,map_congr_left->XY,eq_of_mem_replicate->Yg,range_succ->Yj,mem_filterMap->Yl,getElem?_drop->Yo,map_inj_right->Yp,map_replicate->Yq,length_range->YH,replicate_append_replicate->YJ,contains_iff_mem->YL,set_append_right->YM,getElem_mem->YW,all_cons->YX,length->YZ,range'_append_1->Zb,set_append_left->Zc,of_mem_zip->Zd,foldl_cons->Ze,filterMap_cons->Zi,length_zipWith->Zl,flatten_append->Zm,getElem?_take->ZI,map->ZK,set_cons_succ->ZL,getD_eq_getElem?_getD->ZM,getElem?_zip_eq_some->ZN,getElem?_set->ZW,range'->ZY,getElem?_cons_succ->ab6,zipWith->ad3,mem_range'->ad8,length_singleton->ae5,mem_iff_getElem?->af0,forIn_nil->af6,map_id->af9,drop_zero->ag3,replicate_succ'->ag5,mem_of_mem_drop->ag6,take_succ_cons->ah7,filterMap_map->ai6,getD->am6,isEmpty_iff->am7,zipIdx_cons->am9,take->an0,drop->an1,append_inj'->an3,length_zip->ao4,zipIdx_nil->ao7,foldl->ap4,nodup_nil->ap7,take_left->ap8,take_succ->aq1,take_zero->aq2
open List.cons renaming injEq->Ot,inj->ah8
open Nat renaming le_refl->cc,lt_of_lt_of_le->da,le_trans->eC,lt_irrefl->hY,ne_of_lt->jz,zero_le->rx,ne_of_gt->wh,lt_succ_self->PL,le_of_lt->Wh,lt_succ_of_lt->Wu,pow_le_pow_right->WR,le_succ->Xf,lt_or_ge->XM,sub_self->XN,le_of_succ_le->YE,le_of_eq->Zn,add_sub_cancel_left->ab7,min_self->ad1,toDigits->ad2,strongRecOn->ad7,le_add_left->ae1,mul_le_mul_right->ag0,mul_le_mul->ag4,add_comm->ak3,lt_trans->ak4,lt_of_succ_lt->ak6,le_succ_of_le->ak8,pow_succ->ak9,add_zero->al0,sub_zero->al5,le_of_not_lt->am4,le_add_right->am8,add_mul->an7,not_lt_zero->ao8,min_eq_left->ao9,mod_lt->ap9
open Ne renaming symm->ky
open Option renaming isSome_iff_exists->FB,bind_eq_some_iff->Ti,bind_some->YU,getD_some->aa9,map_id->ah9,map->ai8,getD_none->am3,map_some->ao2
open Option.some renaming inj->gT
open Or renaming inl->ek,inr->al7
open PyProof.Rows renaming callWith_type1->sm,slot_tuple_getitem->TX,assignInOrder_cons->VJ,AllBare->Yy,assignInOrder_nil->ZR,subscriptTail_builtinR->ac8,IntsAre->ap1
open PyProof.Rows.IsTup renaming new->am0
open PySem renaming wpAny_bind->au,wpAny_pure->bh,starEach->bp,FuncData->et,mainGlobals->eB,sizeLine_eq->ff,assignEach->lg,wpAny_holding->pb,foldedSetIterable->pk,wpAny_field->qd,wpAny_Call_Name_kw->tT,attributeBase->vr,wpAny_newObj_type->vx,wpAny_loadPart_at->xo,wpAny_standAt->yv,Comprehension->zl,wpAny_mono->Bk,keywordEach->DM,compareOp->Fk,codeAny->FU,cellsFrom->Ht,bootBuiltins->Jv,wpAny_truthy_bool->KB,NameKind->KM,letOwnedTupleGo->Oq,Program->Pv,wpAny_call->PP,isSubtype->PQ,swapsWithSole->Ri,swappedStores->Rj,codeAny_mono->Sa,Value->SB,wpAny_seqItems->SL,mem_of_lookup->Ub,wpAny_nextOf_list_item->Vr,standAt->VS,wpAny_pyIter_list->Wl,backToKw->Wm,Keyword->Wn,reprText->Wz,codeAny_call_builtin->WA,swapsWith->Xb,wpAny_getItem_str_slice->Xd,wpAny_of_eq->Xg,Shared->Xh,wpAny_setField_rec->Xp,Addr->Xz,binaryOp->XA,wpAny_setField->XC,Within->XI,getMethod->XJ,assignInOrder->Yb,bindName->Yc,behindInMarks->Yd,wpAny_onRaise->Yf,wpAny_execs_nil->Yh,wpAny_passesOwn->Yi,sysModules->Yk,typeIs_str->Ym,call_meets->Yn,wpAny_callSpecial?_slot->Yt,sliceBounds->Yu,wpAny_bindName->YA,wpAny_pyIter_rangeiter->YB,not_mem_of_deeper->YG,plainObj_wpAny_Assign_Attribute->YI,wpAny_nextOf_list_end->YN,builtinsNs->YO,Expr->YP,wpAny_call_entry->YQ,wpAny_pyIter_zip->YR,isInstance->YS,checkBuiltinCall->YT,wpAny_attempt->YY,post_val_or_str->Zf,Builtin->Zp,Str->Zq,wpAny_rule->Zt,wpAny_loadPart->Zw,wpAny_newFunctionEnv_cells->Zy,newFunctionEnv->ZC,call_repr_slot->ZD,intText?->ZH,wpAny_letOwnedTupleGo_zip->ZO,wpAny_letGo->ZZ,wpAny_comprehension_free->aa3,wpAny_execs_cons->aa5,wpAny_lookBehind->aa6,pastItsLine_dict->aa7,setFlight->ab0,noteFrame->ab1,wpAny_Try_except->ab2,compTurn->ab4,wpAny_pyNext_list_item->ac5,wpAny_pyNext_range_end->ac6,codeAny_of_tree->ad5,wpAny_pyNext_list_end->ae2,codeAny_call_function->ae3,codeAny_handlers_test->ae7,unpackItems->af1,IsRangeIter->af2,callWith->af3,BindsTo->ag9,callerA->ah0,wpAny_Tuple_spliced->ah2,wpAt_of_wpAny->ah4,wpAny_handleBy_cons->ah6,Heap->ai0,Stmt->ai4,hookBefore->ai9,excMatches->aj0,Result->aj3,setAttr->aj4,wpAny_nsSet1->aj5,seqIndex_neg->ak2,Pos->al8,PassesOwn->am1,lastMarks->am2,seqIndex_of->an5,wpAt_bind->ao3,getItem->ap0,call->ap5,Env->aq4
open PySem.Around renaming under->Zo
open PySem.Bind renaming staticBase->ad6,madeBy->an6
open PySem.Builtin.List renaming listTooLong->WT
open PySem.Builtin.ObjectAttr renaming bindTo->ZP
open PySem.Builtin.Range renaming rangeFitsLong->sr,rangeSize->Ys
open PySem.Builtin.Slice renaming slicePlaces->VT,sliceAdjust->XT,sliceApplied->Zz
open PySem.Builtin.SmallTypes renaming nextOf->AC,ownedTupleIsFree->FT,ownedTupleHandOut->XZ
open PySem.Builtin.Str renaming occurrences->jY,strSliceIndices->xp,strSub->yt,subAt->NB,strKind->UF,partsBetween->Xa
open PySem.Builtin.Tuple renaming tupleExact->WS
open PySem.Calls renaming spliced_cons->Xj,Name_function_global->Zs,spliced_nil->ZU,callWith_builtin->ac9,evalArgs_plain->af5
open PySem.Challenge renaming pw_halvedpictures_k85_heads_refused->Zr
open PySem.Clear renaming nil->am5
open PySem.Code renaming quiet_builtin->ai7,isGuard->ak0,isFrame->ak1
open PySem.EntryCells renaming newEntry->ah3
open PySem.F renaming plainAttrs_str->Mg,slot_str_split->Yx,slot_range_reversed->YK,slot_zip_next->Zg,excBase_ValueError->ZF,args_str_split_2->ZG,entry_str_split->ZX,attr_ValueError->ab3,plainAttrs_list->ab5,slot_str_partition->ab9,slot_list_append->ae4,slot_list_extend->ae6,entry_bexc_ga->ae8,plain_reversed_new->af7,args_bexc_ga->af8,slot_str_find->aj2,args_zip_next_1->al1
open PySem.Flow renaming next->al9
open PySem.Heap renaming get?_push_of_some->av,lt_size->dw,get?_push_size->er,get?_update_other->gm,get?_update_self->pL,size_push->yn,SameBut->Yz,get?_update_ne->ah5,IsList->an8,get?->aq6
open PySem.Heap.IsList renaming push->ab8
open PySem.Heap.Ns1 renaming of_empty->aj7
open PySem.IsRange renaming new->aq7
open PySem.NameKind renaming free->kx,cell->tr
open PySem.Obj renaming mapFields->FS,data_mapFields->VO,isFreed_of_fields->Xu,mapSeq->ZA
open PySem.PassesOwn renaming never->rr
open PySem.PyData renaming shown->hG,depth->oj,shownAll->pz,depthAll->ro,showable->yP,showableAll->Xm,depthKv->XB,shownKv->YF,showableKv->ak5
open PySem.ReadAtMost renaming cons->ao1
open PySem.SeqAt.EqAt renaming same->ac2,int_str->ai1,str_int->ai2
open PySem.Shared renaming heap->an9
open PySem.Str renaming ofString->ah,length_append->ee,empty->mu,length->ap3
open PySem.StrLaws renaming occ_head->ac1,glued_eq_join->ae9,reprText_len->ag7,found_one->al6,occBody->ao5
open PySem.Txt renaming partition->rA,join->tx,split->TH,slice->Xc,removeprefix->Xe,slice_le->ad0,find->ag2,zfill->aq5
open PySem.Value renaming ref->fS,none->pF,builtin->FG,type->Xi,str->XH,int->aa4,bool->ac4,float->an4
open PySem.W renaming kitOne->aw,findIn->dV,nsIn->fC,emptyDict->hW,mroIn->ia,keepIn->kv,mg_none_of->lp,mg_of->lx,Looks->nr,hasDictIn->ov,instObj->ri,looks_mroIn->td,plainGet->tq,makesIn->uq,kia_one->vq,plainOver->xl,takerIn->Do,callWith_K->GM,typeIn->KF,specialIn->VC,clsIn->WV,cellsFrom_some->Xk,fnOf->Xl,looks_findIn->Xs,methodCall_KW->Xt,looks_typeIn->XF,looks_clsIn->XS,any_some->Ye,isFn->YC,OpenLaw->Za,plainGet_of->Zj,callWith_K0->Zk,lookIn->Zu,InstAt->Zv,check_slot->ZE,methodObj->ZQ,set_plain->ZS,findCls->aa2,makes_of->aa8,InitBack->ac7,takesIn->ad4,readsIn->ad9,codeIn->af4,CodeHd->ag1,handedIn->ah1,codeRec_of->ai5,make_core->aj6,kitx_list->aj8,kitx_dict->aj9,findObj_own->ao0,notCls->ap6,tabObj->aq0,WalkO->aq3
open PySem.W.Looks renaming ld->Sb,of_pure->Xx,here->Zx,andThen->aa1
open PySem.Within renaming cons->ZT
open PySem.callAny renaming viaDunder->ak7
open Sum renaming inr->ac3,inl->ag8
open True renaming intro->TQ
open _root_.List renaming toArray->Vz9
def wV9:Nat->Lean.Syntax->Lean.MacroM (Lean.TSyntax `rcasesPat)
 | 0,_=>Lean.Macro.throwUnsupported
 | n+1,s=>if s.isIdent then `(rcasesPat|$(⟨s⟩):ident) else match s with
  | `(#[$x,*])=>do
   let p<-x.getElems.mapM fun x=>do `(Lean.Parser.Tactic.rcasesPatLo|$(<-wV9 n x):rcasesPat)
   `(rcasesPat|⟨$p,*⟩)
  | `(_)=>`(rcasesPat|_)
  | _=>Lean.Macro.throwUnsupported
local macro_rules|`(tactic|let $d:letDecl)=>do
 let r:=d.raw[0]
 if r.getKind==``Lean.Parser.Term.letPatDecl then
  let p<-wV9 9 r[0]
  `(tactic|obtain $p:rcasesPat:=$(⟨r[4]⟩):term)
 else Lean.Macro.throwUnsupported
local macro_rules|`(#[$x,$y,*])=>`(⟨$x,$y,*⟩)|`(#[$x])=>`(⟨$x⟩)
set_option bootstrap.genMatcherCode false
set_option compiler.extract_closed false
theorem wL9X(h:True:=by exact fun _ _=>rfl):True:=h
def wL9:=wL9X._auto_1
theorem wK9X(h:True:=by decide +kernel):True:=h
def wK9:=wK9X._auto_1
theorem wEX (h:True:=by rfl):True:=h
def wE:=wEX._auto_1
theorem wPX (h:True:=by decide):True:=h
def wP:=wPX._auto_1
theorem wTX (h:True:=by intro _;rfl):True:=h
def wT:=wTX._auto_1
theorem wq0X (h:True:=by first | exact .inl rfl | exact .inr rfl | assumption):True:=h
def wq0:=wq0X._auto_1
theorem wq1X (h:True:=by with_unfolding_all rfl):True:=h
def wq1:=wq1X._auto_1
theorem wq2X (h:True:=by first | exact ek rfl | exact al7 (ek rfl) | exact al7 (al7 rfl)):True:=h
def wq2:=wq2X._auto_1
abbrev Fg0:=PySem.W.Frag
noncomputable abbrev Pn0:=List (Xz×PySem.Obj)
noncomputable abbrev VS0:=SB->Xh->Prop
abbrev On:=List (Option Nat)
noncomputable abbrev SV0:=Zq->Option SB
noncomputable abbrev LL0:=List (List Int)
noncomputable abbrev Li0:=List Int
abbrev La0:=List Xz
noncomputable abbrev Lv0:=List SB
noncomputable abbrev Ls0:=List Zq
theorem lM0 {a b:Type}{as:List a}(f:a->b):(as.map f).length=as.length:=List.length_map f
theorem gE0 {a:Type}{l:List a}{i:Nat}(h:i<l.length):l[i]?=some l[i]:=List.getElem?_eq_getElem h
theorem gS0 {b:Type}{l:List b}{i:Nat}{a:b}(h:l[i]?=some a):∃h:i<l.length,l[i]=a:=List.getElem?_eq_some_iff.mp h
set_option genSizeOf false
variable {u:SB}{a:Xz}{P:Pv}{w:PySem.World}{h':ai0}{g':Array PySem.GenState}{t' i:Nat}{d':PySem.Drawn}{ch:La0}{M:PySem.Model}{A:PySem.Around}
namespace _2
open PySem PySem.Spec PyProof.Rows
abbrev Key:=Sum Int Str
noncomputable def HX:Key->Value->Bool
 | .inl k,v=>Value.isInt k v
 | .inr x,v=>Value.isStrOf x v
noncomputable def Wf (w:World):Key->Int
 | .inl k=>hashInt k
 | .inr x=>hashStr w x
theorem cI:∀ {k:Key} {v:Value},HX k v=true->(∃ i t,k=ag8 i/\v=aa4 i t)\/(∃ x t,k=ac3 x/\v=XH x t)
 | .inl i,v,h=>by
  let#[t,e]:=Value.isInt_shape (k:=i) (v:=v) h;exact .inl #[i,t,rfl,e]
 | .inr x,v,h=>by
  let#[t,e]:=Value.isStrOf_shape (x:=x) (v:=v) h;exact .inr #[x,t,rfl,e]
theorem Qb(a b:Int):decide ((ag8 a:Key)=ag8 b)=(a == b):=by
 by_cases e:a=b
 .subst e;simp
 .have h:¬ (ag8 a:Key)=ag8 b:=λq=>e (Sum.inl.inj q);rw[decide_eq_false h];exact(beq_eq_false_iff_ne.mpr e).symm
theorem P9(a b:Str):decide ((ac3 a:Key)=ac3 b)=decide (a=b):=by
 by_cases e:a=b
 .subst e;simp
 .have h:¬ (ac3 a:Key)=ac3 b:=λq=>e (Sum.inr.inj q);rw[decide_eq_false h,decide_eq_false e]
theorem Qa(a:Int)(b:Str):decide ((ag8 a:Key)=ac3 b)=false:=decide_eq_false (λq=>nomatch q)
theorem P_(a:Str)(b:Int):decide ((ac3 a:Key)=ag8 b)=false:=decide_eq_false (λq=>nomatch q)
noncomputable def vM (prog:Pv)(w:World):PySem.KeyKind prog w Key where
 is:=HX
 hash:=Wf w
 inj:=λv a b l f=>by
  rcases cI l with ⟨i,t,rfl,rfl⟩ | ⟨x,t,rfl,rfl⟩
  .rcases cI f with ⟨j,u,rfl,e⟩ | ⟨y,u,rfl,e⟩
   .injection e with c _;rw[c]
   .exact nomatch e
  .rcases cI f with ⟨j,u,rfl,e⟩ | ⟨y,u,rfl,e⟩
   .exact nomatch e
   .injection e with c _;rw[c]
 byValue:=λk v h=>by
  rcases cI h with ⟨i,t,rfl,rfl⟩ | ⟨x,t,rfl,rfl⟩ <;> rfl
 pyHash:=λd h=>by
  rcases cI d with ⟨i,t,rfl,rfl⟩ | ⟨x,t,rfl,rfl⟩
  .exact wpAny_pyHash_int h
  .exact wpAny_pyHash_str h
 eqBool:=λg d h=>by
  rcases cI g with ⟨i,t,rfl,rfl⟩ | ⟨x,t,rfl,rfl⟩
  .rcases cI d with ⟨j,u,rfl,rfl⟩ | ⟨y,u,rfl,rfl⟩
   .rw[Qb] at h;exact wpAny_eqBool_int h
   .rw[Qa] at h;exact ai1 i t y u _ _ _ _ h
  .rcases cI d with ⟨j,u,rfl,rfl⟩ | ⟨y,u,rfl,rfl⟩
   .rw[P_] at h;exact ai2 x t j u _ _ _ _ h
   .rw[P9] at h;exact wpAny_eqBool_str h
 «strs»:=λk x t v h=>by
  rcases cI h with ⟨i,u,rfl,e⟩ | ⟨y,u,rfl,e⟩
  .exact nomatch e
  .injection e with c _
   subst c;cases v <;> rfl
inductive V where
 | non | bl (b:Bool) | int (i:Int) | str (x:Str) | byt (b:Array UInt8) | flt (b:UInt64) | ref (a:Addr) | ty (n:String)
 deriving DecidableEq
noncomputable def RelV:V->Value->Prop
 | .non,u=>u=pF
 | .bl b,u=>u=ac4 b
 | .int i,u=>∃ t,u=aa4 i t
 | .str x,u=>∃ t,u=XH x t
 | .byt b,u=>∃ t,u=Value.bytes b t
 | .flt b,u=>∃ t,u=an4 b t
 | .ref a,u=>u=fS a
 | .ty n,u=>u=Xi n
noncomputable abbrev Vals:List V->Lv0->Prop:=Paired RelV
theorem Vals.length{xs:List V}{us:Lv0}(r:Vals xs us):xs.length=us.length:=Paired.length r
theorem Vals.get:∀ {xs:List V} {us:Lv0} {i:Nat} {x:V},Vals xs us->xs[i]?=some x->∃ u,us[i]?=some u/\RelV x u
 | _,_,_,_,.nil,e=>by simp at e
 | _,_,0,_,.cons r _,e=>by simp at e;subst e;exact#[_,rfl,r]
 | _,_,i + 1,x,.cons _ t,e=>by
  let#[u,b,a]:=Vals.get (i:=i) (x:=x) t (by simpa using e);exact#[u,by simpa using b,a]
theorem Vals.set{x:V}(r:RelV x u):∀ {xs:List V} {us:Lv0} (i:Nat),Vals xs us->Vals (xs.set i x) (us.set i u)
 | _,_,_,.nil=>.nil
 | _,_,0,.cons _ t=>.cons r t
 | _,_,i + 1,.cons q t=>.cons q (Vals.set r i t)
theorem Vals.append:∀ {xs ys:List V} {us a:Lv0},Vals xs us->Vals ys a->Vals (xs++ys) (us++a)
 | _,_,_,_,.nil,s=>s
 | _,_,_,_,.cons r t,s=>.cons r (Vals.append t s)
theorem Vals.take:∀ {xs:List V} {us:Lv0} (n:Nat),Vals xs us->Vals (xs.take n) (us.take n)
 | _,_,0,_=>.nil
 | _,_,_ + 1,.nil=>.nil
 | _,_,n + 1,.cons r t=>.cons r (Vals.take n t)
theorem Vals.drop:∀ {xs:List V} {us:Lv0} (n:Nat),Vals xs us->Vals (xs.drop n) (us.drop n)
 | _,_,0,r=>r
 | _,_,_ + 1,.nil=>.nil
 | _,_,n + 1,.cons _ t=>Vals.drop n t
noncomputable def pY:Option V->Option Value->Prop
 | some v,some u=>RelV v u
 | none,none=>True
 | _,_=>False
noncomputable def KV {a:Type}:List (a×V)->List (a×Value)->Prop:=Paired λ(p:a×V) (q:a×Value)=>p.1=q.1/\RelV p.2 q.2
noncomputable def kV:Key->V
 | .inl i=>.int i
 | .inr x=>.str x
set_option genInjectivity false in
inductive HO where
 | lst (xs:List V)
 | tup (xs:List V)
 | dK (kvs:List (Key×V)) | dT (kvs:List (List Key×V))
 | set (S:Int->Bool) (n:Nat)
 | ins (C dx:Addr) (fs:List (Str×V))
 | own (x:Addr)
 | xd (fs:List (Str×V))
 | met (f x:Addr)
 | rng (lo hi:Int)
 | frz (o:Obj) (u:HO)
 | tbl (ps:Array Value)
 | ext (φ:Heap->Prop)
 | cod (c:Addr) (q:Str)
abbrev Hp:=Addr->Option HO
def BP (H:Hp)(v:Value)(q:Str):Prop:=∃ c a vs t b,v=.ref c/\H c=some (.frz a (.ext b))/\a.data=.fields vs/\vs[1]?=some (.str q t)
theorem BP.mono{H f:Hp}{v:Value}{q:Str}(x:BP H v q)(i:∀ b o e,H b=some (.frz o (.ext e))->f b=some (.frz o (.ext e))):BP f v q:=
 let ⟨c,h,g,t,e,a,b,d⟩:=x;#[c,h,g,t,e,a,i _ _ _ b,d]
noncomputable def upd (H:Hp)(a:Addr)(o:HO):Hp:=λb=>if b=a then some o else H b
theorem aB{H:Hp}{o:HO}:upd H a o a=some o:=by unfold upd;rw[if_pos rfl]
theorem ao{H:Hp}{b:Addr}{o:HO}(h:b≠a):upd H a o b=H b:=by unfold upd;rw[if_neg h]
theorem lN{H:Hp}{b:Addr}{o u:HO}(h:H a=some o)(h':H b=some u)(d:o≠u):a≠b:=by
 intro e;subst e;rw[h] at h';exact d (gT h')
theorem bS{H:Hp}{b:Addr}{o:HO}(h:H a=some o)(h':H b=none):a≠b:=by
 intro e;subst e;rw[h] at h';cases h'
section
variable (P:Pv)(w:World)
noncomputable def cQ (H:Hp)(h:Heap)(a:Addr):HO->Prop
 | .lst xs=>xs.length<=sizeLine/\∃ (its:Lv0) (n:Nat),Vals xs its/\h.get? a=some { cls:=.type "list",data:=.seq its.toArray n }
 | .tup xs=>xs.length<=sizeLine/\∃ its:Lv0,Vals xs its/\IsTup h a its.toArray
 | .dK kvs=>kvs.length<=sizeLine/\(a == Yk)=false/\∃ vs,KV kvs vs/\h.DictOf (vM P w) a vs
 | .dT kvs=>kvs.length<=sizeLine/\(a == Yk)=false/\∃ xs:List (List Key×Addr×Value),
   Paired (λ(p:List Key×V) (q:List Key×Addr×Value)=>p.1=q.1/\H q.2.1=some (.tup (p.1.map kV))/\RelV p.2 q.2.2) kvs xs/\
   ∃ o es d,h.get? a=some o/\o.ExactDict/\o.data=.dict es d/\es.toList=xs.map (entryOfKey (tupleKind (vM P w)))/\(xs.map (·.1)).Nodup
 | .set S n=>h.SetOf (intKind P w) a S n
 | .ins C dx fs=>H dx=some (.own a)/\fs.length<=1000/\dx≠a/\h.get? a=some (ri C dx)/\
   ∃ mA,h.Ns1 dx mA/\(∀ f,pY (fs.lookup f) (mA f))/\XI mA (fs.map (·.1))
 | .own _=>∃ o,h.get? a=some o
 | .xd fs=>∃ mA,h.Ns1 a mA/\∀ f,pY (fs.lookup f) (mA f)
 | .rng lo hi=>∃ t u v,h.get? a=some { cls:=.type "range",data:=.fields (Vz9 [.int lo t,.int hi u,.int 1 v]) }
 | .frz o u=>h.get? a=some o/\cQ H h a u
 | .tbl ps=>∃ q t qs,ps[0]?=some (XH q t)/\h.get? a=some { cls:=.none,data:=.fields qs }/\TriplesOk qs.toList/\∀ pos v,codeAmong pos qs.toList=some v->BP H v q
 | .cod c q=>(∃ o,h.get? a=some o)/\BP H (.ref c) q
 | .met f x=>h.get? a=some (ZQ (.ref f) (.ref x))
 | .ext b=>b h/\(∃ o,h.get? a=some o)/\∀ h1 h2:Heap,b h1->(∀ o,h1.get? a=some o->h2.get? a=some o)->b h2
def HOk (H:Hp)(h:Heap):Prop:=∀ a o,H a=some o->cQ P w H h a o
end
section
variable {H H':Hp}{h:Heap}{o:HO}
theorem cQ.lt(x:cQ P w H h a o):a < h.objs.size:=by
 cases o with
 | lst d=>let#[_,_,_,_,e]:=x;exact dw e
 | tup d=>let#[_,_,_,p]:=x;exact p.lt
 | dK b=>let#[_,_,_,_,o,_,_,e,_]:=x;exact dw e
 | dT b=>let#[_,_,_,_,o,_,_,e,_]:=x;exact dw e
 | set S n=>let#[o,_,_,_,e,_]:=x;exact dw e
 | ins C l fs=>let#[_,_,_,e,_]:=x;exact dw e
 | own y=>let#[_,e]:=x;exact dw e
 | xd fs=>let#[_,#[_,_,_,e,_],_]:=x;exact dw e
 | rng lo k=>let#[_,_,_,e]:=x;exact dw e
 | frz j u=>let#[e,_]:=x;exact dw e
 | tbl i=>let#[_,_,_,_,e,_]:=x;exact dw e
 | cod c q=>let#[#[_,e],_]:=x;exact dw e
 | met f y=>exact dw (show h.get? a=some _ from x)
 | ext g=>let#[_,#[_,e],_]:=x;exact dw e
theorem Paired.TR{g e:Type}{F G:g->e->Prop}:∀ {d:List g} {c:List e},Paired F d c->(∀ a b,F a b->G a b)->Paired G d c
 | _,_,.nil,_=>.nil
 | _,_,.cons r t,f=>.cons (f _ _ r) (Paired.TR t f)
theorem cQ.pJ(x:cQ P w H h a o)(k:∀ b u,(b=a\/H b=some (.own a))->h.get? b=some u->h'.get? b=some u)(L:∀ b,H b=some (.own a)->H' b=some (.own a))(K:∀ b xs,H b=some (.tup xs)->H' b=some (.tup xs))(E:∀ b o m,H b=some (.frz o (.ext m))->H' b=some (.frz o (.ext m)):=by first | exact λ_ _ _ q=>q | (intro c o u q;rw[_root_._2.ao (_root_._2.bS q (by assumption))];exact q)):cQ P w H' h' a o:=by
 induction o with
 | lst xs=>let#[z,l,n,r,e]:=x;exact#[z,l,n,r,k _ _ (.inl rfl) e]
 | tup xs=>let#[z,l,r,g,e,c]:=x;exact#[z,l,r,g,k _ _ (.inl rfl) e,c]
 | dK B=>let#[z,y,F,r,g,i,j,e,c]:=x;exact#[z,y,F,r,g,i,j,k _ _ (.inl rfl) e,c]
 | dT B=>
  let#[z,y,xs,r,g,i,j,e,c]:=x;exact#[z,y,xs,Paired.TR r λp q z=>#[z.1,K _ _ z.2.1,z.2.2],g,i,j,k _ _ (.inl rfl) e,c]
 | set S n=>let#[g,i,j,t,e,c]:=x;exact#[g,i,j,t,k _ _ (.inl rfl) e,c]
 | ins C T fs=>
  let#[d,z,I,e,A,#[s,i,j,D,c],r]:=x;exact#[L _ d,z,I,k _ _ (.inl rfl) e,A,#[s,i,j,k _ _ (.inr d) D,c],r]
 | own y=>let#[g,e]:=x;exact#[g,k _ _ (.inl rfl) e]
 | xd fs=>let#[A,#[s,i,j,e,c],r]:=x;exact#[A,#[s,i,j,k _ _ (.inl rfl) e,c],r]
 | rng lo R=>let#[t,u,v,e]:=x;exact#[t,u,v,k _ _ (.inl rfl) e]
 | frz g u J=>let#[e,q]:=x;exact#[k _ _ (.inl rfl) e,J q]
 | tbl Q=>let#[q,t,G,O,D,N,M]:=x;exact#[q,t,G,O,k a _ (.inl rfl) D,N,λp v r=>(M p v r).mono E]
 | cod c q=>let#[#[u,e],y]:=x;exact#[#[u,k a _ (.inl rfl) e],y.mono E]
 | met f y=>
  have e:h.get? a=some (ZQ (.ref f) (.ref y)):=x;show h'.get? a=some (ZQ (.ref f) (.ref y));exact k a _ (.inl rfl) e
 | ext m=>let#[p,#[o,e],st]:=x;exact#[st _ _ p λo q=>k _ _ (.inl rfl) q,#[o,k _ _ (.inl rfl) e],st]
theorem HOk.lt(x:HOk P w H h)(e:H a=some o):a < h.objs.size:=(x a o e).lt
theorem HOk.fresh(x:HOk P w H h)(e:h.objs.size<=a):H a=none:=by
 cases q:H a with
 | none=>rfl
 | some u=>exact absurd (da (x.lt q) e) (hY _)
theorem HOk.kept(x:HOk P w H h)(k:∀ b u,h.get? b=some u->h'.get? b=some u):HOk P w H h':=λa o e=>
 (x a o e).pJ (λb u _ q=>k b u q) (λ_ q=>q) λ_ _ q=>q
theorem HOk.laid(x:HOk P w H h)(k:∀ b u,h.get? b=some u->h'.get? b=some u)(i:h.objs.size<=a)(d:cQ P w (upd H a o) h' a o):HOk P w (upd H a o) h':=λb u e=>by
 have f:=x.fresh i;by_cases g:b=a
 .subst g;rw[aB] at e;cases e;exact d
 .rw[ao g] at e;exact(x b u e).pJ (λc v _ q=>k c v q) (λc q=>by rw[ao (bS q f)];exact q) λc j q=>by rw[ao (bS q f)];exact q
end
def Rd (H:Hp)(a:Addr)(u:HO):Prop:=H a=some u\/∃ o,H a=some (.frz o u)
theorem Rd.ok{H:Hp}{h:Heap}{u:HO}(r:Rd H a u)(x:HOk P w H h):cQ P w H h a u:=by
 rcases r with r | ⟨o,r⟩
 .exact x a u r
 .let#[_,q]:=x a _ r;exact q
noncomputable def Mut:Option HO->Prop
 | some (.lst _)=>True
 | some (.dK _)=>True
 | some (.dT _)=>True
 | some (.set _ _)=>True
 | some (.ins _ _ _)=>True
 | some (.ext _)=>True
 | _=>False
section
variable {H:Hp}{h:Heap}{x e:Addr}{o':HO}
theorem HOk.write(ok:HOk P w H h)(f:Mut (H x))(p:e=x\/H e=some (.own x))(k:∀ b u,b≠e->h.get? b=some u->h'.get? b=some u)(m:∃ u,h'.get? e=some u)(l:cQ P w (upd H x o') h' x o'):HOk P w (upd H x o') h':=λb u q=>by
 have d:∀ c y,H c=some (.own y)->c≠x:=λc y r z=>by subst z;rw[r] at f;exact f
 have g:∀ c i,H c=some (.tup i)->c≠x:=λc i r z=>by subst z;rw[r] at f;exact f
 by_cases j:b=x
 .subst j;rw[aB] at q;cases q;exact l
 .rw[ao j] at q;by_cases a:b=e
  .have n:H b=some (.own x):=by
    rcases p with z | z
    .exact absurd (a.trans z) j
    .rw[a];exact z
   rw[q] at n;cases n;let#[v,s]:=m;exact#[v,by rw[a];exact s]
  .refine(ok b u q).pJ (λc v hc r=>k c v ?_ r) (λc r=>by rw[ao (d c b r)];exact r) (λc i r=>by rw[ao (g c i r)];exact r) λc o t r=>by rw[ao (λz=>by subst z;rw[r] at f;exact f)];exact r
   rcases hc with rfl | hc
   .exact a
   .rintro rfl;rcases p with z | z
    .exact d c b hc z
    .rw[hc] at z;cases z;exact j rfl
end
structure Un (fs ex:La0) (H H':Hp) (h h':Heap):Prop where
 keep:∀ b o,h.get? b=some o->H b=none->b∉fs->b∉ex->h'.get? b=some o
 slot:∀ b o,h.get? b=some o->H b=none->b∈fs->b∉ex->∃ sl,h'.get? b=some { o with slots:=sl }
 free:∀ b o,h.get? b=some o->H b=none->b∉ex->H' b=none
 there:∀ b o,h.get? b=some o->b∉ex->∃ o',h'.get? b=some o'
 tups:∀ b xs,H b=some (.tup xs)->H' b=some (.tup xs)
 m4:∀ b o u,H b=some (.frz o u)->H' b=some (.frz o u)
 tbls:∀ b ps,H b=some (.tbl ps)->∃ more,H' b=some (.tbl (ps++more))
section
variable {fs fs' ex ex':La0}{H H1 H2:Hp}{h h1 h2:Heap}{x e:Addr}{o:HO}
theorem Un.any(u:Un fs ex H H1 h h1){b:Addr}{a:Obj}(q:h.get? b=some a)(n:H b=none)(c:b∉ex):∃ e,h1.get? b=some { a with slots:=e }:=by
 by_cases d:b∈fs
 .exact u.slot b a q n d c
 .exact#[a.slots,u.keep b a q n d c]
theorem Un.kept(k:∀ b u,h.get? b=some u->h'.get? b=some u):Un fs ex H H h h':=
 #[λb a q _ _ _=>k b a q,λb a q _ _ _=>#[a.slots,k b a q],λ_ _ _ n _=>n,λb a q _=>#[a,k b a q],λ_ _ q=>q,λ_ _ _ q=>q,λ_ c q=>#[#[],by rw[q];simp]]
theorem Un.refl:Un fs ex H H h h:=Un.kept λ_ _ q=>q
theorem Un.laid(k:∀ b u,h.get? b=some u->h'.get? b=some u)(e:h.objs.size<=a)(c:H a=none):Un fs ex H (upd H a o) h h' where
 keep:=λb u q _ _ _=>k b u q
 slot:=λb u q _ _ _=>#[u.slots,k b u q]
 free:=λb u q n _=>by rw[ao (jz (da (dw q) e))];exact n
 there:=λb u q _=>#[u,k b u q]
 tups:=λb d q=>by rw[ao (bS q c)];exact q
 m4:=λb u d q=>by rw[ao (bS q c)];exact q
 tbls:=λb f q=>#[#[],by rw[ao (bS q c),q];simp]
theorem Un.write(c:Mut (H x))(m:e=x\/H e=some (.own x))(k:∀ b u,b≠e->h.get? b=some u->h'.get? b=some u)(f:∃ u,h'.get? e=some u):Un fs ex H (upd H x o) h h':=by
 have g:∀ b,H b=none->b≠x:=λb n z=>by subst z;rw[n] at c;exact c
 have i:∀ b,H b=none->b≠e:=λb n z=>by
  subst z;rcases m with r | r
  .exact g b n r
  .rw[n] at r;cases r
 have d:∀ b u,H b=some u->¬ Mut (some u)->b≠x:=λb u q l z=>by subst z;rw[q] at c;exact l c
 refine#[λb u q n _ _=>k b u (i b n) q,λb u q n _ _=>#[u.slots,k b u (i b n) q],λb u q n _=>by rw[ao (g b n)];exact n,λb u q _=>?_,
  λb j q=>by rw[ao (d b _ q λz=>z)];exact q,λb u j q=>by rw[ao (d b _ q λz=>z)];exact q,λb p q=>#[#[],by rw[ao (d b _ q λz=>z),q];simp]]
 by_cases a:b=e
 .subst a;exact f
 .exact#[u,k b u a q]
end
noncomputable def My (g h:Heap)(L:Addr):Pn0:=(gs h.objs.size).filterMap λa=>if a=L\/(g.get? a).isSome=true then none else (h.get? a).map λo=>(a,o)
noncomputable def rest (g h:Heap)(L d:Addr):Pn0:=(My g h L).filter λp=>decide (p.1≠d)
structure Mod (K:Fg0) (mg:SV0) (base:Heap):Prop where
 kin:K.In base
 glob:base.Ns eB mg
 blt:∃ mb,base.Ns YO mb/\∀ x:Str,x≠"__name__"->mb x=Jv x
 nolimit:base.NoLimit
 bm:∃ bm ob,mg "__builtins__"=some (.ref bm)/\bm≠YO/\base.get? bm=some ob/\ob.cls=.type "module"/\ob.dict=some YO/\ob.data=.plain
set_option genInjectivity false in
structure Cx where
 prog:Pv
 w:World
 K:Fg0
 mg:Str->Option Value
 base:Heap
 A:Around
 N:Ls0
 ab:Shared
 ar:Hp
 env:Env
 outer:List Env
 stack:List Env
 ex:La0
 fn:Str->Bool
 calm:Bool
 pn:Pn0
 xe:Value->Shared->Prop
noncomputable def frs (l:List Env):La0:=l.filterMap (·.frame)
noncomputable abbrev Cx.fs (X:Cx):La0:=frs X.outer
def Vis (a:Scope)(x:Str):Prop:=a.names.lookup x=some .local\/a.names.lookup x=some .cell\/a.names.lookup x=some .free
def Loc (a:Scope)(x:Str):Prop:=a.names.lookup x=some .local\/a.names.lookup x=some .cell
def Look (a:Env)(h:Heap)(m:SV0)(x:Str)(u:Value):Prop:=
 (a.kindOf x=some .local/\m x=some u)\/((a.kindOf x=some .cell\/a.kindOf x=some .free)/\∃ c,a.cells.lookup x=some c/\h.IsCell c (some u))
def Kpt (H:Hp)(b:Addr)(o:Obj):Prop:=H b=none\/((∃ u,H b=some (.frz o u))/\∀ v,o.data≠.cell v)
def Aq (base:Heap)(P:Addr)(q:Str):Prop:=base.objs[P]?=some { cls:=.str q 0,data:=.freed }
def TabsAt (base:Heap)(H:Hp):Prop:=∀ P q,Aq base P q->∃ ps t,H P=some (.tbl ps)/\ps[0]?=some (.str q t)
structure Cx.Ok (X:Cx):Prop where
 mod:Mod X.K X.mg X.base
 kind:X.env.scope.kind=.function
 glob:X.env.globals=eB
 blt:X.env.builtins=YO
 above:X.ab.heap.objs.size<=X.env.locals
 inj:∀ x y c,X.env.cells.lookup x=some c->X.env.cells.lookup y=some c->x=y
 has:∀ x,(X.env.kindOf x=some .cell\/X.env.kindOf x=some .free)->∃ c,X.env.cells.lookup x=some c
 cab:∀ x c,X.fn x=true->X.env.cells.lookup x=some c->X.ab.heap.objs.size<=c
 hd:X.calm=true->X.A.handled=none
 frames:X.A.frames=some X.stack
 stk:X.stack=X.outer\/(X.stack=X.env::X.outer/\X.env.frame=some X.env.locals)
 exf:∀ b∈X.ex,b≠X.env.locals/\∀ x c,X.env.cells.lookup x=some c->c≠b
 bs:∀ b o,X.base.get? b=some o->X.ab.heap.get? b=some o/\Kpt X.ar b o
 bsz:X.base.objs.size<=X.ab.heap.objs.size
 noex:∀ b o,X.base.get? b=some o->b∉X.ex
 exfs:∀ b∈X.ex,b∉X.fs
 lQ:X.ab.heap.FunFrames X.base X.outer
 frf:∀ b∈X.fs,X.ar b=none
 tb:TabsAt X.base X.ar
structure Inv (X:Cx) (pins:Pn0) (σ:List (Option V)) (H:Hp) (s:Shared):Prop where
 ok:X.Ok
 os:s.os=X.ab.os
 bare:Yy s.gens
 base:Un X.fs X.ex X.ar H X.ab.heap s.heap
 loc:∃ m,s.heap.Ns X.env.locals m/\∀ (i:Nat) (x:Str) (v:V),X.N[i]?=some x->σ[i]?=some (some v)->Vis X.env.scope x->∃ u,RelV v u/\Look X.env s.heap m x u
 cell:∀ x c,X.env.cells.lookup x=some c->∃ v,s.heap.IsCell c v
 free:H X.env.locals=none
 freeC:∀ x c,X.env.cells.lookup x=some c->H c=none
 pin:∀ p∈X.pn++pins,s.heap.get? p.1=some p.2/\H p.1=none/\p.1≠X.env.locals/\p.1∉X.fs/\∀ v,p.2.data≠.cell v
 hok:HOk X.prog X.w H s.heap
 len:σ.length=X.N.length
section
variable {X:Cx}{pins:Pn0}{σ:List (Option V)}{H H':Hp}{s:Shared}
theorem Cx.Ok.V0(ok:X.Ok){b:Addr}{o:Obj}(e:X.base.get? b=some o):b∉X.fs:=λa=>by
 have:=(ok.lQ.mem a).1;rw[e] at this;cases this
theorem Inv.bs(I:Inv X pins σ H s):∀ b o,X.base.get? b=some o->s.heap.get? b=some o/\Kpt H b o:=λb o e=>by
 obtain⟨c,a | ⟨⟨u,a⟩,d⟩⟩:=I.ok.bs b o e
 .exact#[I.base.keep b o c a (I.ok.V0 e) (I.ok.noex b o e),.inl (I.base.free b o c a (I.ok.noex b o e))]
 .have q:=I.base.m4 b o u a;let#[z,_]:=I.hok b _ q;exact#[z,.inr #[#[u,q],d]]
theorem TabsAt.un{base:Heap}{fs c:La0}{H H':Hp}{h:Heap}(x:TabsAt base H)(u:Un fs c H H' h h'):TabsAt base H':=λP q r=>by
 let#[b,t,e,a]:=x P q r;let#[m,d]:=u.tbls P b e;exact#[_,t,d,by rw[Array.getElem?_append_left (by let#[z,_]:=VE.mp a;exact z)];exact a]
theorem Inv.tb(I:Inv X pins σ H s):TabsAt X.base H:=I.ok.tb.un I.base
theorem Inv.bk(I:Inv X pins σ H s):∀ b o,X.base.get? b=some o->s.heap.get? b=some o:=λb o e=>(I.bs b o e).1
theorem Inv.mod(I:Inv X pins σ H s):Mod X.K X.mg X.base:=I.ok.mod
theorem Inv.kIn(I:Inv X pins σ H s):X.K.In s.heap:=I.ok.mod.kin.keeps I.bk
theorem Inv.lt(I:Inv X pins σ H s):X.env.locals < s.heap.objs.size:=let ⟨_,a,_⟩:=I.loc;a.lt
theorem Inv.sz(I:Inv X pins σ H s):X.ab.heap.objs.size<=s.heap.objs.size:=eC I.ok.above (Wh I.lt)
theorem Inv.VZ(I:Inv X pins σ H s)(h:s.heap.objs.size<=a):a∉X.fs:=λc=>by
 let#[_,o,b,_]:=I.ok.lQ.mem c;exact absurd (da (dw b) (eC I.sz h)) (hY _)
theorem Inv.cne(I:Inv X pins σ H s):∀ x c,X.env.cells.lookup x=some c->c≠X.env.locals:=λx c e z=>by
 let#[v,o,d,hd]:=I.cell x c e;let#[m,#[f,g,h,a,b,_],_]:=I.loc;rw[z,a] at d;cases d;rw[b] at hd;cases hd
theorem Inv.lQ(I:Inv X pins σ H s):s.heap.FunFrames X.base X.outer:=by
 have all:∀ (l:List Env),(∀ b∈frs l,b∈X.fs)->X.ab.heap.FunFrames X.base l->s.heap.FunFrames X.base l:=by
  intro l
  induction l with
  | nil=>intro _ _;trivial
  | cons m r g=>
   intro f k;let#[hk,#[L,o,a,j,i,hd],h]:=k;have d:L∈X.fs:=f L (by unfold frs;rw[Zi,a];exact eH);let#[n,e]:=I.base.slot L o i (I.ok.frf L d) d λz=>I.ok.exfs L z d;exact#[hk,#[L,_,a,j,e,hd],g (λb c=>f b (by unfold frs;rw[Zi,a];exact cb _ c)) h]
 exact all X.outer (λ_ c=>c) I.ok.lQ
theorem Inv.stack(I:Inv X pins σ H s):s.heap.FunFrames X.base X.stack:=by
 rcases I.ok.stk with e | ⟨e,b⟩
 .rw[e];exact I.lQ
 .rw[e];let#[m,a,_]:=I.loc;refine .cons (by rw[I.ok.kind];decide) b a ?_ I.lQ;exact Heap.get?_none_of_le (eC I.ok.bsz I.ok.above)
theorem Inv.zc(I:Inv X pins σ H s):∀ b∈frs X.stack,b∈X.env.locals::X.fs:=λb a=>by
 rcases I.ok.stk with e | ⟨e,c⟩
 .rw[e] at a;exact cb _ a
 .rw[e] at a;unfold frs at a;rw[Zi,c] at a;exact a
theorem Inv.zd(I:Inv X pins σ H s):∀ b∈frs X.stack,H b=none:=λb hb=>by
 rcases dk.mp (I.zc b hb) with e | hb
 .rw[e];exact I.free
 .let#[_,o,a,_]:=I.ok.lQ.mem hb;exact I.base.free b o a (I.ok.frf b hb) λz=>I.ok.exfs b z hb
theorem Inv.step(I:Inv X pins σ H s)(j:∀ b∈ch,(b∈X.ex\/X.ab.heap.objs.size<=b)/\b≠X.env.locals/\(∀ x c,X.env.cells.lookup x=some c->c≠b)/\∀ p∈X.pn++pins,p.1≠b)(h:∀ b o,b≠X.env.locals->b∉X.fs->b∉ch->s.heap.get? b=some o->H b=none->h'.get? b=some o)(A:∀ b o,b≠X.env.locals->b∈X.fs->b∉ch->s.heap.get? b=some o->H b=none->∃ L,h'.get? b=some { o with slots:=L })(f:∀ b o,b∉ch->s.heap.get? b=some o->H b=none->H' b=none)(B:∀ b o,b∉ch->s.heap.get? b=some o->∃ o',h'.get? b=some o')(E:∀ b xs,H b=some (.tup xs)->H' b=some (.tup xs))(S:∀ b o u,H b=some (.frz o u)->H' b=some (.frz o u))(F:∀ b ps,H b=some (.tbl ps)->∃ more,H' b=some (.tbl (ps++more)))(R:∀ m,s.heap.Ns X.env.locals m->h'.Ns X.env.locals m)(M:HOk X.prog X.w H' h')(W:Yy g') :
  Inv X pins σ H' { s with heap:=h',gens:=g',drawn:=d',toks:=t' }:=by
 have G:∀ b o,X.ab.heap.get? b=some o->b≠X.env.locals:=λb o e=>jz (da (dw e) I.ok.above);have w:∀ b o,X.ab.heap.get? b=some o->b∉X.ex->b∉ch:=λb o e a C=>by
  rcases(j b C).1 with z | z
  .exact a z
  .exact absurd (da (dw e) z) (hY _)
 have t:∀ x c,X.env.cells.lookup x=some c->∀ v,s.heap.IsCell c v->h'.IsCell c v:=λx c e v Z=>by
  let#[o,D,hd]:=Z;have g:c∉ch:=λz=>(j c z).2.2.1 x c e rfl;by_cases Q:c∈X.fs
  .let#[L,q]:=A c o (I.cne x c e) Q g D (I.freeC x c e);exact#[_,q,hd]
  .exact#[o,h c o (I.cne x c e) Q g D (I.freeC x c e),hd]
 refine#[I.ok,I.os,W,#[λb o e n C a=>?_,λb o e n C a=>?_,λb o e n a=>?_,λb o e a=>?_,λb xs e=>E b xs (I.base.tups b xs e),λb o xs e=>S b o xs (I.base.m4 b o xs e),λb ps e=>?_],?_,λx c e=>?_,?_,λx c e=>?_,λp P=>?_,M,I.len]
 .exact h b o (G b o e) C (w b o e a) (I.base.keep b o e n C a) (I.base.free b o e n a)
 .let#[L,y]:=I.base.slot b o e n C a;let#[K,J]:=A b _ (G b o e) C (w b o e a) y (I.base.free b o e n a);exact#[K,J]
 .let#[o',y]:=I.base.there b o e a;exact f b o' (w b o e a) y (I.base.free b o e n a)
 .let#[o',y]:=I.base.there b o e a;exact B b o' (w b o e a) y
 .let#[m1,y]:=I.base.tbls b ps e;let#[T,J]:=F b _ y;exact#[m1++T,by rw[J,ai3]]
 .let#[m,U,V]:=I.loc;refine#[m,R m U,λi x v y J Y=>?_];let#[u,r,l]:=V i x v y J Y;refine#[u,r,?_];rcases l with l | ⟨k,c,e,z⟩
  .exact .inl l
  .exact .inr #[k,c,e,t x c e _ z]
 .let#[v,z]:=I.cell x c e;exact#[v,t x c e v z]
 .let#[m,#[o,_,_,D,_],_]:=I.loc;exact f _ o (λz=>(j _ z).2.1 rfl) D I.free
 .let#[v,o,D,hd]:=I.cell x c e;exact f c o (λz=>(j c z).2.2.1 x c e rfl) D (I.freeC x c e)
 .let#[e,n,O,N,d]:=I.pin p P;have g:p.1∉ch:=λz=>(j p.1 z).2.2.2 p P rfl;exact#[h p.1 p.2 O N g e n,f p.1 p.2 g e n,O,N,d]
theorem Inv.un(I:Inv X pins σ H s)(u:Un X.fs [] H H' s.heap h')(c:HOk X.prog X.w H' h'):Inv X pins σ H' { s with heap:=h',toks:=t' }:=by
 let#[m,#[o,t,v,h,r],_]:=id I.loc;let#[l,k]:=u.any h I.free (by simp);exact I.step (g':=s.gens) (d':=s.drawn) (ch:=[]) (λ_ z=>nomatch z) (λb o _ d _ e n=>u.keep b o e n d (by simp)) (λb o _ d _ e n=>u.slot b o e n d (by simp)) (λb o _ e n=>u.free b o e n (by simp)) (λb o _ e=>u.there b o e (by simp)) u.tups u.m4 u.tbls (λq j=>by
  let#[p,f,g,a,i]:=j;rw[h] at a;cases a;exact#[_,f,g,k,i]) c I.bare
theorem Inv.call(I:Inv X pins σ H s)(u:Un (frs X.stack) ch H H' s.heap h')(g:HOk X.prog X.w H' h')(t:Yy g')(f:∀ b∈ch,(b∈X.ex\/X.ab.heap.objs.size<=b)/\b≠X.env.locals/\(∀ x c,X.env.cells.lookup x=some c->c≠b)/\∀ p∈X.pn++pins,p.1≠b) :
  Inv X pins σ H' { s with heap:=h',gens:=g',drawn:=d',toks:=t' }:=by
 let#[m,#[o,B,C,k,r],_]:=id I.loc;let#[w,h]:=u.any k I.free λz=>(f _ z).2.1 rfl;exact I.step (ch:=ch) f (λb o h v a e n=>u.keep b o e n (λz=>(dk.mp (I.zc b z)).elim h v) a) (λb o _ _ a e n=>u.any e n a) (λb o a e n=>u.free b o e n a) (λb o a e=>u.there b o e a) u.tups u.m4 u.tbls (λA q=>by
  let#[y,i,j,d,l]:=q;rw[k] at d;cases d;exact#[_,i,j,h,l]) g t
theorem Inv.turned{it:Addr}(I:Inv X pins σ H s)(k:∀ b o,b≠it->s.heap.get? b=some o->h'.get? b=some o)(h:H it=none)(f:it≠X.env.locals)(h1:it∈X.ex\/X.ab.heap.objs.size<=it)(t:∀ x c,X.env.cells.lookup x=some c->c≠it)(l:∀ p∈X.pn++pins,p.1≠it):Inv X pins σ H { s with heap:=h',toks:=t' }:=by
 have d:∀ b u,H b=some u->b≠it:=λb u e z=>by rw[z,h] at e;cases e
 refine I.step (g':=s.gens) (d':=s.drawn) (ch:=[it]) (λb j=>?_) (λb o _ _ a e _=>k b o (λz=>a (by simp [z])) e) (λb o _ _ a e _=>#[o.slots,k b o (λz=>a (by simp [z])) e]) (λ_ _ _ _ n=>n)
  (λb o a e=>#[o,k b o (λz=>a (by simp [z])) e]) (λ_ _ e=>e) (λ_ _ _ e=>e) (λb A e=>#[#[],by rw[e];simp]) (λm i=>?_) (λb u e=>?_) I.bare
 .have e:b=it:=by simpa using j
  subst e;exact#[h1,f,t,l]
 .let#[o,w,y,g,r]:=i;exact#[o,w,y,k _ o (ky f) g,r]
 .refine(I.hok b u e).pJ (λc v a q=>k c v ?_ q) (λ_ q=>q) λ_ _ q=>q;rcases a with z | z
  .rw[z];exact d b u e
  .exact d c _ z
theorem Inv.tok(I:Inv X pins σ H s)(t:Nat):Inv X pins σ H { s with toks:=t }:=I.un (h':=s.heap) (t':=t) Un.refl I.hok
theorem Inv.kept(I:Inv X pins σ H s)(k:∀ b u,s.heap.get? b=some u->h'.get? b=some u):Inv X pins σ H { s with heap:=h',toks:=t' }:=I.un (Un.kept k) (I.hok.kept k)
theorem Inv.laid{o:HO}(I:Inv X pins σ H s)(k:∀ b u,s.heap.get? b=some u->h'.get? b=some u)(d:s.heap.objs.size<=a)(c:cQ X.prog X.w (upd H a o) h' a o) :
  Inv X pins σ (upd H a o) { s with heap:=h',toks:=t' }:=I.un (Un.laid k d (I.hok.fresh d)) (I.hok.laid k d c)
theorem Inv.write{x e:Addr}{o:HO}(I:Inv X pins σ H s)(d:Mut (H x))(f:e=x\/H e=some (.own x))(k:∀ b u,b≠e->s.heap.get? b=some u->h'.get? b=some u)(a:∃ u,h'.get? e=some u)(c:cQ X.prog X.w (upd H x o) h' x o):Inv X pins σ (upd H x o) { s with heap:=h',toks:=t' }:=I.un (Un.write d f k a) (I.hok.write d f k a c)
theorem Inv.mR{a:Pn0}(I:Inv X pins σ H s)(h:∀ p∈a,s.heap.get? p.1=some p.2/\H p.1=none/\p.1≠X.env.locals/\p.1∉X.fs/\∀ v,p.2.data≠.cell v):Inv X a σ H s:=
 #[I.ok,I.os,I.bare,I.base,I.loc,I.cell,I.free,I.freeC,λp b=>(kS.mp b).elim (λz=>I.pin p (ml _ z)) (h p),I.hok,I.len]
theorem wI{N:Ls0}(c:N.Nodup){j:Nat}{x:Str}(a:N[i]?=some x)(b:N[j]?=some x):i=j:=by
 let#[g,e]:=gS0 a;let#[f,d]:=gS0 b;exact(List.getElem_inj c).mp (e.trans d.symm)
theorem x_{E:VS0}{x:Str}{v:V}{Q:Unit->Shared->Prop}(I:Inv X pins σ H s)(hN:X.N.Nodup)(N:X.N[i]?=some x)(t:Loc X.env.scope x)(r:RelV v u)(h:∀ s',Inv X pins (σ.set i (some v)) H s'->(∃ a,Yz a s.heap s'.heap/\(a=X.env.locals\/X.env.cells.lookup x=some a))->Q () s')(hf:autoParam (X.fn x=true\/X.env.scope.names.lookup x=some .local) wq0):wpAny M A (storeName X.env x u) Q E s:=by
 let#[m,hn,hl]:=id I.loc;have O:(X.env.scope.kind == .class || (X.env.scope.kind == .module && X.env.locals != X.env.globals))=false:=by rw[I.ok.kind];rfl
 have C:i < σ.length:=by rw[I.len];exact(gS0 N).1
 have J:=I.cne;have g:∀ {a:Addr} {h':Heap},(∃ o,s.heap.get? a=some o/\H a=none)->Yz a s.heap h'->HOk X.prog X.w H h':=λ{a h'} ha f b ob e=>by
  let#[_,_,w]:=ha;refine(I.hok b ob e).pJ (λc S hc q=>(f.2 c ?_).trans q) (λ_ q=>q) λ_ _ q=>q;rintro rfl;rcases hc with rfl | hc
  .rw[w] at e;cases e
  .rw[w] at hc;cases hc
 rcases t with hk | hk
 .refine wpAny_storeName_local hk hn (λh' a2 f=>?_) O;let#[oL,_,_,a1,_]:=id hn;refine h _ #[I.ok,I.os,I.bare,#[λb o e n G t=>?_,λb o e n G t=>?_,I.base.free,λb o e t=>?_,I.base.tups,I.base.m4,I.base.tbls],#[_,a2,λj y W l B e3=>?_],λy c e=>?_,I.free,I.freeC,λp hp=>?_,g #[oL,a1,I.free] f,by simpa using I.len] #[_,f,.inl rfl]
  .exact(f.2 b (jz (da (dw e) I.ok.above))).trans (I.base.keep b o e n G t)
  .let#[Z,l]:=I.base.slot b o e n G t;exact#[Z,(f.2 b (jz (da (dw e) I.ok.above))).trans l]
  .let#[o',l]:=I.base.there b o e t;exact#[o',(f.2 b (jz (da (dw e) I.ok.above))).trans l]
  .by_cases D:j=i
   .subst D;rw[N] at l;cases l;rw[UV C] at B;cases B;exact#[u,r,.inl #[hk,by simp]]
   .rw[Wj (ky D)] at B;let#[Y,r',q]:=hl j y W l B e3;refine#[Y,r',?_];rcases q with ⟨k,e⟩ | ⟨k,c,e,z⟩
    .refine .inl #[k,?_];have:y≠x:=λe=>D (wI hN l (e ▸ N));simp [this,e]
    .exact .inr #[k,c,e,z.sameBut f (J y c e)]
  .let#[S,z]:=I.cell y c e;exact#[S,z.sameBut f (J y c e)]
  .let#[e,n,T,nf,d]:=I.pin p hp;exact#[(f.2 p.1 T).trans e,n,T,nf,d]
 .have F:X.fn x=true:=by
   rcases hf with z | z
   .exact z
   .rw[z] at hk;cases hk
  let#[c,hc]:=I.ok.has x (.inl hk);let#[S,z]:=I.cell x c hc;refine wpAny_storeName_cell I.ok.kind hk hc z (λh' R f=>?_);let#[oc,L,K]:=id z;refine h { s with heap:=h' } #[I.ok,I.os,I.bare,#[λb o e n G t=>?_,λb o e n G t=>?_,I.base.free,λb o e t=>?_,I.base.tups,I.base.m4,I.base.tbls],#[m,hn.sameBut f (ky (J x c hc)),λj y W l B e3=>?_],λy U e=>?_,I.free,I.freeC,λp hp=>?_,g #[oc,L,I.freeC x c hc] f,by simpa using I.len] #[c,f,.inr hc]
  .exact(f.2 b (jz (da (dw e) (I.ok.cab x c F hc)))).trans (I.base.keep b o e n G t)
  .let#[Z,l]:=I.base.slot b o e n G t;exact#[Z,(f.2 b (jz (da (dw e) (I.ok.cab x c F hc)))).trans l]
  .let#[o',l]:=I.base.there b o e t;exact#[o',(f.2 b (jz (da (dw e) (I.ok.cab x c F hc)))).trans l]
  .by_cases D:j=i
   .subst D;rw[N] at l;cases l;rw[UV C] at B;cases B;exact#[u,r,.inr #[.inl hk,c,hc,R]]
   .rw[Wj (ky D)] at B;let#[Y,r',q]:=hl j y W l B e3;refine#[Y,r',?_];rcases q with q | ⟨k,U,e,z'⟩
    .exact .inl q
    .refine .inr #[k,U,e,z'.sameBut f ?_];rintro rfl;exact D (wI hN l (I.ok.inj _ _ _ e hc ▸ N))
  .by_cases P:U=c
   .subst P;exact#[_,R]
   .let#[w2,z2]:=I.cell y U e;exact#[w2,z2.sameBut f P]
  .let#[e,n,T,nf,d]:=I.pin p hp;refine#[(f.2 p.1 ?_).trans e,n,T,nf,d];intro q;rw[q,L] at e;have q':oc=p.2:=gT e;exact d S (by rw[<- q'];exact K)
theorem h_{E:VS0}{x:Str}{v:V}{Q:Unit->Shared->Prop}(I:Inv X pins σ H s)(d:X.N.Nodup)(b:X.N[i]?=some x)(a:Loc X.env.scope x)(r:RelV v u)(h:∀ s',Inv X pins (σ.set i (some v)) H s'->Q () s')(c:autoParam (X.fn x=true\/X.env.scope.names.lookup x=some .local) wq0):wpAny M A (storeName X.env x u) Q E s:=
 x_ I d b a r (λs' e _=>h s' e) c
theorem Inv.BG{s':Shared}(I:Inv X pins σ H s)(g:s'.os=s.os)(u:Un (frs X.stack) ch H H' s.heap s'.heap)(a:HOk X.prog X.w H' s'.heap)(h:Yy s'.gens)(d:∀ b∈ch,(b∈X.ex\/X.ab.heap.objs.size<=b)/\b≠X.env.locals/\(∀ x c,X.env.cells.lookup x=some c->c≠b)/\∀ p∈X.pn++pins,p.1≠b):Inv X pins σ H' s':=by
 let#[i,g',d',t',f]:=s';have e:f=s.os:=g;subst e;exact I.call (g':=g') (t':=t') (d':=d') u a h d
end
abbrev XK:=Value->Option Addr->Hp->Prop
abbrev St:=List (Option V)
abbrev VK:=V->Hp->Prop
abbrev TE:=St->Hp->VK->Prop
abbrev TT:=St->Hp->(Bool->Hp->Prop)->Prop
abbrev TA:=St->Hp->(List V->Hp->Prop)->Prop
set_option genInjectivity false in
structure Ends where
 nx:St->Hp->Prop
 rt:VK
 bk:St->Hp->Prop:=λ_ _=>False
 ct:St->Hp->Prop:=λ_ _=>False
abbrev TS:=Ends->St->Hp->Prop
variable {X:_2.Cx}{e a tg l:YP}{t:_2.TA}{pos p:al8}{σ:_2.St}{H:_2.Hp}{v y:_2.V}{ta te:_2.TE}{K:Fg0}{s':Xh}{es:List YP}{k n:Nat}{o:Option SB}{vs:List _2.V}{fp:La0}{body:List ai4}{R:aj3->Xh->Prop}{op:PySem.CmpOp}{r:List _2.V->_2.Hp->_2.VK->Prop}{C dx f:Xz}{g:Int->Int->Int}{Q:SB×Lv0->Xh->Prop}{us:Lv0}{prog:Pv}{name m qual:Zq}{kw:List (Zq×SB)}{base:ai0}{fd:et}{ps:Ls0}{outer:List aq4}{E:_2.XK}{gV:List _2.V->List _2.V->List _2.V}{scope:PySem.Scope}{osl:Array (Option SB)}
def EP (X:Cx)(a:Pn0)(σ:St)(Q:VK)(u:Value)(b:Shared):Prop:=∃ v H',Inv X a σ H' b/\RelV v u/\Q v H'
def TP (X:Cx)(a:Pn0)(σ:St)(Q:Bool->Hp->Prop)(b:Bool)(c:Shared):Prop:=∃ H',Inv X a σ H' c/\Q b H'
def AP (X:Cx)(a:Pn0)(σ:St)(Q:List V->Hp->Prop)(us:Lv0)(b:Shared):Prop:=∃ vs H',Inv X a σ H' b/\Vals vs us/\Q vs H'
def SP (X:Cx)(a:Pn0)(D:Ends)(f:Flow)(b:Shared):Prop:=
 match f with
 | .next=>∃ ay H',Inv X a ay H' b/\D.nx ay H'
 | .brk=>∃ ay H',Inv X a ay H' b/\D.bk ay H'
 | .cont=>∃ ay H',Inv X a ay H' b/\D.ct ay H'
 | .ret u=>∃ v ay H',Inv X a ay H' b/\RelV v u/\D.rt v H'
def PE (X:Cx)(e:Expr)(t:TE):Prop:=
 ∀ (pins:Pn0) (s:Shared) (σ:St) (H:Hp) (Q:VK),Inv X pins σ H s->t σ H Q->wpAny (model X.prog X.w) X.A (eval e X.env) (EP X pins σ Q) X.xe s
def PT (X:Cx)(e:Expr)(t:TT):Prop:=
 ∀ (pins:Pn0) (s:Shared) (σ:St) (H:Hp) (Q:Bool->Hp->Prop),Inv X pins σ H s->t σ H Q->wpAny (model X.prog X.w) X.A (isTrue e X.env (eval e X.env)) (TP X pins σ Q) X.xe s
def PW (X:Cx)(e:Expr)(t:TT):Prop:=
 ∀ (a:Sem Value) (pins:Pn0) (s:Shared) (σ:St) (H:Hp) (Q:Bool->Hp->Prop),Inv X pins σ H s->t σ H Q->wpAny (model X.prog X.w) X.A (isTrue e X.env a) (TP X pins σ Q) X.xe s
theorem PW.pt{t:TT}(h:PW X e t):PT X e t:=h _
def PA (X:Cx)(a:List Expr)(t:TA):Prop:=
 ∀ (pos:Pos) (pins:Pn0) (s:Shared) (σ:St) (H:Hp) (Q:List V->Hp->Prop),Inv X pins σ H s->t σ H Q->wpAny (model X.prog X.w) X.A (spliced (backTo pos (bp a X.env))) (AP X pins σ Q) X.xe s
def PS (X:Cx)(st:Stmt)(t:TS):Prop:=
 ∀ (pins:Pn0) (s:Shared) (σ:St) (H:Hp) (D:Ends),Inv X pins σ H s->t D σ H->wpAny (model X.prog X.w) X.A (exec st X.env) (SP X pins D) X.xe s
def PSs (X:Cx)(st:List Stmt)(t:TS):Prop:=
 ∀ (pins:Pn0) (s:Shared) (σ:St) (H:Hp) (D:Ends),Inv X pins σ H s->t D σ H->wpAny (model X.prog X.w) X.A (execs st X.env) (SP X pins D) X.xe s
theorem thn{b:Type}{t:Sem b}{Q c:b->Shared->Prop}{E:VS0}{s:Shared}(h:wpAny M A t Q E s)(d:∀ a s,Q a s->c a s):wpAny M A t c E s:=Bk h d λ_ _ x=>x
section
def i9 (i:Nat):TE:=λσ H Q=>∃ v,σ[i]?=some (some v)/\Q v H
def tC (v:V):TE:=λ_ H Q=>Q v H
abbrev Vjj(x:PySem.Str):Prop:=(x == ("__debug__":PySem.Str))=false
theorem du{x:Str}(p:X.N[i]?=some x)(j:Vis X.env.scope x)(hd:autoParam (Vjj x) wP)(d:autoParam ((x == ("__classdict__":Str))=false) wP):PE X (.Name x pos) (i9 i):=by
 intro b s g H Q I h;let#[v,e,h]:=h;let#[m,k,o]:=I.loc;let#[u,r,l]:=o i x v p e j;have fin:EP X b g Q u s:=#[v,H,I,r,h];rcases l with ⟨hk,n⟩ | ⟨hk,c,f,a⟩
 .exact wpAny_Name (wpAny_loadName_local I.ok.kind hk k n fin) hd
 .rcases hk with hk | hk
  .exact wpAny_Name (wpAny_loadName_cell I.ok.kind hk f a fin) hd
  .exact wpAny_Name (wpAny_loadName_free I.ok.kind hk f a fin d) hd
theorem Ck{i j pos}:PE X (.Constant (.int i) j pos) (tC (.int i)):=λ_ _ _ H _ I h=>wpAny_Constant_int #[.int i,H,I.tok _,#[_,rfl],h]
theorem Td{b j pos}:PE X (.Constant (.bool b) j pos) (tC (.bl b)):=λ_ _ _ H _ I h=>Constant_bool #[.bl b,H,I,rfl,h]
theorem Pa{j pos}:PE X (.Constant .none j pos) (tC .non):=λ_ _ _ H _ I h=>Constant_none #[.non,H,I,rfl,h]
theorem wu{x j pos}:PE X (.Constant (.str x) j pos) (tC (.str x)):=λ_ _ _ H _ I h=>Calls.Constant_str #[.str x,H,I.tok _,#[_,rfl],h]
def Gl (X:Cx)(x:Str):Prop:=X.env.kindOf x=some .globalImplicit
theorem dG{E:VS0}{a:Pn0}{s:Shared}{x:Str}{Q:VS0}(I:Inv X a σ H s)(c:Gl X x)(b:X.mg x=some u)(h:Q u s)(hd:autoParam (Vjj x) wP):wpAny (model X.prog X.w) X.A (eval (.Name x pos) X.env) Q E s:=
 Zs I.ok.kind c (Calls.loadGlobal_global (by rw[I.ok.glob];exact I.mod.glob.keeps I.bk) b h) hd
theorem k9{E:VS0}{a:Pn0}{s:Shared}{x:Str}{Q:VS0}(I:Inv X a σ H s)(e:Gl X x)(d:X.mg x=none)(b:Jv x=some u)(h:Q u s)(c:autoParam (x≠"__name__") wP)(hd:autoParam (Vjj x) wP):wpAny (model X.prog X.w) X.A (eval (.Name x pos) X.env) Q E s:=by
 let#[i,g,f]:=I.mod.blt;exact Zs I.ok.kind e (Calls.loadGlobal_builtin (by rw[I.ok.glob];exact I.mod.glob.keeps I.bk) d (by rw[I.ok.blt];exact g.keeps I.bk) ((f x c).trans b) h) hd
theorem vK{x:Str}(b:Gl X x)(a:X.mg x=some u)(r:RelV v u)(hd:autoParam (Vjj x) wP):PE X (.Name x pos) (tC v):=
 λ_ _ _ H _ I h=>dG I b a #[v,H,I,r,h] hd
theorem KS{x:Str}(d:Gl X x)(c:X.mg x=none)(a:Jv x=some u)(r:RelV v u)(b:autoParam (x≠"__name__") wP)(hd:autoParam (Vjj x) wP):PE X (.Name x pos) (tC v):=
 λ_ _ _ H _ I h=>k9 I d c a #[v,H,I,r,h] b hd
variable {b:Expr}{tb:TE}
def tB (t:TE):TT:=λσ H Q=>t σ H λx H1=>∃ c,x=.bl c/\Q c H1
theorem OV{t:TE}(h:PE X e t)(j:autoParam (∀ a,isTrue e X.env a=(do let v <- a;VS e.pos;holding [v] (truthy v))) wT):PT X e (tB t):=by
 intro b s c H Q I i;refine isTrue_plain (thn (h b s c H _ I i) λv m Z=>?_) (j _);let#[x,l,k,f,g]:=Z;let#[d,rfl,q]:=g;cases f;exact KB #[l,k,q]
variable {tA tB':TT}{rest:List Expr}
def Oo (t u:TT):TT:=λσ H Q=>t σ H λc H1=>if c=true then u σ H1 Q else Q false H1
def tOr (t u:TT):TT:=λσ H Q=>t σ H λc H1=>if c=true then Q true H1 else u σ H1 Q
def Oj (t:TT):TT:=λσ H Q=>t σ H λc H1=>Q (!c) H1
theorem Ki(f:PT X a tA):PW X (.BoolOp .And [a] pos) tA:=by
 intro g b s d H Q I h;refine isTrue_and (thn (f b s d H Q I h) λc i e=>?_);cases c with
 | true=>exact isTrue_and_nil e
 | false=>exact e
theorem OT(f:PT X a tA):PW X (.BoolOp .Or [a] pos) tA:=by
 intro g b s d H Q I h;refine isTrue_or (thn (f b s d H Q I h) λc i e=>?_);cases c with
 | false=>exact isTrue_or_nil e
 | true=>exact e
theorem OU(m:PT X a tA)(l:PW X (.BoolOp .And (b::rest) pos) tB'):PW X (.BoolOp .And (a::b::rest) pos) (Oo tA tB'):=by
 intro j d s e H Q I h;refine isTrue_and (thn (m d s e H _ I h) λc k Z=>?_);let#[i,g,f]:=Z;cases c with
 | true=>exact l j d k e i Q g f
 | false=>exact#[i,g,f]
theorem S5(m:PT X a tA)(l:PW X (.BoolOp .Or (b::rest) pos) tB'):PW X (.BoolOp .Or (a::b::rest) pos) (tOr tA tB'):=by
 intro j d s e H Q I h;refine isTrue_or (thn (m d s e H _ I h) λc k Z=>?_);let#[i,g,f]:=Z;cases c with
 | true=>exact#[i,g,f]
 | false=>exact l j d k e i Q g f
theorem OW(e:PT X a tA):PT X (.UnaryOp .Not a pos) (Oj tA):=by
 intro b s d H Q I h;exact isTrue_not (e b s d H (λc f=>Q (!c) f) I h)
def MS (ta a:TE):TE:=λσ H Q=>ta σ H λx H1=>∃ c,x=.bl c/\if c=true then a σ H1 Q else Q (.bl false) H1
def Si (ta a:TE):TE:=λσ H Q=>ta σ H λx H1=>∃ c,x=.bl c/\if c=true then Q (.bl true) H1 else a σ H1 Q
theorem O_{op}{t:TE}(h:PE X a t):PE X (.BoolOp op [a] pos) t:=λb s c H Q I d=>BoolOp_one (h b s c H Q I d)
theorem Pd(m:PE X a ta)(l:PE X (.BoolOp .And (b::rest) pos) tb):PE X (.BoolOp .And (a::b::rest) pos) (MS ta tb):=by
 intro d s f H Q I h;refine BoolOp_and (thn (m d s f H _ I h) λv j Z=>?_);let#[x,i,g,k,e]:=Z;let#[c,rfl,e]:=e;cases k;refine KB ?_;cases c with
 | true=>exact l d j f i Q g e
 | false=>exact#[.bl false,i,g,rfl,e]
theorem Ta(m:PE X a ta)(l:PE X (.BoolOp .Or (b::rest) pos) tb):PE X (.BoolOp .Or (a::b::rest) pos) (Si ta tb):=by
 intro d s f H Q I h;refine BoolOp_or (thn (m d s f H _ I h) λv j Z=>?_);let#[x,i,g,k,e]:=Z;let#[c,rfl,e]:=e;cases k;refine KB ?_;cases c with
 | false=>exact l d j f i Q g e
 | true=>exact#[.bl true,i,g,rfl,e]
def tIf (t:TT)(ta a:TE):TE:=λσ H Q=>t σ H λc H1=>if c=true then ta σ H1 Q else a σ H1 Q
theorem Hc{c:Expr}(l:PT X c tA)(n:PE X a ta)(m:PE X b tb):PE X (.IfExp c a b pos) (tIf tA ta tb):=by
 intro e s f H Q I h;refine wpAny_IfExp (thn (l e s f H _ I h) λd g Z=>?_);let#[k,j,i]:=Z;cases d with
 | true=>exact n e g f k Q j i
 | false=>exact m e g f k Q j i
end
def SqL (K:Fg0)(H:Hp)(a:Addr)(xs:List V):Prop:=
 Rd H a (.lst xs)\/
  ∃ (o:Obj) (its:Array Value) (n:Nat),K.lookup a=some o/\o.cls=.type "list"/\o.dict=none/\o.data=.seq its n/\its.size<=sizeLine/\Vals xs its.toList
def SqT (K:Fg0)(H:Hp)(a:Addr)(xs:List V):Prop:=
 Rd H a (.tup xs)\/
  ∃ (o:Obj) (its:Array Value) (n:Nat),K.lookup a=some o/\o.cls=.type "tuple"/\o.data=.seq its n/\its.size<=sizeLine/\Vals xs its.toList
noncomputable def WU:Value->Option V
 | .none=>some .non
 | .bool b=>some (.bl b)
 | .int i _=>some (.int i)
 | .str x _=>some (.str x)
 | .bytes b _=>some (.byt b)
 | .float b _=>some (.flt b)
 | .ref a=>some (.ref a)
 | .type n=>some (.ty n)
 | _=>none
theorem RelV.abs{x:V}(r:RelV x u):WU u=some x:=by
 cases x with
 | non=>cases r;rfl
 | bl _=>cases r;rfl
 | int _=>let#[t,rfl]:=r;rfl
 | str _=>let#[t,rfl]:=r;rfl
 | byt _=>let#[t,rfl]:=r;rfl
 | flt _=>let#[t,rfl]:=r;rfl
 | ref _=>cases r;rfl
 | ty _=>cases r;rfl
theorem RelV.inj{x:V}(r:RelV x u)(q:RelV y u):x=y:=gT (r.abs.symm.trans q.abs)
theorem Vals.inj:∀ {xs ys:List V} {us:Lv0},Vals xs us->Vals ys us->xs=ys
 | _,_,_,.nil,.nil=>rfl
 | _,_,_,.cons r t,.cons b a=>by rw[r.inj b,Vals.inj t a]
section
variable {pins:Pn0}{s:Shared}{a:Addr}{xs ys:List V}
theorem SqL.of(h:H a=some (.lst xs)):SqL K H a xs:=.inl (.inl h)
theorem SqT.of(h:H a=some (.tup xs)):SqT K H a xs:=.inl (.inl h)
theorem Inv.list(I:Inv X pins σ H s)(h:SqL X.K H a xs):∃ its:Lv0,Vals xs its/\PlainL s.heap a its.toArray/\xs.length<=sizeLine:=by
 rcases h with h | ⟨o,its,n,hk,c,hd,b,d,r⟩
 .let#[z,its,n,r,e]:=h.ok I.hok;exact#[its,r,#[_,n,e,rfl,rfl,rfl],z]
 .refine#[its.toList,r,#[o,n,I.kIn a o hk,c,hd,by simpa using b],?_];have e:=r.length;simp only[XW] at e;lia
theorem Inv.tuple(I:Inv X pins σ H s)(h:SqT X.K H a xs):∃ its:Lv0,Vals xs its/\IsTup s.heap a its.toArray/\xs.length<=sizeLine:=by
 rcases h with h | ⟨o,its,n,hk,c,b,d,r⟩
 .let#[z,its,r,p]:=h.ok I.hok;exact#[its,r,p,z]
 .refine#[its.toList,r,#[o,I.kIn a o hk,c,n,by simpa using b],?_];have e:=r.length;simp only[XW] at e;lia
theorem Inv.HQ(I:Inv X pins σ H s)(h:SqL X.K H a xs)(h':SqL X.K H a ys):xs=ys:=by
 let#[b,r,#[o,n,e,_,_,d],_]:=I.list h;let#[its',g,#[j,k,c,_,_,f],_]:=I.list h';rw[e] at c;cases c;rw[d] at f;injection f with i _
 have:b=its':=by simpa using congrArg Array.toList i
 subst this;exact r.inj g
theorem Inv.EA(I:Inv X pins σ H s)(h:SqT X.K H a xs)(h':SqT X.K H a ys):xs=ys:=by
 let#[b,r,#[o,e,_,n,d],_]:=I.tuple h;let#[its',g,#[j,c,_,k,f],_]:=I.tuple h';rw[e] at c;cases c;rw[d] at f;injection f with i _
 have:b=its':=by simpa using congrArg Array.toList i
 subst this;exact r.inj g
end
noncomputable abbrev Cx.i8 (X:Cx)(E:VS0):Cx:={ X with xe:=E }
noncomputable abbrev Cx.nox (X:Cx):Cx:=X.i8 λ_ _=>False
theorem Cx.Ok.i8(ok:X.Ok)(E:VS0):(X.i8 E).Ok:=
 #[ok.mod,ok.kind,ok.glob,ok.blt,ok.above,ok.inj,ok.has,ok.cab,ok.hd,ok.frames,ok.stk,ok.exf,ok.bs,ok.bsz,ok.noex,ok.exfs,ok.lQ,ok.frf,ok.tb]
theorem Cx.Ok.bZ{E:VS0}(ok:(X.i8 E).Ok):X.Ok:=
 #[ok.mod,ok.kind,ok.glob,ok.blt,ok.above,ok.inj,ok.has,ok.cab,ok.hd,ok.frames,ok.stk,ok.exf,ok.bs,ok.bsz,ok.noex,ok.exfs,ok.lQ,ok.frf,ok.tb]
section
variable {pins:Pn0}{s:Shared}{E:VS0}
theorem Inv.i8(I:Inv X pins σ H s)(E:VS0):Inv (X.i8 E) pins σ H s:=#[I.ok.i8 E,I.os,I.bare,I.base,I.loc,I.cell,I.free,I.freeC,I.pin,I.hok,I.len]
theorem Inv.bZ(I:Inv (X.i8 E) pins σ H s):Inv X pins σ H s:=#[I.ok.bZ,I.os,I.bare,I.base,I.loc,I.cell,I.free,I.freeC,I.pin,I.hok,I.len]
theorem SP.bZ{D:Ends}{f:Flow}(h:SP (X.i8 E) pins D f s'):SP X pins D f s':=by
 cases f with
 | next=>let#[a,b,I,q]:=h;exact#[a,b,I.bZ,q]
 | brk=>let#[a,b,I,q]:=h;exact#[a,b,I.bZ,q]
 | cont=>let#[a,b,I,q]:=h;exact#[a,b,I.bZ,q]
 | ret u=>let#[v,a,b,I,r,q]:=h;exact#[v,a,b,I.bZ,r,q]
theorem PSs.nox{st:List Stmt}{t:TS}(h:PSs X.nox st t):PSs X st t:=λa s b H D I c=>
 Bk (h a s b H D (I.i8 _) c) (λ_ _ q=>q.bZ) λ_ _ z=>ke z
end
section
variable {st:Stmt}{rest:List Stmt}{t u:TS}
def MR:TS:=λD σ H=>D.nx σ H
def JO (t u:TS):TS:=λD σ H=>t { D with nx:=u D } σ H
theorem Kr:PSs X [] MR:=λ_ _ a H _ I h=>Yh #[a,H,I,h]
theorem ij(h1:PS X st t)(e:PSs X rest u):PSs X (st::rest) (JO t u):=by
 intro a s c H D I h;refine aa5 (thn (h1 a s c H { D with nx:=u D } I h) λf d q=>?_);cases f with
 | next=>
  let#[b,i,g,q]:=q;exact e a d b i D g q
 | ret v=>exact q
 | brk=>exact q
 | cont=>exact q
theorem mP(h1:PS X st t):PSs X [st] t:=by
 intro a s b H D I h;refine aa5 (thn (h1 a s b H D I h) λf c q=>?_);cases f with
 | next=>exact Yh q
 | ret v=>exact q
 | brk=>exact q
 | cont=>exact q
theorem Inv.quiet{a:Pn0}{s:Shared}(I:Inv X a σ H s):interactive X.env=false:=by simp [interactive,I.ok.kind]
def Gm (te:TE):TS:=λD σ H=>te σ H λ_ H1=>D.nx σ H1
theorem mQ(f:PE X e te)(d:autoParam (Xb e none pos.line X.env=pure false) wE):PS X (.Expr e pos) (Gm te):=by
 intro a s b H D I h;exact wpAny_Expr_any (thn (f a s b H _ I h) λv j ⟨x,i,g,k,c⟩=>#[b,i,g,c]) I.quiet d
def Oi (te:TE):TS:=λD σ H=>te σ H D.rt
theorem GY(f:PE X e te):PS X (.Return (some e) pos) (Oi te):=by
 intro a s b H D I h;exact wpAny_Return_some (thn (f a s b H _ I h) λv j ⟨x,i,g,c,d⟩=>#[x,b,i,g,c,d])
def Ol (c:TT)(t u:TS):TS:=λD σ H=>c σ H λb H1=>if b=true then t D σ H1 else u D σ H1
theorem M1{c:Expr}{a b:List Stmt}{g:TT}(m:PT X c g)(o:PSs X a t)(n:PSs X b u):PS X (.If c a b pos) (Ol g t u):=by
 intro e s f H D I h;refine wpAny_If (thn (m e s f H _ I h) λd i Z=>?_);let#[l,k,j]:=Z;cases d with
 | true=>exact o e i f l D k j
 | false=>exact n e i f l D k j
def Gk:TS:=λ_ _ _=>False
theorem G0:PS X st Gk:=λ_ _ _ _ _ _ h=>h.elim
end
abbrev TG:=V->St->Hp->(St->Hp->Prop)->Prop
abbrev TGs:=List V->St->Hp->(St->Hp->Prop)->Prop
def PG (X:Cx)(target:Expr)(t:TG):Prop:=
 ∀ (pins:Pn0) (s:Shared) (σ:St) (H:Hp) (v:V) (u:Value) (Q:St->Hp->Prop),Inv X pins σ H s->RelV v u->t v σ H Q->
  wpAny (model X.prog X.w) X.A (assign target X.env u) (λ_ s'=>∃ ay H',Inv X pins ay H' s'/\Q ay H') X.xe s
def PGs (X:Cx)(ts:List Expr)(t:TGs):Prop:=
 ∀ (pins:Pn0) (s:Shared) (σ:St) (H:Hp) (vs:List V) (us:Lv0) (Q:St->Hp->Prop),Inv X pins σ H s->Vals vs us->t vs σ H Q->
  wpAny (model X.prog X.w) X.A (Yb ((lg ts X.env).map (·.2)) us) (λ_ s'=>∃ ay H',Inv X pins ay H' s'/\Q ay H') X.xe s
noncomputable abbrev Rv:=V->V->V->Hp->(Hp->Prop)->Prop
def Vz (X:Cx)(t:Rv):Prop:=
 ∀ (pins:Pn0) (s:Shared) (σ:St) (H:Hp) (o i v:V) (a b u:Value) (Q:Hp->Prop),Inv X pins σ H s->RelV o a->RelV i b->RelV v u->t o i v H Q->
  wpAny (model X.prog X.w) X.A (setItem a b u) (λ_ s'=>∃ H',Inv X pins σ H' s'/\Q H') X.xe s
def kG (i:Nat):TG:=λv σ H Q=>Q (σ.set i (some v)) H
theorem a8{x:Str}(e:X.N.Nodup)(c:X.N[i]?=some x)(b:Loc X.env.scope x)(d:autoParam (X.fn x=true\/X.env.scope.names.lookup x=some .local) wq0):PG X (.Name x pos) (kG i):=by
 intro a s g H v u Q I r h;exact wpAny_assign_Name (h_ I e c b r (λj f=>#[_,H,f,h]) d)
def QU:TGs:=λvs σ H Q=>vs=[]/\Q σ H
def D6 (t:TG)(u:TGs):TGs:=λvs σ H Q=>∃ v r,vs=v::r/\t v σ H λay H'=>u r ay H' Q
theorem eE:PGs X [] QU:=by
 intro a s b H c d Q I r h;let#[e,h]:=h;subst e;cases r;exact ZR #[b,H,I,h]
theorem aR{t:TG}{u:TGs}(h1:PG X e t)(j:PGs X es u)(i:autoParam ((lg (e::es) X.env).map (·.2)=assign e X.env::(lg es X.env).map (·.2)) wE):PGs X (e::es) (D6 t u):=by
 intro a s c H n p Q I r h;let#[v,o,k,h]:=h;subst k;cases r with
 | cons r f=>
  rw[i];refine VJ (thn (h1 a s c H _ _ _ I r h) λ_ d Z=>?_);let#[b,m,l,g]:=Z;exact j a d b m _ _ Q l f g
def Fq (K:Fg0)(n:Nat)(t:TGs):TG:=λv σ H Q=>∃ a xs,v=.ref a/\SqT K H a xs/\xs.length=n/\t xs σ H Q
theorem wt{t:TGs}(y:X.calm=true)(h:PGs X es t)(w:autoParam ((lg es X.env).length=n) wE)(f:autoParam ((lg es X.env).findIdx? (·.1)=none) wE):PG X (.Tuple es k pos) (Fq X.K n t):=by
 intro c s g H v u Q I r d;let#[a,j,A,q,x,d]:=d;subst A;cases r;let#[l,i,p,C]:=I.tuple q;refine assign_Tuple_tuple (I.ok.hd y) p (by simp [w,<- x,i.length]) f λz m=>?_;have B:Inv X c g H { s with heap:=z }:=I.kept (t':=s.toks) λb o e=>m b o (jz (dw e)) e;exact h c _ g H j _ Q B (by simpa using i) d
def Io (a b:TE)(t:Rv):TG:=λv σ H Q=>a σ H λo H1=>b σ H1 λi H2=>t o i v H2 λc=>Q σ c
theorem G9{o i:Expr}{c d:TE}{t:Rv}(p:PE X o c)(q:PE X i d)(n:Vz X t)(w:autoParam (∀ v,assign (.Subscript o i pos) X.env v=(do
   let O <- holding [v] (eval o X.env)
   let iv <- holding [v,O] (eval i X.env)
   VS pos
   holding [v,O,iv] (setItem O iv v)
   release [v,O,iv] [])) wT):PG X (.Subscript o i pos) (Io c d t):=by
 intro a s b H v u Q I r h;rw[w];refine au (pb (thn (p a s b H _ I h) λO f Z=>?_));let#[x,E,B,j,m]:=Z;refine au (pb (thn (q a f b E _ B m) λiv e Z=>?_));let#[y,D,A,g,l]:=Z;refine au (yv (au (pb (thn (n a e b D x y v O iv u _ A j g r l) λ_ F Z=>?_))));let#[C,z,k]:=Z;exact wpAny_release #[b,C,z,k]
def pI (te:TE)(g:TG):TS:=λD σ H=>te σ H λx H1=>g x σ H1 D.nx
theorem wo{g:TG}(l:PE X e te)(k:PG X tg g)(j:autoParam (Ri [tg] e pos.line X.env=pure false) wE)(i:autoParam (Rj [tg] e X.env=pure none) wE)(h1:autoParam ((lg [tg] X.env).map (·.2)=[assign tg X.env]) wE):PS X (.Assign [tg] e pos) (pI te g):=by
 intro a s b H D I h;refine wpAny_Assign_stores (thn (l a s b H _ I h) λv c Z=>?_) j i;let#[x,n,m,d,f]:=Z;rw[h1];exact thn (k a c b n x v _ m d f) λ_ o q=>q
theorem GX{x:Str}{a:Pos}(n:X.N.Nodup)(k:X.N[i]?=some x)(g:Loc X.env.scope x)(m:PE X e te)(j:autoParam (Xb e (some (.Name x a)) pos.line X.env=pure false) wE)(l:autoParam (X.fn x=true\/X.env.scope.names.lookup x=some .local) wq0) :
  PS X (.Assign [.Name x a] e pos) (pI te (kG i)):=by
 intro b s c H D I h;refine wpAny_Assign_Name (thn (m b s c H _ I h) λv t Z=>?_) j;let#[y,q,p,d,f]:=Z;exact h_ p n k g d (λr o=>#[_,q,o,f]) l
def Sg (i j:Nat)(ta:TA):TS:=λD σ H=>ta σ H λvs H1=>∃ v w,vs=[v,w]/\D.nx ((σ.set i (some v)).set j (some w)) H1
theorem OZ{j:Nat}{x y:Str}{b:Expr}{ta:TA}{m l n:Pos}{kt k2 O}(R:X.calm=true)(B:X.N.Nodup)(Q:X.N[i]?=some x)(P:X.N[j]?=some y)(t:i≠j)(A:X.env.scope.names.lookup x=some .local)(z:X.env.scope.names.lookup y=some .local)(S:PA X [a,b] ta)(M:Rj [.Tuple [.Name x m,.Name y l] kt n] (.Tuple [a,b] k2 O) X.env=pure (some [x,y]))(N:autoParam (Ri [.Tuple [.Name x m,.Name y l] kt n] (.Tuple [a,b] k2 O) pos.line X.env=pure false) wE) :
  PS X (.Assign [.Tuple [.Name x m,.Name y l] kt n] (.Tuple [a,b] k2 O) pos) (Sg i j ta):=by
 intro c s u H D I h;rw[exec_Assign_arm];refine au (yv ?_);rw[N];refine au (bh ?_);rw[if_neg (by decide)];refine au (Tuple_ (thn (S _ c s u H _ I h) λF f Z=>?_));let#[vs,E,Y,J,k]:=Z;let#[v,w,T,k]:=k;subst T;obtain⟨d,u2,rfl,G,g⟩:∃ d u2,F=[d,u2]/\RelV v d/\RelV w u2:=by
  cases J with
  | cons p q=>
   cases q with
   | cons L K=>
    cases K;exact#[_,_,rfl,p,L]
 refine vx ?_ (by show 2<=sizeLine;decide);have W:Inv X c u E { f with heap:=f.heap.push { cls:=.type "tuple",data:=.seq [d,u2].toArray } }:=Y.kept (t':=f.toks) λb o e=>av _ e;rw[M];refine au (bh ?_);show wpAny (model X.prog X.w) X.A (do rule "assign.swapped-stores";let items <- af1 (.ref f.heap.objs.size) 2 none;Yb [λv=>Yc X.env y v,λv=>Yc X.env x v] items.reverse;pure al9) _ _ _;refine au (Zt (au (unpackItems_tuple (items:=(Vz9 [d,u2])) (I.ok.hd R) (am0 f.heap _) λh' r=>?_)));have V:=W.kept (h':=h') (t':=f.toks) λb o e=>r b o (jz (dw e)) e;show wpAny _ _ (Yb [λv=>Yc X.env y v,λv=>Yc X.env x v] [u2,d] >>= λ_=>pure al9) _ _ _;refine au (VJ (YA (h_ V B P (.inl z) g (λs2 U=>?_) (.inr z))));refine VJ (YA (h_ U B Q (.inl A) G (λs3 C=>ZR (bh ?_)) (.inr A)));rw[List.set_comm _ _ (ky t)] at C;exact#[_,E,C,k]
set_option genInjectivity false in
structure It where
 go:Nat->Hp->Prop
 yld:Nat->Hp->V->Hp->Prop
 stop:Nat->Hp->Prop
def md (X:Cx)(a:Pn0)(H:Hp)(b:Addr):Prop:=
 H b=none/\b≠X.env.locals/\b∉X.fs/\(b∈X.ex\/X.ab.heap.objs.size<=b)/\(∀ x c,X.env.cells.lookup x=some c->c≠b)/\∀ p∈X.pn++a,p.1≠b
theorem Inv.xP{a:Pn0}{f:Hp}{s:Shared}{b:Addr}(I:Inv X a σ H s)(d:s.heap.objs.size<=b)(h:f b=none):md X a f b:=by
 refine#[h,wh (da I.lt d),I.VZ d,.inr (eC I.sz d),λx c e z=>?_,λp g z=>?_]
 .let#[v,q]:=I.cell x c e;exact absurd (da q.lt (by rw[z];exact d)) (hY _)
 .exact absurd (da (dw (I.pin p g).1) (by rw[z];exact d)) (hY _)
structure Turn (P:Pv) (w:World) (K:Fg0) (tg:Expr) (J:It) (fp:La0) (it:Addr) (tn:Nat->Heap->Prop):Prop where
 mem:it∈fp
 obj:∀ i h,tn i h->∀ b∈fp,∃ o,h.get? b=some o/\∀ v,o.data≠.cell v
 keep:∀ i h h',tn i h->(∀ b∈fp,∀ o,h.get? b=some o->h'.get? b=some o)->tn i h'
 item:∀ (X:Cx),X.prog=P->X.w=w->X.K=K->X.calm=true->∀ (i:Nat) (pins:Pn0) (s:Shared) (σ:St) (H:Hp) (E:VS0),Inv X pins σ H s->(∀ b∈fp,md X pins H b)->tn i s.heap->J.go i H->
  wpAny (model P w) X.A (pyNext (.ref it)) (λr s1=>∃ u,r=some u/\
   wpAny (model P w) X.A (Oq tg (.ref it) u) (λ_ s2=>∃ x H',Inv X pins σ H' s2/\RelV x u/\J.yld i H x H'/\tn (i + 1) s2.heap/\∀ b∈fp,H' b=none) E s1) E s
 done:∀ (X:Cx),X.prog=P->X.w=w->X.K=K->X.calm=true->∀ (i:Nat) (pins:Pn0) (s:Shared) (σ:St) (H:Hp) (E:VS0),Inv X pins σ H s->(∀ b∈fp,md X pins H b)->tn i s.heap->J.stop i H->
  wpAny (model P w) X.A (pyNext (.ref it)) (λr s1=>r=none/\Inv X pins σ H s1) E s
 self:∀ (A:Around) (i:Nat) (s:Shared) (Q:VS0) (E:VS0),tn i s.heap->Q (.ref it) s->wpAny (model P w) A (pyIter (.ref it)) Q E s
abbrev TI:=St->Hp->(It->Hp->Prop)->Prop
def PIE (X:Cx)(a:Pn0)(σ:St)(e:Expr)(R:It->Hp->Prop)(c:Value)(d:Shared):Prop:=
 ∃ (it:Addr) (fp:La0) (tn:Nat->Heap->Prop) (J:It) (H':Hp),c=.ref it/\Inv X a σ H' d/\Turn X.prog X.w X.K e J fp it tn/\tn 0 d.heap/\(∀ b∈fp,md X a H' b)/\R J H'
def PI (X:Cx)(b iter:Expr)(a:TI):Prop:=
 ∀ (pins:Pn0) (s:Shared) (σ:St) (H:Hp) (R:It->Hp->Prop),Inv X pins σ H s->a σ H R->
  wpAny (model X.prog X.w) X.A (eval iter X.env) (λv c=>wpAny (model X.prog X.w) X.A (pyIter v) (PIE X pins σ b R) X.xe c) X.xe s
theorem Bm{E:VS0}{s:Shared}{it:Addr}{o:Obj}{n:String}{vs:Array Value}{Q:Unit->Shared->Prop}(b:s.heap.get? it=some o)(d:o.cls=.type n)(hd:o.data=.fields vs)(a:Q () s)(c:autoParam (["enumerate","zip","dict_itemiterator","dict_reverseitemiterator","odict_iterator","itertools.zip_longest","itertools.pairwise"].contains n=false) wP):wpAny M A (Oq tg (.ref it) u) Q E s:=by
 unfold Oq;cases tg <;> first
  | exact bh a
  | (cases u <;> first
    | exact bh a
    | (refine au (wpAny_load b ?_);rw[d,hd];show wpAny M A (if (["enumerate","zip","dict_itemiterator","dict_reverseitemiterator","odict_iterator","itertools.zip_longest","itertools.pairwise"].contains n && vs[0]? == some (rawInt _))=true then _ else _) Q E s;rw[if_neg (by intro h;rw[c,ap2] at h;cases h)];exact bh a))
noncomputable def Itl (K:Fg0)(a:Addr):It:=
 #[λi H=>∃ xs x,SqL K H a xs/\xs[i]?=some x,λi H x H'=>H'=H/\∀ xs,SqL K H a xs->xs[i]?=some x,λi H=>∃ xs,SqL K H a xs/\xs.length<=i]
noncomputable def Itt (K:Fg0)(a:Addr):It:=
 #[λi H=>∃ xs x,SqT K H a xs/\xs[i]?=some x,λi H x H'=>H'=H/\∀ xs,SqT K H a xs->xs[i]?=some x,λi H=>∃ xs,SqT K H a xs/\xs.length<=i]
noncomputable def Itr (lo:Int)(n:Nat):It:=#[λi _=>i < n,λi H x H'=>H'=H/\x=.int (lo + i),λi _=>n<=i]
theorem Ez(a it:Addr):Turn P w K tg (Itl K a) [it] it (λi h=>h.IsListIter it a i) where
 mem:=by simp
 obj:=λi h st b g=>by
  have e:b=it:=by simpa using g
  subst e;let#[o,e,c,d]:=st;exact#[o,e,λv z=>by rw[d] at z;cases z]
 keep:=λi h n st k=>st.at λo e=>k it (by simp) o e
 item:=by
  intro X B y C N i f s M H E I m st A;subst B y C;let#[O,x,l,t]:=A;let#[r,q,p,S]:=I.list l;let#[u,U,R]:=q.get t;let#[L,J,V,G,F,D]:=m it (by simp);refine ac5 st p.isList (x:=u) (by simpa using U) λn j Q=>?_;have Y:Inv X f M H { s with heap:=n }:=I.turned (t':=s.toks) (λb o g e=>(Q.2 b g).trans e) L J G F D;let#[o,e,c,d]:=id j;exact#[u,rfl,Bm (s:={ s with heap:=n }) e c d #[x,H,Y,R,#[rfl,λZ T=>by rw[I.HQ T l];exact t],j,λb g=>(m b g).1]]
 done:=by
  intro X B y C N i f s M H E I m st A;subst B y C;let#[O,l,t]:=A;let#[r,q,p,S]:=I.list l;let#[L,J,V,G,F,D]:=m it (by simp);have hl:=q.length;exact ae2 (I.ok.hd N) st p.isList (by simp;lia) λn W=>#[rfl,I.turned (t':=s.toks) (λb o g e=>W b o g e) L J G F D]
 self:=λ_ _ _ _ _ st h=>wpAny_pyIter_listiter st h
theorem B1(a it:Addr):Turn P w K tg (Itt K a) [it] it (λi h=>h.IsTupleIter it a i) where
 mem:=by simp
 obj:=λi h st b j=>by
  have e:b=it:=by simpa using j
  subst e;let#[o,e,c,d]:=st;exact#[o,e,λv z=>by rw[d] at z;cases z]
 keep:=λi h q st k=>st.at λo e=>k it (by simp) o e
 item:=by
  intro X B y C N i f s M H E I n st A;subst B y C;let#[O,x,m,t]:=A;let#[g,r,p,S]:=I.tuple m;let#[u,U,R]:=r.get t;let#[L,J,V,G,F,D]:=n it (by simp);refine wpAny_pyNext_tuple_item st (show s.heap.IsTuple a g.toArray from p) (x:=u) (by simpa using U) λq l Q=>?_;have Y:Inv X f M H { s with heap:=q }:=I.turned (t':=s.toks) (λb o j e=>(Q.2 b j).trans e) L J G F D;let#[o,e,c,d]:=id l;exact#[u,rfl,Bm (s:={ s with heap:=q }) e c d #[x,H,Y,R,#[rfl,λZ T=>by rw[I.EA T m];exact t],l,λb j=>(n b j).1]]
 done:=by
  intro X B y C N i f s M H E I n st A;subst B y C;let#[O,m,t]:=A;let#[g,r,p,S]:=I.tuple m;let#[L,J,V,G,F,D]:=n it (by simp);have hl:=r.length;exact wpAny_pyNext_tuple_end (I.ok.hd N) st (show s.heap.IsTuple a g.toArray from p) (by simp;lia) λq W=>#[rfl,I.turned (t':=s.toks) (λb o j e=>W b o j e) L J G F D]
 self:=λ_ _ _ _ _ st h=>wpAny_pyIter_tupleiter st h
theorem B2(it:Addr)(lo:Int)(n:Nat):Turn P w K tg (Itr lo n) [it] it (λi h=>af2 h it (lo + (i:Nat) * 1) ((n:Int) - (i:Nat)) 1) where
 mem:=by simp
 obj:=λi h st b c=>by
  have e:b=it:=by simpa using c
  subst e;exact#[_,st,λv z=>by
   have D:Data.fields _=Data.cell v:=z;cases D]
 keep:=λi h g st k=>k it (by simp) _ st
 item:=by
  intro X p j q m i a s B H E I f st l;subst p j q;let#[A,y,J,x,u,r]:=f it (by simp);have W:=Walks.range (prog:=X.prog) (w:=X.w) (I.ok.hd m) it lo 1 n;refine W.item i s _ _ l st λv g C G d F=>?_;let#[t,rfl]:=G;have M:Inv X a B H { s with heap:=g,toks:=C }:=I.turned (λb o c e=>F b o (by simpa using c) e) A y x u r;refine#[_,rfl,Bm (s:={ s with heap:=g,toks:=C }) (n:="range_iterator") d rfl rfl #[.int (lo + i),H,M,#[t,?_],#[rfl,rfl],d,λb c=>(f b c).1]];rw[Int.mul_one]
 done:=by
  intro X p j q m i a s B H E I f st l;subst p j q;let#[A,y,J,x,u,r]:=f it (by simp);exact ac6 (I.ok.hd m) st (by have:n<=i:=l;lia) λg L=>#[rfl,I.turned (t':=s.toks) (λb o c e=>L b o c e) A y x u r]
 self:=λ_ _ _ _ _ st h=>YB st h
def Np (K:Fg0)(tl:TE):TI:=λσ H R=>tl σ H λx H1=>∃ a,x=.ref a/\(∃ xs,SqL K H1 a xs)/\R (Itl K a) H1
def Uo (K:Fg0)(tl:TE):TI:=λσ H R=>tl σ H λx H1=>∃ a,x=.ref a/\(∃ xs,SqT K H1 a xs)/\R (Itt K a) H1
theorem KI{tl:TE}(n:PE X l tl):PI X tg l (Np X.K tl):=by
 intro c s g H R I h;refine thn (n c s g H _ I h) λv d Z=>?_;let#[x,t,f,i,j]:=Z;let#[a,e,#[u,m],q]:=j;subst e;cases i;let#[k,w,p,y]:=f.list m;refine Wl p.isList ?_;refine#[d.heap.objs.size,[d.heap.objs.size],_,_,t,rfl,f.kept (t':=d.toks) λb o e=>av _ e,Ez a _,#[_,er _ rfl,rfl,rfl],λb r=>?_,q];have e:b=d.heap.objs.size:=by simpa using r
 subst e;exact f.xP (cc _) (f.hok.fresh (cc _))
theorem O5{tl:TE}(n:PE X l tl):PI X tg l (Uo X.K tl):=by
 intro d s i H R I h;refine thn (n d s i H _ I h) λv c Z=>?_;let#[x,t,f,j,k]:=Z;let#[a,e,#[u,m],q]:=k;subst e;cases j;let#[g,w,p,y]:=f.tuple m;refine wpAny_pyIter_tuple (show c.heap.IsTuple a g.toArray from p) ?_;refine#[c.heap.objs.size,[c.heap.objs.size],_,_,t,rfl,f.kept (t':=c.toks) λb o e=>av _ e,B1 a _,#[_,er _ rfl,rfl,rfl],λb r=>?_,q];have e:b=c.heap.objs.size:=by simpa using r
 subst e;exact f.xP (cc _) (f.hok.fresh (cc _))
theorem A1{c:Pn0}{s:Shared}{R:It->Hp->Prop}{E:VS0}{lo a:Int}{t u v:Tok}{d:Nat}(I:Inv X c σ H s)(h1:-(2 ^ 62)<=lo)(j:lo < 2 ^ 62)(i:-(2 ^ 62)<=a)(h:a < 2 ^ 62)(q:R (Itr lo (a - lo).toNat) H):wpAny (model X.prog X.w) X.A (pyIter (.ref s.heap.objs.size)) (PIE X c σ tg R) E { s with heap:=s.heap.push { cls:=.type "range",data:=.fields (Vz9 [.int lo t,.int a u,.int 1 v]) },toks:=d }:=by
 refine wpAny_pyIter_range (aq7 ..) (small_one h1 j i h) ?_;have f:Inv X c σ H { s with heap:=s.heap.push { cls:=.type "range",data:=.fields (Vz9 [.int lo t,.int a u,.int 1 v]) },toks:=d }:=I.kept λb o e=>av _ e;refine#[(s.heap.push { cls:=.type "range",data:=.fields (Vz9 [.int lo t,.int a u,.int 1 v]) }).objs.size,[(s.heap.push { cls:=.type "range",data:=.fields (Vz9 [.int lo t,.int a u,.int 1 v]) }).objs.size],_,_,H,rfl,
  f.kept (t':=d) λb o e=>av _ e,B2 _ lo (a - lo).toNat,?_,λb g=>?_,q]
 .have l:lo + ((0:Nat):Int) * 1=lo:=by simp
  have k:(((a - lo).toNat:Nat):Int) - ((0:Nat):Int)=Ys lo a 1:=by rw[rangeSize_one];split <;> lia
  show af2 _ _ (lo + ((0:Nat):Int) * 1) ((((a - lo).toNat:Nat):Int) - ((0:Nat):Int)) 1;rw[l,k];exact er _ rfl
 .have e:b=(s.heap.push { cls:=.type "range",data:=.fields (Vz9 [.int lo t,.int a u,.int 1 v]) }).objs.size:=by simpa using g
  subst e;exact f.xP (cc _) (f.hok.fresh (cc _))
def Nn (ta:TA):TI:=λσ H R=>ta σ H λvs H1=>∃ j:Int,vs=[.int j]/\-(2 ^ 62)<=j/\j < 2 ^ 62/\R (Itr 0 j.toNat) H1
def Nm (ta:TA):TI:=λσ H R=>ta σ H λvs H1=>∃ i j:Int,vs=[.int i,.int j]/\(-(2 ^ 62)<=i/\i < 2 ^ 62/\-(2 ^ 62)<=j/\j < 2 ^ 62)/\R (Itr i (j - i).toNat) H1
theorem EU{ta:TA}(m:Gl X "range")(l:X.mg "range"=none)(n:PA X [a] ta)(k:autoParam (bp [a] X.env=[(false,eval a X.env)]) wE):PI X tg (.Call (.Name "range" p) [a] [] pos) (Nn ta):=by
 intro b s d H R I h;refine Call_ (k9 I m l boot_range (sm (thn (n pos b s d H _ I h) λv w Z=>?_) k rfl));let#[u,x,o,g,c]:=Z;let#[j,e,c,i,q]:=c;subst e;cases g with
 | cons r f=>
  cases f;let#[t,rfl]:=r;exact call_range_1 (A1 o (by lia) (by lia) c i (by simpa using q))
theorem ET{b:Expr}{ta:TA}(x:Gl X "range")(w:X.mg "range"=none)(y:PA X [a,b] ta)(v:autoParam (bp [a,b] X.env=[(false,eval a X.env),(false,eval b X.env)]) wE)(d:autoParam (bp [b] X.env=[(false,eval b X.env)]) wE) :
  PI X tg (.Call (.Name "range" p) [a,b] [] pos) (Nm ta):=by
 intro c s k H R I h;refine Call_ (k9 I x w boot_range (sm (thn (y pos c s k H _ I h) λB D ⟨A,E,z,l,g⟩=>?_) (by rw[v,d]) (by rw[d];rfl)));let#[i,j,e,#[g,u,o,n],q]:=g;subst e;cases l with
 | cons r f=>
  cases f with
  | cons m f=>
   cases f;let#[t,rfl]:=r;let#[C,rfl]:=m;exact call_range_2 (A1 z g u o n q)
def Om (c:TI)(g:TG)(d:TS):TS:=λD σ H=>c σ H λJ H1=>∃ W:Nat->Nat->St->Hp->Prop,(∃ m,W 0 m σ H1)/\∀ i m σ H,W i m σ H->
 (J.stop i H/\D.nx σ H)\/(J.go i H/\∃ N:St->Hp->Prop,(∀ ay H',N ay H'->∃ b,b < m/\W (i + 1) b ay H')/\∀ x H',J.yld i H x H'->g x σ H' λa H2=>d { D with nx:=N,ct:=N,bk:=D.nx } a H2)
noncomputable def wq (a:La0)(h:Heap):Pn0:=a.filterMap λb=>(h.get? b).map λo=>(b,o)
theorem mW{h:Heap}{b:Addr}{o:Obj}(a:b∈fp)(e:h.get? b=some o):(b,o)∈wq fp h:=Yl.mpr #[b,a,by rw[e];rfl]
theorem ym{h:Heap}{p:Addr×Obj}(a:p∈wq fp h):p.1∈fp/\h.get? p.1=some p.2:=by
 let#[b,c,e]:=Yl.mp a;cases q:h.get? b with
 | none=>rw[q] at e;cases e
 | some o=>
  rw[q] at e;have d:(b,o)=p:=gT e;subst d;exact#[c,q]
theorem Inv.pinned{a:Pn0}{s:Shared}(I:Inv X a σ H s)(i:∀ b∈fp,md X a H b)(h:∀ b∈fp,∃ o,s.heap.get? b=some o/\∀ v,o.data≠.cell v):Inv X (a++wq fp s.heap) σ H s:=
 I.mR λp g=>(kS.mp g).elim (λz=>I.pin p (eP _ z)) λz=>by
  let#[c,e]:=ym z;let#[l,k,j,_]:=i p.1 c;let#[o,f,d]:=h p.1 c;rw[e] at f;cases f;exact#[e,l,k,j,d]
theorem Inv.vX{a pl:Pn0}{s:Shared}(I:Inv X (a++pl) σ H s):Inv X a σ H s:=I.mR λp b=>I.pin p (eP _ (ml _ b))
theorem G1{iter:Expr}{S:TI}{g:TG}{V:TS}(C:am1 (model X.prog X.w) X.A X.env X.xe)(hc:X.calm=true)(hi:PI X tg iter S)(hg:PG X tg g)(p:PSs X body V)(hs:autoParam (∀ x,pk iter X.env x=pure x) wT):PS X (.For tg iter body [] pos) (Om S g V):=by
 intro c s R H D I h;refine wpAny_For (thn (hi c s R H _ I h) λv s1 h1=>thn h1 λa1 s2 h2=>?_) hs;let#[it,F,U,J,H2,e,I2,T,L,f2,W,#[m0,w0],z]:=h2;subst e;have l:∀ {H':Hp},(∀ b∈F,H' b=none)->∀ b∈F,md X c H' b:=λhn b p=>#[hn b p,(f2 b p).2];refine codeAny_forLoop_any (λn s'=>∃ i k H',Inv X c k H' s'/\U i s'.heap/\(∀ b∈F,H' b=none)/\W i n k H') ?_ m0 #[0,R,H2,I2,L,λb p=>(f2 b p).1,w0];rintro n s3 ⟨i,j,G,I3,A,E,w3⟩;rcases z i n j G w3 with ⟨stop,qn⟩ | ⟨go,N,hN,step⟩
 .refine Yi C (thn (T.done X rfl rfl rfl hc i c s3 j G X.xe I3 (l E) A stop) λr s4 Z=>?_);let#[O,I4]:=Z;subst O;exact Yh #[j,G,I4,qn]
 .refine Yi C (thn (T.item X rfl rfl rfl hc i c s3 j G X.xe I3 (l E) A go) λr s4 Z=>?_);let#[u,O,h4]:=Z;subst O;refine Yi C (thn h4 λ_ Y Z=>?_);let#[x,H5,I5,r5,y5,y,P]:=Z;have Q:=I5.pinned (l P) (T.obj _ _ y);refine Yi C (thn (hg _ Y j H5 x u _ Q r5 (step x H5 y5)) λ_ s6 Z=>?_);let#[K,H6,I6,q6]:=Z;refine Yi C (thn (p _ s6 K H6 _ I6 q6) λf M w=>?_);have again:∀ {a:St} {t:Hp},Inv X (c++wq F Y.heap) a t M->N a t->∃ m,m < n/\∃ i k H',Inv X c k H' M/\U i M.heap/\(∀ b∈F,H' b=none)/\W i m k H':=λ{a t} q B=>by
   let#[m',hm,w7]:=hN a t B;refine#[m',hm,i + 1,a,t,q.vX,T.keep _ _ _ y λb p o e=>(q.pin (b,o) (eP _ (eP _ (mW p e)))).1,λb p=>?_,w7];let#[o,e,d]:=T.obj _ _ y b p;exact(q.pin (b,o) (eP _ (eP _ (mW p e)))).2.1
  cases f with
  | next=>let#[a,t,q,B]:=w;exact again q B
  | cont=>let#[a,t,q,B]:=w;exact again q B
  | brk=>let#[a,t,q,w]:=w;exact#[a,t,q.vX,w]
  | ret v=>let#[x7,a,t,q,r7,w]:=w;exact#[x7,a,t,q.vX,r7,w]
abbrev R2:=V->V->Hp->VK->Prop
def OpR (X:Cx)(f:Value->Value->Sem Value)(r:R2):Prop:=
 ∀ (pins:Pn0) (s:Shared) (σ:St) (H:Hp) (x y:V) (v u:Value) (Q:VK),Inv X pins σ H s->RelV x v->RelV y u->r x y H Q->
  wpAny (model X.prog X.w) X.A (f v u) (EP X pins σ Q) X.xe s
def UnR (X:Cx)(f:Value->Sem Value)(r:V->Hp->VK->Prop):Prop:=
 ∀ (pins:Pn0) (s:Shared) (σ:St) (H:Hp) (x:V) (v:Value) (Q:VK),Inv X pins σ H s->RelV x v->r x H Q->
  wpAny (model X.prog X.w) X.A (f v) (EP X pins σ Q) X.xe s
def cJ (X:Cx)(f:Value)(r:List V->Hp->VK->Prop):Prop:=
 ∀ (pins:Pn0) (s:Shared) (σ:St) (H:Hp) (xs:List V) (us:Lv0) (Q:VK),Inv X pins σ H s->Vals xs us->r xs H Q->
  wpAny (model X.prog X.w) X.A (call f us) (EP X pins σ Q) X.xe s
def tOp (r:R2)(ta a:TE):TE:=λσ H Q=>ta σ H λx H1=>a σ H1 λy H2=>r x y H2 Q
def tUn (r:V->Hp->VK->Prop)(ta:TE):TE:=λσ H Q=>ta σ H λx H1=>r x H1 Q
def rI (C:Int->Int->Prop)(g:Int->Int->V):R2:=λx y H Q=>∃ i j,x=.int i/\y=.int j/\C i j/\Q (g i j) H
def rI0 (g:Int->Int->V):R2:=λx y H Q=>∃ i j,x=.int i/\y=.int j/\Q (g i j) H
noncomputable def rU (g:Int->V):V->Hp->VK->Prop:=λx H Q=>∃ i,x=.int i/\Q (g i) H
section
variable {b c:Expr}{tb tc:TE}
theorem Rn(o:PE X a ta)(n:PE X b tb){c:Pn0}{s:Shared}{R:V->V->Hp->Prop}(I:Inv X c σ H s)(h:ta σ H λx H1=>tb σ H1 λy H2=>R x y H2){Q:VS0}{f:Value->Value->Sem Value}(m:∀ v u s2 x y H2,Inv X c σ H2 s2->RelV x v->RelV y u->R x y H2->wpAny (model X.prog X.w) X.A (f v u) Q X.xe s2) :
  wpAny (model X.prog X.w) X.A (eval a X.env) (λv e=>wpAny (model X.prog X.w) X.A (eval b X.env) (λu d=>wpAny (model X.prog X.w) X.A (f v u) Q X.xe d) X.xe e) X.xe s:=by
 refine thn (o c s σ H _ I h) λv g Z=>?_;let#[x,H1,q,j,l]:=Z;refine thn (n c g σ H1 _ q l) λu s2 Z=>?_;let#[y,H2,p,i,k]:=Z;exact m v u s2 x y H2 p j i k
theorem rW{d:Operator}{r:R2}(j:OpR X (XA d) r)(l:PE X a ta)(k:PE X b tb):PE X (.BinOp a d b pos) (tOp r ta tb):=by
 intro c s e H Q I h;exact wpAny_BinOp (Rn l k I h λv u f x y n m i g q=>j c f e n x y v u Q m i g q)
theorem S_{d:UnaryOp}{r:V->Hp->VK->Prop}(i:UnR X (unaryOp d) r)(j:PE X a ta):PE X (.UnaryOp d a pos) (tUn r ta):=by
 intro b s c H Q I h;exact UnaryOp_ (thn (j b s c H _ I h) λv e ⟨x,l,k,f,g⟩=>i b e c l x v Q k f g)
theorem opI{f:Value->Value->Sem Value}{C:Int->Int->Prop}(rule:∀ (i j:Int) (t u:Tok) (s:Shared) (Q:VS0) (E:VS0),C i j->Q (.int (g i j) s.toks) { s with toks:=s.toks + 1 }->wpAny (model X.prog X.w) X.A (f (.int i t) (.int j u)) Q E s) :
  OpR X f (rI C λi j=>.int (g i j)):=by
 intro a s k H x y v u Q I d c h;let#[i,j,rfl,rfl,e,q]:=h;let#[t,rfl]:=d;let#[b,rfl]:=c;exact rule i j t b s _ _ e #[.int (g i j),H,I.tok _,#[_,rfl],q]
theorem Cp{f:Value->Value->Sem Value}(rule:∀ (i j:Int) (t u:Tok) (s:Shared) (Q:VS0) (E:VS0),Q (.int (g i j) s.toks) { s with toks:=s.toks + 1 }->wpAny (model X.prog X.w) X.A (f (.int i t) (.int j u)) Q E s) :
  OpR X f (rI0 λi j=>.int (g i j)):=by
 intro a s e H x y v u Q I d c h;let#[i,j,rfl,rfl,q]:=h;let#[t,rfl]:=d;let#[b,rfl]:=c;exact rule i j t b s _ _ #[.int (g i j),H,I.tok _,#[_,rfl],q]
theorem Pz{f:Value->Value->Sem Value}{g:Int->Int->Bool}(rule:∀ (i j:Int) (t u:Tok) (s:Shared) (Q:VS0) (E:VS0),Q (.bool (g i j)) s->wpAny (model X.prog X.w) X.A (f (.int i t) (.int j u)) Q E s) :
  OpR X f (rI0 λi j=>.bl (g i j)):=by
 intro a s e H x y v u Q I d c h;let#[i,j,rfl,rfl,q]:=h;let#[t,rfl]:=d;let#[b,rfl]:=c;exact rule i j t b s _ _ #[.bl (g i j),H,I,rfl,q]
def RC (i j:Int):Prop:=0 < j/\j < 1073741824
def BQ (i j:Int):Prop:=0<=j/\j<=1000000/\i.natAbs < 2 ^ 64
def Jw (i j:Int):Prop:=(-(2 ^ 64) < i/\i < 2 ^ 64)\/(-(2 ^ 64) < j/\j < 2 ^ 64)
theorem Jw.ok{i j:Int}(h:Jw i j):IntMulOk i j:=by
 rcases h with ⟨b,a⟩ | ⟨b,a⟩
 .exact .of_left (intBits_le_64 b a)
 .exact .of_right (intBits_le_64 b a)
theorem Py:OpR X (XA .Add) (rI0 λi j=>.int (i + j)):=Cp λ_ _ _ _ _ _ _ q=>add_int q
theorem Pl:OpR X (XA .Sub) (rI0 λi j=>.int (i - j)):=Cp λ_ _ _ _ _ _ _ q=>sub_int q
theorem Pq:OpR X (XA .Mult) (rI Jw λi j=>.int (i * j)):=opI λ_ _ _ _ _ _ _ a q=>mul_int q a.ok
theorem K7:OpR X (XA .FloorDiv) (rI RC λi j=>.int (i / j)):=opI λi j _ _ _ _ _ a q=>by
 have c:(0:Int) < j:=a.1;have b:j < 1073741824:=a.2;exact floordiv_int (by lia) (by rw[Int.fdiv_eq_ediv_of_nonneg i (by lia)];exact q) (.inl (PyProof.noPylong_small (by lia)))
theorem Pr:OpR X (XA .Mod) (rI (λ_ j=>0 < j) λi j=>.int (i % j)):=opI λi j _ _ _ _ _ a q=>by
 have b:(0:Int) < j:=a;exact mod_int' (by lia) (by rw[Int.fmod_eq_emod_of_nonneg i (by lia)];exact q)
theorem Hx:OpR X (XA .Pow) (rI BQ λi j=>.int (i ^ j.toNat)):=opI λ_ _ _ _ _ _ _ a q=>pow_int_small a.1 a.2.1 a.2.2 q
theorem Pm:OpR X (XA .LShift) (rI BQ λi j=>.int (i * 2 ^ j.toNat)):=opI λ_ _ _ _ _ _ _ a q=>lshift_int_small a.1 a.2.1 a.2.2 q
theorem unI{f:Value->Sem Value}{g:Int->Int}(rule:∀ (i:Int) (t:Tok) (s:Shared) (Q:VS0) (E:VS0),Q (.int (g i) s.toks) { s with toks:=s.toks + 1 }->wpAny (model X.prog X.w) X.A (f (.int i t)) Q E s) :
  UnR X f (rU λi=>.int (g i)):=by
 intro a s c H x v Q I b h;let#[i,rfl,q]:=h;let#[t,rfl]:=b;exact rule i t s _ _ #[.int (g i),H,I.tok _,#[_,rfl],q]
theorem N8:UnR X (unaryOp .USub) (rU λi=>.int (-i)):=unI λ_ _ _ _ _ q=>neg_int q
end
noncomputable def Sv:V->V->Bool
 | .non,.non=>true | .non,.int _=>true | .int _,.non=>true | .non,.bl _=>true | .bl _,.non=>true | .non,.str _=>true | .str _,.non=>true
 | .int _,.int _=>true | .bl _,.bl _=>true | .str _,.str _=>true | .byt _,.byt _=>true
 | .int _,.str _=>true | .str _,.int _=>true | .bl _,.str _=>true | .str _,.bl _=>true
 | _,_=>false
def rEq:R2:=λx y H Q=>Sv x y=true/\Q (.bl (decide (x=y))) H
theorem L7{i j:Int}:decide (V.int i=V.int j)=(i == j):=by
 rw[TM];simp
theorem Ra{i j:Bool}:decide (V.bl i=V.bl j)=(i == j):=by
 rw[TM];simp
theorem L6{i j:Str}:decide (V.str i=V.str j)=(i == j):=by
 rw[TM];simp
theorem L8{i j:Array UInt8}:decide (V.byt i=V.byt j)=(i.toList == j.toList):=by
 rw[TM];cases i;cases j;simp
section
variable {b c:Expr}{tb tc:TE}
theorem c6{a:Pn0}{s:Shared}{Q:VK}{k b:Bool}(I:Inv X a σ H s)(q:Q (.bl k) H)(e:k=b):EP X a σ Q (.bool b) s:=by
 subst e;exact#[.bl k,H,I,rfl,q]
theorem Tw:OpR X (Fk .Eq) rEq:=by
 intro e s f H x y v u Q I d a h;let#[c,q]:=h;cases x with
 | non=>
  cases d;cases y with
  | non=>cases a;exact PySem.EqNone.eq_none_none (c6 I q (by simp))
  | bl j=>cases a;exact PySem.EqNone.eq_none_bool (c6 I q (by simp))
  | int j=>let#[b,rfl]:=a;exact PySem.EqNone.eq_none_int (c6 I q (by simp))
  | str j=>let#[b,rfl]:=a;exact PySem.EqNone.eq_none_str (c6 I q (by simp))
  | _=>exact absurd (show false=true from c) ic
 | bl i=>
  cases d;cases y with
  | non=>cases a;exact PySem.EqNone.eq_bool_none (c6 I q (by simp))
  | bl j=>cases a;exact eq_bool (c6 I q Ra)
  | str j=>let#[b,rfl]:=a;exact PySem.EqMixed.eq_bool_str (c6 I q (by simp))
  | _=>exact absurd (show false=true from c) ic
 | int i=>
  let#[t,rfl]:=d;cases y with
  | non=>cases a;exact PySem.EqNone.eq_int_none (c6 I q (by simp))
  | int j=>let#[b,rfl]:=a;exact eq_int (c6 I q L7)
  | str j=>let#[b,rfl]:=a;exact PySem.EqMixed.eq_int_str (c6 I q (by simp))
  | _=>exact absurd (show false=true from c) ic
 | str i=>
  let#[t,rfl]:=d;cases y with
  | non=>cases a;exact PySem.EqNone.eq_str_none (c6 I q (by simp))
  | bl j=>cases a;exact PySem.EqMixed.eq_str_bool (c6 I q (by simp))
  | int j=>let#[b,rfl]:=a;exact PySem.EqMixed.eq_str_int (c6 I q (by simp))
  | str j=>let#[b,rfl]:=a;exact eq_str (c6 I q L6)
  | _=>exact absurd (show false=true from c) ic
 | byt i=>
  let#[t,rfl]:=d;cases y with
  | byt j=>let#[b,rfl]:=a;exact PySem.W.eq_bytes (c6 I q L8)
  | _=>exact absurd (show false=true from c) ic
 | _=>cases y <;> exact absurd (show false=true from c) ic
theorem Tt:OpR X (Fk .Lt) (rI0 λi j=>.bl (decide (i < j))):=Pz λ_ _ _ _ _ _ _ q=>lt_int q
theorem Tu:OpR X (Fk .LtE) (rI0 λi j=>.bl (decide (i<=j))):=Pz λ_ _ _ _ _ _ _ q=>le_int q
theorem Tv:OpR X (Fk .Gt) (rI0 λi j=>.bl (decide (j < i))):=Pz λ_ _ _ _ _ _ _ q=>gt_int q
theorem E4:OpR X (Fk .In) (λx y H Q=>∃ i j,x=.str i/\y=.str j/\Q (.bl (!(jY j i 0 j.length 1).isEmpty)) H):=by
 intro a s d H x y v u Q I c b h;let#[i,j,rfl,rfl,q]:=h;let#[t,rfl]:=c;let#[e,rfl]:=b;exact in_str (c6 I q rfl)
theorem Pu:OpR X (Fk .Is) (λx y H Q=>y=.non/\Q (.bl (decide (x=.non))) H):=by
 intro b s d H x y v u Q I a c h;let#[rfl,q]:=h;cases c;refine is_none_gen (c6 I q ?_);cases x <;> first
  | (cases a;rfl)
  | (let#[t,rfl]:=a;rfl)
theorem K6:OpR X (Fk .IsNot) (λx y H Q=>y=.non/\Q (.bl (!decide (x=.non))) H):=by
 intro b s d H x y v u Q I a c h;let#[rfl,q]:=h;cases c;refine isnot_none_gen (c6 I q ?_);cases x <;> first
  | (cases a;rfl)
  | (let#[t,rfl]:=a;rfl)
theorem zM:OpR X (Fk .NotIn) (λx y H Q=>∃ i j,x=.str i/\y=.str j/\Q (.bl (!(!(jY j i 0 j.length 1).isEmpty))) H):=by
 intro a s d H x y v u Q I c b h;let#[i,j,rfl,rfl,q]:=h;let#[t,rfl]:=c;let#[e,rfl]:=b;exact notIn_str (c6 I q rfl)
theorem OpR.or{f:Value->Value->Sem Value}{r e:R2}(h:OpR X f r)(h':OpR X f e):OpR X f (λx y H Q=>r x y H Q\/e x y H Q):=by
 intro a s b H x y v u Q I d c q;rcases q with q | q
 .exact h a s b H x y v u Q I d c q
 .exact h' a s b H x y v u Q I d c q
theorem aL(b:Expr)(h:autoParam (op≠.In) wP)(a:autoParam (op≠.NotIn) wP):Yd op b=false:=by
 have d:(op == CmpOp.In)=false:=by cases op <;> first | rfl | exact absurd rfl h
 have c:(op == CmpOp.NotIn)=false:=by cases op <;> first | rfl | exact absurd rfl a
 cases b <;> simp [Yd,d,c]
theorem KQ{r:R2}(i:OpR X (Fk op) r)(l:PE X a ta)(k:PE X b tb)(j:Yd op b=false):PE X (.Compare a [op] [b] pos) (tOp r ta tb):=by
 intro c s d H Q I h;exact wpAny_Compare1 (Rn l k I h λv u e x y n m g f q=>i c e d n x y v u Q m g f q) j
def Dr (t:TE):TT:=λσ H Q=>t σ H λx H'=>∃ k,x=.bl k/\Q k H'
theorem Ko{r:R2}(q:OpR X (Fk op) r)(A:PE X a ta)(w:PE X b tb)(t:Yd op b=false):PT X (.Compare a [op] [b] pos) (Dr (tOp r ta tb)):=by
 intro d s f H Q I h;refine wpAny_isTrue_Compare1 (thn (A d s f H _ I h) λv i ⟨x,G,D,m,p⟩=>thn (w d i f G _ D p) λu g ⟨y,F,C,l,o⟩=>
  thn (q d g f F x y v u _ C m l o) λc J ⟨z,E,B,j,k,e,n⟩=>?_) t
 subst e;cases j;exact KB #[E,B,n]
def vY (r e:R2)(ta d c:TE):TE:=λσ H Q=>ta σ H λx H1=>d σ H1 λy H2=>r x y H2 λz a=>∃ k,z=.bl k/\
 (if k=true then c σ a λb f=>e y b f Q else Q (.bl false) a)
theorem He{g:CmpOp}{r m:R2}(L:OpR X (Fk op) r)(j:OpR X (Fk g) m)(P:PE X a ta)(O:PE X b tb)(N:PE X c tc)(M:autoParam (am2 [op,g] [b,c]=false) wq1):PE X (.Compare a [op,g] [b,c] pos) (vY r m ta tb tc):=by
 intro f s i H Q I h;refine Compare_chain (thn (P f s i H _ I h) λv C ⟨x,W,T,F,K⟩=>chain_link (thn (O f C i W _ T K) λu B ⟨y,V,S,l,J⟩=>
  thn (L f B i V x y v u _ S F l J) λd A ⟨z,p,o,E,k,e,n⟩=>?_)) M
 subst e;cases E;refine KB ?_;cases k with
 | false=>exact ite_ff #[.bl false,p,o,rfl,n]
 | true=>exact ite_tt (chain_last (thn (N f A i p _ o n) λt w ⟨q,U,R,D,G⟩=>j f w i U y q u t Q R l D G))
theorem GW{g:CmpOp}{r m:R2}(O:OpR X (Fk op) r)(j:OpR X (Fk g) m)(T:PE X a ta)(S:PE X b tb)(R:PE X c tc)(P:autoParam (am2 [op,g] [b,c]=false) wq1):PT X (.Compare a [op,g] [b,c] pos) (Dr (vY r m ta tb tc)):=by
 intro f s i H Q I h;refine isTrue_chain (thn (T f s i H _ I h) λv C ⟨x,H1,I1,G,M⟩=>test_link (thn (S f C i H1 _ I1 M) λu B ⟨y,H2,I2,l,L⟩=>
  thn (O f B i H2 x y v u _ I2 G l L) λd A ⟨z,p,o,F,k,e,n⟩=>?_)) P
 subst e;cases F;refine KB ?_;cases k with
 | false=>
  let#[k',V,N]:=n;cases V;exact ite_ff #[p,o,N]
 | true=>
  refine ite_tt (test_last (thn (R f A i p _ o n) λt w ⟨q,H4,Y,E,K⟩=>thn (j f w i H4 y q u t _ Y l E K) λd' s5 Z=>?_));let#[z2,H5,W,D,k2,U,J]:=Z;subst U;cases D;exact KB #[H5,W,J]
theorem uj:(sizeLine:Nat) < 2 ^ 63:=by rw[ff];decide
theorem Co:OpR X (XA .Add) (λx y H Q=>∃ i j,x=.str i/\y=.str j/\i.length + j.length<=sizeLine/\Q (.str (i++j)) H):=by
 intro a s f H x y v u Q I d c h;let#[i,j,rfl,rfl,e,q]:=h;let#[t,rfl]:=d;let#[b,rfl]:=c;exact add_str (λb g=>#[.str (i++j),H,I.tok _,#[_,rfl],q]) e
theorem vals1{x:V}(r:Vals [x] us):∃ u,us=[u]/\RelV x u:=by
 cases r with
 | cons b a=>cases a;exact#[_,rfl,b]
theorem vals2{x:V}(r:Vals [x,y] us):∃ u w',us=[u,w']/\RelV x u/\RelV y w':=by
 cases r with
 | cons d c=>
  cases c with
  | cons b a=>cases a;exact#[_,_,rfl,d,b]
theorem Fy(c:X.calm=true):cJ X (.builtin "max") (λxs H Q=>∃ i j,xs=[.int i,.int j]/\Q (.int (if j > i then j else i)) H):=by
 intro b s d H xs f Q I r h;let#[i,j,rfl,q]:=h;let#[u,e,rfl,#[t,rfl],#[l,rfl]]:=vals2 r;refine max_two_ints (I.ok.hd c) λm g k=>#[_,H,I.kept k,?_,q];by_cases a:j > i
 .rw[if_pos a,if_pos a];exact#[_,rfl]
 .rw[if_neg a,if_neg a];exact#[_,rfl]
theorem Fx(c:X.calm=true):cJ X (.builtin "min") (λxs H Q=>∃ i j,xs=[.int i,.int j]/\Q (.int (if j < i then j else i)) H):=by
 intro b s d H xs f Q I r h;let#[i,j,rfl,q]:=h;let#[u,e,rfl,#[t,rfl],#[l,rfl]]:=vals2 r;refine min_two_ints (I.ok.hd c) λm g k=>#[_,H,I.kept k,?_,q];by_cases a:j < i
 .rw[if_pos a,if_pos a];exact#[_,rfl]
 .rw[if_neg a,if_neg a];exact#[_,rfl]
theorem FA:cJ X (.type "int") (λxs H Q=>(∃ i,xs=[.int i]/\Q (.int i) H)\/∃ k,xs=[.bl k]/\Q (.int (if k then 1 else 0)) H):=by
 intro a s c H xs d Q I r h;rcases h with ⟨i,rfl,q⟩ | ⟨k,rfl,q⟩
 .let#[u,rfl,t,rfl]:=vals1 r;exact call_int_int #[.int i,H,I,#[_,rfl],q]
 .let#[u,rfl,b]:=vals1 r;cases b;exact call_int_bool #[.int (if k then 1 else 0),H,I.tok _,#[_,rfl],q]
theorem Ae:cJ X (.type "str") (λxs H Q=>∃ i,xs=[.int i]/\i.natAbs.log2 < 1920/\Q (.str (toString i)) H):=by
 intro a s c H xs d Q I r h;let#[i,rfl,b,q]:=h;let#[u,rfl,t,rfl]:=vals1 r;exact PySem.P.str_of_int b #[.str _,H,I.tok _,#[_,rfl],q]
theorem IW:cJ X (.builtin "ord") (λxs H Q=>∃ x,xs=[.str x]/\x.length=1/\Q (.int (x.cps.getD 0 0:Nat)) H):=by
 intro a s c H xs d Q I r h;let#[x,rfl,b,q]:=h;let#[u,rfl,t,rfl]:=vals1 r;exact ord_of_one b #[.int _,H,I.tok _,#[_,rfl],q]
end
structure Dk (h:Heap) (x dx C:Addr) (mA:SV0):Prop where
 obj:h.get? x=some (ri C dx)
 ns:h.Ns1 dx mA
 ne:dx≠x
theorem pv{h:Heap}{c:SV0}(n:h.Ns1 dx c):∃ od,h.get? dx=some od/\∀ name,Zu name od=some (c name):=by
 let#[o,d,k,g,hd,hk,_,i]:=n;refine#[o,g,λname=>?_];have e:=i name;unfold nsFind findBy at e;rw[<- Array.find?_toList] at e;unfold Zu;rw[hd];dsimp only;split
 .rename_i y q;rw[q] at e;exact congrArg some e
 .rename_i q;rw[q] at e;have a:d.toList.any (·.refKey)=false:=by
   rw[List.any_eq_false];intro y f;let#[z,t,b]:=hk y (Array.mem_toList_iff.mp f);simp [DictEntry.refKey,b]
  have j:¬ d.toList.any (·.refKey)=true:=by rw[a];exact ic
  rw[if_neg j];exact congrArg some e
theorem Dk.look{h:Heap}{x:Addr}{a:SV0}(I:Dk h x dx C a):∃ od,Zv h x (ri C dx) C (some od)/\∀ name,Zu name od=some (a name):=
 let ⟨od,b,c⟩:=pv I.ns
 #[od,#[I.obj,rfl,rfl,b],c]
section
variable {E:VS0}{s:Shared}{x:Addr}{mA:SV0}{v:Value}
theorem get_map{a:Bool}{Q:VS0}(X:K.In s.heap)(I:Dk s.heap x dx C mA)(f:tq K C name=true)(e:ov K C=true)(g:dV K (.ref C) name=some none)(c:mA name=some v)(b:ah1 v=true)(h:Q v { s with toks:=s.toks + 1 }) :
  wpAny (model prog w) A (getAttr (.ref x) name a) Q E s:=by
 let#[i,J,d]:=I.look;exact PySem.W.get_value X J (Zj f).1 (ao0 e g rfl (by rw[d,c])) b h
theorem Im{pl:Sem Bool}(X:K.In s.heap)(I:Dk s.heap x dx C mA)(a:tq K C name=true)(g:dV K (.ref C) name=some (some (.ref f)))(d:YC K (.ref f)=true)(c:mA name=none)(h:Q (.ref f,[.ref x]) s) :
  wpAny (model prog w) A (XJ (.ref x) name pl) Q E s:=by
 let#[b,J,e]:=I.look;exact PySem.W.method_fn X J (Zj a).1 (Zj a).2 g (beq_iff_eq.mp d) (by show (Zu name b).map (·.isSome)=some false;rw[e,c];rfl) h
theorem JU{j:Ls0}{Q:Unit->Shared->Prop}(X:K.In s.heap)(I:Dk s.heap x dx C mA)(n:dV K (.ref C) "__setattr__"=some (some (.builtin "object.__setattr__")))(o:xl K C=true)(m:Do K C name=some none)(p:ov K C=true)(l:XI mA j)(hsz:j.length<=sizeLine)(h:∀ h',Dk h' x dx C (λy=>if y=name then some v else mA y)->Yz dx s.heap h'->Q () { s with heap:=h',toks:=s.toks + 2 }) :
  wpAny (model prog w) A (aj4 (.ref x) name v) Q E s:=by
 let#[z,J,B]:=I.look;refine ZS X J n (PySem.W.osa_open (s:={ s with toks:=s.toks + 1 }) (r:=none) X J o m λb=>?_);let#[D,q,g]:=Ye p;have k:s.heap.get? x=some #[.ref C,some dx,.plain,#[]]:=I.obj;refine au (bh (au (au (Zw k (au (Zx (s:={ s with toks:=s.toks + 1 }) (XS X q) ?_))))));rw[g];refine bh (a:=some dx) (au (bh (au ?_)));refine aj5 (s:={ s with toks:=s.toks + 1 }) I.ns λh' d c=>?_;let#[oD,t,u,e,f,i]:=d.count (ZT name v l);refine au (aa6 e (by rw[f];exact aa7 (eC i (by rw[ed];lia))) ?_);exact bh (h _ #[(c.2 _ (ky I.ne)).trans I.obj,d,I.ne] c)
theorem Bh{vs:Lv0}(X:K.In s.heap)(b:uq K C=true)(c:dV K (.ref C) "__init__"=some (some (.ref f)))(e:KF K (.ref f)=some (.type "function"))(h:FU (model prog w) (A.under (.builtin "type.__call__" #[.ref C::vs,kw])) (.call (.ref f) #[.ref (s.heap.objs.size + 1)::vs,kw]) (ac7 (s.heap.objs.size + 1) R)
   { s with heap:=(s.heap.push hW).push (ri C s.heap.objs.size) }) :
  FU (model prog w) A (.call (.ref C) #[vs,kw]) R s:=by
 let#[i,g,d,t,os]:=s;exact aj6 (aa8 X b) (Xs X c) (λa=>PySem.W.bind_fn X a e) (.inl rfl) h
theorem Fg(X:K.In s.heap)(b:uq K C=true)(c:dV K (.ref C) "__init__"=some (some (.builtin "object.__init__")))(e:∀ a,nr (model prog w) s.heap (bindSpecial (.builtin "object.__init__") a) (.builtin "object.__init__",[a]))(h:FU (model prog w) (A.under (.builtin "type.__call__" #[[.ref C],[]])) (.call (.builtin "object.__init__") #[[.ref (s.heap.objs.size + 1)],[]]) (ac7 (s.heap.objs.size + 1) R)
   { s with heap:=(s.heap.push hW).push (ri C s.heap.objs.size) }) :
  FU (model prog w) A (.call (.ref C) #[[],[]]) R s:=by
 let#[f,g,d,t,os]:=s;exact aj6 (aa8 X b) (Xs X c) e (.inr #[rfl,rfl]) h
end
noncomputable def j0 (f:Str)(v:V):List (Str×V)->List (Str×V)
 | []=>[(f,v)]
 | (g,x)::r=>if g=f then (g,v)::r else (g,x)::j0 f v r
theorem oB (f g:Str)(v:V):∀ fs:List (Str×V),(j0 f v fs).lookup g=if g=f then some v else fs.lookup g
 | []=>by
  show SF g [(f,v)]=_;by_cases h:g=f
  .have a:(g == f)=true:=beq_iff_eq.mpr h;simp only[SF,a,if_pos h]
  .have a:(g == f)=false:=beq_eq_false_iff_ne.mpr h;simp only[SF,a,if_neg h]
 | (k,x)::r=>by
  have b:=oB f g v r;rw[show j0 f v ((k,x)::r)=(if k=f then (k,v)::r else (k,x)::j0 f v r) from rfl];by_cases hk:k=f
  .rw[if_pos hk];by_cases h:g=k
   .have a:(g == k)=true:=beq_iff_eq.mpr h;simp only[SF,a,if_pos (h.trans hk)]
   .have a:(g == k)=false:=beq_eq_false_iff_ne.mpr h;simp only[SF,a,if_neg (λe:g=f=>h (e.trans hk.symm))]
  .rw[if_neg hk];by_cases h:g=k
   .have a:(g == k)=true:=beq_iff_eq.mpr h;simp only[SF,a,if_neg (λe:g=f=>hk (h.symm.trans e))]
   .have a:(g == k)=false:=beq_eq_false_iff_ne.mpr h;simp only[SF,a];exact b
theorem lP (f:Str)(v:V):∀ fs:List (Str×V),f∈(j0 f v fs).map (·.1)/\∀ g,g∈fs.map (·.1)->g∈(j0 f v fs).map (·.1)
 | []=>#[by simp [j0],λg h=>by simp at h]
 | (k,x)::r=>by
  let#[a,i2]:=lP f v r;rw[show j0 f v ((k,x)::r)=(if k=f then (k,v)::r else (k,x)::j0 f v r) from rfl];by_cases hk:k=f
  .rw[if_pos hk];subst hk;exact#[by simp,λg h=>by simpa using h]
  .rw[if_neg hk];refine#[?_,λg h=>?_]
   .rw[gr];exact cb _ a
   .rw[gr] at h ⊢;rcases dk.mp h with e | e
    .exact dk.mpr (.inl e)
    .exact cb _ (i2 g e)
theorem uP (f:Str)(v:V):∀ fs:List (Str×V),(j0 f v fs).length<=fs.length + 1
 | []=>by simp [j0]
 | (k,x)::r=>by
  have a:=uP f v r;rw[show j0 f v ((k,x)::r)=(if k=f then (k,v)::r else (k,x)::j0 f v r) from rfl];by_cases hk:k=f
  .rw[if_pos hk,ed,ed];lia
  .rw[if_neg hk,ed,ed];lia
theorem pY.some_of(r:pY (some v) o):∃ u,o=some u/\RelV v u:=by
 cases o with
 | none=>exact(show False from r).elim
 | some u=>exact#[u,rfl,r]
theorem pY.none_of(r:pY none o):o=none:=by
 cases o with
 | none=>rfl
 | some u=>exact(show False from r).elim
theorem yC(r:RelV v u):ah1 u=true:=by
 cases v with
 | non=>cases (show u=pF from r);rfl
 | bl b=>cases (show u=ac4 b from r);rfl
 | int i=>let#[t,e]:=(show ∃ t,u=aa4 i t from r);cases e;rfl
 | str x=>let#[t,e]:=(show ∃ t,u=XH x t from r);cases e;rfl
 | byt b=>let#[t,e]:=(show ∃ t,u=Value.bytes b t from r);cases e;rfl
 | flt b=>let#[t,e]:=(show ∃ t,u=an4 b t from r);cases e;rfl
 | ref a=>cases (show u=fS a from r);rfl
 | ty n=>cases (show u=Xi n from r);rfl
section
variable {H':Hp}{h:Heap}{a:Addr}{fs fs':List (Str×V)}
theorem vN(b:HOk P w H h)(e:H a=some (.ins C dx fs)):∃ mA,Dk h a dx C mA/\(∀ f,pY (fs.lookup f) (mA f))/\XI mA (fs.map (·.1))/\fs.length<=1000/\H dx=some (.own a):=by
 let#[d,z,g,c,mA,n,r,q]:=(show cQ P w H h a (.ins C dx fs) from b a _ e);exact#[mA,#[c,n,g],r,q,z,d]
end
structure Cls (K:Fg0) (C:Addr):Prop where
 pg:tq K C mu=true
 hd:ov K C=true
 po:xl K C=true
 sa:dV K (.ref C) "__setattr__"=some (some (.builtin "object.__setattr__"))
theorem Cls.get(c:Cls K C)(f:Str):tq K C f=true:=c.pg
def bK (K:Fg0)(C:Addr)(f:Str):Prop:=dV K (.ref C) f=some none
theorem bK.Se{f:Str}(n:bK K C f):Do K C f=some none:=by
 unfold Do;rw[show dV K (.ref C) f=some none from n]
 rfl
structure Meth (K:Fg0) (C:Addr) (m:Str) (f:Addr):Prop where
 at_:dV K (.ref C) m=some (some (.ref f))
 fn:YC K (.ref f)=true
 kp:kv K (.ref f)=true
section
variable {pins:Pn0}{s:Shared}{a:Addr}{fs:List (Str×V)}{f:Str}{E:VS0}
theorem CQ{b:Bool}{Q:VS0}(I:Inv X pins σ H s)(e:H a=some (.ins C dx fs))(c:Cls X.K C)(n:bK X.K C f)(l:fs.lookup f=some v)(h:∀ u s',Inv X pins σ H s'->RelV v u->Q u s'):wpAny (model X.prog X.w) A (getAttr (.ref a) f b) Q E s:=by
 let#[g,O,r,_,_,_]:=vN I.hok e;let#[u,i,d]:=pY.some_of (v:=v) (o:=g f) (by rw[<- l];exact r f);exact get_map I.kIn O (c.get f) c.hd n i (yC d) (h u _ (I.tok _) d)
theorem wU{g:Addr}{pl:Sem Bool}(I:Inv X pins σ H s)(e:H a=some (.ins C dx fs))(c:Cls X.K C)(k:Meth X.K C m g)(l:fs.lookup m=none)(h:Q (.ref g,[.ref a]) s):wpAny (model X.prog X.w) A (XJ (.ref a) m pl) Q E s:=by
 let#[b,O,r,_,_,_]:=vN I.hok e;have d:b m=none:=pY.none_of (by rw[<- l];exact r m);exact Im I.kIn O (c.get m) k.at_ k.fn d h
theorem Ca{Q:Unit->Shared->Prop}(I:Inv X pins σ H s)(e:H a=some (.ins C dx fs))(c:Cls X.K C)(n:bK X.K C f)(D:fs.length < 1000)(m:RelV y u)(h:∀ s',Inv X pins σ (upd H a (.ins C dx (j0 f y fs))) s'->Q () s'):wpAny (model X.prog X.w) A (aj4 (.ref a) f u) Q E s:=by
 let#[j,O,r,i,_,k]:=vN I.hok e;have p:(fs.map (·.1)).length<=sizeLine:=by rw[lM0,ff];lia
 refine JU I.kIn O c.sa c.po n.Se c.hd i p λw d l=>h _ ?_;have hd:∃ o,w.get? dx=some o:=let ⟨o,_,_,B,_⟩:=d.ns;#[o,B]
 refine I.write (x:=a) (e:=dx) (by rw[e];exact TQ) (.inr k) (λb q v z=>(l.2 b v).trans z) hd ?_;refine#[by rw[ao O.ne];exact k,?_,O.ne,d.obj,_,d.ns,λg=>?_,λg t=>?_]
 .have:=uP f y fs;lia
 .show pY ((j0 f y fs).lookup g) (if g=f then some u else j g);rw[oB];by_cases q:g=f
  .rw[if_pos q,if_pos q];exact m
  .rw[if_neg q,if_neg q];exact r g
 .by_cases q:g=f
  .rw[q];exact(lP f y fs).1
  .refine(lP f y fs).2 g (i g λz=>t ?_);show (if g=f then some u else j g)=none;rw[if_neg q];exact z
theorem Inv.made(I:Inv X pins σ H s):Inv X pins σ (upd (upd H s.heap.objs.size (.own (s.heap.objs.size + 1))) (s.heap.objs.size + 1) (.ins C s.heap.objs.size []))
  { s with heap:=(s.heap.push hW).push (ri C s.heap.objs.size) }:=by
 have d:(s.heap.push hW).get? s.heap.objs.size=some hW:=er s.heap rfl;have i:((s.heap.push hW).push (ri C s.heap.objs.size)).get? (s.heap.objs.size + 1)=some (ri C s.heap.objs.size):=by
  have:=er (s.heap.push hW) (o:=ri C s.heap.objs.size) rfl
  rwa [yn] at this
 have h:(s.heap.push hW).Ns s.heap.objs.size (λ_=>none):=#[hW,#[],_,d,rfl,(λe g=>absurd g (by simp)),λ_=>rfl];have j:=I.laid (a:=s.heap.objs.size) (o:=.own (s.heap.objs.size + 1)) (h':=s.heap.push hW) (t':=s.toks) (λb u q=>av _ q) (cc _) #[_,d];refine j.laid (a:=s.heap.objs.size + 1) (o:=.ins C s.heap.objs.size []) (t':=s.toks) (λb u q=>av _ q) (Zn (yn _ _)) ?_;have c:s.heap.objs.size≠s.heap.objs.size + 1:=jz (PL _);refine#[by rw[ao c,aB],rx _,c,i,λ_=>none,(aj7 h).at λo q=>av _ q,λ_=>TQ,λy f=>absurd rfl f]
theorem Ej{a:Env}{f:Str}{s:Shared}{Q:VS0}(c:vr e f a (eval e a)=eval e a)(h:wpAny (model prog w) A (eval e a) (λo b=>wpAny (model prog w) A (getAttr o f true) Q E b) E s):wpAny (model prog w) A (eval (.Attribute e f pos) a) Q E s:=
 Attribute_any_ h (by rw[arm_eval_Attribute,c])
end
def Sk (K:Fg0)(ta:TE)(f:Str):TE:=λσ H Q=>ta σ H λx H1=>∃ a C dx fs v,x=.ref a/\H1 a=some (.ins C dx fs)/\Cls K C/\bK K C f/\fs.lookup f=some v/\Q v H1
def GA (K:Fg0)(ta b:TE)(f:Str):TS:=λD σ H=>b σ H λy H1=>ta σ H1 λx H2=>∃ a C dx fs,x=.ref a/\H2 a=some (.ins C dx fs)/\Cls K C/\bK K C f/\fs.length < 1000/\
 D.nx σ (upd H2 a (.ins C dx (j0 f y fs)))
section
variable {o value:Expr}{f:Str}{pos' tpos:Pos}{tv:TE}
theorem Pc(j:PE X e ta)(k:vr e f X.env (eval e X.env)=eval e X.env):PE X (.Attribute e f pos) (Sk X.K ta f):=by
 intro b s d H Q I h;refine Ej k (thn (j b s d H _ I h) λu z Z=>?_);let#[x,t,r,g,a,C,A,fs,v,m,o,c,n,l,q]:=Z;subst m;obtain rfl:u=fS a:=g;exact CQ r o c n l λw y p i=>#[v,t,p,i,q]
theorem G2(r:PE X o ta)(m:PE X value tv)(p:Xb value (some (.Attribute o f pos')) pos.line X.env=pure false):PS X (.Assign [.Attribute o f pos'] value pos) (GA X.K ta tv f):=by
 intro b s d H D I h;refine YI (thn (m b s d H _ I h) λu e ⟨y,B,A,g,q⟩=>thn (r b e d B _ A q) λk F Z=>?_) p;let#[x,J,z,i,a,C,G,fs,t,v,c,n,l,j]:=Z;subst t;obtain rfl:k=fS a:=i;exact Ca z v c n l g λE w=>#[d,_,w,j]
end
section
variable {pins:Pn0}{s:Shared}{E:VS0}{Q:VS0}{c:Value}{b:Bool}
inductive uG (K:Fg0) (H:Hp):V->Value->Prop where
 | non:uG K H .non (.type "NoneType")
 | bl (x:Bool):uG K H (.bl x) (.type "bool")
 | int (i:Int):uG K H (.int i) (.type "int")
 | str (x:Str):uG K H (.str x) (.type "str")
 | flt (x:UInt64):uG K H (.flt x) (.type "float")
 | lst {a:Addr} {xs:List V} (e:H a=some (.lst xs)):uG K H (.ref a) (.type "list")
 | frz {a:Addr} {o:Obj} {xs:List V} (e:H a=some (.frz o (.lst xs))):uG K H (.ref a) (.type "list")
 | tup {a:Addr} {xs:List V} (e:H a=some (.tup xs)):uG K H (.ref a) (.type "tuple")
 | dK {a:Addr} {kvs:List (Key×V)} (e:H a=some (.dK kvs)):uG K H (.ref a) (.type "dict")
 | dT {a:Addr} {kvs:List (List Key×V)} (e:H a=some (.dT kvs)):uG K H (.ref a) (.type "dict")
 | ins {a C dx:Addr} {fs:List (Str×V)} (e:H a=some (.ins C dx fs)) (cl:Cls K C) (ha:dV K (.ref C) "__class__"=some (some (.builtin "object.__class__")))
   (hn:VC K (.builtin "object.__class__") "__get__"=some (some (.builtin "getset_descriptor.__get__"))) (htk:ad4 K (.builtin "object.__class__")=some true)
   (hm:ia K C (.type "object")=some true):uG K H (.ref a) (.ref C)
theorem Fm{x:V}{t:Value}(I:Inv X pins σ H s)(d:RelV x u)(ty:uG X.K H x t)(e:aw X.K t c=some b)(h:∀ tk,Q (.bool b) { s with toks:=tk }) :
  wpAny (model X.prog X.w) A (call (.builtin "isinstance") [u,c]) Q E s:=by
 cases ty with
 | non=>cases (show u=pF from d);exact vq PySem.W.kitx_none I.kIn TQ e (λz=>nomatch z) h
 | bl y=>cases (show u=ac4 y from d);exact vq PySem.W.kitx_bool I.kIn TQ e (λz=>nomatch z) h
 | int i=>let#[t,q]:=(show ∃ t,u=aa4 i t from d);cases q;exact vq PySem.W.kitx_int I.kIn TQ e (λz=>nomatch z) h
 | str y=>let#[t,q]:=(show ∃ t,u=XH y t from d);cases q;exact vq PySem.W.kitx_str I.kIn TQ e (λz=>nomatch z) h
 | flt y=>let#[t,q]:=(show ∃ t,u=an4 y t from d);cases q;exact vq PySem.W.kitx_float I.kIn TQ e (λz=>nomatch z) h
 | @lst a k f=>
  cases (show u=fS a from d);let#[_,_,n,_,g]:=(show cQ X.prog X.w H s.heap a (.lst k) from I.hok a _ f);exact vq aj8 I.kIn #[_,g,rfl] e (λz=>nomatch z) h
 | @frz a v k f=>
  cases (show u=fS a from d);let#[_,_,_,n,_,g]:=(show cQ X.prog X.w H s.heap a (.frz v (.lst k)) from I.hok a _ f);exact vq aj8 I.kIn #[_,g,rfl] e (λz=>nomatch z) h
 | @tup a k f=>
  cases (show u=fS a from d);let#[_,_,_,p]:=(show cQ X.prog X.w H s.heap a (.tup k) from I.hok a _ f);let#[o,g,l,_]:=p;exact vq PySem.W.kitx_tuple I.kIn #[o,g,l] e (λz=>nomatch z) h
 | @dK a j f=>
  cases (show u=fS a from d);let#[_,_,K,_,p]:=(show cQ X.prog X.w H s.heap a (.dK j) from I.hok a _ f);let#[o,F,G,g,l,_]:=p;exact vq aj9 I.kIn #[o,g,l.1] e (λz=>nomatch z) h
 | @dT a j f=>
  cases (show u=fS a from d);let#[_,_,k,_,o,F,G,g,l,_]:=(show cQ X.prog X.w H s.heap a (.dT j) from I.hok a _ f);exact vq aj9 I.kIn #[o,g,l.1] e (λz=>nomatch z) h
 | @ins a C N fs f r D w m B=>
  cases (show u=fS a from d);let#[M,O,_]:=vN I.hok f;let#[L,J,_]:=O.look;exact vq (PySem.W.kitx_own (r.get _) r.hd D w m B) I.kIn J e (λz=>nomatch z) h
end
structure cy (k:Nat) (A:Around):Prop where
 hd:A.handled=none
 dp:A.depth + 3 * k + 5 < recursionLimit
 un:A.units + 16 * k + 200 < cLine
 gd:A.guards=some []
theorem cy.mono{j:Nat}(r:cy k A)(h:j<=k):cy j A:=#[r.hd,by have:=r.dp;lia,by have:=r.un;lia,r.gd]
theorem cy.deeper(r:cy (k + 1) A)(a:Env):cy k (A.deeper a):=
 #[r.hd,by have:=r.dp;show A.depth + 1 + 3 * k + 5 < _;lia,by have:=r.un;show A.units + 3 + 16 * k + 200 < _;lia,r.gd]
theorem CD:(A.under (.builtin "type.__call__" #[.ref C::us,kw])).depth=A.depth + 1:=by
 first | rfl | simp [Zo,Code.weight,Code.isCreation,ak0,Code.isCaller,Code.frames,ak1,guardIds]
theorem CC:(A.under (.builtin "type.__call__" #[.ref C::us,kw])).units=A.units + 1:=by
 first | rfl | simp [Zo,Code.cUnits,Code.frames,ak1]
theorem Bi:(A.under (.builtin "type.__call__" #[.ref C::us,kw])).guards=A.guards:=by
 first | rfl | simp [Zo,pushGuards,Code.guards,ak0,guardIds] | (cases A;simp [Zo,pushGuards,Code.guards,ak0,guardIds])
theorem cy.make(r:cy (k + 1) A)(C:Addr)(us:Lv0)(kw:List (Str×Value)):cy k (A.under (.builtin "type.__call__" #[.ref C::us,kw])):=
 #[r.hd,by have:=r.dp;rw[CD];lia,by have:=r.un;rw[CC];lia,by have:=r.gd;rw[Bi];exact this]
theorem cy.depth(r:cy k A):A.depth < recursionLimit:=by have:=r.dp;lia
def nJ:TA:=λ_ H Q=>Q [] H
def jy (ta:TE)(a:TA):TA:=λσ H Q=>ta σ H λx H1=>a σ H1 λxs H2=>Q (x::xs) H2
theorem fm:PA X [] nJ:=λ_ _ _ _ H Q I h=>ZU #[[],H,I,.nil,h]
abbrev Vjk(X:_2.Cx)(e:PySem.Expr)(es:List PySem.Expr):Prop:=bp (e::es) X.env=(false,PySem.eval e X.env)::bp es X.env
theorem cf(n:PE X e te)(m:PA X es t)(l:autoParam (Vjk X e es) wE):PA X (e::es) (jy te t):=by
 intro b a s c H Q I h;rw[l];show wpAny _ _ (spliced ((false,eval e X.env)::backTo b (bp es X.env))) _ _ s;refine Xj (thn (n a s c H _ I h) λu f Z=>?_);let#[x,r,p,i,k]:=Z;exact thn (m b a f c r _ p k) λv w ⟨d,q,o,g,j⟩=>#[x::d,q,o,.cons i g,j]
def Sf (t:TA):TE:=λσ H Q=>t σ H λxs H1=>xs.length<=sizeLine/\∀ p,H1 p=none->Q (.ref p) (upd H1 p (.tup xs))
def Sj (t:TA):TE:=λσ H Q=>t σ H λxs H1=>xs.length<=sizeLine/\∀ p,H1 p=none->Q (.ref p) (upd H1 p (.lst xs))
theorem O9{x1}(h:PA X es t):PE X (.Tuple es x1 pos) (Sf t):=by
 intro a s g H Q I k;refine ah2 (thn (h pos a s g H _ I k) λj c ⟨i,f,d,r,z,q⟩=>#[by rw[<- r.length];exact z,?_]);have l:f c.heap.objs.size=none:=d.hok.fresh (cc _);refine#[.ref c.heap.objs.size,upd f c.heap.objs.size (.tup i),d.laid (t':=c.toks) (λb u e=>av _ e) (cc _) ?_,rfl,q _ l];exact#[z,j,r,#[_,er _ rfl,rfl,_,rfl]]
theorem Pb(h:PA X es t):PE X (.List es pos) (Sj t):=by
 intro a s g H Q I k;refine wpAny_List_spliced (thn (h pos a s g H _ I k) λj c ⟨i,f,d,r,z,q⟩=>#[by rw[<- r.length];exact z,?_]);have l:f c.heap.objs.size=none:=d.hok.fresh (cc _);refine#[.ref c.heap.objs.size,upd f c.heap.objs.size (.lst i),d.laid (t':=c.toks) (λb u e=>av _ e) (cc _) ?_,rfl,q _ l];exact#[z,j,0,r,er _ rfl]
abbrev Sp:=List V->Hp->VK->XK->Prop
abbrev CXT:=List Env->Hp->Shared->XK->Value->Shared->Prop
structure Av (P:Pv) (w:World) (K:Fg0) (mg:SV0) (base:Heap) (A:Around) (outer:List Env) (s:Shared) (H:Hp):Prop where
 frames:A.frames=some outer
 mod:Mod K mg base
 bs:∀ b o,base.get? b=some o->s.heap.get? b=some o/\Kpt H b o
 bsz:base.objs.size<=s.heap.objs.size
 lQ:s.heap.FunFrames base outer
 frf:∀ b∈frs outer,H b=none
 hok:HOk P w H s.heap
 bare:Yy s.gens
 tb:TabsAt base H
def CE (a:List Env)(P:Pv)(w:World)(H:Hp)(s:Shared)(Q:VK)(u:Value)(b:Shared):Prop:=
 ∃ v H',b.os=s.os/\Yy b.gens/\Un (frs a) [] H H' s.heap b.heap/\HOk P w H' b.heap/\RelV v u/\Q v H'
def CR (CX:CXT)(a:List Env)(P:Pv)(w:World)(H:Hp)(s:Shared)(Q:VK)(E:XK)(r:Result)(b:Shared):Prop:=
 match r with
 | .ok (.ret u)=>CE a P w H s Q u b
 | .ok _=>False
 | .error e=>CX a H s E e b
structure aT (P:Pv) (w:World) (K:Fg0) (mg:SV0) (base:Heap) (CX:CXT) (k:Nat) (f:Addr) (fd:et) (ps:Ls0) (sp:Sp):Prop where
 len:∀ vs H Q E,sp vs H Q E->vs.length=ps.length
 run:∀ (A:Around) (outer:List Env) (s:Shared) (H:Hp) (args:Args) (us:Lv0) (vs:List V) (Q:VK) (E:XK),cy k A->Av P w K mg base A outer s H->ag9 s fd args (ps.zip us)->Vals vs us->sp vs H Q E->
  FU (model P w) A (.call (.ref f) args) (CR CX outer P w H s Q E) s
theorem aT.imp{b:SV0}{CX:CXT}{sp sp':Sp}(F:aT P w K b base CX k f fd ps sp)(h:∀ vs H Q E,sp' vs H Q E->sp vs H Q E):aT P w K b base CX k f fd ps sp':=
 #[λvs H Q E q=>F.len vs H Q E (h _ _ _ _ q),λA a s H args c vs Q E g i j d e=>F.run A a s H args c vs Q E g i j d (h _ _ _ _ e)]
theorem Av.make{a:SV0}{s:Shared}(e:Av P w K a base A outer s H)(C:Addr)(us:Lv0)(kw:List (Str×Value)) :
  Av P w K a base (A.under (.builtin "type.__call__" #[.ref C::us,kw])) outer s H:=#[by first | exact e.frames | (simpa [Zo,Code.envs,ak1,pushEnvs] using e.frames),e.mod,e.bs,e.bsz,e.lQ,e.frf,e.hok,e.bare,e.tb]
section
variable {pins:Pn0}{s:Shared}
theorem Inv.CU(I:Inv X pins σ H s):Av X.prog X.w X.K X.mg X.base X.A X.stack s H:=
 #[I.ok.frames,I.ok.mod,I.bs,eC I.ok.bsz I.sz,I.stack,I.zd,I.hok,I.bare,I.tb]
theorem Inv.after{Q:VK}(I:Inv X pins σ H s)(h:CE X.stack X.prog X.w H s Q u s'):EP X pins σ Q u s':=by
 let#[v,f,os,bare,un,c,r,q]:=h;let#[e,g,d,t,a]:=s';obtain rfl:a=s.os:=os;exact#[v,f,I.call (h':=e) (g':=g) (d':=d) (t':=t) (ch:=[]) un c bare (λb z=>absurd z (by simp)),r,q]
end
def AF (sp:Sp)(a:List V)(E:XK)(t:TA):TE:=λσ H Q=>t σ H λvs H1=>sp (vs++a) H1 Q E
def AE (C:Addr)(m:Str)(sp:Sp)(b:List V)(E:XK)(ta:TE)(t:TA):TE:=λσ H Q=>ta σ H λx H1=>∃ a dx fs,x=.ref a/\H1 a=some (.ins C dx fs)/\fs.lookup m=none/\
 t σ H1 λvs H2=>sp (x::(vs++b)) H2 Q E
def Dv (C:Addr)(sp:Sp)(a:List V)(E:XK)(t:TA):TE:=λσ H Q=>t σ H λvs H1=>∀ x dx,H1 x=none->H1 dx=none->dx≠x->
 sp (.ref x::(vs++a)) (upd (upd H1 dx (.own x)) x (.ins C dx [])) (λv H2=>v=.non/\Q (.ref x) H2) E
def Binds (K:Fg0)(a:et)(ps:Ls0)(ds:Lv0):Prop:=
 ∀ (s:Shared) (us:Lv0),K.In s.heap->(us++ds).length=ps.length->ag9 s a #[us,[]] (ps.zip (us++ds))
theorem Binds.all(h:∀ us:Lv0,us.length=ps.length->bindArgs fd #[us,[]]=pure (ps.zip us)):Binds K fd ps []:=λs us _ a=>by
 rw[nT] at a ⊢;exact .of_eq (h us a)
def Passes (CX:CXT)(X:Cx)(E:XK):Prop:=∀ (pins:Pn0) (σ:St) (H:Hp) (s:Shared) (e:Value) (s':Shared),Inv X pins σ H s->CX X.stack H s E e s'->X.xe e s'
section
variable {CX:CXT}{sp:Sp}{dvs:List V}{ds:Lv0}{x:Str}{apos:Pos}{o:Expr}
theorem zu{a:Pn0}{s:Shared}{Q:VK}(F:aT X.prog X.w X.K X.mg X.base CX k f fd ps sp)(i:cy k X.A)(l:Binds X.K fd ps ds)(hd:Vals dvs ds)(g:Passes CX X E)(I:Inv X a σ H s)(r:Vals vs us)(h:sp (vs++dvs) H Q E):wpAny (model X.prog X.w) X.A (call (.ref f) us) (EP X a σ Q) X.xe s:=by
 have c:Vals (vs++dvs) (us++ds):=r.append hd;have j:(us++ds).length=ps.length:=by rw[<- c.length];exact F.len _ _ _ _ h
 refine PP (Sa (F.run X.A X.stack s H #[us,[]] (us++ds) (vs++dvs) Q E i I.CU (l s us I.kIn j) c h) λr d b=>?_);cases r with
 | error e=>exact g a σ H s e d I b
 | ok m=>
  cases m with
  | ret u=>exact I.after b
  | next=>exact ke b
  | brk=>exact ke b
  | cont=>exact ke b
abbrev Vjq(pos:PySem.Pos)(X:_2.Cx)(es:List PySem.Expr):Prop:=(PySem.backTo pos (bp es X.env)).any (·.1)=false
theorem KR(F:aT X.prog X.w X.K X.mg X.base CX k f fd ps sp)(j:cy k X.A)(m:Gl X x)(l:X.mg x=some (.ref f))(hk:kv X.K (.ref f)=true)(o:Binds X.K fd ps ds)(hd:Vals dvs ds)(i:Passes CX X E)(u:PA X (e::es) t)(c:autoParam (Vjj x) wP)(n:autoParam (Vjk X e es) wE)(b:autoParam (Vjq pos X es) wE) :
  PE X (.Call (.Name x p) (e::es) [] pos) (AF sp dvs E t):=by
 intro a s g H Q I h;refine tT (dG I m l ?_ c);refine GM (h₀:=X.base) I.ok.mod.kin hk (thn (u pos a s g H _ I h) λw y ⟨v,z,d,r,q⟩=>#[d.kIn,?_]) n b;exact zu F j o hd i d r q
theorem Hh(F:aT X.prog X.w X.K X.mg X.base CX k f fd ps sp)(d:cy k X.A)(g:Gl X x)(e:X.mg x=some (.ref f))(hk:kv X.K (.ref f)=true)(i:Binds X.K fd ps ds)(hd:Vals dvs ds)(c:Passes CX X E)(a:autoParam (Vjj x) wP):PE X (.Call (.Name x p) [] [] pos) (AF sp dvs E nJ):=by
 intro b s j H Q I h;refine tT (dG I g e ?_ a);exact Zk I.kIn hk (zu (us:=[]) F d i hd c I .nil h)
theorem KN{pl:Sem Bool}(D:PE X o ta)(c:Cls X.K C)(j:Meth X.K C m f)(F:aT X.prog X.w X.K X.mg X.base CX k f fd ps sp)(B:cy k X.A)(G:Binds X.K fd ps ds)(hd:Vals dvs ds)(z:Passes CX X E)(J:PA X (e::es) t)(d:autoParam (Vjk X e es) wE)(g:autoParam (Vjq pos X es) wE)(A:autoParam (eval (.Call (.Attribute o m apos) (e::es) [] pos) X.env=(do
   let O <- eval o X.env
   VS apos.atName
   let (f,first) <- holding [O] (XJ O m pl)
   af3 pos f first (backTo pos (bp (e::es) X.env)) (Wm pos (DM [] X.env)))) wE) :
  PE X (.Call (.Attribute o m apos) (e::es) [] pos) (AE C m sp dvs E ta t):=by
 intro b s i H Q I h;refine Xt (pl:=pl) (thn (D b s i H _ I h) λu v Z=>?_) A;let#[x,M,p,w,a,P,fs,K,L,l,q]:=Z;subst K;obtain rfl:u=fS a:=w;refine wU p L c j l ?_;refine GM (first:=[.ref a]) (h₀:=X.base) I.ok.mod.kin j.kp (thn (J pos b v i M _ p q) λus N ⟨vs,R,n,r,y⟩=>#[n.kIn,?_]) d g;exact zu (us:=.ref a::us) (vs:=.ref a::vs) F B G hd z n (.cons rfl r) y
theorem Ha{pl:Sem Bool}(r:PE X o ta)(c:Cls X.K C)(e:Meth X.K C m f)(F:aT X.prog X.w X.K X.mg X.base CX k f fd ps sp)(p:cy k X.A)(t:Binds X.K fd ps ds)(hd:Vals dvs ds)(j:Passes CX X E)(n:autoParam (eval (.Call (.Attribute o m apos) [] [] pos) X.env=(do
   let O <- eval o X.env
   VS apos.atName
   let (f,first) <- holding [O] (XJ O m pl)
   af3 pos f first (backTo pos (bp [] X.env)) (Wm pos (DM [] X.env)))) wE) :
  PE X (.Call (.Attribute o m apos) [] [] pos) (AE C m sp dvs E ta nJ):=by
 intro b s g H Q I h;refine Xt (pl:=pl) (thn (r b s g H _ I h) λu y Z=>?_) n;let#[x,A,d,i,a,z,fs,v,w,l,q]:=Z;subst v;obtain rfl:u=fS a:=i;refine wU d w c e l ?_;exact Zk (first:=[.ref a]) d.kIn e.kp (zu (us:=[.ref a]) (vs:=[.ref a]) F p t hd j d (.cons rfl .nil) q)
structure Mk (K:Fg0) (C f:Addr):Prop where
 makes:uq K C=true
 init:dV K (.ref C) "__init__"=some (some (.ref f))
 fn:YC K (.ref f)=true
 kp:kv K (.ref C)=true
theorem GB{a:Pn0}{s:Shared}{Q:VK}(M:Mk X.K C f)(F:aT X.prog X.w X.K X.mg X.base CX k f fd ps sp)(n:cy (k + 1) X.A)(p:Binds X.K fd ps ds)(hd:Vals dvs ds)(m:Passes CX X E)(I:Inv X a σ H s)(r:Vals vs us)(h:∀ x dx,H x=none->H dx=none->dx≠x->sp (.ref x::(vs++dvs)) (upd (upd H dx (.own x)) x (.ins C dx [])) (λv H2=>v=.non/\Q (.ref x) H2) E) :
  wpAny (model X.prog X.w) X.A (call (.ref C) us) (EP X a σ Q) X.xe s:=by
 have g:=h (s.heap.objs.size + 1) s.heap.objs.size (I.hok.fresh (Xf _)) (I.hok.fresh (cc _)) (jz (PL _));have c:=Inv.made (C:=C) I;have d:Vals (V.ref (s.heap.objs.size + 1)::(vs++dvs)) (fS (s.heap.objs.size + 1)::(us++ds)):=.cons rfl (r.append hd);have o:(fS (s.heap.objs.size + 1)::us++ds).length=ps.length:=by
  have e:=d.length;rw[F.len _ _ _ _ g] at e;exact e.symm
 refine PP (Bh (f:=f) I.kIn M.makes M.init (beq_iff_eq.mp M.fn) (Sa (F.run _ X.stack _ _ #[fS (s.heap.objs.size + 1)::us,[]] (fS (s.heap.objs.size + 1)::(us++ds)) _ _ E (n.make C us [])
  (c.CU.make C us []) (p _ (fS (s.heap.objs.size + 1)::us) c.kIn o) d g) λr i b=>?_))
 cases r with
 | error e=>exact m a σ _ _ e i c b
 | ok q=>
  cases q with
  | ret u=>
   let#[v,y,w,j,t,l]:=c.after b;subst t;exact#[j,#[V.ref (s.heap.objs.size + 1),y,w,rfl,l]]
  | next=>exact ke b
  | brk=>exact ke b
  | cont=>exact ke b
theorem KO(M:Mk X.K C f)(F:aT X.prog X.w X.K X.mg X.base CX k f fd ps sp)(j:cy (k + 1) X.A)(m:Gl X x)(l:X.mg x=some (.ref C))(o:Binds X.K fd ps ds)(hd:Vals dvs ds)(i:Passes CX X E)(u:PA X (e::es) t)(c:autoParam (Vjj x) wP)(n:autoParam (Vjk X e es) wE)(b:autoParam (Vjq pos X es) wE) :
  PE X (.Call (.Name x p) (e::es) [] pos) (Dv C sp dvs E t):=by
 intro a s g H Q I h;refine tT (dG I m l ?_ c);refine GM (h₀:=X.base) I.ok.mod.kin M.kp (thn (u pos a s g H _ I h) λw y ⟨v,z,d,r,q⟩=>#[d.kIn,?_]) n b;exact GB M F j o hd i d r q
end
structure aC (N P:Ls0) (sc:Scope):Prop where
 kind:sc.kind=.function
 co:sc.isCoroutine=false
 gen:sc.isGenerator=false
 nd:N.Nodup
 pre:N.take P.length=P
 par:∀ x∈P,sc.names.lookup x=some .local\/sc.names.lookup x=some .cell
 nofree:∀ y∈sc.names,y.2≠.free
theorem yT {kindOf:Str->Option KM}{x:Str}:∀ {a:List (Str×Value)} {m:SV0},(∀ v,(x,v)∉a)->bindL kindOf a m x=m x
 | [],_,_=>rfl
 | (n,v)::r,m,h=>by
  unfold bindL;rw[yT λw b=>h w (cb _ b)];split
  .have:x≠n:=by rintro rfl;exact h v eH
   simp [this]
  .rfl
theorem yV {kindOf:Str->Option KM}{x:Str}:∀ {a:List (Str×Value)} {m:SV0},(∀ v,(x,v)∉a)->bindC kindOf a m x=m x
 | [],_,_=>rfl
 | (n,v)::r,m,h=>by
  unfold bindC;rw[yV λw b=>h w (cb _ b)];split
  .rfl
  .have:x≠n:=by rintro rfl;exact h v eH
   simp [this]
theorem yU {kindOf:Str->Option KM}{x:Str}{v:Value}:∀ {P:Ls0} {vs:Lv0} {i:Nat} {m:SV0},P.Nodup->P[i]?=some x->vs[i]?=some v->kindOf x=some .local->
  bindL kindOf (P.zip vs) m x=some v
 | [],_,_,_,_,h,_,_=>by simp at h
 | _::_,[],_,_,_,_,h,_=>by simp at h
 | p::P,w::vs,0,m,c,b,a,hk=>by
  simp at b a;subst b;subst a;show bindL kindOf ((p,w)::P.zip vs) m p=_;unfold bindL;rw[yT λv d=>(tj.mp c).1 (Zd d).1,if_pos hk];simp
 | p::P,w::vs,i + 1,m,c,b,a,hk=>by
  show bindL kindOf ((p,w)::P.zip vs) m x=_;unfold bindL;exact yU (i:=i) (tj.mp c).2 (by simpa using b) (by simpa using a) hk
theorem yW {kindOf:Str->Option KM}{x:Str}{v:Value}:∀ {P:Ls0} {vs:Lv0} {i:Nat} {m:SV0},P.Nodup->P[i]?=some x->vs[i]?=some v->kindOf x≠some .local->
  bindC kindOf (P.zip vs) m x=some v
 | [],_,_,_,_,h,_,_=>by simp at h
 | _::_,[],_,_,_,_,h,_=>by simp at h
 | p::P,w::vs,0,m,c,b,a,hk=>by
  simp at b a;subst b;subst a;show bindC kindOf ((p,w)::P.zip vs) m p=_;unfold bindC;rw[yV λv d=>(tj.mp c).1 (Zd d).1,if_neg hk];simp
 | p::P,w::vs,i + 1,m,c,b,a,hk=>by
  show bindC kindOf ((p,w)::P.zip vs) m x=_;unfold bindC;exact yW (i:=i) (tj.mp c).2 (by simpa using b) (by simpa using a) hk
noncomputable def start (N:Ls0)(vs:List V):St:=vs.map some++bw (N.length - vs.length) none
noncomputable def lA (CX:CXT)(P:Pv)(w:World)(K:Fg0)(mg:SV0)(base:Heap)(N:Ls0)(a:Str)(scope:Scope)(f:Addr)(c:Value)(A:Around)(outer:List Env)(s:Shared)(H:Hp)(E:XK):Cx where
 prog:=P
 w:=w
 K:=K
 mg:=mg
 base:=base
 A:=A.deeper (envOfC a scope s.heap.objs.size f c)
 N:=N
 ab:=s
 ar:=H
 env:=envOfC a scope s.heap.objs.size f c
 outer:=outer
 stack:=envOfC a scope s.heap.objs.size f c::outer
 ex:=[]
 calm:=true
 fn:=λ_=>true
 pn:=[]
 xe:=λe s'=>wpAny (model P w) (A.deeper (envOfC a scope s.heap.objs.size f c)) (leaving (envOfC a scope s.heap.objs.size f c) e) (λ_ b=>CX outer H s E e b) (λd b=>CX outer H s E d b) s'
theorem BC{a:Scope}{x:Str}(h:a.names.lookup x=some .cell):∃ c,(Ht n a.names []).lookup x=some c:=by
 have q:=Xk a.names n [] (.inl h);exact FB.mp q
theorem yy{CX:CXT}{C:SV0}{N:Ls0}{B:Value}{s s1:Shared}(S:aC N ps scope)(hd:A.handled=none)(g:Av P w K C base A outer s H)(L:vs.length=ps.length)(r:Vals vs us)(x:InCallC s s.heap.objs.size (bindL (envOfC qual scope s.heap.objs.size f B).kindOf (ps.zip us) λ_=>none) (Ht (s.heap.objs.size + 1) scope.names []) (bindC (envOfC qual scope s.heap.objs.size f B).kindOf (ps.zip us) λ_=>none) s1) :
  Inv (lA CX P w K C base N qual scope f B A outer s H E) [] (start N vs) H s1:=by
 have G:ps.length<=N.length:=by have:=congrArg YZ S.pre;rw[HT] at this;lia
 let#[t,J,rfl,hk]:=x.done;have j:∀ b:Addr,b∉(lA CX P w K C base N qual scope f B A outer s H E).ex:=λb z=>absurd (show b∈([]:La0) from z) (by simp);refine#[#[g.mod,S.kind,rfl,rfl,cc _,λy z c t d=>?_,λy hy=>?_,λy c _ h=>?_,λ_=>hd,Around.frames_deeper g.frames,.inr #[rfl,rfl],λb z=>absurd z (j b),g.bs,g.bsz,λb _ _=>j b,λb z=>absurd z (j b),g.lQ,g.frf,g.tb],
  rfl,g.bare,Un.kept hk,#[_,x.toInCall.ns,λi y v t d M=>?_],λy c h=>#[_,x.cell y c h],g.hok.fresh (cc _),λy c h=>?_,λp m=>absurd (show p∈([]:Pn0) from m) (by simp),g.hok.kept hk,?_]
 .exact name_of_addr x.apart (Ub t) (Ub d)
 .have hy:scope.names.lookup y=some .cell\/scope.names.lookup y=some .free:=hy;rcases hy with hy | hy
  .exact BC hy
  .exact absurd rfl (S.nofree _ (Ub hy))
 .exact Wh (x.above y c (Ub h))
 .have o:i < vs.length:=by
   unfold start at d;by_cases o:i < vs.length
   .exact o
   .rw[yp (by simpa using o)] at d;rw[IR] at d;split at d <;> cases d
  have I:vs[i]?=some v:=by
   unfold start at d;rw[eW (by simpa using o),ef] at d;cases e:vs[i]? with
   | none=>rw[e] at d;cases d
   | some a=>rw[e] at d;cases d;rfl
  let#[u,D,F]:=r.get I;have m:ps[i]?=some y:=by
   rw[<- S.pre,List.getElem?_take_of_lt (by lia)];exact t
  have l:ps.Nodup:=by rw[<- S.pre];exact S.nd.sublist (List.take_sublist _ _)
  refine#[u,F,?_];rcases S.par y (hF m) with k | k
  .exact .inl #[k,yU l m D k]
  .let#[c,e]:=BC (n:=s.heap.objs.size + 1) k;refine .inr #[.inl k,c,e,?_];have q:=x.cell y c e;rw[yW l m D (by show scope.names.lookup y≠_;rw[k];decide)] at q;exact q
 .exact g.hok.fresh (Wh (x.above y c (Ub h)))
 .unfold start;show _=N.length;rw[cn,lM0,ey];lia
theorem Nx{CX:CXT}{m:SV0}{c:Arguments}{F kV l D a G R:Value}{L od:Option Addr}{N:Ls0}{sp:Sp}(lk:K.lookup f=some #[R,od,.func (Xl name qual c body scope F kV l D L a G),osl])(C:af4 K a qual=true)(S:aC N ps scope)(len:∀ vs H Q E,sp vs H Q E->vs.length=ps.length)(hbody:∀ (A:Around) (outer:List Env) (s:Shared) (H:Hp) (vs:List V) (Q:VK) (E:XK),cy k (A.deeper (envOfC qual scope s.heap.objs.size f a))->sp vs H Q E->
   ∃ t,PSs (lA CX P w K m base N qual scope f a A outer s H E) body t/\t { nx:=λ_ H'=>Q .non H',rt:=Q } (start N vs) H) :
  aT P w K m base CX (k + 1) f (Xl name qual c body scope F kV l D L a G) ps sp:=by
 refine#[len,λA outer s H args O vs Q E B j Z r i=>?_];have X:=len _ _ _ _ i;have M:K.In s.heap:=j.mod.kin.keeps λb o e=>(j.bs b o e).1;have z:s.heap.NoLimit:=j.mod.nolimit.keeps λb o e=>(j.bs b o e).1;have g:∀ y∈ps.zip O,scope.names.lookup y.1=some .local\/(scope.names.lookup y.1=some .cell/\((Ht (s.heap.objs.size + 1) scope.names []).lookup y.1).isSome=true):=λ⟨n,v⟩ T=>by
  rcases S.par n (Zd T).1 with q | q
  .exact .inl q
  .exact .inr #[q,Xk _ _ _ (.inl q)]
 refine ae3 B.depth (M _ _ lk) rfl S.co S.gen rfl (ai5 M C) (Z _ _ _ _ ?_);refine Zy S.kind g λa1 Y s1 x=>?_;subst Y;refine#[z.keeps x.toInCall.keep,codeAny_func ?_];let#[t,U,W]:=hbody A outer s H vs Q E (B.deeper _) i;have I:Inv (lA CX P w K m base N qual scope f a A outer s H E) [] (start N vs) H s1:=yy S B.hd j X r x;refine Bk (U [] s1 (start N vs) H _ I W) (λfl s' h=>?_) λe s' h=>h;have fin:∀ {d:St} {H':Hp} {v:V} {u:Value},Inv (lA CX P w K m base N qual scope f a A outer s H E) [] d H' s'->RelV v u->Q v H'->CE outer P w H s Q u s':=
  λ{d H' v u} J p q=>#[v,H',J.os,J.bare,J.base,J.hok,p,q]
 cases fl with
 | ret u=>
  let#[v,d,H',J,p,q]:=h;exact fin J p q
 | next=>
  let#[d,H',J,q]:=h;exact fin (v:=V.non) (u:=pF) J rfl q
 | brk=>
  let#[_,_,_,q]:=h;exact ke q
 | cont=>
  let#[_,_,_,q]:=h;exact ke q
section
variable {x:Str}{id T:String}
def tCB (r:List V->Hp->VK->Prop)(t:TA):TE:=λσ H Q=>t σ H λvs H1=>r vs H1 Q
theorem Hg(u:cJ X (.builtin id) r)(o:Gl X x)(n:X.mg x=none)(l:Jv x=some (.builtin id))(v:PA X (e::es) t)(m:autoParam (x≠"__name__") wP)(c:autoParam (Vjj x) wP)(q:autoParam (Vjk X e es) wE)(b:autoParam (Vjq pos X es) wE):PE X (.Call (.Name x p) (e::es) [] pos) (tCB r t):=by
 intro a s d H Q I h;refine tT (k9 I o n l ?_ m c);exact PyProof.Rows.callWith_builtin1 (thn (v pos a s d H _ I h) λg i ⟨f,y,w,j,k⟩=>u a i d y f g Q w j k) q b
theorem EW(u:cJ X (.type T) r)(o:Gl X x)(n:X.mg x=none)(l:Jv x=some (.type T))(v:PA X (e::es) t)(m:autoParam (x≠"__name__") wP)(c:autoParam (Vjj x) wP)(q:autoParam (Vjk X e es) wE)(b:autoParam (Vjq pos X es) wE):PE X (.Call (.Name x p) (e::es) [] pos) (tCB r t):=by
 intro a s d H Q I h;refine tT (k9 I o n l ?_ m c);exact sm (thn (v pos a s d H _ I h) λg i ⟨f,y,w,j,k⟩=>u a i d y f g Q w j k) q b
end
end _2
variable {prog:Pv}{v cd it acc:SB}{o tg elt iter:YP}{Q:Int×Int×Nat->Xh->Prop}{lo hi:Option Int}{n j k:Nat}{t:_2.TA}{X Y:_2.Cx}{e p f l C L:Xz}{te ta:_2.TE}{pos apos cpos p0:al8}{r:_2.V->Option Int->Option Int->_2.Hp->_2.VK->Prop}{σ:_2.St}{H H1 H2 H' ar F F':_2.Hp}{xs vs dvs:List _2.V}{its its' us:Lv0}{y:_2.V}{es ifs:List YP}{name qual:Zq}{kvs:List (_2.Key×_2.V)}{K:Fg0}{base:ai0}{st:ai4}{fd:et}{N ps Nc:Ls0}{osl:Array (Option SB)}{B newId:String}{sc scope:PySem.Scope}{env:aq4}{g:_2.TG}{oe:PySem.Obj}{fr:On}{ab s' s2:Xh}{ex fp:La0}{outer:List aq4}{dx:Option Xz}{d':Bool}{E:_2.XK}{R:aj3->Xh->Prop}{W:_2.St->_2.XK}{tn:Nat->ai0->Prop}{J:_2.It}{wi:_2.TI}{RR:SB->Xz->aj3->Xh->Prop}
namespace _h
open PySem PyProof.Rows
section
variable {E:VS0}{s:Shared}
noncomputable def sIx (n d:Nat):Option Int->Nat
 | none=>d
 | some v=>if v < 0 then (v + (n:Int)).toNat else min v.toNat n
theorem AR(n d:Nat):sIx n d none=d:=rfl
theorem DA(n d k:Nat):sIx n d (some (k:Int))=min k n:=by
 show (if (k:Int) < 0 then ((k:Int) + (n:Int)).toNat else min (k:Int).toNat n)=min k n;rw[if_neg (by lia),ks]
theorem OH(n d:Nat)(hd:d<=n)(o:Option Int):sIx n d o<=n:=by
 cases o with
 | none=>exact hd
 | some v=>
  show (if v < 0 then (v + (n:Int)).toNat else min v.toNat n)<=n;by_cases a:v < 0
  .rw[if_pos a];lia
  .rw[if_neg a];exact Nat.min_le_right _ _
theorem Ec(v:Int)(n d:Nat):(if v < 0 then max (v + (n:Int)) 0 else min v (n:Int))=((sIx n d (some v):Nat):Int):=by
 show (if v < 0 then max (v + (n:Int)) 0 else min v (n:Int))=(((if v < 0 then (v + (n:Int)).toNat else min v.toNat n):Nat):Int);by_cases a:v < 0
 .simp only[if_pos a];lia
 .simp only[if_neg a];lia
theorem Dh(lo a:Option Int)(n:Nat):XT lo a 1 (n:Int)=(((sIx n 0 lo:Nat):Int),((sIx n n a:Nat):Int)):=by
 have b:¬ ((1:Int) < 0):=by lia
 unfold XT;simp only[b,if_false];refine Prod.ext ?_ ?_
 .cases lo with
  | none=>rfl
  | some v=>exact Ec v n 0
 .cases a with
  | none=>rfl
  | some v=>exact Ec v n n
theorem Ci(i j:Nat):VT (i:Int) (j:Int) 1=j - i:=by
 unfold VT;have a:(1:Int) > 0:=by lia
 simp only[a,if_true,Int.ediv_one];split <;> lia
theorem v8{o:Option Int}{Q:Option Int->Shared->Prop}(p:IsPart v o)(h:Q o s):wpAny (model prog w) A (Builtin.Slice.slicePartIndex v) Q E s:=by
 cases p with
 | none=>exact slicePart_none h
 | int i t=>exact slicePart_int h
theorem t8{d:Addr}{vl c:Value}(f:s.heap.IsSliceOf d vl c .none)(pl:IsPart vl lo)(e:IsPart c hi)(h:Q (((sIx n 0 lo:Nat):Int),1,sIx n n hi - sIx n 0 lo) s):wpAny (model prog w) A (Zz (.ref d) (pure (n:Int))) Q E s:=by
 let#[os,a,g,b]:=id f;unfold Zz Builtin.Slice.sliceFields;refine au (au (qd a b (x:=vl) rfl (au (qd a b (x:=c) rfl (au (qd a b (x:=.none) rfl (bh ?_)))))));refine au (slicePart_none ?_);show wpAny _ _ (if ((1:Int) == 0)=true then _ else _) _ _ s;rw[if_neg (by decide)];refine au (v8 pl (au (v8 e (au (bh ?_)))));show wpAny _ _ (match XT lo hi 1 (n:Int) with | (lo,hi)=>pure (lo,(1:Int),VT lo hi 1)) _ _ s;rw[Dh lo hi n];show wpAny _ _ (pure (((sIx n 0 lo:Nat):Int),(1:Int),VT ((sIx n 0 lo:Nat):Int) ((sIx n n hi:Nat):Int) 1)) _ _ s;rw[Ci];exact bh h
theorem G7(xs:Array Value)(i k:Nat):((gs k).filterMap λ(m:Nat)=>xs[((i:Int) + (m:Int) * 1).toNat]?).toArray=((xs.toList.drop i).take k).toArray:=by
 have e:(λ(m:Nat)=>xs[((i:Int) + (m:Int) * 1).toNat]?)=λm=>xs[i + m]?:=by
  funext m
  have:((i:Int) + (m:Int) * 1).toNat=i + m:=by lia
  rw[this]
 rw[e];have:=pick_run xs i k;rw[ai6] at this;have a:((λx=>xs[x]?) ∘ λx=>i + x)=λm=>xs[i + m]?:=rfl;rw[a] at this;rw[this]
theorem sI{t c:Addr}{items:Array Value}{vl i:Value}{Q:VS0}(b:IsTup s.heap t items)(j:s.heap.IsSliceOf c vl i .none)(pl:IsPart vl lo)(k:IsPart i hi)(l:¬ (sIx items.size 0 lo=0/\sIx items.size items.size hi=items.size))(h:Q (.ref s.heap.objs.size) { s with heap:=s.heap.push { cls:=.type "tuple",data:=.seq ((items.toList.drop (sIx items.size 0 lo)).take (sIx items.size items.size hi - sIx items.size 0 lo)).toArray } })(hsz:items.size<=sizeLine):wpAny (model prog w) A (ap0 (.ref t) (.ref c)) Q E s:=by
 have a:sizeOk (.seq ((items.toList.drop (sIx items.size 0 lo)).take (sIx items.size items.size hi - sIx items.size 0 lo)).toArray):=by
  show ((items.toList.drop (sIx items.size 0 lo)).take (sIx items.size items.size hi - sIx items.size 0 lo)).toArray.size<=sizeLine;rw[eR,HT,Vy,XW];lia
 have r:sIx items.size items.size hi<=items.size:=OH _ _ (cc _) hi;let#[os,d,f,n]:=id j;have g:s.TypeIs (.ref c) "slice":=#[os,d,f];unfold ap0
 try with_reducible refine pb ?_
 first | refine au (bh ?_) | skip
 refine au (wpAny_sequenceKey b.typeIs (by decide) ?_);refine au (Yt (name:=ah "__getitem__") b.typeIs TX
  (YQ TX b.typeIs entry_tuple_getitem ?_ (args_tuple_getitem _ _)))
 show wpAny _ _ (Builtin.Tuple.tupleItemsOf (.ref t) >>= _) _ _ s;refine au (tupleItemsOf_ b ?_);refine au (wpAny_typeOf g ?_);rw[if_pos (by decide)];refine au (t8 j pl k ?_);have e:¬ ((((sIx items.size 0 lo:Nat):Int) == 0 && (1:Int) == 1 && (sIx items.size items.size hi - sIx items.size 0 lo) == items.size)=true):=by
  intro q;rw[eN,eN] at q;have p:((sIx items.size 0 lo:Nat):Int)=0:=eq_of_beq q.1.1;have o:sIx items.size items.size hi - sIx items.size 0 lo=items.size:=eq_of_beq q.2;exact l #[by lia,by lia]
 show wpAny _ _ (if (((sIx items.size 0 lo:Nat):Int) == 0 && (1:Int) == 1 && (sIx items.size items.size hi - sIx items.size 0 lo) == items.size)=true then _ else _) _ _ s;rw[if_neg e,G7]
 first
  | exact au (m:=WS _) (vx (bh #[_,rfl,bh h]) a)
  | exact au (m:=WS _) (vx (au (bh (bh #[_,rfl,bh h]))) a)
  | exact au (au (m:=WS _) (vx (bh (bh #[_,rfl,bh h])) a))
  | exact au (au (m:=WS _) (vx (bh #[_,rfl,bh h]) a))
end
end _h
namespace _2
open PySem PySem.Spec PyProof.Rows
abbrev TO:=St->Hp->(Option Int->Hp->Prop)->Prop
def PO (X:Cx)(e:Option Expr)(t:TO):Prop:=
 ∀ (pins:Pn0) (s:Shared) (σ:St) (H:Hp) (Q:Option Int->Hp->Prop),Inv X pins σ H s->t σ H Q->
  wpAny (model X.prog X.w) X.A (evalPart e X.env) (λu s'=>∃ o H',Inv X pins σ H' s'/\IsPart u o/\Q o H') X.xe s
def Ds:TO:=λ_ H Q=>Q none H
def MP (t:TE):TO:=λσ H Q=>t σ H λx H1=>∃ i,x=.int i/\Q (some i) H1
section
variable {e:Expr}{lo hi:Option Expr}{tl th:TO}{p2:Pos}
theorem Kz:PO X none Ds:=by
 intro a s b H Q I h;rw[evalPart_none];exact bh #[none,H,I,.none,h]
theorem Ky(h:PE X e te):PO X (some e) (MP te):=by
 intro a s b H Q I f;rw[evalPart_some];refine thn (h a s b H _ I f) λu k Z=>?_;let#[x,j,g,c,d]:=Z;let#[i,rfl,q]:=d;let#[t,rfl]:=c;exact#[some i,j,g,.int i t,q]
def SlR (X:Cx)(r:V->Option Int->Option Int->Hp->VK->Prop):Prop:=
 ∀ (pins:Pn0) (s:Shared) (σ:St) (H:Hp) (x:V) (v vl a:Value) (lo hi:Option Int) (b:Addr) (Q:VK),Inv X pins σ H s->RelV x v->s.heap.IsSliceOf b vl a .none->IsPart vl lo->IsPart a hi->r x lo hi H Q->
  ∃ T id,typeLookup (.type T) "__getitem__"=pure (some (.builtin id))/\s.TypeIs v T/\wpAny (model X.prog X.w) X.A (ap0 v (.ref b)) (EP X pins σ Q) X.xe s
def tSl (r:V->Option Int->Option Int->Hp->VK->Prop)(te:TE)(tl a:TO):TE:=λσ H Q=>te σ H λx H1=>tl σ H1 λl H2=>a σ H2 λu b=>r x l u b Q
theorem wx(y:SlR X r)(B:PE X e te)(z:PO X lo tl)(t:PO X hi th):PE X (.Subscript e (.Slice lo hi none p2) pos) (tSl r te tl th):=by
 intro a s d H Q I h;refine Subscript_ (thn (B a s d H _ I h) λv i Z=>?_);let#[x,K,G,j,n]:=Z;refine wpAny_Slice (thn (z a i d K _ G n) λvl g ⟨l,J,F,p,m⟩=>thn (t a g d J _ F m) λvu c Z=>?_);let#[u,f,E,o,k]:=Z;rw[evalPart_none];refine bh ?_;have D:Inv X a d f { c with heap:=c.heap.push { cls:=.type "slice",data:=.fields (Vz9 [vl,vu,.none]) } }:=E.kept (t':=c.toks) λb L q=>av _ q;let#[T,id,C,w,A]:=y a { c with heap:=c.heap.push { cls:=.type "slice",data:=.fields (Vz9 [vl,vu,.none]) } } d f x v vl vu l u c.heap.objs.size Q D j (Heap.IsSliceOf.new ..) p o k;show wpAny (model X.prog X.w) X.A (subscriptTail e (.Slice lo hi none p2) v (.ref c.heap.objs.size)) (EP X a d Q) X.xe { c with heap:=c.heap.push { cls:=.type "slice",data:=.fields (Vz9 [vl,vu,.none]) } };exact tail_any (ops:=[.ref c.heap.objs.size,v]) w C A (by with_unfolding_all rfl)
noncomputable def By (xs:List V)(lo a:Option Int):List V:=(xs.drop (_h.sIx xs.length 0 lo)).take (_h.sIx xs.length xs.length a - _h.sIx xs.length 0 lo)
theorem vd(xs:List V)(lo a:Option Int):(By xs lo a).length<=xs.length:=by
 unfold By;rw[HT,Vy];lia
noncomputable def SU (K:Fg0):V->Option Int->Option Int->Hp->VK->Prop:=λx lo hi H Q=>∃ a xs,x=.ref a/\SqT K H a xs/\
 ¬ (_h.sIx xs.length 0 lo=0/\_h.sIx xs.length xs.length hi=xs.length)/\∀ p,H p=none->Q (.ref p) (upd H p (.tup (By xs lo hi)))
theorem Ox:SlR X (SU X.K):=by
 intro g s u H x v vl w lo f y Q I k t m l h;let#[a,d,rfl,n,p,q]:=h;cases k;let#[e,r,j,i]:=I.tuple n;have c:e.toArray.size=d.length:=by rw[eR];exact r.length.symm
 refine#["tuple",_,TX.lookup,j.typeIs,?_];refine _h.sI j t m l (by rw[c];exact p) ?_ (by rw[c];exact i);rw[c];refine#[.ref s.heap.objs.size,_,I.laid (t':=s.toks) (o:=.tup (By d lo f)) (λb z q=>av _ q) (cc _) ?_,rfl,q _ (I.hok.fresh (cc _))];exact#[eC (vd d lo f) i,_,(r.drop (_h.sIx d.length 0 lo)).take (_h.sIx d.length d.length f - _h.sIx d.length 0 lo),am0 _ _]
end
noncomputable def ixN (n:Nat)(i:Int):Option Nat:=if 0<=i then (if i < n then some i.toNat else none) else if -(n:Int)<=i then some (i + n).toNat else none
noncomputable def atI {α:Type}(xs:List α)(i:Int):Option α:=(ixN xs.length i).bind λj=>xs[j]?
theorem DV{i:Int}(h:ixN n i=some j):seqIndex? i n=some j/\j < n/\-(n:Int)<=i/\i < n:=by
 unfold ixN at h;by_cases b:0<=i
 .rw[if_pos b] at h;by_cases a:i < n
  .rw[if_pos a] at h;have e:i.toNat=j:=gT h;exact#[by rw[an5 b a,e],by lia,by lia,a]
  .rw[if_neg a] at h;cases h
 .rw[if_neg b] at h;by_cases a:-(n:Int)<=i
  .rw[if_pos a] at h;have e:(i + n).toNat=j:=gT h;exact#[by rw[ak2 (by lia) a,e],by lia,a,by lia]
  .rw[if_neg a] at h;cases h
theorem An{a:Type}{xs:List a}{i:Int}{v:a}(h:atI xs i=some v):∃ j,seqIndex? i xs.length=some j/\xs[j]?=some v/\j < xs.length/\-(xs.length:Int)<=i/\i < xs.length:=by
 unfold atI at h;cases e:ixN xs.length i with
 | none=>rw[e] at h;cases h
 | some j=>
  rw[e] at h;let#[f,d,c,b]:=DV e;exact#[j,f,h,d,c,b]
theorem Mr{a:Type}{xs:List a}{v:a}(h:xs[j]?=some v):atI xs (j:Int)=some v:=by
 have b:j < xs.length:=(gS0 h).1;have e:ixN xs.length (j:Int)=some j:=by
  unfold ixN;rw[if_pos (by lia),if_pos (by lia)];simp
 unfold atI;rw[e];exact h
def Ep (b:Expr):Prop:=∀ o i,subscripted b false o i=operate [o,i] (ap0 o i)
def IxR (X:Cx)(r:R2):Prop:=
 ∀ (value slice:Expr) (pins:Pn0) (s:Shared) (σ:St) (H:Hp) (x y:V) (v u:Value) (Q:VK),Inv X pins σ H s->RelV x v->RelV y u->r x y H Q->
  subscripted slice false v u=operate [v,u] (ap0 v u)->wpAny (model X.prog X.w) X.A (subscriptTail value slice v u) (EP X pins σ Q) X.xe s
def MtR (X:Cx)(id:String)(r:V->List V->Hp->VK->Prop):Prop:=
 ∀ (pins:Pn0) (s:Shared) (σ:St) (H:Hp) (x:V) (xs:List V) (v:Value) (us:Lv0) (Q:VK),Inv X pins σ H s->RelV x v->Vals xs us->r x xs H Q->
  wpAny (model X.prog X.w) X.A (call (.builtin id) (v::us)) (EP X pins σ Q) X.xe s
section
variable {a b:Expr}{tb:TE}
theorem IxR.or{r f:R2}(h:IxR X r)(h':IxR X f):IxR X (λx y H Q=>r x y H Q\/f x y H Q):=by
 intro a slice b s c H x y v u Q I e d q g;rcases q with q | q
 .exact h a slice b s c H x y v u Q I e d q g
 .exact h' a slice b s c H x y v u Q I e d q g
theorem Tb{r:R2}(j:IxR X r)(l:PE X a ta)(k:PE X b tb)(i:Ep b):PE X (.Subscript a b pos) (tOp r ta tb):=by
 intro c s d H Q I h;exact Subscript_ (Rn l k I h λv u e x y n m g f q=>j a b c e d n x y v u Q m g f q (i _ _))
def S1 (K:Fg0):R2:=λx y H Q=>∃ p xs i v,x=.ref p/\y=.int i/\SqL K H p xs/\atI xs i=some v/\Q v H
def SY (K:Fg0):R2:=λx y H Q=>∃ p xs i v,x=.ref p/\y=.int i/\SqT K H p xs/\atI xs i=some v/\Q v H
def S0:R2:=λx y H Q=>∃ z i c,x=.str z/\y=.int i/\z.length<=sizeLine/\atI z.cps.toList i=some c/\Q (.str #[(Vz9 [c])]) H
theorem LD:IxR X (S1 X.K):=by
 intro c slice a s k H x y v u Q I B A h l;let#[p,K,i,z,rfl,rfl,C,E,q]:=h;cases B;let#[t,rfl]:=A;let#[f,r,e,L]:=I.list C;let#[j,b,J,N,G,F]:=An E;let#[w,n,d]:=r.get J;have D:=r.length;have M:=uj;have fin:EP X a k Q w s:=#[z,H,I,d,q];by_cases m:0<=i
 .have g:i.toNat=j:=by
   rw[an5 m F] at b;exact gT b
  exact item_listR e.isList m (by lia) (by rw[g];simpa using n) fin l
 .have g:(i + (f.toArray.size:Int)).toNat=j:=by
   rw[ak2 (by lia) G] at b;rw[eR,<- D];exact gT b
  exact ac8 (x:=w) e.isList.typeIs slot_list_getitem.lookup
   (wpAny_getItem_list_neg (Q:=λr o=>r=w/\EP X a k Q r o) e.isList (by lia) (by rw[eR] <;> lia) (by lia) (by rw[g];simpa using n) #[rfl,fin]) l
theorem Qd:IxR X (SY X.K):=by
 intro b slice a s d H x y v u Q I k g h m;let#[p,E,i,z,rfl,rfl,n,A,q]:=h;cases k;let#[t,rfl]:=g;let#[l,r,e,F]:=I.tuple n;let#[j,C,B,L,K,J]:=An A;let#[w,D,c]:=r.get B;have o:=r.length;have G:=uj;have fin:EP X a d Q w s:=#[z,H,I,c,q];exact ac8 (x:=w) e.typeIs TX.lookup
  (getItem_tuple (j:=j) (Q:=λr f=>r=w/\EP X a d Q r f) e (by lia) (by lia) (by rw[eR,<- o];exact C) (by simpa using D) #[rfl,fin]) m
theorem Qe:IxR X S0:=by
 intro a slice b s w H x y v u Q I f e h g;let#[z,i,c,rfl,rfl,B,l,q]:=h;let#[t,rfl]:=f;let#[A,rfl]:=e;let#[j,d,o,D,n,m]:=An l;have k:z.cps.toList.length=z.length:=by simp [ap3]
 rw[k] at d n m;have C:=uj;exact tail_any (Ym s z t) slot_str_getitem.lookup (getItem_str (c:=c) (by
  have r:decide (i < -(2 ^ 63:Int))=false:=decide_eq_false (by lia);have p:decide (i≥2 ^ 63)=false:=decide_eq_false (by lia);rw[r,p,aa0]) (by rw[d];simpa using o) #[.str #[(Vz9 [c])],H,I.tok _,#[_,rfl],q]) g
def rIx (K:Fg0):R2:=λx y H Q=>S1 K x y H Q\/SY K x y H Q\/S0 x y H Q
theorem Qf:IxR X (rIx X.K):=LD.or (Qd.or Qe)
theorem CB(a:Lv0)(n j:Nat)(u:Value):ZA (·.setIfInBounds j u) { cls:=.type "list",data:=.seq a.toArray n }={ cls:=.type "list",data:=.seq (a.set j u).toArray n }:=by
 simp [ZA]
theorem Inv.lst {a:Pn0}{σ:St}{H:Hp}{s:Shared}{p:Addr}{xs:List V}(I:Inv X a σ H s)(h:H p=some (.lst xs)) :
  ∃ (its:Lv0) (n:Nat),Vals xs its/\s.heap.get? p=some { cls:=.type "list",data:=.seq its.toArray n }/\xs.length<=sizeLine:=by
 let#[z,its,n,r,e]:=I.hok p _ h;exact#[its,n,r,e,z]
theorem Inv.P1{a:Pn0}{s:Shared}{ys:List V}{c:Nat}{f:Obj->Obj}(I:Inv X a σ H s)(h:H p=some (.lst xs))(i:s.heap.get? p=some { cls:=.type "list",data:=.seq its.toArray n })(d:f { cls:=.type "list",data:=.seq its.toArray n }={ cls:=.type "list",data:=.seq its'.toArray c })(r:Vals ys its')(g:ys.length<=sizeLine)(t:Nat) :
  Inv X a σ (upd H p (.lst ys)) { s with heap:=s.heap.update p f,toks:=t }:=by
 have e:(s.heap.update p f).get? p=some { cls:=.type "list",data:=.seq its'.toArray c }:=by
  rw[pL f i (by rw[d] <;> rfl),d]
 refine I.write (x:=p) (e:=p) (by rw[h];trivial) (.inl rfl) (λb u j q=>(gm _ _ (ky j)).trans q) #[_,e] ?_;exact#[g,its',c,r,e]
noncomputable def A2:V->V->V->Hp->(Hp->Prop)->Prop:=λo i v H Q=>∃ p xs k j,o=.ref p/\i=.int k/\H p=some (.lst xs)/\ixN xs.length k=some j/\Q (upd H p (.lst (xs.set j v)))
theorem set_list:Vz X A2:=by
 intro a s x H o i v E F u Q I A B z h;let#[p,y,k,j,rfl,rfl,f,D,q]:=h;cases A;let#[t,rfl]:=B;let#[b,n,r,d,C]:=I.lst f;let#[c,J,l,g]:=DV D;have e:=r.length;have G:=uj;have w:Inv X a x (upd H p (.lst (y.set j v))) { s with heap:=s.heap.update p (ZA (·.setIfInBounds j u)) }:=
  I.P1 f d (CB b n j u) (r.set z j) (by rw[rk];exact C) s.toks
 by_cases m:0<=k
 .have hk:k.toNat=j:=by
   rw[an5 m g] at c;exact gT c
  exact PySem.W.ki_setAt d m (by lia) (by rw[eR,<- e];exact g) (by rw[hk];exact#[_,w,q])
 .have hk:(k + (b.toArray.size:Int)).toNat=j:=by
   rw[ak2 (by lia) l] at c;rw[eR,<- e];exact gT c
  exact PySem.W.ki_setBack d (by lia) (by rw[eR,<- e];exact l) (by lia) (by rw[hk];exact#[_,w,q])
theorem zi(lo a:Option Int)(n:Nat):(Yu lo a none n).1=((_h.sIx n 0 lo:Nat):Int)/\(Yu lo a none n).2.1=((_h.sIx n n a:Nat):Int)/\(Yu lo a none n).2.2=1:=by
 refine#[?_,?_,rfl]
 .cases lo with
  | none=>simp [Yu,_h.sIx]
  | some i=>
   simp only[Yu,_h.sIx,am3,show (1:Int) > 0 by decide,if_true];by_cases h:i < 0
   .simp only[h,if_true] <;> lia
   .simp only[h,if_false] <;> lia
 .cases a with
  | none=>simp [Yu,_h.sIx]
  | some i=>
   simp only[Yu,_h.sIx,am3,show (1:Int) > 0 by decide,if_true];by_cases h:i < 0
   .simp only[h,if_true] <;> lia
   .simp only[h,if_false] <;> lia
theorem xw(a:Lv0)(lo b:Option Int):slicePick a.toArray lo b none=((a.drop (_h.sIx a.length 0 lo)).take (_h.sIx a.length a.length b - _h.sIx a.length 0 lo)).toArray:=by
 let#[e,d,c]:=zi lo b a.toArray.size;unfold slicePick;rw[e,d,c];simp only[sliceRange_one,pick_run,eR] <;> rfl
noncomputable def SW (K:Fg0):V->Option Int->Option Int->Hp->VK->Prop:=λx lo hi H Q=>∃ a xs,x=.ref a/\SqL K H a xs/\∀ p,H p=none->Q (.ref p) (upd H p (.lst (By xs lo hi)))
theorem JR:SlR X (SW X.K):=by
 intro f s t H x v vl u lo e w Q I i p k j h;let#[a,c,rfl,n,q]:=h;cases i;let#[l,r,g,m]:=I.list n;have d:=r.length;refine#["list",_,slot_list_getitem.lookup,g.isList.typeIs,?_];refine wpAny_getItem_list_slice g.isList p k j .none (by simp) ?_ (by rw[eR] <;> lia);rw[xw,<- d];refine#[.ref s.heap.objs.size,_,I.laid (t':=s.toks) (o:=.lst (By c lo e)) (λb y q=>av _ q) (cc _) ?_,rfl,q _ (I.hok.fresh (cc _))];exact#[eC (vd c lo e) m,_,0,(r.drop (_h.sIx c.length 0 lo)).take (_h.sIx c.length c.length e - _h.sIx c.length 0 lo),er _ rfl]
noncomputable def qg:V->Bool
 | .non=>true
 | .bl _=>true
 | .int _=>true
 | .str _=>true
 | _=>false
noncomputable def eqV:V->V->Bool
 | .non,.non=>true
 | .bl a,.bl b=>a == b
 | .bl a,.int b=>(if a then 1 else 0) == b
 | .int a,.bl b=>a == (if b then 1 else 0)
 | .int a,.int b=>a == b
 | .str a,.str b=>a == b
 | _,_=>false
theorem Q_{s:Shared}{x:V}(e:RelV y u)(c:RelV x v)(fy:qg y=true)(fx:qg x=true):SeqAt.EqAt A s u v (eqV y x):=by
 cases y with
 | non=>
  cases e;cases x with
  | non=>cases c;exact ac2 _
  | bl b=>cases c;exact SeqAt.EqAt.none_bool b
  | int b=>let#[t,rfl]:=c;exact SeqAt.EqAt.none_int b t
  | str b=>let#[t,rfl]:=c;exact SeqAt.EqAt.none_str b t
  | _=>exact absurd (show false=true from fx) ic
 | bl a=>
  cases e;cases x with
  | non=>cases c;exact SeqAt.EqAt.bool_none a
  | bl b=>cases c;exact SeqAt.EqAt.bool_bool a b
  | int b=>let#[t,rfl]:=c;exact SeqAt.EqAt.bool_int a b t
  | str b=>let#[t,rfl]:=c;exact SeqAt.EqAt.bool_str a b t
  | _=>exact absurd (show false=true from fx) ic
 | int a=>
  let#[d,rfl]:=e;cases x with
  | non=>cases c;exact SeqAt.EqAt.int_none a d
  | bl b=>cases c;exact SeqAt.EqAt.int_bool a d b
  | int b=>let#[t,rfl]:=c;exact SeqAt.EqAt.int_int a d b t
  | str b=>let#[t,rfl]:=c;exact ai1 a d b t
  | _=>exact absurd (show false=true from fx) ic
 | str a=>
  let#[d,rfl]:=e;cases x with
  | non=>cases c;exact SeqAt.EqAt.str_none a d
  | bl b=>cases c;exact SeqAt.EqAt.str_bool a d b
  | int b=>let#[t,rfl]:=c;exact ai2 a d b t
  | str b=>let#[t,rfl]:=c;exact SeqAt.EqAt.str_str a d b t
  | _=>exact absurd (show false=true from fx) ic
 | _=>exact absurd (show false=true from fy) ic
noncomputable def eqU (x:V)(u:Value):Bool:=match u with
 | .none=>eqV .non x
 | .bool b=>eqV (.bl b) x
 | .int i _=>eqV (.int i) x
 | .str z _=>eqV (.str z) x
 | _=>false
theorem Iy{x:V}(r:RelV y u)(f:qg y=true):eqU x u=eqV y x:=by
 cases y with
 | non=>cases r;rfl
 | bl b=>cases r;rfl
 | int i=>let#[t,rfl]:=r;rfl
 | str z=>let#[t,rfl]:=r;rfl
 | _=>exact absurd (show false=true from f) ic
theorem tX {x:V}:∀ {xs:List V} {us:Lv0},Vals xs us->xs.all qg=true->us.any (eqU x)=xs.any λy=>eqV y x
 | _,_,.nil,_=>rfl
 | y::xs,u::us,.cons r t,f=>by
  rw[YX,eN] at f;rw[List.any_cons,List.any_cons,Iy r f.1,tX t f.2]
theorem oy {A:Around}{s:Shared}{x:V}{v:Value}(a:RelV x v)(fx:qg x=true):∀ {xs:List V} {us:Lv0},Vals xs us->xs.all qg=true->∀ u∈us,SeqAt.EqAt A s u v (eqU x u)
 | _,_,.nil,_=>λu hu=>by cases hu
 | y::xs,u::us,.cons r t,f=>λb hu=>by
  rw[YX,eN] at f;rcases dk.mp hu with rfl | hu
  .rw[Iy r f.1];exact Q_ r a f.1 fx
  .exact oy a fx t f.2 b hu
noncomputable def inV (x:V)(xs:List V):Bool:=xs.any λy=>eqV y x
def rIn (K:Fg0)(a:Bool):R2:=λx y H Q=>∃ p xs,y=.ref p/\(SqL K H p xs\/SqT K H p xs)/\qg x=true/\xs.all qg=true/\Q (.bl (if a then !inV x xs else inV x xs)) H
theorem E5:OpR X (Fk .In) (rIn X.K false):=by
 intro e s i H x y v u Q I d f h;let#[p,j,rfl,hq,fx,fs,q]:=h;cases f;rcases hq with hq | hq
 .let#[a,r,b,g]:=I.list hq;refine SeqAt.in_listAt (eqU x) b.isList (λw c=>oy d fx r fs w (by simpa using c)) #[.bl _,H,I,rfl,?_];rw[show a.toArray.any (eqU x)=a.any (eqU x) by simp,tX r fs];exact q
 .let#[a,r,b,g]:=I.tuple hq;refine SeqAt.in_tupleAt (eqU x) b (λw c=>oy d fx r fs w (by simpa using c)) #[.bl _,H,I,rfl,?_];rw[show a.toArray.any (eqU x)=a.any (eqU x) by simp,tX r fs];exact q
theorem zN:OpR X (Fk .NotIn) (rIn X.K true):=by
 intro e s i H x y v u Q I d f h;let#[p,j,rfl,hq,fx,fs,q]:=h;cases f;rcases hq with hq | hq
 .let#[a,r,b,g]:=I.list hq;refine SeqAt.notIn_listAt (eqU x) b.isList (λw c=>oy d fx r fs w (by simpa using c)) #[.bl _,H,I,rfl,?_];rw[show a.toArray.any (eqU x)=a.any (eqU x) by simp,tX r fs];exact q
 .let#[a,r,b,g]:=I.tuple hq;refine SeqAt.notIn_tupleAt (eqU x) b (λw c=>oy d fx r fs w (by simpa using c)) #[.bl _,H,I,rfl,?_];rw[show a.toArray.any (eqU x)=a.any (eqU x) by simp,tX r fs];exact q
theorem Ah:cJ X (.builtin "len") (λxs H Q=>∃ p ys,xs=[.ref p]/\(SqL X.K H p ys\/SqT X.K H p ys)/\Q (.int ys.length) H):=by
 intro e s i H xs j Q I r h;let#[p,ys,rfl,hq,q]:=h;let#[u,rfl,f]:=vals1 r;cases f;have k:=uj;rcases hq with hq | hq
 .let#[d,b,c,g]:=I.list hq;have a:=b.length;exact Calls.call_len_list c.isList (by simp only[eR] <;> lia) #[.int ys.length,H,I.tok _,#[s.toks + 1,by rw[eR,a]],q]
 .let#[d,b,c,g]:=I.tuple hq;have a:=b.length;exact len_tuple c (by simp only[eR] <;> lia) #[.int ys.length,H,I.tok _,#[s.toks + 1,by rw[eR,a]],q]
theorem Ag:cJ X (.builtin "len") (λxs H Q=>∃ z,xs=[.str z]/\z.length<=sizeLine/\Q (.int z.length) H):=by
 intro a s b H xs c Q I r h;let#[z,rfl,d,q]:=h;let#[u,rfl,t,rfl]:=vals1 r;have e:=uj;exact len_str (by lia) #[.int z.length,H,I.tok _,#[_,rfl],q]
theorem cJ.or{f:Value}{r e:List V->Hp->VK->Prop}(h:cJ X f r)(h':cJ X f e):cJ X f (λxs H Q=>r xs H Q\/e xs H Q):=by
 intro a s b H xs c Q I d q;rcases q with q | q
 .exact h a s b H xs c Q I d q
 .exact h' a s b H xs c Q I d q
theorem Af:cJ X (.type "list") (λxs H Q=>∃ p ys,xs=[.ref p]/\(SqL X.K H p ys\/SqT X.K H p ys)/\∀ l,H l=none->Q (.ref l) (upd H l (.lst ys))):=by
 intro g s x H xs z Q I r h;let#[p,ys,rfl,hq,q]:=h;let#[u,rfl,y]:=vals1 r;cases y;have fin:∀ (a:Lv0),Vals ys a->ys.length<=sizeLine->∀ (c:Heap) (f:Nat),(∀ b w,s.heap.get? b=some w->c.get? b=some w)->
   c.get? s.heap.objs.size=some { cls:=.type "list",dict:=none,data:=.seq a.toArray f,slots:=#[] }->EP X g x Q (.ref s.heap.objs.size) { s with heap:=c }:=λa d j c f i e=>
  #[.ref s.heap.objs.size,_,I.laid (t':=s.toks) i (cc _) (show cQ X.prog X.w _ c _ (.lst ys) from #[j,a,f,d,e]),rfl,q _ (I.hok.fresh (cc _))]
 rcases hq with hq | hq
 .let#[a,d,m,j]:=I.list hq;have k:=d.length;let#[o,t,v,n,hd]:=m.isList;exact call_list_seq p (.inl rfl) t v hd (λc f i e=>fin a d j c f i e) (by simp only[eR] <;> lia)
 .let#[a,d,m,j]:=I.tuple hq;have k:=d.length;let#[o,t,v,n,hd]:=m;exact call_list_seq p (.inr rfl) t v hd (λc f i e=>fin a d j c f i e) (by simp only[eR] <;> lia)
theorem xS:cJ X (.type "tuple") (λxs H Q=>∃ p ys,xs=[.ref p]/\((SqL X.K H p ys/\∀ l,H l=none->Q (.ref l) (upd H l (.tup ys)))\/(SqT X.K H p ys/\Q (.ref p) H))):=by
 intro a s j H xs x Q I r h;let#[p,ys,rfl,h]:=h;let#[u,rfl,t]:=vals1 r;cases t;rcases h with ⟨i,q⟩ | ⟨i,q⟩
 .let#[c,f,g,k]:=I.list i;have m:=f.length;refine call_tuple_list g.isList (λd v=>?_) (by simp only[eR] <;> lia);have n:Inv X a j H { s with heap:=d }:=I.kept (t':=s.toks) v;have w:Inv X a j (upd H d.objs.size (.tup ys)) { s with heap:=d.push { cls:=.type "tuple",data:=.seq c.toArray } }:=
   n.laid (t':=s.toks) (λb o e=>av _ e) (cc _) (show cQ X.prog X.w _ _ _ (.tup ys) from #[k,c,f,am0 _ _])
  exact#[.ref d.objs.size,_,w,rfl,q _ (n.hok.fresh (cc _))]
 .let#[c,f,g,k]:=I.tuple i;exact call_tuple_same g #[.ref p,H,I,rfl,q]
def tyV (K:Fg0)(T:String)(x:V)(H:Hp):Prop:=match x with
 | .str _=>T="str"
 | .int _=>T="int"
 | .ref p=>(T="list"/\∃ xs,SqL K H p xs)\/(T="tuple"/\∃ o,K.lookup p=some o/\o.cls=.type "tuple"/\o.dict=none)\/
   (T="dict"/\((∃ kvs,H p=some (.dK kvs))\/∃ kvs,H p=some (.dT kvs)))\/(T="set"/\∃ S n,H p=some (.set S n))
 | _=>False
theorem N9{d:Pn0}{s:Shared}{T:String}{x:V}(I:Inv X d σ H s)(r:RelV x v)(ty:tyV X.K T x H) :
  s.TypeIs v T/\∀ a,v=.ref a->∃ j,s.heap.get? a=some j/\j.dict=none:=by
 cases x with
 | str z=>
  let#[t,rfl]:=r;cases (show T="str" from ty);exact#[Ym s z t,λ_ e=>nomatch e]
 | int i=>
  let#[t,rfl]:=r;cases (show T="int" from ty);exact#[typeIs_int s i t,λ_ e=>nomatch e]
 | ref p=>
  cases r;rcases ty with ⟨rfl,q,l⟩ | ⟨rfl,o,hk,m,hd⟩ | ⟨rfl,hk⟩ | ⟨rfl,S,n,hk⟩
  .let#[k,_,h,_]:=I.list l;refine#[h.isList.typeIs,λa e=>?_];cases e;let#[o,n,e,c,hd,_]:=h;exact#[o,e,hd]
  .refine#[#[o,I.kIn p o hk,m],λa e=>?_];cases e;exact#[o,I.kIn _ o hk,hd]
  .have z:∃ o,s.heap.get? p=some o/\o.ExactDict:=by
    rcases hk with ⟨f,hk⟩ | ⟨f,hk⟩
    .let#[_,_,_,_,o,_,_,e,b,_]:=I.hok p _ hk;exact#[o,e,b]
    .let#[_,_,_,_,o,_,_,e,b,_]:=I.hok p _ hk;exact#[o,e,b]
   let#[o,e,b]:=z;refine#[#[o,e,b.1],λa g=>?_];cases g;exact#[o,e,b.2.1]
  .let#[o,_,_,_,e,b,_]:=I.hok p _ hk;refine#[#[o,e,b.1],λa g=>?_];cases g;exact#[o,e,b.2.1]
 | _=>exact ke ty
def tBM (K:Fg0)(T:String)(r:V->List V->Hp->VK->Prop)(a:TE)(t:TA):TE:=λσ H Q=>a σ H λx H1=>tyV K T x H1/\t σ H1 λxs H2=>r x xs H2 Q
variable {e:Expr}{to:TE}{T id:String}{r:V->List V->Hp->VK->Prop}
theorem uL(A:PlainAttrs T)(f:Slot T name id)(j:typeOf (.builtin id)=pure (.type "method_descriptor"))(D:MtR X id r)(C:PE X o to)(E:PA X (e::es) t)(d:autoParam (vr o name X.env (eval o X.env)=eval o X.env) wE)(g:autoParam (((backTo cpos (bp (e::es) X.env)).all (λx=>!x.1) && (Wm cpos (DM [] X.env)).all (λx=>x.1.isSome)
   && decide ((e::es).length + ([]:List Wn).length + (if ([]:List Wn).isEmpty then 0 else 1) < 30))=true) wE)(c:autoParam ((apos.endLine == cpos.line)=true) wE)(B:autoParam (Vjk X e es) wE)(b:autoParam ((backTo cpos (bp es X.env)).any (·.1)=false) wE) :
  PE X (.Call (.Attribute o name apos) (e::es) [] cpos) (tBM X.K T r to t):=by
 intro a s i H Q I h;refine wpAny_Call_method_late d g c rfl (thn (C a s i H _ I h) λv u Z=>?_);let#[x,L,m,k,ty,z]:=Z;let#[G,F]:=N9 m k ty;refine#[T,id,A,f,j,G,F,?_];have l:=E cpos a u i L _ m z;rw[B] at l ⊢;refine ac9 (by show (false || (backTo cpos (bp es X.env)).any (·.1))=false;rw[b] <;> rfl) (af5 ?_);exact thn l λp q ⟨n,K,J,w,y⟩=>D a q i K x n v p Q J k w y
end
def MtM (X:Cx)(id:String)(r:V->List V->Hp->VK->Prop):Prop:=
 ∀ (pins:Pn0) (s:Shared) (σ:St) (H:Hp) (x:V) (xs:List V) (v:Value) (us:Lv0) (Q:VK),Inv X pins σ H s->RelV x v->Vals xs us->r x xs H Q->
  wpAny (model X.prog X.w) X.A (call (.builtin id) (v::us)) (EP X pins σ Q) X.xe s
theorem Vals.one{x:V}(h:Vals [x] us):∃ u,us=[u]/\RelV x u:=by
 cases h with
 | cons r t=>cases t;exact#[_,rfl,r]
theorem Vals.rep(h:Vals xs us):∀ k:Nat,Vals (bw k xs).flatten (bw k us).flatten
 | 0=>.nil
 | k + 1=>by
  rw[rd,rd,Tf,Tf];exact Vals.append h (Vals.rep h k)
theorem foldl_rep (a:Lv0):∀ (k:Nat) (acc:Lv0),
  ap4 (λx1 x2=>x1++x2) acc.toArray (bw k a.toArray)=(acc++(bw k a).flatten).toArray
 | 0,acc=>by simp
 | k + 1,acc=>by
  have e:acc.toArray++a.toArray=(acc++a).toArray:=by simp
  have b:(acc++a)++(bw k a).flatten=acc++(bw (k + 1) a).flatten:=by
   rw[rd,Tf,nR]
  rw[<- b,<- foldl_rep a k (acc++a),<- e,rd,Ze]
section
variable {pins:Pn0}{s:Shared}{b:Addr}{ys zs:List V}
theorem Inv.T8{f:Array Value->Array Value}(I:Inv X pins σ H s)(h:H l=some (.lst xs))(e:s.heap.get? l=some { cls:=.type "list",data:=.seq its.toArray n })(d:f its.toArray=its'.toArray)(b:Vals ys its')(a:ys.length<=sizeLine) :
  Inv X pins σ (upd H l (.lst ys)) { s with heap:=s.heap.update l (ZA f),toks:=t' }:=by
 have q:=PySem.IsL.update e f;rw[d] at q;refine I.write (x:=l) (e:=l) (by rw[h];exact trivial) (.inl rfl) (λi u g c=>(gm s.heap (ZA f) (ky g)).trans c) #[_,q] ?_;exact#[a,its',_,b,q]
theorem Inv.P4(I:Inv X pins σ H s)(b:Vals ys its)(a:ys.length<=sizeLine) :
  Inv X pins σ (upd H s.heap.objs.size (.lst ys)) { s with heap:=s.heap.push { cls:=.type "list",data:=.seq its.toArray },toks:=t' }:=
 I.laid (λ_ _ q=>av _ q) (cc _) #[a,its,0,b,er _ rfl]
theorem Inv.fresh(I:Inv X pins σ H s):H s.heap.objs.size=none:=I.hok.fresh (cc _)
theorem Inv.Fi(I:Inv X pins σ H s)(a:H l=some (.lst xs)):xs.length<=sizeLine/\∃ (its:Lv0) (n:Nat),Vals xs its/\xs.length=its.length/\s.heap.get? l=some { cls:=.type "list",data:=.seq its.toArray n }:=by
 let#[z,its,n,r,e]:=I.hok l _ a;exact#[z,its,n,r,r.length,e]
theorem Be(h:n<=sizeLine):WT n=false:=by
 unfold WT;exact decide_eq_false (by lia)
end
noncomputable def zB:V->List V->Hp->VK->Prop:=λx vs H Q=>∃ l xs y,x=.ref l/\vs=[y]/\H l=some (.lst xs)/\xs.length < sizeLine/\Q .non (upd H l (.lst (xs++[y])))
theorem Fe:MtM X "list.append" zB:=by
 intro b s i H x k v m Q I d f h;let#[l,j,y,rfl,rfl,c,o,q]:=h;cases d;let#[u,rfl,g]:=f.one;let#[z,a,n,r,p,e]:=I.Fi c;refine Yn ae4 #[_,e,rfl] F.entry_list_append (F.args_list_append_2 _ _) (PySem.list_append l a.toArray n u (by rw[eR];lia)) #[e,?_];refine#[.non,_,I.T8 (its':=a++[u]) c e (by simp) (r.append (.cons g .nil)) ?_,rfl,q];rw[cn,ae5];lia
noncomputable def zA:V->List V->Hp->VK->Prop:=λx vs H Q=>∃ l b xs zs,x=.ref l/\vs=[.ref b]/\H l=some (.lst xs)/\H b=some (.lst zs)/\xs.length + zs.length<=sizeLine/\Q .non (upd H l (.lst (xs++zs)))
theorem Fd:MtM X "list.extend" zA:=by
 intro g s A H x D v E Q I j k h;let#[l,b,C,B,rfl,rfl,i,w,G,q]:=h;cases j;let#[u,rfl,m]:=k.one;cases m;let#[z,c,n,r,J,e]:=I.Fi i;let#[z2,a,p,o,t,y]:=I.Fi w;have f:c.toArray.size + a.toArray.size<=sizeLine:=by rw[eR,eR];lia
 have d:¬ (!c.toArray.isEmpty && WT (c.toArray.size + a.toArray.size))=true:=by
  rw[Be f,YD];exact ic
 refine Yn ae6 #[_,e,rfl] F.entry_list_extend (F.args_list_extend_2 _ _)
  (AutoSeq1.list_extend_list_list_0 l c.toArray n b a.toArray p d (by rw[eR];lia) (by lia)) #[e,y,?_]
 refine#[.non,_,I.T8 (its':=c++a) i e (by simp) (r.append o) ?_,rfl,q];rw[cn];lia
def S2:R2:=λx y H Q=>∃ l b xs zs,x=.ref l/\y=.ref b/\H l=some (.lst xs)/\H b=some (.lst zs)/\xs.length + zs.length<=sizeLine/\∀ p,H p=none->Q (.ref p) (upd H p (.lst (xs++zs)))
theorem Px:OpR X (XA .Add) S2:=by
 intro d s t H x y v u Q I g f h;let#[l,b,A,w,rfl,rfl,k,m,C,q]:=h;cases g;cases f;let#[z,c,n,r,D,e]:=I.Fi k;let#[z2,a,B,i,j,p]:=I.Fi m;refine PySem.P.add_list e p ?_ (by rw[eR,eR];lia);have o:c.toArray++a.toArray=(c++a).toArray:=by simp
 rw[o];exact#[.ref _,_,I.P4 (t':=s.toks) (r.append i) (by rw[cn];lia),rfl,q _ I.fresh]
def OR:R2:=λx y H Q=>∃ l k xs,x=.ref l/\y=.int k/\H l=some (.lst xs)/\-(2 ^ 63)<=k/\k < 2 ^ 63/\xs.length * k.toNat<=sizeLine/\
 ∀ p,H p=none->Q (.ref p) (upd H p (.lst (bw k.toNat xs).flatten))
theorem len_rep{a:Type}(xs:List a)(k:Nat):(bw k xs).flatten.length=k * xs.length:=by
 induction k with
 | zero=>simp
 | succ k b=>rw[rd,Tf,cn,b,Nat.succ_mul,ak3]
theorem Pn:OpR X (XA .Mult) OR:=by
 intro p s L H x y v u Q I C B h;let#[l,k,M,rfl,rfl,E,J,G,w,q]:=h;cases C;let#[t,rfl]:=B;let#[z,b,n,r,D,e]:=I.Fi E;have f:b.toArray.size * k.toNat<=sizeLine:=by rw[eR,<- D];exact w
 have i:¬ b.toArray.size * k.toNat > (2 ^ 63 - 1) / 8:=by
  have:(sizeLine:Nat)<=(2 ^ 63 - 1) / 8:=by decide
  lia
 have g:¬ (!Builtin.List.listFitsIndex k)=true:=by
  rw[fitsIndex_both J G];exact ic
 have c:¬ WT (b.toArray.size * k.toNat)=true:=by
  rw[Be f];exact ic
 have d:ap4 (λo j=>o++j) #[] (bw (if b.toArray.isEmpty=true then 0 else k.toNat) b.toArray)=(bw k.toNat b).flatten.toArray:=by
  have K:∀ m:Nat,ap4 (λo j=>o++j) #[] (bw m b.toArray)=(bw m b).flatten.toArray:=λm=>by
   have:=foldl_rep b m [];rw[Os] at this;exact this
  rw[K];cases b with
  | nil=>simp
  | cons a N=>rw[if_neg (by simp)]
 refine wpAny_binaryOp_repeat_ref (T:="list") (U:="int") (by decide) #[_,e,rfl] (λA=>typeIs_int A k t) noFill_list_mul F.fills_int_mul F.slot_int_rmul repeat_list F.slot_int_index.lookup
  (Yn F.slot_int_rmul (typeIs_int s k t) F.entry_int_rmul (F.args_int_rmul_2 _ _) (int___rmul___int_list k t l b.toArray n)
   #[e,rfl,#[_,e,rfl],Yn F.slot_list_mul #[_,e,rfl] F.entry_list_mul (F.args_list_mul_2 _ _) (AutoListH.list___mul___list_int_3 l b.toArray n k t g i c) #[e,?_]])
 rw[d];exact#[.ref _,_,I.P4 (t':=s.toks) (r.rep k.toNat) (by rw[len_rep,Nat.mul_comm];exact w),rfl,q _ I.fresh]
section
variable {h:Heap}
theorem SS{u:HO}(ok:HOk P w H h)(e:Rd H a u):cQ P w H h a u:=e.ok ok
theorem U3(ok:HOk P w H h)(e:Rd H a (.dK kvs)):kvs.length<=sizeLine/\(a == Yk)=false/\∃ vs,KV kvs vs/\h.DictOf (vM P w) a vs:=
 show cQ P w H h a (.dK kvs) from SS ok e
theorem NA(ok:HOk P w H h)(e:H a=some (.dK kvs)):kvs.length<=sizeLine/\(a == Yk)=false/\∃ vs,KV kvs vs/\h.DictOf (vM P w) a vs:=U3 ok (.inl e)
end
section
variable {pins:Pn0}{s:Shared}{v:V}{r:Value}{o:Option V}{E:VS0}
theorem Inv.big(I:Inv X pins σ H s):Yk < s.heap.objs.size:=by
 have h:eB < s.heap.objs.size:=(I.mod.glob.keeps I.bk).lt;exact ak4 (by decide) h
end
theorem IJ(h:Heap)(a:Yk < h.objs.size):cQ P w H (h.push { cls:=.type "dict",data:=.dict #[] }) h.objs.size (.dK []):=
 #[rx _,beq_eq_false_iff_ne.mpr (ky (jz a)),[],.nil,Heap.DictOf.new h]
def Gn:TE:=λ_ H Q=>∀ p,H p=none->Q (.ref p) (upd H p (.dK []))
theorem Hd:PE X (.Dict [] [] pos) Gn:=λb s c H Q I h=>
 wpAny_Dict_empty #[.ref s.heap.objs.size,_,I.laid (a:=s.heap.objs.size) (o:=.dK []) (t':=s.toks) (λ_ _ q=>av _ q) (cc _) (IJ s.heap I.big),rfl,h _ (I.hok.fresh (cc _))]
end _2
namespace _a
open PySem PySem.W PySem.Calls PyProof.Rows
theorem vA{P:Params}{h:Heap}:∀ (ns:Li0) (vs:Lv0),WellAll P h vs (ns.map WData.int)->ap1 vs ns:=by
 intro ns
 induction ns with
 | nil=>
  intro vs w;rw[Wp] at w;cases w;exact .nil
 | cons n ns c=>
  intro vs w;rw[gr] at w;cases w with
  | cons a b=>
   cases a;exact .cons _ _ (c _ b)
theorem EG{l:Za}(u:l.most=some n){P:Params}{h:Heap}{args:List WData}{b:Lv0}(c:l.row.toRowW.claim.pre args=true)(j:WellAll P h b args) :
  ∃ a vs ns,b=[fS a]/\args=[WData.list (ns.map WData.int)]/\h.get? a=some { cls:=.type "list",data:=.seq vs.toArray }/\ap1 vs ns/\ns.length<=n:=by
 have k:WShape.hasAll [] args [.list .int]=true:=(pre_splitW c).1;have m:l.pre.holds [] { args:=args }=true:=(pre_splitW c).2;let#[d,r,rfl,x,w]:=hasAllW_cons k;obtain rfl:=hasAllW_nil w;let#[y,rfl,v]:=hasW_list x;let#[ns,rfl]:=items_int v;have e:ns.length<=n:=by
  unfold OpenLaw.pre at m;have i:(WTm.not (.lt (.lit (.int (n:Int))) (.len (.arg 0)))).holds [] { args:=[.list (ns.map .int)] }=true:=by
   have i:=(holds_andW m).1;rw[u] at i;exact i
  have g:=condW_of i (w_not (w_lt w_lit (w_len_list (w_arg rfl))));rw[lM0] at g;refine am4 λq=>?_;have s:(n:Int) < ((ns.length:Nat):Int):=by lia
  first
   | (rw[decide_eq_true s] at g;exact absurd g (by decide))
   | (simp at g;lia)
 cases j with
 | cons p o=>
  cases o;cases p with
  | list t f=>exact#[_,_,ns,rfl,rfl,t,vA ns _ f,e]
theorem ER(l:Za)(args:List WData):l.row.toRowW.claim.post args (.bool true) args=true:=
 postW_of (r:=l.row.toRowW) (X:=(true == true))
  (show WShape.has [] (.bool true) .bool=true by first | rfl | decide | simp [WShape.has,WShape.arms,WShape.armsAll])
  (show (WTm.eq .res (.lit (.bool true))).value [] { args:=args,res:=some (.bool true),after:=args }=some (.bool (true == true)) from w_eq_bool (w_res rfl) w_lit) rfl
theorem BL{l:Za}{q:Pv}{c:Ls0}{XP:(SV0)->Heap->Prop}{A:World->Heap->Prop}{d:DefRec}(E:l.most=some n)(u:d.params.defaults=[])(call:∀ (w:World) (ab b:Shared) (mg p:SV0) (k:Addr) (o:Obj) (m cd g:Value) (a:Addr) (vs:Lv0) (ns:Li0),
   Ground q c [] XP w ab mg p b.heap->A w b.heap->
   b.heap.get? k=some o->o.data=.func (docDef d.name d.params d.body d.scope m cd g)->b.heap.CodeRec cd d.name->mg d.name=some (.ref k)->
   b.heap.get? a=some { cls:=.type "list",data:=.seq vs.toArray }->ap1 vs ns->ns.length<=n->b.gens=#[]->
   FU (model l.prog w) ah0 (.call (.ref k) #[[.ref a],[]]) (λr s'=>r=.ok (.ret (.bool true))/\OldK b.heap s'.heap/\s'.os=b.os/\Yy s'.gens) b) :
  WalkO q c XP A l.row.toRowW d [] (λf vs=>ap5 f vs):=by
 intro w ab b mg p G Y k o m cd g M kV D hd v z t I args x N h y B s H;obtain rfl:M=.none:=Dflts.none z u;obtain rfl:kV=.none:=Dflts.noKw z;let#[a,vs,ns,rfl,rfl,i,e,j]:=EG E h s;refine enter_call (Sa (call w ab b mg p k o m cd g a vs ns G Y D (fd_plain hd) v t i e j I) λr s' C=>?_);let#[rfl,L,K,J]:=C;exact#[.inl #[.bool true,.bool true,[],rfl,λ_=>rfl,.bool true,ER l _,λ_=>#[List.Pairwise.nil,λ_ F=>(nomatch F)]],L,K,J]
end _a
namespace _2
open PySem PySem.Spec PyProof.Rows
theorem xZ:∀ {vs:Lv0} {ns:Li0},ap1 vs ns->Vals (ns.map V.int) vs
 | _,_,.nil=>.nil
 | _,_,.cons n t h=>.cons #[t,rfl] (xZ h)
def Ry (H:Hp):Prop:=∀ b,H b=none\/(∃ o xs,H b=some (.frz o (.lst xs)))\/∃ ps,H b=some (.tbl ps)
noncomputable def inClass (s:Stmt)(j:Nat):Stmt:=match s with
 | .ClassDef _ _ _ body _ _ _ _ _ _ _=>body.getD j (.Pass #[0,0,0,0])
 | _=>.Pass #[0,0,0,0]
noncomputable def pE (s:Stmt):Arguments:=match s with
 | .FunctionDef _ a _ _ _ _ _ _ _ _=>a
 | _=>{ posonlyargs:=[],args:=[],vararg:=none,kwonlyargs:=[],kw_defaults:=[],kwarg:=none,defaults:=[] }
noncomputable def hV (s:Stmt):List Stmt:=match s with
 | .FunctionDef _ _ b _ _ _ _ _ _ _=>b
 | _=>[]
noncomputable def aj (s:Stmt):Scope:=match s with
 | .FunctionDef _ _ _ _ _ _ sc _ _ _=>sc
 | _=>{ kind:=.function,names:=[],isGenerator:=false,isCoroutine:=false }
abbrev CX0:CXT:=λ_ _ _ _ _ _=>False
abbrev E0:XK:=λ_ _ _=>False
theorem yi:Passes CX0 X E0:=λ_ _ _ _ _ _ _ h=>h.elim
structure Fun (K:Fg0) (x qual:Str) (st:Stmt) (f:Addr) (fd:et):Prop where
 ex:∃ (oc:Value) (od:Option Addr) (kV doc pm:Value) (an:Option Addr) (cdv ct:Value) (osl:Array (Option Value)),
  fd=Xl x qual (pE st) (hV st) (aj st) .none kV doc pm an cdv ct/\K.lookup f=some #[oc,od,.func fd,osl]/\af4 K cdv qual=true
 kp:kv K (.ref f)=true
section
variable {mg:SV0}
theorem Fun.ok{x:Str}{sp:Sp}(F:Fun K x qual st f fd)(S:aC N ps (aj st))(len:∀ vs H Q E,sp vs H Q E->vs.length=ps.length)(hbody:∀ (a:Value) (A:Around) (outer:List Env) (s:Shared) (H:Hp) (vs:List V) (Q:VK) (E:XK),cy k (A.deeper (envOfC qual (aj st) s.heap.objs.size f a))->sp vs H Q E->
   ∃ t,PSs (lA CX0 P w K mg base N qual (aj st) f a A outer s H E).nox (hV st) t/\t { nx:=λ_ H'=>Q .non H',rt:=Q } (start N vs) H):aT P w K mg base CX0 (k + 1) f fd ps sp:=by
 let#[l,j,kV,g,i,n,a,m,d,rfl,lk,c]:=F.ex;refine Nx lk c S len λA outer s H vs Q E e b=>?_;let#[t,h,q]:=hbody a A outer s H vs Q E e b;exact#[t,h.nox,q]
theorem Fun.binds{x:Str}(F:Fun K x qual st f fd)(h:∀ (kV a c:Value) (e:Option Addr) (b d:Value) (us:Lv0),us.length=ps.length->bindArgs (Xl x qual (pE st) (hV st) (aj st) .none kV a c e b d) #[us,[]]=pure (ps.zip us)):Binds K fd ps []:=by
 let#[k,j,kV,a,c,e,b,d,g,rfl,lk,i]:=F.ex;exact .all (h kV a c e b d)
theorem Iq{x:Str}{h:Value}{od g:Option Addr}{kV b d a e:Value}(l:K.lookup f=some #[h,od,.func (Xl x qual (pE st) (hV st) (aj st) .none kV b d g a e),osl])(c:af4 K a qual=true)(k:kv K (.ref f)=true):Fun K x qual st f (Xl x qual (pE st) (hV st) (aj st) .none kV b d g a e):=#[#[h,od,kV,b,d,g,a,e,osl,rfl,l,c],k]
end
theorem CN{A B:Prop}(h:B):if false=true then A else B:=by
 rw[if_neg ic];exact h
theorem CM{A B:Prop}(h:A):if true=true then A else B:=by
 rw[if_pos rfl];exact h
def aS (H a:Hp):Prop:=∀ b o,H b=some o->a b=some o
theorem aS.refl(H:Hp):aS H H:=λ_ _ h=>h
theorem aS.trans(a:aS H H1)(b:aS H1 H2):aS H H2:=λc o h=>b c o (a c o h)
theorem aS.seq(e:aS H H')(h:SqL K H a xs):SqL K H' a xs:=by
 rcases h with (h | ⟨o,h⟩) | h
 .exact .inl (.inl (e _ _ h))
 .exact .inl (.inr #[o,e _ _ h])
 .exact .inr h
noncomputable def takes (cells:List (Str×Addr)):List (Str×KM)->List (Str×Addr)->List (Str×Addr)
 | [],acc=>acc
 | (n,k)::r,acc=>takes cells r (if k=kx then (n,(cells.lookup n).getD 0)::acc else acc)
theorem xR(h:∀ y∈sc.names,y.2=.free->∃ c,env.cells.lookup y.1=some c):closureFor sc env=pure (takes env.cells sc.names []):=by
 have m:∀ (l:List (Str×KM)) (acc:List (Str×Addr)),(∀ y∈l,y.2=.free->∃ c,env.cells.lookup y.1=some c)->
   (forIn l acc (λ(x:Str×KM) (b:List (Str×Addr))=>match x with
    | (name,kind)=>if (kind == kx)=true then do let c <- cellOf env name;pure (VX ((name,c)::b)) else pure (VX b)):Sem (List (Str×Addr)))=pure (takes env.cells l acc):=by
  intro l
  induction l with
  | nil=>intro acc _;rfl
  | cons x l g=>
   intro acc e;let#[n,k]:=x;rw[Xq];by_cases hk:k=kx
   .subst hk;let#[c,i]:=e (n,.free) eH rfl;have a:env.cells.lookup n=some c:=i;have o:cellOf env n=pure c:=by unfold cellOf;rw[a]
    have f:takes env.cells ((n,kx)::l) acc=takes env.cells l ((n,c)::acc):=by
     show takes env.cells l (if kx=kx then (n,(env.cells.lookup n).getD 0)::acc else acc)=_;rw[if_pos rfl,a]
     rfl
    rw[f,<- g ((n,c)::acc) λy d=>e y (cb _ d)];show ((if (kx == kx)=true then (do let c <- cellOf env n;pure (VX ((n,c)::acc))) else pure (VX acc)) >>= _)=_;rw[if_pos (by decide),o,pure_bind,pure_bind]
   .have f:takes env.cells ((n,k)::l) acc=takes env.cells l acc:=by
     show takes env.cells l (if k=kx then _ else acc)=_;rw[if_neg hk]
    have j:(k == kx)=false:=by simpa using hk
    rw[f,<- g acc λy d=>e y (cb _ d)];show ((if (k == kx)=true then _ else pure (VX acc)) >>= _)=_;rw[j,if_neg ic,pure_bind]
 have:=m sc.names [] h;unfold closureFor
 first
  | exact(congrArg (λz=>z >>= λb=>pure b) this).trans (pure_bind _ _)
  | exact this
  | simpa using this
theorem x5 {cells:List (Str×Addr)}{n:Str}{c:Addr}:∀ (names:List (Str×KM)) (acc:List (Str×Addr)),(takes cells names acc).lookup n=some c->
  acc.lookup n=some c\/((n,kx)∈names/\c=(cells.lookup n).getD 0)
 | [],_,h=>.inl h
 | (m,k)::r,acc,h=>by
  rcases x5 r _ h with q | ⟨b,a⟩
  .by_cases hk:k=kx
   .rw[if_pos hk] at q;subst hk;by_cases e:n=m
    .subst e;rw[eS,beq_self_eq_true] at q;exact .inr #[eH,(gT q).symm]
    .have:(n == m)=false:=by simpa using e
     rw[eS,this] at q;exact .inl q
   .rw[if_neg hk] at q;exact .inl q
  .exact .inr #[cb _ b,a]
theorem x9 {cells:List (Str×Addr)}{n:Str}:∀ (names:List (Str×KM)) (acc:List (Str×Addr)),(acc.lookup n).isSome=true->((takes cells names acc).lookup n).isSome=true
 | [],_,h=>h
 | (m,k)::r,acc,h=>by
  refine x9 r _ ?_;by_cases hk:k=kx
  .rw[if_pos hk];cases e:n == m with
   | true=>rw[eS,e];rfl
   | false=>rw[eS,e];exact h
  .rw[if_neg hk];exact h
theorem t7 {cells:List (Str×Addr)}{n:Str}:∀ (names:List (Str×KM)) (acc:List (Str×Addr)),(n,kx)∈names->((takes cells names acc).lookup n).isSome=true
 | [],_,h=>by simp at h
 | (m,k)::r,acc,h=>by
  rcases dk.mp h with e | h
  .cases e;refine x9 r _ ?_;rw[if_pos rfl,eS,beq_self_eq_true]
   rfl
  .exact t7 r _ h
structure Blk (N:Ls0) (osc sc:Scope) (Nc:Ls0) (fr:On):Prop where
 kind:sc.kind=.function
 own:∀ y∈sc.names,y.2=.cell->sc.names.lookup y.1=some .cell
 free:∀ y∈sc.names,y.2=.free->osc.names.lookup y.1=some .cell\/osc.names.lookup y.1=some .free
 locs:∀ y∈sc.names,y.2=.local->sc.names.lookup y.1=some .local
 nd:Nc.Nodup
 len:Nc.length=fr.length
 whence:∀ p∈Nc.zip fr,(p.2.all λj=>decide (N[j]?=some p.1) && decide (sc.names.lookup p.1=some .free))=true
noncomputable abbrev bcl (cells:List (Str×Addr))(a:Scope)(C:Addr):List (Str×Addr):=Ht (C + 1) a.names (takes cells a.names [])
theorem Ed {x:Str}{c:Addr}:∀ (names:List (Str×KM)) (n:Nat) (acc:List (Str×Addr)),(Ht n names acc).lookup x=some c->acc.lookup x=some c\/(n<=c/\(x,tr)∈names)
 | [],_,_,h=>.inl h
 | (y,k)::r,n,acc,h=>by
  unfold Ht at h;split at h
  .rename_i hk;have e:k=tr:=by simpa using hk
   subst e;rcases Ed r _ _ h with q | ⟨b,a⟩
   .rw[eS] at q;cases d:x == y with
    | true=>
     rw[d] at q;cases q;rw[beq_iff_eq.mp d];exact .inr #[cc _,eH]
    | false=>rw[d] at q;exact .inl q
   .exact .inr #[YE b,cb _ a]
  .rcases Ed r _ _ h with q | ⟨b,a⟩
   .exact .inl q
   .exact .inr #[b,cb _ a]
theorem C6 {x:Str}{c:Addr}:∀ (names:List (Str×KM)) (n:Nat) (acc:List (Str×Addr)),(x,tr)∈names->(Ht n names acc).lookup x=some c->n<=c
 | [],_,_,m,_=>nomatch m
 | (y,k)::r,n,acc,m,h=>by
  unfold Ht at h;by_cases a:(x,tr)∈r
  .split at h
   .exact YE (C6 r _ _ a h)
   .exact C6 r _ _ a h
  .have e:(x,tr)=(y,k):=(dk.mp m).resolve_right a;cases e;rw[if_pos (by rfl)] at h;rcases Ed r _ _ h with q | ⟨b,_⟩
   .rw[eS,beq_self_eq_true] at q;cases q;exact cc _
   .exact YE b
theorem C5 {x:Str}:∀ (names:List (Str×KM)) (n:Nat) (acc:List (Str×Addr)),(x,tr)∉names->(Ht n names acc).lookup x=acc.lookup x
 | [],_,_,_=>rfl
 | (y,k)::r,n,acc,m=>by
  unfold Ht;have a:(x,tr)∉r:=λz=>m (cb _ z);split
  .rename_i hk;have c:k=tr:=by simpa using hk
   subst c;rw[C5 r _ _ a,eS];have:(x == y)=false:=by
    cases b:x == y with
    | false=>rfl
    | true=>exact absurd (by rw[beq_iff_eq.mp b];exact eH) m
   rw[this]
  .exact C5 r _ _ a
theorem C7:∀ (names:List (Str×KM)) (n:Nat) (acc:List (Str×Addr)),(∀ x y c,acc.lookup x=some c->acc.lookup y=some c->x=y)->(∀ x c,acc.lookup x=some c->c < n)->
  ∀ x y c,(Ht n names acc).lookup x=some c->(Ht n names acc).lookup y=some c->x=y
 | [],_,_,h,_=>h
 | (z,k)::r,n,acc,h,lt=>by
  unfold Ht;split
  .refine C7 r (n + 1) ((z,n)::acc) (λx y c a d=>?_) λx c a=>?_
   .rw[eS] at a d;cases b:x == z with
    | true=>
     cases e:y == z with
     | true=>rw[beq_iff_eq.mp b,beq_iff_eq.mp e]
     | false=>
      rw[b] at a;rw[e] at d;cases a;exact absurd (lt y n d) (hY _)
    | false=>
     cases e:y == z with
     | true=>
      rw[b] at a;rw[e] at d;cases d;exact absurd (lt x n a) (hY _)
     | false=>rw[b] at a;rw[e] at d;exact h x y c a d
   .rw[eS] at a;cases b:x == z with
    | true=>rw[b] at a;cases a;exact PL _
    | false=>rw[b] at a;exact Wu (lt x c a)
  .exact C7 r n acc h lt
theorem E_{E:VS0}{s:Shared}{g:Addr}{d:List (Str×Addr)}{f:Env}{Q:Env->Shared->Prop}(m:∀ h':Heap,h'.Ns s.heap.objs.size (λ_=>none)->(∀ b o,s.heap.get? b=some o->h'.get? b=some o)->(∀ n c,(Ht (s.heap.objs.size + 1) sc.names d).lookup n=some c->d.lookup n=some c\/h'.IsCell c none)->
   Q { scope:=sc,locals:=s.heap.objs.size,globals:=g,cells:=Ht (s.heap.objs.size + 1) sc.names d,qual:=qual,func:=none,code:=f.code,frame:=f.frame,builtins:=f.builtins } { s with heap:=h' }) :
  wpAny M A (ZC sc g d [] qual none .none (some f)) Q E s:=by
 simp only[ZC,Option.isSome_some,if_true];refine au (wpAny_alloc ?_);refine au (wpAny_layCells _ (λname kind cells=>by cases i:kind == tr <;> simp [i]) _ _ _ _ ?_);have t:∀ (names:List (Str×KM)) (h:Heap) (a:List (Str×Addr)) (P:Str->Addr->Prop),(∀ n c,a.lookup n=some c->P n c\/h.IsCell c none)->∀ n c,(Ht h.objs.size names a).lookup n=some c->P n c\/(pushCells h names).IsCell c none:=by
  intro names
  induction names with
  | nil=>intro h a P x;exact x
  | cons p r j=>
   intro h a P x;let#[y,k]:=p;unfold Ht pushCells;split
   .have:=j (h.push { cls:=.type "cell",data:=.cell none }) ((y,h.objs.size)::a) P λn c e=>by
     rw[eS] at e;cases l:n == y with
     | true=>rw[l] at e;cases e;exact .inr #[_,er _ rfl,rfl]
     | false=>
      rw[l] at e;rcases x n c e with q | q
      .exact .inl q
      .exact .inr (q.keeps λb o e=>av _ e)
    rwa [yn] at this
   .exact j h a P x
 have ok:=t sc.names (s.heap.push { cls:=.type "dict",data:=.dict #[] }) d (λn c=>d.lookup n=some c) λn c e=>.inl e;rw[yn] at ok;rw[show ({ s with heap:=s.heap.push { cls:=.type "dict",data:=.dict #[] } }:Shared).heap.objs.size=s.heap.objs.size + 1 from yn ..];refine au ?_;rw[af6];exact bh (bh (m _ ((Heap.Ns.new s.heap (.type "dict")).keeps (pushCells_keeps _ _)) (λb o e=>pushCells_keeps _ _ b o (av _ e)) ok))
noncomputable abbrev cv (X:Cx)(a:Scope)(b:Ls0)(ab:Shared)(ar:Hp)(C:Addr)(ex:La0)(pn:Pn0):Cx where
 prog:=X.prog
 w:=X.w
 K:=X.K
 mg:=X.mg
 base:=X.base
 A:=X.A
 N:=b
 ab:=ab
 ar:=ar
 env:=compEnvC a (bcl X.env.cells a C) C X.env
 outer:=X.stack
 stack:=X.stack
 ex:=ex
 fn:=λx=>a.names.lookup x == some .cell
 calm:=X.calm
 pn:=pn
 xe:=λ_ _=>False
noncomputable def tQ (a:On)(σ:St):St:=a.map λo=>o.bind λj=>(σ[j]?).join
theorem n8{x:Str}{k:KM}(h:(relabel sc env).names.lookup x=some k):sc.names.lookup x=some k\/(k=.cell/\sc.names.lookup x=some .free):=by
 have i:∀ l:List (Str×KM),(l.map λ(n,k)=>if (k == kx && env.scope.kind == .function && env.kindOf n == some .cell) then (n,tr) else (n,k)).lookup x=some k->l.lookup x=some k\/(k=.cell/\l.lookup x=some .free):=by
  intro l
  induction l with
  | nil=>intro h;simp at h
  | cons p r g=>
   intro h;let#[n,d]:=p;rw[gr] at h;by_cases e:(d == kx && env.scope.kind == .function && env.kindOf n == some .cell)=true
   .have b:SF x ((n,tr)::r.map λ(n,k)=>if (k == kx && env.scope.kind == .function && env.kindOf n == some .cell) then (n,tr) else (n,k))=some k:=by
     have c:=h;simp only[e,if_true] at c;exact c
    have hk:d=.free:=by
     simp only[eN] at e;simpa using e.1.1
    subst hk;cases a:x == n with
    | true=>
     rw[eS,a] at b;rw[eS,a];cases b;exact .inr #[rfl,rfl]
    | false=>
     rw[eS,a] at b;rw[eS,a];exact g b
   .have f:(d == kx && env.scope.kind == .function && env.kindOf n == some .cell)=false:=by simpa using e
    have b:SF x ((n,d)::r.map λ(n,k)=>if (k == kx && env.scope.kind == .function && env.kindOf n == some .cell) then (n,tr) else (n,k))=some k:=by
     have c:=h;simp only[f,ry,if_false] at c;exact c
    cases a:x == n with
    | true=>
     rw[eS,a] at b;rw[eS,a];exact .inl b
    | false=>
     rw[eS,a] at b;rw[eS,a];exact g b
 exact i _ h
theorem zx{x:Str}(h:sc.names.lookup x=some .free):(relabel sc env).names.lookup x=some .cell\/(relabel sc env).names.lookup x=some .free:=by
 have f:∀ l:List (Str×KM),l.lookup x=some .free->(l.map λ(n,k)=>if (k == kx && env.scope.kind == .function && env.kindOf n == some .cell) then (n,tr) else (n,k)).lookup x=some .cell\/(l.map λ(n,k)=>if (k == kx && env.scope.kind == .function && env.kindOf n == some .cell) then (n,tr) else (n,k)).lookup x=some .free:=by
  intro l
  induction l with
  | nil=>intro h;simp at h
  | cons p r d=>
   intro h;let#[n,c]:=p;rw[gr];by_cases e:(c == kx && env.scope.kind == .function && env.kindOf n == some .cell)=true
   .simp only[e,if_true];cases a:x == n with
    | true=>left;simp [eS,a]
    | false=>
     rw[eS,a] at h;simp only[eS,a];exact d h
   .have b:(c == kx && env.scope.kind == .function && env.kindOf n == some .cell)=false:=by simpa using e
    simp only[b,ry,if_false];cases a:x == n with
    | true=>
     rw[eS,a] at h
     right
     simp only[eS,a];exact h
    | false=>
     rw[eS,a] at h;simp only[eS,a];exact d h
 exact f _ h
section
variable {pins:Pn0}
theorem jr(B:Blk X.N X.env.scope sc Nc fr)(ok:X.Ok){n:Str}{c:Addr}(h:(takes X.env.cells sc.names []).lookup n=some c):X.env.cells.lookup n=some c:=by
 rcases x5 _ _ h with q | ⟨d,b⟩
 .simp at q
 .let#[e,a]:=ok.has n (B.free _ d rfl);rw[a] at b;rw[a,b]
  rfl
theorem yS(B:Blk X.N X.env.scope sc Nc fr)(ok:X.Ok){n:Str}{c:Addr}(h:(bcl X.env.cells sc C).lookup n=some c):X.env.cells.lookup n=some c\/C < c:=by
 rcases Ed _ _ _ h with q | ⟨q,_⟩
 .exact .inl (jr B ok q)
 .exact .inr q
theorem gb{n:Str}{k:KM}:∀ {l:List (Str×KM)},l.lookup n=some k->(n,k)∈l:=λh=>Ub h
theorem Rm(B:Blk X.N X.env.scope sc Nc fr){g:Pn0}(I:Inv X pins σ ar ab)(d:ab.heap.objs.size<=C)(hex:∀ b∈ex,b < ab.heap.objs.size/\b∉X.fs/\b≠X.env.locals/\(∀ x c,X.env.cells.lookup x=some c->c≠b)/\∀ o,X.base.get? b≠some o):(cv X sc Nc ab ar C ex g).Ok where
 mod:=I.ok.mod
 kind:=B.kind
 glob:=I.ok.glob
 blt:=I.ok.blt
 above:=d
 inj:=C7 _ _ _ (λx y c j i=>I.ok.inj x y c (jr B I.ok j) (jr B I.ok i)) λx c h=>by
  let#[v,o,e,_]:=I.cell x c (jr B I.ok h);exact Wu (da (dw e) d)
 has:=λx hx=>by
  have f:sc.names.lookup x=some .cell\/sc.names.lookup x=some .free:=by
   rcases hx with hx | hx
   .rcases n8 hx with q | ⟨_,q⟩
    .exact .inl q
    .exact .inr q
   .rcases n8 hx with q | ⟨_,q⟩
    .exact .inr q
    .exact .inr q
  refine FB.mp (Xk _ _ _ ?_);rcases f with q | q
  .exact .inl q
  .exact .inr (t7 _ _ (gb q))
 cab:=λx c h e=>by
  have k:sc.names.lookup x=some .cell:=by simpa using h
  exact eC d (YE (C6 _ _ _ (gb k) e))
 hd:=I.ok.hd
 frames:=I.ok.frames
 stk:=.inl rfl
 exf:=λb a=>#[λe=>by have:=(hex b a).1;rw[e] at this;exact absurd (da this d) (hY _),λx c h=>by
  rcases yS B I.ok h with q | q
  .exact(hex b a).2.2.2.1 x c q
  .exact λz=>absurd (ak4 (da (hex b a).1 d) q) (by rw[z];exact hY _)]
 bs:=λb o e=>I.bs b o e
 bsz:=eC I.ok.bsz I.sz
 noex:=λb o e a=>(hex b a).2.2.2.2 o e
 exfs:=λb a f=>by
  rcases dk.mp (I.zc b f) with e | e
  .exact(hex b a).2.2.1 e
  .exact(hex b a).2.1 e
 lQ:=I.stack
 frf:=λb a=>I.zd b a
 tb:=I.tb
end
noncomputable abbrev wL (us:Lv0)(n:Nat):Obj:={ cls:=.type "list",data:=.seq us.toArray n }
theorem CJ{a:Type}{fr:List a}{x:Str}{o:a}(h1:Nc[i]?=some x)(c:fr[i]?=some o):(x,o)∈Nc.zip fr:=by
 have b:(Nc.zip fr)[i]?=some (x,o):=by
  rw[ZN];exact#[h1,c]
 exact hF b
theorem Ml{a:Pn0}(B:Blk X.N X.env.scope sc Nc fr){aa:Shared}{D:Addr}{o:Obj}{mC:SV0}(ok:(cv X sc Nc ab ar C ex (X.pn++a)).Ok)(I:Inv X a σ ar ab)(U:ab.heap.objs.size<=C)(ho:aa.os=ab.os)(hg:aa.gens=ab.gens)(hk:∀ b u,ab.heap.get? b=some u->aa.heap.get? b=some u)(hn:aa.heap.Ns C mC)(hw:∀ x c,(bcl X.env.cells sc C).lookup x=some c->(takes X.env.cells sc.names []).lookup x=some c\/aa.heap.IsCell c none)(Y:ab.heap.get? D=some o)(T:ar D=none)(S:D≠X.env.locals)(Q:D∉X.fs)(R:∀ v,o.data≠.cell v) :
  Inv (cv X sc Nc ab ar C ex (X.pn++a)) [(D,o)] (tQ fr σ) ar aa:=by
 have s:∀ b,b≠X.env.locals->b∉X.fs->b∉frs X.stack:=λb G F h3=>by
  rcases dk.mp (I.zc b h3) with e | e
  .exact G e
  .exact F e
 have t:∀ {b:Addr} {u:Obj},ab.heap.get? b=some u->b≠C:=λe z=>absurd (da (dw e) (by rw[z];exact U)) (hY _);refine#[ok,ho,by rw[hg];exact I.bare,Un.kept hk,#[mC,hn,λi x v G F h3=>?_],λx c h=>?_,I.hok.fresh U,λx c h=>?_,λp hp=>?_,I.hok.kept hk,?_]
 .have d:(fr.map λo=>o.bind λj=>(σ[j]?).join)[i]?=some (some v):=F;rw[ef] at d;cases V:fr[i]? with
  | none=>rw[V] at d;cases d
  | some W=>
   rw[V] at d;have Z:(W.bind λj=>(σ[j]?).join)=some v:=gT d;cases W with
   | none=>cases Z
   | some j=>
    have hz:=B.whence _ (CJ G V);have f:(decide (X.N[j]?=some x) && decide (sc.names.lookup x=some .free))=true:=hz;rw[eN] at f;have L:X.N[j]?=some x:=of_decide_eq_true f.1;have n:sc.names.lookup x=some .free:=of_decide_eq_true f.2;have h5:σ[j]?=some (some v):=by
     have J:(σ[j]?).join=some v:=Z;cases K:σ[j]? with
     | none=>rw[K] at J;cases J
     | some y=>rw[K] at J;exact congrArg some J
    have w:=B.free _ (gb n) rfl;let#[m,hm,hl]:=I.loc;have M:Vis X.env.scope x:=by rcases w with k | k;exact .inr (.inl k);exact .inr (.inr k)
    let#[u,r,l]:=hl j x v L h5 M;refine#[u,r,.inr #[zx n,?_]];rcases l with ⟨k,_⟩ | ⟨_,c,hc,g⟩
    .have H:X.env.scope.names.lookup x=some .local:=k;rcases w with q | q
     .rw[q] at H;cases H
     .rw[q] at H;cases H
    .let#[c',E]:=FB.mp (t7 (cells:=X.env.cells) sc.names [] (gb n));have A:=jr B I.ok E;rw[hc] at A;cases A;let#[N,P,O]:=g;exact#[c,(C5 _ _ _ λz=>by have:=B.own _ z rfl;rw[n] at this;cases this).trans E,N,hk _ _ P,O]
 .rcases hw x c h with q | q
  .let#[v,N,G,F]:=I.cell x c (jr B I.ok q);exact#[v,N,hk _ _ G,F]
  .exact#[_,q]
 .rcases yS B I.ok h with q | q
  .exact I.freeC x c q
  .exact I.hok.fresh (eC U (Wh q))
 .rcases kS.mp hp with hp | hp
  .let#[L,n,K,e4,e5]:=I.pin p hp;exact#[hk _ _ L,n,t L,s _ K e4,e5]
  .have e:p=(D,o):=by simpa using hp
   subst e;exact#[hk _ _ Y,T,t Y,s _ S Q,R]
 .show (fr.map _).length=Nc.length;rw[lM0,B.len]
theorem Eb{a:Pn0}{s:Shared}(B:Blk X.N X.env.scope sc Nc fr)(I:Inv X a σ H s):closureFor sc X.env=pure (takes X.env.cells sc.names []):=
 xR λy b c=>I.ok.has y.1 (B.free y b c)
theorem BI:∀ {a:List Bool} {us:Lv0},Vals (a.map V.bl) us->LSm.BoolsAre us a
 | [],_,.nil=>.nil
 | _::_,_,.cons r t=>by
  obtain rfl:=(show _=ac4 _ from r);exact .cons _ (BI t)
theorem FC(t:X.calm=true):cJ X (.builtin "all") (λxs H Q=>∃ (p:Addr) (c:List Bool),xs=[.ref p]/\SqL X.K H p (c.map V.bl)/\Q (.bl (c.all id)) H):=by
 intro g s x H xs y Q I r h;let#[p,c,rfl,o,q]:=h;let#[u,rfl,m]:=vals1 r;cases m;let#[a,l,n,C]:=I.list o;have j:=BI l;have f:=n.isList;have d:p < s.heap.objs.size:=by let#[_,e,_]:=f;exact dw e
 refine call_all_walk (Wl f #[s.heap.objs.size,[s.heap.objs.size,p],[s.heap.objs.size],a.toArray.size,_,_,λi=>(c[i]?).getD true,rfl,Walks.list (A:=X.A.in1) (I.ok.hd t) _ p (jz d) a.toArray,#[#[_,er _ rfl,rfl,rfl],f.push _],
  λi v B E F w k=>?_,λD z hk=>?_])
 .let#[b,e,rfl]:=j.get i v (by simpa using w);simp only[e,aa9] at k;exact KB k
 .have e:((gs a.toArray.size).all λi=>(c[i]?).getD true)=c.all id:=by rw[eR,j.length,LSm.range_all c]
  rw[e];exact#[.bl _,H,I.kept (LSm.kept_iter hk),rfl,q]
structure m_ (K:Fg0):Prop where
 bb:aw K (.type "bool") (.type "bool")=some true
 bi:aw K (.type "bool") (.type "int")=some true
 bl:aw K (.type "bool") (.type "list")=some false
 bt:aw K (.type "bool") (.type "tuple")=some false
 ib:aw K (.type "int") (.type "bool")=some false
 ii:aw K (.type "int") (.type "int")=some true
 il:aw K (.type "int") (.type "list")=some false
 it:aw K (.type "int") (.type "tuple")=some false
 nb:aw K (.type "NoneType") (.type "bool")=some false
 ni:aw K (.type "NoneType") (.type "int")=some false
 nl:aw K (.type "NoneType") (.type "list")=some false
 nt:aw K (.type "NoneType") (.type "tuple")=some false
 sb:aw K (.type "str") (.type "bool")=some false
 si:aw K (.type "str") (.type "int")=some false
 sl:aw K (.type "str") (.type "list")=some false
 st:aw K (.type "str") (.type "tuple")=some false
 lb:aw K (.type "list") (.type "bool")=some false
 li:aw K (.type "list") (.type "int")=some false
 ll:aw K (.type "list") (.type "list")=some true
 lt:aw K (.type "list") (.type "tuple")=some false
 tb:aw K (.type "tuple") (.type "bool")=some false
 ti:aw K (.type "tuple") (.type "int")=some false
 tl:aw K (.type "tuple") (.type "list")=some false
 tt:aw K (.type "tuple") (.type "tuple")=some true
 db:aw K (.type "dict") (.type "bool")=some false
 di:aw K (.type "dict") (.type "int")=some false
 dl:aw K (.type "dict") (.type "list")=some false
 dt:aw K (.type "dict") (.type "tuple")=some false
inductive Kn (H:Hp):V->Prop where
 | non:Kn H .non
 | bl (b:Bool):Kn H (.bl b)
 | int (i:Int):Kn H (.int i)
 | str (x:Str):Kn H (.str x)
 | lst {a:Addr} {xs:List V} (e:H a=some (.lst xs)):Kn H (.ref a)
 | tup {a:Addr} {xs:List V} (e:H a=some (.tup xs)):Kn H (.ref a)
 | dK {a:Addr} {kvs:List (Key×V)} (e:H a=some (.dK kvs)):Kn H (.ref a)
noncomputable def isB:V->Bool
 | .bl _=>true
 | _=>false
noncomputable def isI:V->Bool
 | .bl _=>true
 | .int _=>true
 | _=>false
noncomputable def isL (H:Hp):V->Bool
 | .ref a=>match H a with
  | some (.lst _)=>true
  | _=>false
 | _=>false
theorem DX(h:H a=some (.lst xs)):isL H (.ref a)=true:=by simp only[isL,h]
theorem DW(h:H a=some (.tup xs)):isL H (.ref a)=false:=by simp only[isL,h]
theorem CO{xs:List (Key×V)}(h:H a=some (.dK xs)):isL H (.ref a)=false:=by simp only[isL,h]
theorem aP{a:Pn0}{s:Shared}{x:V}{c:String}{t:Value}{b f:Bool}{Q:VK}(I:Inv X a σ H s)(r:Vals [x,.ty c] us)(ty:uG X.K H x t)(e:aw X.K t (.type c)=some b)(i:f=b)(q:Q (.bl f) H) :
  wpAny (model X.prog X.w) X.A (call (.builtin "isinstance") us) (EP X a σ Q) X.xe s:=by
 let#[u,g,rfl,h,d]:=vals2 r;obtain rfl:g=Xi c:=d;subst i;exact Fm I h ty e λj=>#[.bl f,H,I.tok _,rfl,q]
theorem I_(F:m_ X.K):cJ X (.builtin "isinstance") (λxs H Q=>∃ x,xs=[x,.ty "bool"]/\Kn H x/\Q (.bl (isB x)) H):=by
 intro a s c H xs d Q I r h;let#[x,rfl,k,q]:=h;cases k with
 | non=>exact aP I r .non F.nb rfl q
 | bl b=>exact aP I r (.bl b) F.bb rfl q
 | int i=>exact aP I r (.int i) F.ib rfl q
 | str y=>exact aP I r (.str y) F.sb rfl q
 | lst e=>exact aP I r (.lst e) F.lb rfl q
 | tup e=>exact aP I r (.tup e) F.tb rfl q
 | dK e=>exact aP I r (.dK e) F.db rfl q
theorem I9(F:m_ X.K):cJ X (.builtin "isinstance") (λxs H Q=>∃ x,xs=[x,.ty "int"]/\Kn H x/\Q (.bl (isI x)) H):=by
 intro a s c H xs d Q I r h;let#[x,rfl,k,q]:=h;cases k with
 | non=>exact aP I r .non F.ni rfl q
 | bl b=>exact aP I r (.bl b) F.bi rfl q
 | int i=>exact aP I r (.int i) F.ii rfl q
 | str y=>exact aP I r (.str y) F.si rfl q
 | lst e=>exact aP I r (.lst e) F.li rfl q
 | tup e=>exact aP I r (.tup e) F.ti rfl q
 | dK e=>exact aP I r (.dK e) F.di rfl q
theorem IZ(F:m_ X.K):cJ X (.builtin "isinstance") (λxs H Q=>∃ x,xs=[x,.ty "list"]/\Kn H x/\Q (.bl (isL H x)) H):=by
 intro a s c H xs d Q I r h;let#[x,rfl,k,q]:=h;cases k with
 | non=>exact aP I r .non F.nl rfl q
 | bl b=>exact aP I r (.bl b) F.bl rfl q
 | int i=>exact aP I r (.int i) F.il rfl q
 | str y=>exact aP I r (.str y) F.sl rfl q
 | lst e=>exact aP I r (.lst e) F.ll (DX e) q
 | tup e=>exact aP I r (.tup e) F.tl (DW e) q
 | dK e=>exact aP I r (.dK e) F.dl (CO e) q
mutual
inductive Dt (K:Fg0) (H:Hp):V->PyData->Prop where
 | non:Dt K H .non .none
 | bl (b:Bool):Dt K H (.bl b) (.bool b)
 | int (i:Int):Dt K H (.int i) (.int i)
 | str (x:Str):Dt K H (.str x) (.str x)
 | lst {a:Addr} {xs:List V} {ds:List PyData}:SqL K H a xs->gz K H xs ds->Dt K H (.ref a) (.list ds)
 | tup {a:Addr} {xs:List V} {ds:List PyData}:SqT K H a xs->gz K H xs ds->Dt K H (.ref a) (.tuple ds)
 | dct {a:Addr}:H a=some (.dK [])->Dt K H (.ref a) (.dict [])
 | dcs {a:Addr} (y:Str) (i:Int):H a=some (.dK [(.inr y,.int i)])->Dt K H (.ref a) (.dict [(.str y,.int i)])
inductive gz (K:Fg0) (H:Hp):List V->List PyData->Prop where
 | nil:gz K H [] []
 | cons {x:V} {xs:List V} {d:PyData} {ds:List PyData}:Dt K H x d->gz K H xs ds->gz K H (x::xs) (d::ds)
end
theorem CY{b:Pn0}{s:Shared}(I:Inv X b σ H s)(h:H a=some (.dK [])):∃ o n,s.heap.get? a=some o/\o.cls=.type "dict"/\o.data=.dict #[] n/\(a == Yk)=false:=by
 let#[_,q,f,g,o,c,n,k,j,i,_,d,_]:=NA I.hok h;have:f=[]:=by cases g;rfl
 subst this;have:c.toList=[]:=by cases e:c.toList with
  | nil=>rfl
  | cons x l=>rw[e] at d;cases d
 have:c=#[]:=by cases c;simp_all
 subst this;exact#[o,n,k,j.1,i,q]
theorem CZ{c:Pn0}{s:Shared}{y:Str}{i:Int}(I:Inv X c σ H s)(h:H a=some (.dK [(.inr y,.int i)])) :
  ∃ o es n t u q,s.heap.get? a=some o/\o.cls=.type "dict"/\o.data=.dict es n/\(a == Yk)=false/\es.toList=[#[q,.str y t,.int i u]]:=by
 let#[_,q,L,v,o,es,n,J,G,F,_,d,_]:=NA I.hok h;cases v with
 | @cons p r N M E g=>
  cases g;let#[l,k]:=r;let#[hk,u,D]:=E;cases (show (ac3 y:Key)=l from hk);cases (show k=aa4 i u from D);cases b:es.toList with
  | nil=>rw[b] at d;cases d
  | cons x K=>
   rw[b] at d;cases d with
   | cons B A w=>
    cases w;let#[C,m,f]:=x;rcases cI (show HX (.inr y) m=true from B) with ⟨j,t,z,_⟩ | ⟨z,t,e,rfl⟩
    .cases z
    .cases e;cases (show f=aa4 i u from A);exact#[o,es,n,t,u,C,J,G.1,F,q,b]
theorem gz.reads{g:Pn0}{s:Shared}(I:Inv X g σ H s){ds:List PyData}(h:gz X.K H xs ds):Vals xs us->∃ as,ReadsAll s.heap us ds as:=by
 revert us
 refine gz.rec (motive_1:=λx d _=>∀ u,RelV x u->∃ as,Reads s.heap u d as) (motive_2:=λxs ds _=>∀ {us},Vals xs us->∃ as,ReadsAll s.heap us ds as) ?_ ?_ ?_ ?_ ?_ ?_ ?_ ?_ ?_ ?_ h
 .intro u r;cases r;exact#[_,.none]
 .intro b u r;cases r;exact#[_,.bool b]
 .intro i u r;let#[t,rfl]:=r;exact#[_,.int i t]
 .intro y u r;let#[t,rfl]:=r;exact#[_,.str y t]
 .intro a xs ds c C m u r;cases r;let#[l,k,#[o,n,f,e,j,p],B]:=I.list c;let#[as,h]:=m k;exact#[_,.list f e p (by simpa using h)]
 .intro a xs ds c C m u r;cases r;let#[l,k,#[o,f,e,n,p],B]:=I.tuple c;let#[as,h]:=m k;exact#[_,.tuple f e p (by simpa using h)]
 .intro a c u r;cases r;let#[o,n,f,e,j,_]:=CY I c;exact#[_,.dict f e j .nil .nil]
 .intro a y i c u r;cases r;let#[o,F,n,t,u,q,f,e,j,_,v]:=CZ I c;exact#[_,.dict f e j (by rw[v];exact .cons (.str y t) .nil) (by rw[v];exact .cons (.int i u) .nil)]
 .intro us r;cases r;exact#[_,.nil]
 .intro x xs d ds E D A i2 us r;cases r with
  | cons z w=>
   let#[as,a]:=A _ z;let#[G,b]:=i2 w;exact#[_,.cons a b]
structure Shw (d:PyData):Prop where
 sh:d.showable=true
 dp:d.depth<=20
 sz:d.shown.length<=sizeLine
def Rw (X:Cx)(h:Heap)(u:Value)(d:PyData):Prop:=∃ a,ReadAtMost h d.depth a/\ReprK X.prog X.w a h d.depth u d.shown
def Eo (X:Cx)(h:Heap)(us:Lv0)(ds:List PyData):Prop:=∃ a,ReadAtMost h (ro ds) a/\ReprAllK X.prog X.w a h (ro ds) us (pz ds)
theorem Rw.is{h:Heap}{d:PyData}(k:ReprIs X.prog X.w u d.shown):Rw X h u d:=#[[],by (intro _ z;cases z),.of_is k _ _ _]
theorem xh(y:Str)(i:Int):(Wz y).length<=(hG (.dict [(.str y,.int i)])).length:=by
 have e:hG (.dict [(.str y,.int i)])=dictText [Wz y++": "++hG (.int i)]:=by simp only[hG,YF]
 have h:=dictText_mem_le (ng.mpr (rfl:Wz y++": "++hG (.int i)=_));rw[strLen_append,strLen_append] at h;rw[e];lia
theorem Ea{y:Str}{i:Int}(h:yP (.dict [(.str y,.int i)])=true):i.natAbs.log2 < 1920:=by
 simp [yP,ak5] at h;exact h
theorem gz.says{A:Pn0}{s:Shared}(I:Inv X A σ H s){ds:List PyData}(h:gz X.K H xs ds):Vals xs us->Xm ds=true->(∀ t∈pz ds,t.length<=sizeLine)->Eo X s.heap us ds:=by
 revert us
 refine gz.rec (motive_1:=λx d _=>∀ u,RelV x u->d.showable=true->d.shown.length<=sizeLine->Rw X s.heap u d) (motive_2:=λxs ds _=>∀ {us},Vals xs us->Xm ds=true->(∀ t∈pz ds,t.length<=sizeLine)->Eo X s.heap us ds) ?_ ?_ ?_ ?_ ?_ ?_ ?_ ?_ ?_ ?_ h
 .intro u r _ _;cases r;exact .is (by simp only[hG];exact .none)
 .intro b u r _ _;cases r;exact .is (by simp only[hG];exact .bool b)
 .intro i u r q _;let#[t,rfl]:=r;exact .is (by simp only[hG];exact .int t (by simpa [yP] using q))
 .intro y u r _ z;let#[t,rfl]:=r;exact .is (by simp only[hG] at z ⊢;exact .str y t z)
 .intro a xs ds j D G u r q z;cases r;let#[B,l,#[o,n,f,c,m,g],_]:=I.list j;let#[as,E]:=gz.reads I D l;have p:Reads s.heap (.ref a) (.list ds) _:=.list f c g (by simpa using E);simp only[hG] at z;let#[C,k,b2]:=G l (by simpa [yP] using q) λt J=>eC (listText_mem_le J) z;have F:=YG p (n:=ro ds) (by simp only[oj];lia) k;refine#[a::C,ao1 p (by simp only[oj];lia) k,?_];simp only[hG,oj];cases B with
  | nil=>cases l;cases D;simp only[pz,listText_nil];exact .listEmpty f c g
  | cons y Y=>exact .list f c g F (by rw[b2.length_eq];simp) λi v e=>b2.item i v (by simpa using e)
 .intro a xs ds j D G u r q z;cases r;let#[B,l,#[o,f,c,n,g],_]:=I.tuple j;let#[as,E]:=gz.reads I D l;have p:Reads s.heap (.ref a) (.tuple ds) _:=.tuple f c g (by simpa using E);simp only[hG] at z;let#[C,k,b2]:=G l (by simpa [yP] using q) λt J=>eC (tupleText_mem_le J) z;have F:=YG p (n:=ro ds) (by simp only[oj];lia) k;refine#[a::C,ao1 p (by simp only[oj];lia) k,?_];simp only[hG,oj];exact .tuple f c g F (by simpa using b2)
 .intro a j u r _ _;cases r;let#[o,n,f,c,m,g]:=CY I j;refine#[[a],λb K=>?_,?_]
  .cases ng.mp K;exact#[_,_,.dict f c m .nil .nil,cc _]
  .have:=ReprK.dict (prog:=X.prog) (w:=X.w) (as:=[]) (d:=0) (ps:=[]) f c m g (by intro z;cases z) .nil;simp only[hG,oj,YF,XB];exact this
 .intro a y i j u r O z;cases r;let#[o,es,n,t,u,q,f,c,m,g,L]:=CZ I j;have R:(Wz y).length<=sizeLine:=eC (xh y i) z;refine#[[a],λb K=>?_,?_]
  .cases ng.mp K;exact#[_,_,.dict f c m (by rw[L];exact .cons (.str y t) .nil) (by rw[L];exact .cons (.int i u) .nil),cc _]
  .have T:ReprK X.prog X.w [] s.heap 0 (.str y t) (Wz y):=.of_is (.str y t R) _ _ _;have S:ReprK X.prog X.w [] s.heap 0 (.int i u) (hG (.int i)):=.of_is (by simp only[hG];exact .int u (Ea O)) _ _ _;have:=ReprK.dict (prog:=X.prog) (w:=X.w) (as:=[]) (d:=0) (ps:=_) f c m g (by intro z;cases z) (by rw[L];exact .cons T S .nil);simp only[hG,oj,YF,XB];exact this
 .intro us r _ _;cases r;exact#[[],by (intro _ z;cases z),.nil]
 .intro x xs d ds h1 Z U i2 us r q z;cases r with
  | cons Q P=>
   simp only[Xm,eN] at q;simp only[pz,dk,forall_eq_or_imp] at z;let#[as,W,V]:=U _ Q q.1 z.1;let#[C,k,b2]:=i2 P q.2 z.2;have N:d.depth<=ro (d::ds):=by simp only[ro];exact Nat.le_max_left _ _
   have M:ro ds<=ro (d::ds):=by simp only[ro];exact Nat.le_max_right _ _
   exact#[as++C,(W.mono N).append (k.mono M),.cons ((V.more λ_ h=>ml _ h).level_le N) (b2.more_le (λ_ h=>eP _ h) M)]
structure eK (k:Nat) (A:Around):Prop where
 dp:A.depth + 3 * k + 5 < recursionLimit
 un:A.units + 16 * k + 200 < cLine
 gd:A.guards=some []
theorem cy.h(r:cy k A):eK k A:=#[r.dp,r.un,r.gd]
theorem cy.hm(r:cy k A)(v:Option Value):eK k (A.mark v):=#[r.dp,r.un,r.gd]
theorem eK.units(r:eK k A):A.units + 64 < cLine:=by have:=r.un;lia
theorem C9(B:eK k X.A):cJ X (.builtin "repr") (λxs H Q=>∃ a d,xs=[.ref a]/\Dt X.K H (.ref a) d/\Shw d/\Q (.str d.shown) H):=by
 intro w s R H xs us Q I r h;let#[a,d,rfl,hd,S,q]:=h;let#[u,rfl,T]:=vals1 r;cases T;have D:X.A.units + (d.depth + 1) < cLine:=by have:=B.units;have:=S.dp;lia
 have fin:∀ N u P,(∀ b o,s.heap.get? b=some o->N.get? b=some o)->∃ x t,XH d.shown u=.str x t/\EP X w R Q (.str d.shown u) { s with heap:=N,toks:=P }:=λN u P hk=>#[_,_,rfl,.str d.shown,H,I.kept hk,#[_,rfl],q];have G:=S.sh;have g:=S.sz;cases hd with
 | @lst _ xs C l p=>
  let#[A,m,#[o,n,c,f,E,j],_]:=I.list l;let#[as,K]:=gz.reads I p m;have J:Reads s.heap (.ref a) (.list C) _:=.list c f j (by simpa using K);simp only[hG] at g fin;simp only[oj] at D;let#[Z,O,b2]:=gz.says I p m (by simpa [yP] using G) λt M=>eC (listText_mem_le M) g;have L:=YG J (n:=ro C) (by simp only[oj];lia) O;refine ZD (by lia) #[o,c,f] F.slot_list_repr.toG ?_;cases A with
  | nil=>cases m;cases p;simp only[pz,listText_nil] at fin;exact call_list_repr_empty #[o,c,f] c j (fin s.heap _ _ λ_ _ e=>e)
  | cons y ys=>exact call_list_reprK c f j L (by rw[b2.length_eq];simp) (λi v e=>b2.item i v (by simpa using e)) B.gd (λb _=>am5 b) (by show X.A.units + 1 + _ < _;lia) (λ_ _ e=>e) fin g
 | @tup _ xs C l p=>
  let#[A,m,#[o,c,f,n,j],_]:=I.tuple l;let#[as,K]:=gz.reads I p m;have J:Reads s.heap (.ref a) (.tuple C) _:=.tuple c f j (by simpa using K);simp only[hG] at g fin;simp only[oj] at D;let#[Z,O,b2]:=gz.says I p m (by simpa [yP] using G) λt M=>eC (tupleText_mem_le M) g;have L:=YG J (n:=ro C) (by simp only[oj];lia) O;exact ZD (by lia) #[o,c,f] F.slot_tuple_repr (call_tuple_reprK c f j L (by simpa using b2) B.gd (λb _=>am5 b) (by show X.A.units + 1 + _ < _;lia) (λ_ _ e=>e) fin g)
 | dct l=>
  let#[o,n,c,f,E,j]:=CY I l;simp only[hG,YF] at g fin;simp only[oj,XB] at D;exact ZD (by lia) #[o,c,f] F.slot_dict_repr (call_dict_reprK (as:=[]) (d:=0) (ps:=[]) c f E j (by intro z;cases z) .nil B.gd (λb _=>am5 b) (by show X.A.units + 1 + _ < _;lia) (λ_ _ e=>e) fin g)
 | dcs y i l=>
  let#[o,es,n,t,u,q,c,f,E,j,Y]:=CZ I l;have U:(Wz y).length<=sizeLine:=eC (xh y i) g;have W:ReprK X.prog X.w [] s.heap 0 (.str y t) (Wz y):=.of_is (.str y t U) _ _ _;have V:ReprK X.prog X.w [] s.heap 0 (.int i u) (hG (.int i)):=.of_is (by simp only[hG];exact .int u (Ea G)) _ _ _;simp only[hG,YF] at g fin;simp only[oj,XB] at D;exact ZD (by lia) #[o,c,f] F.slot_dict_repr (call_dict_reprK (as:=[]) (d:=0) c f E j (by intro z;cases z) (by rw[Y];exact .cons W V .nil) B.gd (λb _=>am5 b) (by show X.A.units + 1 + _ < _;lia) (λ_ _ e=>e) fin g)
section
variable {pins:Pn0}{s:Shared}
theorem Inv.moved(I:Inv X pins σ H s)(a:∀ b∈ch,md X pins H b)(hk:∀ b o,b∉ch->s.heap.get? b=some o->h'.get? b=some o):Inv X pins σ H { s with heap:=h',toks:=t' }:=by
 have g:∀ {b:Addr} {u:HO},H b=some u->b∉ch:=λe d=>by rw[(a _ d).1] at e;cases e
 refine I.step (g':=s.gens) (d':=s.drawn) (ch:=ch) (λb d=>#[(a b d).2.2.2.1,(a b d).2.1,(a b d).2.2.2.2.1,(a b d).2.2.2.2.2]) (λb o _ _ f e _=>hk b o f e) (λb o _ _ f e _=>#[o.slots,hk b o f e]) (λ_ _ _ _ n=>n)
  (λb o f e=>#[o,hk b o f e]) (λ_ _ e=>e) (λ_ _ _ e=>e) (λb l e=>#[#[],by rw[e];simp]) (λm i=>?_) (λb u e=>?_) I.bare
 .let#[o,j,k,h,r]:=i;exact#[o,j,k,hk _ o (λd=>(a _ d).2.1 rfl) h,r]
 .exact(I.hok b u e).pJ (λc v f q=>hk c v (by rcases f with z | z <;> first | (rw[z];exact g e) | exact g z) q) (λ_ q=>q) λ_ _ q=>q
theorem Inv.KZ{T:Addr}{x:V}(I:Inv X pins σ H s)(d:∀ b∈ch,md X pins H b)(j:s.heap.objs.size<=T)(hk:∀ b o,b∉ch->s.heap.get? b=some o->h'.get? b=some o)(t:IsTup h' T (Vz9 [u,v]))(p:RelV x u)(l:RelV y v):Inv X pins σ (upd H T (.tup [x,y])) { s with heap:=h',toks:=t' }:=by
 have i:∀ {b:Addr} {u:HO},H b=some u->b∉ch:=λe f=>by rw[(d _ f).1] at e;cases e
 have B:H T=none:=I.hok.fresh j;have neT:∀ {b:Addr} {o:Obj},s.heap.get? b=some o->b≠T:=λe=>jz (da (dw e) j);have a:∀ {b:Addr} {u:HO},H b=some u->b≠T:=λe z=>by rw[z,B] at e;cases e
 refine I.step (g':=s.gens) (d':=s.drawn) (ch:=ch) (λb f=>#[(d b f).2.2.2.1,(d b f).2.1,(d b f).2.2.2.2.1,(d b f).2.2.2.2.2]) (λb o _ _ g e _=>hk b o g e) (λb o _ _ g e _=>#[o.slots,hk b o g e]) (λb o _ e n=>by rw[ao (neT e)];exact n)
  (λb o g e=>#[o,hk b o g e]) (λb h e=>by rw[ao (a e)];exact e) (λb o h e=>by rw[ao (a e)];exact e) (λb F e=>#[#[],by rw[ao (a e),e];simp]) (λm A=>?_) (λb o e=>?_) I.bare
 .let#[o,C,D,w,r]:=A;exact#[o,C,D,hk _ o (λf=>(d _ f).2.1 rfl) w,r]
 .by_cases f:b=T
  .subst f;rw[aB] at e;cases e;exact#[(by show 2<=sizeLine;decide),[u,v],.cons p (.cons l .nil),t]
  .rw[ao f] at e;exact(I.hok b o e).pJ (λc k g q=>hk c k (by rcases g with z | z <;> first | (rw[z];exact i e) | exact i z) q) (λc q=>by rw[ao (a q)];exact q) (λc h q=>by rw[ao (a q)];exact q) λc o E q=>by rw[ao (a q)];exact q
end
noncomputable def Itz (a b:Addr):It:=
 #[λi H=>∃ xs ys x y,H a=some (.lst xs)/\H b=some (.lst ys)/\xs[i]?=some x/\ys[i]?=some y,
  λi H v H'=>∃ t xs ys x y,H t=none/\H a=some (.lst xs)/\H b=some (.lst ys)/\xs[i]?=some x/\ys[i]?=some y/\v=.ref t/\H'=upd H t (.tup [x,y]),
  λi H=>∃ xs ys,H a=some (.lst xs)/\H b=some (.lst ys)/\(xs.length<=i\/ys.length<=i)]
def Vs (z TI TO c i2 e d:Addr)(i:Nat)(h:Heap):Prop:=IsZip h z TI TO .none/\IsPair h TI (.ref c) (.ref i2)/\(∃ a b,IsPair h TO a b)/\h.IsListIter c e i/\h.IsListIter i2 d i
structure Em (z TI TO i1 i2:Addr):Prop where
 TIz:TI≠z
 TOz:TO≠z
 i1z:i1≠z
 i2z:i2≠z
 TITO:TI≠TO
 TIi1:TI≠i1
 TIi2:TI≠i2
 TOi1:TO≠i1
 TOi2:TO≠i2
 i12:i1≠i2
theorem F_{kt:Nat}{tp:Pos}(z TI TO m i2 B l2:Addr)(D:Em z TI TO m i2) :
  Turn P w K (.Tuple es kt tp) (Itz B l2) [z,TI,TO,m,i2] z (Vs z TI TO m i2 B l2) where
 mem:=by simp
 obj:=λi h st b j=>by
  let#[r,l,#[a,c,n],#[o1,e1,_,d1],#[o2,e2,_,d2]]:=st;simp only[dk,fT,or_false] at j;rcases j with rfl | rfl | rfl | rfl | rfl
  .exact#[_,r,λv q=>by cases q]
  .exact#[_,l,λv q=>by cases q]
  .exact#[_,n,λv q=>by cases q]
  .exact#[_,e1,λv q=>by rw[d1] at q;cases q]
  .exact#[_,e2,λv q=>by rw[d2] at q;cases q]
 keep:=λi h h' st k=>by
  let#[r,l,#[a,c,n],F,C]:=st;exact#[k z (by simp) _ r,k TI (by simp) _ l,#[a,c,k TO (by simp) _ n],F.at λo e=>k m (by simp) o e,C.at λo e=>k i2 (by simp) o e]
 item:=by
  intro X U R V hc i G s σ H E I J st T;subst U R V;let#[xs,ys,x,y,t,j,hx,hy]:=T;let#[r,l,#[a0,b0,n],F,C]:=st;let#[O,na,M,Y,_]:=I.lst t;let#[N,nb,L,W,_]:=I.lst j;have A:∀ b∈[z,TI,TO,m,i2],H b=none:=λb j=>(J b j).1;have g:∀ b∈[z,TI,TO,m,i2],B≠b:=λb j e=>by rw[e,A b j] at t;cases t
  have f:∀ b∈[z,TI,TO,m,i2],l2≠b:=λb d e=>by rw[e,A b d] at j;cases j
  have Z:ZipApart z TI TO m i2 B l2:=#[D.TIz,D.TOz,D.i1z,D.i2z,D.TITO,D.TIi1,D.TIi2,D.TOi1,D.TOi2,D.i12,g z (by simp),g TO (by simp),g m (by simp),g i2 (by simp),f z (by simp),f TO (by simp),f m (by simp),f i2 (by simp)];let#[u,hu,ru]:=M.get hx;let#[v,hv,rv]:=L.get hy;refine wpAny_pyNext_zip_item Z r l n F C (xs:=O.toArray) (ys:=N.toArray) #[_,Y,rfl,_,rfl] #[_,W,rfl,_,rfl] (x:=u) (y:=v) (by simpa using hu) (by simpa using hv) λh' a1 a2 a3 a4 a5 a6 hk=>?_;refine#[_,rfl,ZO a1 λa7 Q p=>?_];have zT:s.heap.objs.size≠z:=wh (dw r);refine#[.ref s.heap.objs.size,upd H s.heap.objs.size (.tup [x,y]),?_,rfl,#[_,xs,ys,x,y,I.hok.fresh (cc _),t,j,hx,hy,rfl,rfl],?_,λb d=>?_]
  .refine I.KZ (t':=s.toks) (ch:=[z,TO,m,i2]) (u:=u) (v:=v) (λb d=>J b (by simp at d ⊢;rcases d with e | e | e | e <;> simp [e])) (cc _) (λb o d e=>?_) #[_,p.extBut _ _ zT a5,rfl,_,rfl] ru rv;simp only[dk,fT,or_false,not_or] at d;exact p.extBut b o d.1 (hk b o d.1 d.2.1 d.2.2.1 d.2.2.2 e)
  .exact#[Q,p.extBut _ _ D.TIz (hk _ _ D.TIz D.TITO D.TIi1 D.TIi2 l),#[_,_,p.extBut _ _ D.TOz a2],a3.extBut p.extBut D.i1z,a4.extBut p.extBut D.i2z]
  .rw[ao]
   .exact A b d
   .have S:∃ o,s.heap.get? b=some o:=by
     let#[o1,e1,_]:=F;let#[o2,e2,_]:=C;simp only[dk,fT,or_false] at d;rcases d with rfl | rfl | rfl | rfl | rfl
     .exact#[_,r]
     .exact#[_,l]
     .exact#[_,n]
     .exact#[_,e1]
     .exact#[_,e2]
    let#[o,e]:=S;exact jz (dw e)
 done:=by
  intro X U R V hc i G s σ H E I J st T;subst U R V;let#[xs,ys,t,j,hl]:=T;let#[r,l,#[a0,b0,n],F,C]:=st;let#[O,na,M,Y,_]:=I.lst t;let#[N,nb,L,W,_]:=I.lst j;have A:∀ b∈[z,TI,TO,m,i2],H b=none:=λb j=>(J b j).1;have g:∀ b∈[z,TI,TO,m,i2],B≠b:=λb j e=>by rw[e,A b j] at t;cases t
  have f:∀ b∈[z,TI,TO,m,i2],l2≠b:=λb d e=>by rw[e,A b d] at j;cases j
  have Z:ZipApart z TI TO m i2 B l2:=#[D.TIz,D.TOz,D.i1z,D.i2z,D.TITO,D.TIi1,D.TIi2,D.TOi1,D.TOi2,D.i12,g z (by simp),g TO (by simp),g m (by simp),g i2 (by simp),f z (by simp),f TO (by simp),f m (by simp),f i2 (by simp)];have la:=M.length;have lb:=L.length;refine wpAny_pyNext_zip_end (I.ok.hd hc) Z r l n F C (xs:=O.toArray) (ys:=N.toArray) #[_,Y,rfl,_,rfl] #[_,W,rfl,_,rfl] ?_ λh' hk=>#[rfl,I.moved (t':=s.toks) (ch:=[z,TO,m,i2]) (λb d=>J b (by simp at d ⊢;rcases d with e | e | e | e <;> simp [e])) λb o d e=>?_]
  .rcases hl with hl | hl
   .left;simp;lia
   .right;simp;lia
  .simp only[dk,fT,or_false,not_or] at d;exact hk b o d.1 d.2.1 d.2.2.1 d.2.2.2 e
 self:=λ_ _ _ _ _ st h=>YR st.1 h
def Ul (ta:TA):TI:=λσ H R=>ta σ H λvs H1=>∃ (p q:Addr) (xs ys:List V),vs=[.ref p,.ref q]/\H1 p=some (.lst xs)/\H1 q=some (.lst ys)/\R (Itz p q) H1
theorem O4{a b:Expr}{ta:TA}{kt:Nat}{y p:Pos}(M:Gl X "zip")(L:X.mg "zip"=none)(N:PA X [a,b] ta)(K:autoParam (bp [a,b] X.env=[(false,eval a X.env),(false,eval b X.env)]) wE)(f:autoParam (bp [b] X.env=[(false,eval b X.env)]) wE) :
  PI X (.Tuple es kt y) (.Call (.Name "zip" p) [a,b] [] pos) (Ul ta):=by
 intro d s t H R I h;refine Call_ (k9 I M L (by decide +kernel:Jv "zip"=some (.type "zip")) (sm (thn (N pos d s t H _ I h) λY c ⟨W,x,k,A,B⟩=>?_) (by rw[K,f]) (by rw[f];rfl)));let#[E,C,xs,ys,e,P,O,q]:=B;subst e;let#[u,V,rfl,z,l]:=vals2 A;cases z;cases l;let#[G,na,ra,T,_]:=k.lst P;let#[F,nb,Z,S,_]:=k.lst O;refine call_zip_2 (xs:=G.toArray) (ys:=F.toArray) #[_,T,rfl,_,rfl] #[_,S,rfl,_,rfl] λQ v r o n m J hk=>YR v ?_;have U:Inv X d t x { c with heap:=Q }:=k.kept (t':=c.toks) hk;have lt:∀ i j:Nat,i < j->c.heap.objs.size + i≠c.heap.objs.size + j:=λi j h e=>by lia
 have D:Em (c.heap.objs.size + 4) (c.heap.objs.size + 2) (c.heap.objs.size + 3) c.heap.objs.size (c.heap.objs.size + 1):=
  #[lt 2 4 (by decide),lt 3 4 (by decide),lt 0 4 (by decide),lt 1 4 (by decide),lt 2 3 (by decide),(lt 0 2 (by decide)).symm,(lt 1 2 (by decide)).symm,(lt 0 3 (by decide)).symm,(lt 1 3 (by decide)).symm,lt 0 1 (by decide)]
 refine#[_,_,_,_,x,rfl,U,F_ _ _ _ _ _ E C D,#[v,r,#[_,_,o],n,m],λb w=>?_,q];have g:c.heap.objs.size<=b:=by
  simp only[dk,fT,or_false] at w;rcases w with rfl | rfl | rfl | rfl | rfl <;> lia
 exact k.xP g (k.hok.fresh g)
abbrev Dl (h:Heap)(z TI TO T:Addr)(f:Bool):Prop:=h.get? z=some { cls:=.type "zip",dict:=none,data:=.fields (Vz9 [rawInt T,.bool f,.bool false,.ref TI,.ref TO]),slots:=#[] }
section
variable {pins:Pn0}{s:Shared}
theorem Inv.adopt{S:Addr}{c:Nat}(I:Inv X pins σ H s)(f:md X pins H S)(v:s.heap.get? S=some (wL us c))(r:Vals xs us)(t:xs.length<=sizeLine):Inv X pins σ (upd H S (.lst xs)) s:=by
 have a:∀ {b:Addr} {u:HO},H b=some u->b≠S:=λe z=>by rw[z,f.1] at e;cases e
 refine#[I.ok,I.os,I.bare,#[I.base.keep,I.base.slot,λb o e n h=>?_,I.base.there,λb g e=>?_,λb o u e=>?_,λb k e=>?_],I.loc,I.cell,?_,λx d e=>?_,λp i=>?_,λb u e=>?_,I.len]
 .have l:b≠S:=λz=>by
   rcases f.2.2.2.1 with q | q
   .exact h (by rw[z];exact q)
   .exact absurd (da (dw e) (by rw[z];exact q)) (hY _)
  rw[ao l];exact I.base.free b o e n h
 .have q:=I.base.tups b g e;rw[ao (a q)];exact q
 .have q:=I.base.m4 b o u e;rw[ao (a q)];exact q
 .let#[m,q]:=I.base.tbls b k e;exact#[m,by rw[ao (a q)];exact q]
 .rw[ao (ky f.2.1)];exact I.free
 .rw[ao (f.2.2.2.2.1 x d e)];exact I.freeC x d e
 .let#[A,y,w]:=I.pin p i;exact#[A,by rw[ao (f.2.2.2.2.2 p i)];exact y,w]
 .by_cases j:b=S
  .subst j;rw[aB] at e;cases e;exact#[t,us,c,r,v]
  .rw[ao j] at e;exact(I.hok b u e).pJ (λ_ _ _ q=>q) (λd q=>by rw[ao (a q)];exact q) (λd g q=>by rw[ao (a q)];exact q) λd o B q=>by rw[ao (a q)];exact q
end
section
variable {x:Str}{p:Pos}
structure Mk0 (K:Fg0) (C:Addr):Prop where
 makes:uq K C=true
 init:dV K (.ref C) "__init__"=some (some (.builtin "object.__init__"))
 kp:kv K (.ref C)=true
def Du (C:Addr):TE:=λ_ H Q=>∀ x dx,H x=none->H dx=none->dx≠x->Q (.ref x) (upd (upd H dx (.own x)) x (.ins C dx []))
theorem EV(M:Mk0 X.K C)(k:Gl X x)(j:X.mg x=some (.ref C))(c:autoParam (Vjj x) wP):PE X (.Call (.Name x p) [] [] pos) (Du C):=by
 intro d s n H Q I h;refine tT (dG I k j ?_ c);refine Zk I.kIn M.kp (PP ?_);have i:=h (s.heap.objs.size + 1) s.heap.objs.size (I.hok.fresh (Xf _)) (I.hok.fresh (cc _)) (jz (PL _));have m:=Inv.made (C:=C) I;have Y:=aa8 (M:=model X.prog X.w) I.kIn M.makes;refine Fg I.kIn M.makes M.init (λa=>Xx (PySem.W.oi_bind a)) ?_;have l:((s.heap.push hW).push (ri C s.heap.objs.size)).get? (s.heap.objs.size + 1)=some (ri C s.heap.objs.size):=by
  have:=er (s.heap.push hW) (o:=ri C s.heap.objs.size) rfl
  rwa [yn] at this
 have g:nr (model X.prog X.w) ((s.heap.push hW).push (ri C s.heap.objs.size)) (typeOf (.ref (s.heap.objs.size + 1))) (.ref C):=(Sb l).andThen .now;have f:nr (model X.prog X.w) ((s.heap.push hW).push (ri C s.heap.objs.size)) (YS (.ref (s.heap.objs.size + 1)) (.type "object")) true:=g.andThen (Y.top.keeps λb o e=>av _ (av _ e));refine WA PySem.W.oi_plain PySem.W.entry_oi (@ZE (model X.prog X.w) _ _ _ "object.__init__" "object" "__init__" (.ref (s.heap.objs.size + 1)) [] [] _ PySem.W.oi_kind PySem.W.oi_split f (PySem.W.oi_args (.ref (s.heap.objs.size + 1))) ?_);rw[PySem.W.oi_run];exact bh (And.intro rfl ⟨V.ref (s.heap.objs.size + 1),_,m,rfl,i⟩)
end
noncomputable def RA (lo c:Int)(n:Nat):It:=#[λi _=>i < n,λi H x H'=>H'=H/\x=.int (lo + i * c),λi _=>n<=i]
theorem AA(it:Addr)(lo c:Int)(n:Nat):Turn P w K tg (RA lo c n) [it] it (λi h=>af2 h it (lo + (i:Nat) * c) ((n:Int) - (i:Nat)) c) where
 mem:=by simp
 obj:=λi h st b d=>by
  obtain rfl:b=it:=by simpa using d
  exact#[_,st,λv z=>by cases (show Data.fields _=Data.cell v from z)]
 keep:=λi h j st k=>k it (by simp) _ st
 item:=by
  intro X q l r p i a s C H E I g st m;subst q l r;let#[B,A,L,y,x,u]:=g it (by simp);refine(Walks.range (prog:=X.prog) (w:=X.w) (I.ok.hd p) it lo c n).item i s _ _ m st λv j D G f F=>?_;let#[t,rfl]:=G;have N:Inv X a C H { s with heap:=j,toks:=D }:=I.turned (λb o d e=>F b o (by simpa using d) e) B A y x u;exact#[_,rfl,Bm (s:={ s with heap:=j,toks:=D }) (n:="range_iterator") f rfl rfl #[.int (lo + i * c),H,N,#[t,rfl],#[rfl,rfl],f,λb d=>(g b d).1]]
 done:=by
  intro X q l r p i a s C H E I g st m;subst q l r;let#[B,A,L,y,x,u]:=g it (by simp);have J:n<=i:=m;exact ac6 (I.ok.hd p) st (by lia) λj M=>#[rfl,I.turned (t':=s.toks) (λb o d e=>M b o d e) B A y x u]
 self:=λ_ _ _ _ _ st h=>YB st h
noncomputable def sgn (c:Nat):Str:=#[(Vz9 [c])]
noncomputable def Its (x:Str):It:=#[λi _=>i < x.cps.size,λi H v H'=>H'=H/\∃ c,x.cps[i]?=some c/\v=.str (sgn c),λi _=>x.cps.size<=i]
theorem Ga(it:Addr)(x:Str)(t:Tok):Turn P w K tg (Its x) [it] it (λi h=>h.IsStrIter it "str_ascii_iterator" x t i) where
 mem:=by simp
 obj:=λi h st b g=>by
  obtain rfl:b=it:=by simpa using g
  let#[o,e,c,d]:=st;exact#[o,e,λv z=>by rw[d] at z;cases z]
 keep:=λi h m st k=>let ⟨o,e,r⟩:=st;#[o,k it (by simp) o e,r]
 item:=by
  intro X q n u G i f s F H E I l st p;subst q n u;let#[D,C,L,B,A,y]:=l it (by simp);have a:i < x.cps.size:=p;refine wpAny_pyNext_ascii_item st (c:=x.cps[i]) (by simp [a]) λm j J=>?_;have N:Inv X f F H { s with heap:=m,toks:=s.toks + 1 }:=I.turned (λb o g e=>(J.2 b g).trans e) D C B A y;let#[o,e,c,d]:=id j;exact#[_,rfl,Bm (s:={ s with heap:=m,toks:=s.toks + 1 }) e c d #[.str (sgn x.cps[i]),H,N,#[_,rfl],#[rfl,_,by simp [a],rfl],j,λb g=>(l b g).1]]
 done:=by
  intro X q n u G i f s F H E I l st p;subst q n u;let#[D,C,L,B,A,y]:=l it (by simp);have a:x.cps.size<=i:=p;exact wpAny_pyNext_ascii_end (I.ok.hd G) st (by simpa using a) λm M=>#[rfl,I.turned (t':=s.toks) (λb o g e=>M b o g e) D C B A y]
 self:=λ_ _ _ _ _ st h=>wpAny_pyIter_striter_ascii st h
def Up (tl:TE):TI:=λσ H R=>tl σ H λx H1=>∃ z,x=.str z/\z.cps.all (· < 128)=true/\R (Its z) H1
theorem O6{l:Expr}{tl:TE}(j:PE X l tl):PI X tg l (Up tl):=by
 intro a s f H R I h;refine thn (j a s f H _ I h) λv c Z=>?_;let#[x,n,d,g,i]:=Z;let#[z,rfl,m,q]:=i;let#[t,rfl]:=g;refine wpAny_pyIter_ascii m ?_;refine#[c.heap.objs.size,[c.heap.objs.size],_,_,n,rfl,d.kept (t':=c.toks) λb o e=>av _ e,Ga _ z t,#[_,er _ rfl,rfl,rfl],λb k=>?_,q];obtain rfl:b=c.heap.objs.size:=by simpa using k
 exact d.xP (cc _) (d.hok.fresh (cc _))
noncomputable def SV:V->Option Int->Option Int->Hp->VK->Prop:=λx lo hi H Q=>∃ z,x=.str z/\z.length<=sizeLine/\Q (.str (Xc z lo hi)) H
theorem Oy:SlR X SV:=by
 intro g s o H x v vl p lo w r Q I m b n f h;let#[z,rfl,a,q]:=h;let#[t,rfl]:=m;refine#["str",_,F.slot_str_getitem.lookup,Ym _ _ _,?_];cases n with
 | none=>cases f with
  | none=>exact Xd (l:=none) (u:=none) (st:=none) b rfl (Zf #[eC (ad0 z _ _) a,λd k=>#[.str _,H,I.tok _,#[_,rfl],q]])
  | int j c=>exact Xd (l:=none) (u:=some (j,c)) (st:=none) b rfl (Zf #[eC (ad0 z _ _) a,λd k=>#[.str _,H,I.tok _,#[_,rfl],q]])
 | int i e=>cases f with
  | none=>exact Xd (l:=some (i,e)) (u:=none) (st:=none) b rfl (Zf #[eC (ad0 z _ _) a,λd k=>#[.str _,H,I.tok _,#[_,rfl],q]])
  | int j c=>exact Xd (l:=some (i,e)) (u:=some (j,c)) (st:=none) b rfl (Zf #[eC (ad0 z _ _) a,λd k=>#[.str _,H,I.tok _,#[_,rfl],q]])
structure TyS (K:Fg0):Prop where
 bs:aw K (.type "bool") (.type "str")=some false
 is:aw K (.type "int") (.type "str")=some false
 ns:aw K (.type "NoneType") (.type "str")=some false
 ss:aw K (.type "str") (.type "str")=some true
 ls:aw K (.type "list") (.type "str")=some false
 ts:aw K (.type "tuple") (.type "str")=some false
 ds:aw K (.type "dict") (.type "str")=some false
noncomputable def isS:V->Bool
 | .str _=>true
 | _=>false
theorem IY(F:TyS X.K):cJ X (.builtin "isinstance") (λxs H Q=>∃ x,xs=[x,.ty "str"]/\Kn H x/\Q (.bl (isS x)) H):=by
 intro a s c H xs d Q I r h;let#[x,rfl,k,q]:=h;cases k with
 | non=>exact aP I r .non F.ns rfl q
 | bl b=>exact aP I r (.bl b) F.bs rfl q
 | int i=>exact aP I r (.int i) F.is rfl q
 | str y=>exact aP I r (.str y) F.ss rfl q
 | lst e=>exact aP I r (.lst e) F.ls rfl q
 | tup e=>exact aP I r (.tup e) F.ts rfl q
 | dK e=>exact aP I r (.dK e) F.ds rfl q
section
variable {E:VS0}{s:Shared}
noncomputable abbrev DB (n:Int):Obj:={ cls:=.type "range_iterator",data:=.fields (Vz9 [rawInt (n - 1),rawInt n,rawInt (-1)]) }
theorem Sr{n:Int}(h:0<=n):Ys 0 n 1=n:=by
 unfold Ys;rw[if_pos (by decide),Int.ediv_one];split <;> lia
theorem pT{r:Addr}{n:Int}{t u v:Tok}{Q:VS0}(b:IsRange s.heap r 0 n 1 t u v)(d:0<=n)(h1:n < 2 ^ 62)(h:Q (.ref s.heap.objs.size) { s with heap:=s.heap.push (DB n) }):wpAny (model prog w) A (call (.builtin "range.__reversed__") [.ref r]) Q E s:=by
 have c:s.TypeIs (.ref r) "range":=#[_,b,rfl];have f:(sr 0 && sr n && sr 1 && sr (-1) && sr (0 - 1) && sr n)=true:=by
  simp only[sr,eN,decide_eq_true_eq];lia
 refine YQ YK c F.entry_range_reversed ?_ (F.args_range_reversed_1 _);unfold Zp.«range.__reversed__»;refine au (Xg (a:=fS r) rfl ?_);refine au ?_;unfold Builtin.Range.rangeFields;refine au (qd b rfl (x:=.int 0 t) rfl ?_);refine au (Xg (a:=some (0:Int)) rfl ?_);refine au (qd b rfl (x:=.int n u) rfl ?_);refine au (Xg (a:=some n) rfl ?_);refine au (qd b rfl (x:=.int 1 v) rfl ?_);refine au (Xg (a:=some (1:Int)) rfl ?_);refine bh ?_;dsimp only;rw[Sr d,f];simp only[Bool.not_true,ry,if_false,if_true];have e:(0:Int) + (n - 1) * 1=n - 1:=by lia
 rw[e]
 first
 | exact au (vx (bh #[_,rfl,h]))
 | exact au (bh (au (vx (bh #[_,rfl,h]))))
theorem vi:PQ (.type "range_iterator") (.type "reversed")=pure false:=by rw[isSubtype_type];kernel_rfl
theorem pR{r:Addr}{n:Int}{t u v:Tok}{Q₁:VS0}(c:IsRange s.heap r 0 n 1 t u v)(e:0<=n)(h1:n < 2 ^ 62)(h:Q₁ (.ref s.heap.objs.size) { s with heap:=s.heap.push (DB n) }) :
  FU (model prog w) A (.call (.builtin "reversed.__new__") #[[.type "reversed",.ref r],[]]) (wants Q₁ E) s:=by
 have d:s.TypeIs (.ref r) "range":=#[_,c,rfl];refine ad5 ?_;show wpAny _ A.in1 (YT "reversed.__new__" #[[.type "reversed",.ref r],[]] >>= λ_=>again (.builtin "reversed.__new__" #[[.type "reversed",.ref r],[]])) _ _ s;refine au (Xg (F.newCall_reversed_1 _) (bh #[plainId_quiet af7 _,codeAny_builtin F.entry_reversed_new ?_]));rw[Around.under_plainId af7 _];unfold Zp.«reversed.__new__»;refine au (Xg (newClass_reversed _) ?_)
 try dsimp only
 refine au (Xg (a:=()) (by first | rfl | kernel_rfl) ?_);refine au (Xg (a:=()) (by first | rfl | kernel_rfl) ?_)
 try dsimp only
 refine au (wpAny_specialOf d YK.lookup ?_)
 try dsimp only
 refine au (Xg (YK.bind _) ?_)
 try dsimp only
 have b:¬ ((FG "range.__reversed__" == pF)=true):=ic
 first
 | rw[if_neg b]
 | (show wpAny _ _ (if (FG "range.__reversed__" == pF)=true then _ else _) _ _ _;rw[if_neg b])
 refine au (Zt ?_);refine au (m:=runValue (.call (.builtin "range.__reversed__") #[[.ref r],[]])) (show wpAny _ _ (call (.builtin "range.__reversed__") [.ref r]) _ _ _ from pT c e h1 ?_)
 first
 | exact bh h
 | exact au (bh (bh h))
theorem pS{r:Addr}{n:Int}{t u v:Tok}{Q:VS0}(c:IsRange s.heap r 0 n 1 t u v)(d:0<=n)(h1:n < 2 ^ 62)(h:Q (.ref s.heap.objs.size) { s with heap:=s.heap.push (DB n) }):wpAny (model prog w) A (call (.type "reversed") [.ref r]) Q E s:=by
 refine callType_other (U:="range_iterator") (Q₁:=λb a=>b=.ref s.heap.objs.size/\a={ s with heap:=s.heap.push (DB n) }) (by decide +kernel) F.create_reversed #[_,_,F.mro_reversed] F.made_reversed vi (F.typeCall_reversed_1 _) (pR c d h1 #[rfl,rfl]) ?_;rintro b a ⟨rfl,rfl⟩;exact#[#[_,er _ rfl,rfl],h]
end
def Us (ta:TA):TI:=λσ H R=>ta σ H λvs H1=>∃ j:Int,vs=[.int j]/\0<=j/\j < 2 ^ 62/\R (RA (j - 1) (-1) j.toNat) H1
theorem O7{a:Expr}{ta:TA}{p F c:Pos}(m:Gl X "reversed")(l:X.mg "reversed"=none)(L:Gl X "range")(K:X.mg "range"=none)(N:PA X [a] ta)(G:autoParam (bp [a] X.env=[(false,eval a X.env)]) wE)(g:autoParam (bp [.Call (.Name "range" p) [a] [] pos] X.env=[(false,eval (.Call (.Name "range" p) [a] [] pos) X.env)]) wE) :
  PI X tg (.Call (.Name "reversed" F) [.Call (.Name "range" p) [a] [] pos] [] c) (Us ta):=by
 intro f s r H R I h;refine Call_ (k9 I m l (by decide +kernel:Jv "reversed"=some (.type "reversed")) (sm ?_ g rfl));rw[g];have k:∀ (q:Sem Value) (Q:Lv0->Shared->Prop) (s:Shared),wpAny (model X.prog X.w) X.A q (λv w=>Q [v] w) X.xe s->wpAny (model X.prog X.w) X.A (spliced (backTo c [(false,q)])) Q X.xe s:=λq Q s J=>by
  show wpAny _ _ (spliced ((false,q)::backTo c [])) _ _ s;exact Xj (thn J λv w z=>ZU z)
 refine k _ _ _ ?_;refine Call_ (k9 I L K boot_range (sm (thn (N pos f s r H _ I h) λT d Z=>?_) G rfl));let#[S,y,P,B,D]:=Z;let#[j,e,E,C,q]:=D;subst e;let#[u,rfl,A]:=vals1 B;let#[t,rfl]:=A;refine call_range_1 ?_;have n:Inv X f r y { d with heap:=d.heap.push { cls:=.type "range",data:=.fields (Vz9 [.int 0 d.toks,.int j t,.int 1 (d.toks + 1)]) },toks:=d.toks + 1 + 1 }:=P.kept λb o e=>av _ e;refine pS (aq7 ..) E C ?_;refine YB (x:=j - 1) (left:=j) (step:=-1) (er _ rfl) ?_;refine#[_,_,_,_,y,rfl,n.kept (t':=d.toks + 1 + 1) λb o e=>av _ e,AA _ (j - 1) (-1) j.toNat,?_,λb M=>?_,q]
 .show af2 _ _ (j - 1 + ((0:Nat):Int) * (-1)) (((j.toNat:Nat):Int) - ((0:Nat):Int)) (-1);rw[show j - 1 + ((0:Nat):Int) * (-1)=j - 1 by simp,show ((j.toNat:Nat):Int) - ((0:Nat):Int)=j by simp;lia];exact er _ rfl
 .have O:b=d.heap.objs.size + 1:=by simpa using M
  have i:(d.heap.push { cls:=.type "range",data:=.fields (Vz9 [.int 0 d.toks,.int j t,.int 1 (d.toks + 1)]) }).objs.size<=b:=by rw[yn,O];exact cc _
  exact n.xP i (n.hok.fresh i)
structure ExcAt (d:Bool) (n:Nat) (H:Hp) (h:Heap) (e:Addr) (cls:Value) (dx:Option Addr):Prop where
 ge:n<=e
 free:H e=none
 rcd:∃ oe vs,h.get? e=some oe/\oe.cls=cls/\oe.dict=dx/\oe.data=.fields vs/\(2 < vs.size/\(d=false->vs[2]?=some .none))/\
  (vs[1]?=some .none\/∃ T oT ts,vs[1]?=some (.ref T)/\n<=T/\T≠e/\H T=none/\h.get? T=some oT/\oT.data=.fields ts/\ts[3]?=some .none)
structure Lv (n:Nat) (H:Hp) (fs:La0) (h h':Heap):Prop where
 keep:∀ b o,h.get? b=some o->b∉fs->(b < n\/H b≠none)->h'.get? b=some o
 slot:∀ b o,h.get? b=some o->b∈fs->∃ sl,h'.get? b=some { o with slots:=sl }
 there:∀ b o,h.get? b=some o->∃ o',h'.get? b=some o'
theorem Lv.trans{fs:La0}{h h1 f:Heap}(x:Lv n H fs h h1)(y:Lv n H fs h1 f):Lv n H fs h f where
 keep:=λb o q e a=>y.keep b o (x.keep b o q e a) e a
 slot:=λb o q a=>by
  let#[i,d]:=x.slot b o q a;let#[c,g]:=y.slot b _ d a;exact#[c,g]
 there:=λb o q=>let ⟨_,d⟩:=x.there b o q;y.there b _ d
section
variable {E:VS0}{s:Shared}{cls:Value}{d:Bool}
theorem Bw{vs:Array Value}{a:Value}{i:Bool}{Q:Unit->Shared->Prop}(J:A.frames=some (env::outer))(I:s.heap.FunFrames base (env::outer))(hf:env.frame=some L)(hn:n<=s.heap.objs.size)(hH:∀ b,s.heap.objs.size<=b->H b=none)(V:n<=e)(W:H e=none)(K:s.heap.get? e=some oe)(hc:oe.cls=cls)(hx:oe.dict=dx)(hd:oe.data=.fields vs)(F:2 < vs.size/\(d=false->vs[2]?=some .none))(h:∀ h',Lv n H (frs (env::outer)) s.heap h'->ExcAt d n H h' e cls dx->h'.FunFrames base (env::outer)->Q () { s with heap:=h' }) :
  wpAny M A (frameOf env >>= λfo=>entryPlaceOf L i >>= λk=>ah3 a fo .none (rawInt L) .none k >>= setField (.ref e) 1) (λ_ s'=>wpAny M A (ab0 (.ref e) none) Q E s') E s:=by
 have X:e∉frs (env::outer):=λm=>by
  let#[_,o,U,t]:=I.mem m;rw[K] at U;cases U;exact t vs hd
 refine au (wpAny_frameOf_fun J I hf λc so=>au (wpAny_entryPlaceOf λr G=>?_));unfold ah3 newFields;have y:=G.sizeOk5 a (.ref L) .none (rawInt L) .none;refine au (vx ?_ y);generalize v:({ cls:=.type "traceback",dict:=none,data:=.fields ([a,.ref L,.none,rawInt L,.none]++(if r.isEmpty then bw 6 pF else r)).toArray }:Obj)=C;have p:C.data=.fields ([a,.ref L,.none,rawInt L,.none]++(if r.isEmpty then bw 6 pF else r)).toArray:=by rw[<- v]
 have bf:C.isFreed=false:=by rw[<- v];rfl
 have Z:c.get? e=some oe:=(so.2.1 e X).trans K;have Y:=av (h:=c) C Z;have l:1 < vs.size:=ak6 F.1;refine XC Y hd l ?_;have D:c.objs.size≠e:=wh (dw Z);have R:=VO hd (·.setIfInBounds 1 (fS c.objs.size));have O:=pL (FS (·.setIfInBounds 1 (fS c.objs.size))) Y (Xu R);have T:=(gm (c.push C) (FS (·.setIfInBounds 1 (fS c.objs.size))) (ky D)).trans (er c bf);unfold ab0;refine au (qd O R (x:=.ref c.objs.size) (by simp [l]) ?_);rw[if_pos (show (fS c.objs.size != pF)=true by simp)];have S:3 < ([a,.ref L,.none,rawInt L,.none]++(if r.isEmpty then bw 6 pF else r)).toArray.size:=by
  simp only[eR,cn,ed,rp];lia
 refine XC T p S (h _ #[λb o q t N=>?_,λb o q N=>?_,λb o q=>?_] #[V,W,?_] ?_)
 .have g:c.get? b=some o:=(so.2.1 b t).trans q;have j:c.objs.size≠b:=wh (dw g);have u:e≠b:=λz=>by
   subst z;rcases N with w | w
   .exact hY _ (da w V)
   .exact w W
  rw[gm _ _ j,gm _ _ u];exact av _ g
 .let#[B,g]:=so.2.2 b o q;have j:c.objs.size≠b:=wh (dw g);have u:e≠b:=λz=>X (by rw[z];exact N);refine#[B,?_];rw[gm _ _ j,gm _ _ u];exact av _ g
 .let#[B,g]:=so.2.2 b o q;have j:c.objs.size≠b:=wh (dw g);by_cases z:b=e
  .subst z;exact#[_,by rw[gm _ _ j];exact O]
  .exact#[_,by rw[gm _ _ j,gm _ _ (ky z)];exact av _ g]
 .have t4:=pL (FS (·.setIfInBounds 3 ((none:Option Addr).elim pF λf=>rawInt f))) T (Xu (VO p _));refine#[_,_,by rw[gm _ _ D];exact O,by rw[Obj.cls_mapFields];exact hc,?_,R,#[by simpa using F.1,λz=>by rw[Array.getElem?_setIfInBounds_ne (by decide)];exact F.2 z],.inr #[c.objs.size,_,_,by simp [l],by rw[so.1];exact hn,D,hH _ (by rw[so.1];exact cc _),t4,VO p _,?_]]
  .rw[<- hx];let#[c0,d0,P,s0]:=oe;cases P <;> rfl
  .rw[Xy S];rfl
 .refine I.of_keeps λb o q t=>?_;let#[B,g]:=so.2.2 b o q;have j:c.objs.size≠b:=wh (dw g);have u:e≠b:=λz=>by
   subst z;rw[K] at q;cases q;exact t vs hd
  exact#[{ o with slots:=B },by rw[gm _ _ j,gm _ _ u];exact av _ g,rfl]
theorem Bj{Q:Unit->Shared->Prop}(i:A.frames=some (env::outer))(p:s.heap.FunFrames base (env::outer))(k:env.frame=some L)(D:n<=s.heap.objs.size)(G:∀ b,s.heap.objs.size<=b->H b=none)(x:ExcAt d n H s.heap e cls dx)(h:∀ h',Lv n H (frs (env::outer)) s.heap h'->ExcAt d n H h' e cls dx->h'.FunFrames base (env::outer)->Q () { s with heap:=h' }):wpAny M A (ab1 (.ref e) env) (λ_ s'=>wpAny M A (ab0 (.ref e) none) Q E s') E s:=by
 let#[J,K,Y,t,l,F,B,hd,y,N]:=x;rcases N with h1 | ⟨T,Z,u,h1,U,R,W,j,hdT,I⟩
 .unfold ab1;simp only[k];refine au (qd l hd h1 ?_);rw[if_neg (by decide)];exact Bw i p k D G J K l F B hd y h
 .unfold ab1;simp only[k];refine au (qd l hd h1 ?_);rw[if_pos (show (fS T != pF)=true by simp)];refine au (qd j hdT I ?_);rw[if_neg (show ¬ ((pF == rawInt L)=true) by simp [rawInt])];have c:=(VE.mp I).1;refine au (XC j hdT c ?_);have g:∀ b,b≠T->(s.heap.update T (FS (·.setIfInBounds 3 pF))).get? b=s.heap.get? b:=λb a=>gm _ _ (ky a);have O:=pL (FS (·.setIfInBounds 3 pF)) j (Xu (VO hdT _));have P:∀ b o,s.heap.get? b=some o->(∀ t,o.data≠.fields t)->b≠T:=λb o a f z=>by
   rw[z,j] at a;cases a;exact f u hdT
  have v:(s.heap.update T (FS (·.setIfInBounds 3 pF))).objs.size=s.heap.objs.size:=Heap.size_after_update ..;have r:T∉frs (env::outer):=λm=>by
   let#[_,o,C,f]:=p.mem m;rw[j] at C;cases C;exact f u hdT
  refine Bw (s:={ s with heap:=s.heap.update T (FS (·.setIfInBounds 3 pF)) }) i (p.of_keeps λb o a f=>#[o,(g b (P b o a f)).trans a,rfl]) k (by show n<=_;rw[v];exact D) (λb a=>G b (by have a:_<=b:=a;rw[v] at a;exact a)) J K ((g e (ky R)).trans l) F B hd y λh' S X V=>h h' ?_ X V;refine Lv.trans (h1:=s.heap.update T (FS (·.setIfInBounds 3 pF))) #[λb o q f a=>(g b λz=>?_).trans q,λb o q a=>#[o.slots,(g b λz=>r (by rw[<- z];exact a)).trans q],λb o q=>?_] S
  .subst z;rcases a with w | w
   .exact hY _ (da w U)
   .exact w W
  .by_cases z:b=T
   .subst z;exact#[_,O]
   .exact#[o,(g b z).trans q]
theorem HV{Q:Unit->Shared->Prop}(a:A.frames=some (env::outer))(f:s.heap.FunFrames base (env::outer))(g:env.frame=some L)(c:n<=s.heap.objs.size)(i:∀ b,s.heap.objs.size<=b->H b=none)(x:ExcAt d n H s.heap e cls dx)(h:∀ h',Lv n H (frs (env::outer)) s.heap h'->ExcAt d n H h' e cls dx->h'.FunFrames base (env::outer)->Q () { s with heap:=h' }):wpAny M A (leaving env (.ref e)) Q E s:=by
 unfold leaving;exact au (Bj a f g c i x h)
noncomputable def CX1 (P:Pv)(w:World)(base:Heap)(d:Bool:=false):CXT:=λouter H s E a s'=>∃ e cls dx H',a=.ref e/\s'.os=s.os/\Yy s'.gens/\Un (frs outer) [] H H' s.heap s'.heap/\HOk P w H' s'.heap/\s'.heap.FunFrames base outer/\ExcAt d s.heap.objs.size H' s'.heap e cls dx/\E cls dx H'
end
theorem ExcAt.up{d:Bool}{h:Heap}{cls:Value}(x:ExcAt d n H h e cls dx)(k:d=true->d'=true):ExcAt d' n H h e cls dx:=by
 let#[m,o,f,b,l,j,i,g,a,c]:=x;refine#[m,o,f,b,l,j,i,g,#[a.1,λz=>a.2 ?_],c];cases d with
 | false=>rfl
 | true=>rw[k rfl] at z;cases z
section
variable {mg:SV0}{s:Shared}{d:Bool}
theorem BW{CX:CXT}{D:Pn0}{y:Shared}{cls:Value}(I:Inv (lA (CX1 P w base d) P w K mg base N qual scope f cd A outer s H E) D σ H1 y)(os:s'.os=y.os)(bare:Yy s'.gens)(k:Un (frs (envOfC qual scope s.heap.objs.size f cd::outer)) [] H1 H' y.heap s'.heap)(F:HOk P w H' s'.heap)(U:s'.heap.FunFrames base (envOfC qual scope s.heap.objs.size f cd::outer))(V:ExcAt d s.heap.objs.size H' s'.heap e cls dx)(hE:E cls dx H') :
  (lA (CX1 P w base d) P w K mg base N qual scope f cd A outer s H E).xe (.ref e) s':=by
 have W:s.heap.objs.size<=y.heap.objs.size:=I.sz;have hL:(envOfC qual scope s.heap.objs.size f cd).frame=some s.heap.objs.size:=rfl;have x:∀ b,b∈frs (envOfC qual scope s.heap.objs.size f cd::outer)->b=s.heap.objs.size\/b∈frs outer:=λb i=>by
  have i:b∈s.heap.objs.size::frs outer:=i;exact dk.mp i
 have r:∀ b o,s.heap.get? b=some o->b < s.heap.objs.size:=λb o q=>dw q;have p:∀ b,b < s.heap.objs.size->b∉frs outer->b∉frs (envOfC qual scope s.heap.objs.size f cd::outer):=λb lt t m=>by
  rcases x b m with z | z
  .rw[z] at lt;exact hY _ lt
  .exact t z
 have h:Un (frs outer) [] H H1 s.heap y.heap:=I.base;have v:∀ b,b∈frs (envOfC qual scope s.heap.objs.size f cd::outer)->H' b=none:=λb i=>by
  have B:H1 b=none:=by
   rcases x b i with z | z
   .subst z;exact I.free
   .let#[_,o,L,_]:=I.ok.lQ.mem z;exact h.free b o L (I.ok.frf b z) (by simp)
  let#[_,o,L,_]:=U.mem i;have:∃ o1,y.heap.get? b=some o1:=by
   rcases x b i with z | z
   .let#[m,#[o1,_,_,j,_],_]:=I.loc;exact#[o1,by rw[z];exact j]
   .let#[_,o,L,_]:=I.ok.lQ.mem z;exact h.there b o L (by simp)
  let#[o1,j]:=this;exact k.free b o1 j B (by simp)
 have M:s.heap.objs.size<=s'.heap.objs.size:=by
  let#[m,#[o1,_,_,j,_],_]:=I.loc;let#[S,O]:=k.there _ o1 j (by simp);exact Wh (dw (a:=s.heap.objs.size) O)
 refine HV (n:=s.heap.objs.size) I.ok.frames U hL M (λb i=>F.fresh i) V λh' J ex Q=>#[e,cls,dx,H',rfl,os.trans I.os,bare,?_,?_,Q.2.2,ex,hE]
 .have k1:∀ b o,s.heap.get? b=some o->H b=none->b∉frs outer->s'.heap.get? b=some o/\H' b=none:=λb o q nn t=>by
   have l:=h.keep b o q nn t (by simp);have B:=h.free b o q nn (by simp);exact#[k.keep b o l B (p b (r b o q) t) (by simp),k.free b o l B (by simp)]
  refine#[λb o q nn t _=>?_,λb o q nn i _=>?_,λb o q nn _=>?_,λb o q _=>?_,λb R q=>k.tups b R (h.tups b R q),λb o u q=>k.m4 b o u (h.m4 b o u q),λb Z q=>?_]
  .exact J.keep b o (k1 b o q nn t).1 (p b (r b o q) t) (.inl (r b o q))
  .let#[sl,l]:=h.slot b o q nn i (by simp);have B:=h.free b o q nn (by simp);have G:b∈frs (envOfC qual scope s.heap.objs.size f cd::outer):=cb s.heap.objs.size i;let#[X,C]:=k.slot b _ l B G (by simp);let#[sl3,Y]:=J.slot b _ C G;exact#[sl3,Y]
  .let#[o1,l]:=h.there b o q (by simp);exact k.free b o1 l (h.free b o q nn (by simp)) (by simp)
  .let#[o1,l]:=h.there b o q (by simp);let#[S,C]:=k.there b o1 l (by simp);exact J.there b S C
  .let#[m1,l]:=h.tbls b Z q;let#[m2,C]:=k.tbls b _ l;exact#[m1++m2,by rw[C,ai3]]
 .intro b o q;refine(F b o q).pJ (λc u hc g=>?_) (λ_ z=>z) λ_ _ z=>z;have T:H' c≠none:=by
   rcases hc with z | z
   .rw[z,q];simp
   .rw[z];simp
  exact J.keep c u g (λm=>T (v c m)) (.inr T)
theorem RH{CX:CXT}{c:Pn0}{b:Shared}{cls:Value}(I:Inv (lA (CX1 P w base d) P w K mg base N qual scope f cd A outer s H E) c σ H1 b)(os:s'.os=b.os)(bare:Yy s'.gens)(j:Un (frs (envOfC qual scope s.heap.objs.size f cd::outer)) [] H1 H' b.heap s'.heap)(g:HOk P w H' s'.heap)(z:s'.heap.FunFrames base (envOfC qual scope s.heap.objs.size f cd::outer))(x:ExcAt d b.heap.objs.size H' s'.heap e cls dx)(o:E cls dx H') :
  (lA (CX1 P w base d) P w K mg base N qual scope f cd A outer s H E).xe (.ref e) s':=by
 have a:s.heap.objs.size<=b.heap.objs.size:=I.sz;have h:ExcAt d s.heap.objs.size H' s'.heap e cls dx:=by
  let#[v,y,m,i,u,t,r,q,p,l]:=x;refine#[eC a v,y,m,i,u,t,r,q,p,l.imp id ?_];rintro⟨T,n,k,D,C,B⟩;exact#[T,n,k,D,eC a C,B]
 exact BW (CX:=CX) I os bare j g z h o
theorem DJ(k:autoParam (d'=true->d=true) wP):Passes (CX1 P w base d') (lA (CX1 P w base d) P w K mg base N qual scope f cd A outer s H E) E:=λb l q m o n I h=>by
 let#[e,j,p,r,rfl,os,bare,c,a,i,x,g]:=h;exact RH (CX:=CX0) I os bare c a i (x.up k) g
end
open PySem PySem.Spec PyProof.Rows PySem.W
noncomputable def jt (K:Frag)(C:Addr)(B a:String):Bool:=match K.lookup C with
 | some ⟨c,_,.cls cd,b⟩=>c == .type "type" && !cd.hasDel && (b.toList[4]?).join == some (.builtin a) && !cd.mro.isEmpty && cd.mro.contains (.ref C) && cd.mro.contains (.type B) && !cd.mro.contains (.type "AttributeError") && !cd.mro.contains (.type "NameError") &&
   cd.mro.contains (.type "BaseException") && VC K (.ref C) "__call__" == some (some (.builtin "type.__call__")) && instIn K (.ref C) (.type "type") == some true
 | _=>false
structure gx (M:Model) (h:Heap) (C:Addr) (B newId:String):Prop where
 obj:∃ oc od cd sl,h.get? C=some #[oc,od,.cls cd,sl]/\oc=.type "type"/\cd.hasDel=false/\cd.mro.isEmpty=false
 made:Looks M h (an6 (.ref C)) (some newId)
 base:Looks M h (ad6 (.ref C)) (.ref C)
 under:∀ b r,(b,r)∈[(fS C,true),(.type B,true),(.type "BaseException",true),(.type "AttributeError",false),(.type "NameError",false)]->Looks M h (PQ (.ref C) b) r
 dunder:Looks M h (specialOf (.ref C) ("__call__":Str)) (some (FG "type.__call__"))
 isTy:Looks M h (YS (.ref C) (.type "type")) true
theorem lE{K:Frag}{h:Heap}(X:K.In h)(e:jt K C B newId=true):gx M h C B newId:=by
 unfold jt at e;split at e
 case h_2=>cases e
 rename_i y x cd u n;rw[eN,eN,eN,eN,eN,eN,eN,eN,eN,eN] at e;let#[#[#[#[#[#[#[#[#[#[S,R],P],O],N],L],H],F],G],J],I]:=e;have a:cd.mro.isEmpty=false:=by simpa using O
 have f:clsIn K C=some cd:=by unfold clsIn;rw[n]
 have line:Looks M h (mroOf (.ref C)) cd.mro:=aa1 (XS X f) .now;have four:u[4]?.join=some (.builtin newId):=by simpa using P
 have i:Looks M h (an6 (.ref C)) (some newId):=λA Q E s k q=>by
  have D:=k C _ (X C _ n);let#[w,g,d,t,os]:=s;unfold an6;refine au (line A _ E _ k ?_)
  match o:cd.mro with
  | []=>rw[o] at a;cases a
  | c::l=>
   rw[Xq];have m:∀ {p:Option Value->Shared->Prop},p (some (.builtin newId)) #[w,g,d,t,os]->wpAny M A (slotAt C 4) p E #[w,g,d,t,os]:=λ{p} z=>by
    rw[<- four] at z;exact au (xo D (bh z))
   refine au (au (au (m ?_)))
   repeat (with_reducible refine bh ?_)
   exact q
 have j:Looks M h (ad6 (.ref C)) (.ref C):=λA Q E s k q=>by
  unfold ad6;refine au (line A _ E s k ?_)
  match o:cd.mro with
  | []=>rw[o] at a;cases a
  | c::l=>
   rw[Xq];refine au (au (au (i A _ E s k ?_)));rw[if_pos (show (some newId).isSome=true from rfl)]
   repeat (with_reducible refine bh ?_)
   exact q
 have sub:∀ b r,cd.mro.contains b=r->Looks M h (PQ (.ref C) b) r:=λb r q=>td X (by rw[mroIn,f,YU,a,q];rfl);refine#[#[y,x,cd,u,X C _ n,by simpa using S,by simpa using R,a],i,j,λb r v=>sub b r ?_,looks_specialIn X (by simpa using J),looks_instIn X (by simpa using I)];simp only[dk,Prod.mk.injEq,fT,or_false] at v;rcases v with ⟨rfl,rfl⟩ | ⟨rfl,rfl⟩ | ⟨rfl,rfl⟩ | ⟨rfl,rfl⟩ | ⟨rfl,rfl⟩
 .exact N
 .exact L
 .exact G
 .simpa using H
 .simpa using F
theorem gx.self{h:Heap}(y:gx M h C B newId):Looks M h (PQ (.ref C) (.ref C)) true:=y.under _ _ (by simp)
theorem gx.top{h:Heap}(y:gx M h C B newId):Looks M h (PQ (.ref C) (.type B)) true:=y.under _ _ (by simp)
theorem gx.exc{h:Heap}(y:gx M h C B newId):Looks M h (PQ (.ref C) (.type "BaseException")) true:=y.under _ _ (by simp)
theorem gx.noA{h:Heap}(y:gx M h C B newId):Looks M h (PQ (.ref C) (.type "AttributeError")) false:=y.under _ _ (by simp)
theorem gx.noN{h:Heap}(y:gx M h C B newId):Looks M h (PQ (.ref C) (.type "NameError")) false:=y.under _ _ (by simp)
noncomputable abbrev eF (vs:Lv0):Obj:={ cls:=.type "tuple",data:=.seq vs.toArray }
noncomputable abbrev iT (C t:Addr):Obj:={ cls:=.ref C,data:=.fields (Vz9 [.ref t,.none,.none,.none,.bool false,.none]) }
theorem RJ(C:Addr)(rest:Lv0):Bind.checkArgs "ValueError.__new__" #[.any,"ValueError","ValueError",.cls,[#["args",.varPos,false],#["kwargs",.varKw,false]]] #[.ref C::rest,[]]=pure ():=by kernel_rfl
section
variable {K:Frag}{h:Heap}{g:Array GenState}{d:Drawn}{t:Nat}{os:OsState}
theorem VF{rest:Lv0}(Y:gx (model prog w) h C "ValueError" "ValueError.__new__")(v:rest.length<=sizeLine)(n:R (.ok (.ret (.ref (h.objs.size + 1)))) #[(h.push (eF rest)).push (iT C h.objs.size),g,d,t,os]) :
  FU (model prog w) A (.call (.builtin "ValueError.__new__") #[.ref C::rest,[]]) R #[h,g,d,t,os]:=by
 have top:=Y.top;have m:=Y.noA;have l:=Y.noN;have i:=Y.self;let#[#[u,s,z,r,o,y,q,x],a,base,_,dunder,j]:=Y;have F:=ZF;have e:=F.ends;have k:Looks (model prog w) h (Bind.madeHere "ValueError.__new__" (.ref C)) ():=base.andThen (a.andThen (Xx (by simp only[ao2,bne_self_eq_false,ry,if_false])));have c:Looks (model prog w) h (Bind.madeHere "BaseException.__new__" (.ref C)) ():=base.andThen (a.andThen (Xx (by simp only[ao2,F.canon,bne_self_eq_false,ry,if_false])));have b:(Code.builtin "ValueError.__new__" #[.ref C::rest,[]]).quiet=true:=ai7 _ F.quiet;refine codeAny_call_builtin_code b ?_;unfold YT;simp only[F.newRow,F.newSplit,F.newKind,RJ]
 repeat (first | lk | simp only[bne_self_eq_false,if_false,ry])
 refine codeAny_builtinAt F.entry ?_;unfold Zp.«BaseException.__new__»;refine ao3 ?_;show PySem.wpAt _ _ _ (stack >>= _) _ _ _;refine ao3 (PySem.wpAt_stack λp f=>ah4 ?_)
 wp_walk
 refine ah4 ?_;rw[F.owner]
 repeat (first | simp only[bne_self_eq_false,ry,if_false] | lk | wp_step)
 refine wpAny_load (av _ (av _ o)) ?_;dsimp only;rw[q];refine bh ?_;rw[if_neg (by decide)];refine bh (bh ?_);show R _ _;rw[yn];exact n
theorem BU{rest:Lv0}{f:Value}(Y:gx (model prog w) h C "ValueError" "ValueError.__new__")(n:rest.length<=sizeLine)(u:Looks (model prog w) h (typeLookup (.ref C) "__init__") (some f))(x:∀ c,Looks (model prog w) h (bindSpecial f c) (f,[c]))(s:FU (model prog w) (A.under (.builtin "type.__call__" #[.ref C::rest,[]])) (.call f #[.ref (h.objs.size + 1)::rest,[]]) (ac7 (h.objs.size + 1) R) #[(h.push (eF rest)).push (iT C h.objs.size),g,d,t,os]) :
  FU (model prog w) A (.call (.ref C) #[rest,[]]) R #[h,g,d,t,os]:=by
 have E:=Y;have c:=Y.self;let#[#[K,J,D,G,m,N,M,B],l,base,_,dunder,i]:=Y;refine ad5 ?_;show wpAny _ _ (callAny (.ref C) _) _ _ _;refine nd_load m ?_;show wpAny _ _ (ak7 (.ref C) _) _ _ _;unfold ak7;refine au (dunder.at ?_);dsimp only;rw[tc_bind];refine au (bh (au (bh ?_)));refine bh (a:=Fin.again (.call (.builtin "type.__call__") #[.ref C::rest,[]])) (And.intro rfl ?_);have j:(Code.builtin "type.__call__" #[.ref C::rest,[]]).quiet=true:=ai7 _ (by decide +kernel);refine codeAny_call_builtin_at j entry_typeCall (ZE tc_kind tc_split i (tc_args _ _ _) ?_);unfold Zp.«type.__call__»;have line:Looks (model prog w) h (mroOf (.ref C)) D.mro:=aa1 (aa1 (Sb (part:=none) m) .now) .now
 repeat (first | with_reducible refine PP ?_ | lk | simp only[ry,if_false,B])
 refine VF E n ?_;have k:∀ b o,h.get? b=some o->((h.push (eF rest)).push (iT C h.objs.size)).get? b=some o:=λb o e=>av _ (av _ e);have p:((h.push (eF rest)).push (iT C h.objs.size)).get? (h.objs.size + 1)=some (iT C h.objs.size):=by heap_get
 have F:Looks (model prog w) ((h.push (eF rest)).push (iT C h.objs.size)) (typeOf (.ref (h.objs.size + 1))) (.ref C):=(Sb p).andThen .now;have H:=c.keeps k;have L:=u.keeps k;have O:=(x (.ref (h.objs.size + 1))).keeps k;unfold YS callSpecial? specialOf
 repeat (first | with_reducible refine PP ?_ | lk)
 refine Sa s λr I z=>?_;cases r with
 | error e=>exact z
 | ok y=>
  cases y with
  | ret v=>
   let#[q,z2]:=z;subst q;exact bh (bh z2)
  | next=>exact z.elim
  | brk=>exact z.elim
  | cont=>exact z.elim
theorem xV{s:Shared}{vs:Lv0}(X:K.In s.heap)(c:jt K C "ValueError" "ValueError.__new__"=true)(b:vs.length<=sizeLine)(e:findIn K (.ref C) "__init__"=some (some (.ref f)))(i:typeIn K (.ref f)=some (.type "function"))(h:FU (model prog w) (A.under (.builtin "type.__call__" #[.ref C::vs,[]])) (.call (.ref f) #[.ref (s.heap.objs.size + 1)::vs,[]]) (ac7 (s.heap.objs.size + 1) R)
   { s with heap:=(s.heap.push (eF vs)).push (iT C s.heap.objs.size) }) :
  FU (model prog w) A (.call (.ref C) #[vs,[]]) R s:=by
 let#[j,g,d,t,os]:=s;exact BU (lE X c) b (Xs X e) (λa=>bind_fn X a i) h
end
noncomputable def df (e C:Addr)(a:Option Addr):HO:=HO.ext λh=>∃ t,h.get? e=some { cls:=.ref C,dict:=a,data:=.fields (Vz9 [.ref t,.none,.none,.none,.bool false,.none]) }
noncomputable def del (H:Hp)(a:Addr):Hp:=λb=>if b=a then none else H b
theorem iy:del H a a=none:=by unfold del;rw[if_pos rfl]
theorem dE{b:Addr}(h:b≠a):del H a b=H b:=by unfold del;rw[if_neg h]
theorem vQ{h:Heap}{t:Addr}(q:h.get? e=some { cls:=.ref C,dict:=dx,data:=.fields (Vz9 [.ref t,.none,.none,.none,.bool false,.none]) }):cQ P w H h e (df e C dx):=
 #[#[t,q],#[_,q],λ_ _ ⟨t,q⟩ k=>#[t,k _ q]]
theorem jX{h:Heap}(ok:HOk P w H h)(q:H e=some (df e C dx)):∃ t,h.get? e=some { cls:=.ref C,dict:=dx,data:=.fields (Vz9 [.ref t,.none,.none,.none,.bool false,.none]) }:=
 (show cQ P w H h e (df e C dx) from ok e _ q).1
theorem HOk.del {P:Pv}{w:World}{H:Hp}{h:Heap}{e C:Addr}{f:Option Addr}(ok:HOk P w H h)(q:H e=some (df e C f)):HOk P w (del H e) h:=λb u a=>by
 have d:b≠e:=λz=>by rw[z,iy] at a;cases a
 rw[dE d] at a;refine(ok b u a).pJ (λ_ _ _ r=>r) (λc r=>?_) (λc i r=>?_) λc o g r=>?_
 .rw[dE (lN r q (by intro z;cases z))];exact r
 .rw[dE (lN r q (by intro z;cases z))];exact r
 .rw[dE (lN r q (by intro z;cases z))];exact r
theorem Un.del {fs:La0}{H:Hp}{h:Heap}{e C:Addr}{a:Option Addr}(q:H e=some (df e C a)):Un fs [] H (del H e) h h where
 keep:=λb o g _ _ _=>g
 slot:=λb o g _ _ _=>#[o.slots,g]
 free:=λb o g n _=>by
  by_cases z:b=e
  .rw[z,iy]
  .rw[dE z];exact n
 there:=λb o g _=>#[o,g]
 tups:=λb c r=>by rw[dE (lN r q (by intro z;cases z))];exact r
 m4:=λb o u r=>by rw[dE (lN r q (by intro z;cases z))];exact r
 tbls:=λb d r=>#[#[],by rw[dE (lN r q (by intro z;cases z)),Xn];exact r]
section
variable {mg:SV0}{s:Shared}{d:Bool}
theorem RI{a:Pn0}(I:Inv (lA (CX1 P w base d) P w K mg base N qual scope f cd A outer s H E) a σ H2 s')(c:s.heap.objs.size<=e)(q:H2 e=some (df e C dx))(b:E (.ref C) dx (del H2 e)):(lA (CX1 P w base d) P w K mg base N qual scope f cd A outer s H E).xe (.ref e) s':=by
 let#[t,g]:=jX I.hok q;refine BW (CX:=CX0) I rfl I.bare (Un.del q) (HOk.del I.hok q) ?_ #[c,iy,_,_,g,rfl,rfl,rfl,#[(show 2 < 6 by decide),λ_=>rfl],.inl rfl] b;exact I.stack
end
def Raises (X:Cx)(E:XK):Prop:=∀ (pins:Pn0) (σ:St) (H2:Hp) (s':Shared) (e C:Addr) (dx:Option Addr),Inv X pins σ H2 s'->X.ab.heap.objs.size<=e->H2 e=some (df e C dx)->E (.ref C) dx (del H2 e)->X.xe (.ref e) s'
theorem mO{d:Bool}{a:SV0}{s:Shared} :
  Raises (lA (CX1 P w base d) P w K a base N qual scope f cd A outer s H E) E:=λ_ _ _ _ _ _ _ I c q b=>RI I c q b
structure XMk (K:Fg0) (C f:Addr):Prop where
 makes:jt K C "ValueError" "ValueError.__new__"=true
 init:dV K (.ref C) "__init__"=some (some (.ref f))
 fn:YC K (.ref f)=true
 kp:kv K (.ref C)=true
section
variable {CX:CXT}{sp:Sp}{ds:Lv0}{E':XK}{x m:Str}{p:Pos}{e:Expr}
theorem EI{c:Pn0}{s:Shared}{Q:Addr->Hp->Prop}(M:XMk X.K C f)(F:aT X.prog X.w X.K X.mg X.base CX k f fd ps sp)(q:cy (k + 1) X.A)(w:Binds X.K fd ps ds)(hd:Vals dvs ds)(p:Passes CX X E')(D:ps.length<=sizeLine)(I:Inv X c σ H s)(r:Vals vs us)(h:∀ x,H x=none->sp (.ref x::(vs++dvs)) (upd H x (df x C none)) (λv H2=>v=.non/\Q x H2) E') :
  wpAny (model X.prog X.w) X.A (call (.ref C) us) (λu s'=>∃ e H',u=.ref e/\X.ab.heap.objs.size<=e/\Inv X c σ H' s'/\Q e H') X.xe s:=by
 have l:=h (s.heap.objs.size + 1) (I.hok.fresh (Xf _));have B:=I.kept (t':=s.toks) (h':=s.heap.push (eF us)) λb u e=>av _ e;have g:Inv X c σ (upd H (s.heap.objs.size + 1) (df (s.heap.objs.size + 1) C none)) { s with heap:=(s.heap.push (eF us)).push (iT C s.heap.objs.size),toks:=s.toks }:=
  B.laid (t':=s.toks) (h':=(s.heap.push (eF us)).push (iT C s.heap.objs.size)) (a:=s.heap.objs.size + 1) (λb u e=>av _ e) (by rw[yn];exact cc _)
   (vQ (t:=s.heap.objs.size) (by heap_get))
 have j:Vals (V.ref (s.heap.objs.size + 1)::(vs++dvs)) (fS (s.heap.objs.size + 1)::(us++ds)):=.cons rfl (r.append hd);have m:(fS (s.heap.objs.size + 1)::us++ds).length=ps.length:=by
  have e:=j.length;rw[F.len _ _ _ _ l] at e;exact e.symm
 have i:us.length<=sizeLine:=by
  simp only[Ja,ed,cn] at m;lia
 refine PP (xV (f:=f) I.kIn M.makes i M.init (beq_iff_eq.mp M.fn) (Sa (F.run _ X.stack _ _ #[fS (s.heap.objs.size + 1)::us,[]] (fS (s.heap.objs.size + 1)::(us++ds)) _ _ E' (q.make C us [])
  (g.CU.make C us []) (w _ (fS (s.heap.objs.size + 1)::us) g.kIn m) j l) λr s' d=>?_))
 cases r with
 | error e=>exact p c σ _ _ e s' g d
 | ok y=>
  cases y with
  | ret u=>
   let#[v,H',A,n,z,o]:=g.after d;subst z;exact#[n,s.heap.objs.size + 1,H',rfl,eC I.sz (Xf _),A,o]
  | next=>exact ke d
  | brk=>exact ke d
  | cont=>exact ke d
def B5 (C:Addr)(sp:Sp)(a:List V)(b E:XK)(t:TA):TS:=λ_ σ H=>t σ H λvs H1=>∀ x,H1 x=none->sp (.ref x::(vs++a)) (upd H1 x (df x C none)) (λv H2=>v=.non/\∃ dx,H2 x=some (df x C dx)/\E (.ref C) dx (del H2 x)) b
theorem GZ(M:XMk X.K C f)(F:aT X.prog X.w X.K X.mg X.base CX k f fd ps sp)(w:cy (k + 1) X.A)(K:Gl X x)(G:X.mg x=some (.ref C))(N:Binds X.K fd ps ds)(hd:Vals dvs ds)(B:Passes CX X E')(hR:Raises X E)(A:ps.length<=sizeLine)(O:PA X (e::es) t)(m:autoParam (Vjj x) wP)(L:autoParam (Vjk X e es) wE)(l:autoParam ((backTo cpos (bp es X.env)).any (·.1)=false) wE) :
  PS X (.Raise (some (.Call (.Name x p) (e::es) [] cpos)) none pos) (B5 C sp dvs E' E t):=by
 intro a s d H D I h;rw[arm_exec_Raise];simp only[evalOpt,ai8];refine au (yv ?_);unfold raiseStmt;dsimp only;refine au (thn (Q:=λu i=>∃ e c b,u=.ref e/\X.ab.heap.objs.size<=e/\Inv X a d c i/\c e=some (df e C b)/\E (.ref C) b (del c e)) ?_ λu s1 j=>?_)
 .refine au (thn (Q:=λu i=>∃ e c b,u=.ref e/\X.ab.heap.objs.size<=e/\Inv X a d c i/\c e=some (df e C b)/\E (.ref C) b (del c e)) ?_ λu s1 j=>au (yv (bh j)));refine tT (dG I K G ?_ m);refine GM (h₀:=X.base) I.ok.mod.kin M.kp (thn (O cpos a s d H _ I h) λus s1 ⟨vs,H1,y,r,q⟩=>#[y.kIn,?_]) L l;refine thn (EI (Q:=λe z=>∃ b,z e=some (df e C b)/\E (.ref C) b (del z e)) M F w N hd B A y r q) λu i ⟨e,c,Z,W,V,b,U,T⟩=>#[e,c,b,Z,W,V,U,T]
 .let#[e,c,b,rfl,R,n,q,P]:=j;let#[tt,g]:=jX n.hok q;have Y:=lE (M:=model X.prog X.w) n.kIn M.makes;have S:=Y.exc;let#[#[oc,od,cd,sl,hC,rfl,e2,e4],o,base,_,dunder,v]:=Y;have f1:nr (model X.prog X.w) s1.heap (typeOf (.ref e)) (.ref C):=(Sb g).andThen .now;have done:X.xe (.ref e) s1:=hR a d c s1 e C b n R q P;have J:=w.hd;let#[hp,gg,dd,tk,os]:=s1
  repeat (first | with_reducible exact wpAny_raiseNew_none J done | lk | with_reducible refine xo g ?_ | wp_step)
end
open Builtin Builtin.ObjectAttr
noncomputable def t5:Lv0->Bool
 | .ref _::r=>t5 r
 | l=>l == [.type "ValueError",.type "Exception",.type "BaseException",.type "object"]
theorem Ce(a:Value):refuseLoop a "__setattr__" [.type "ValueError",.type "Exception",.type "BaseException",.type "object"]=pure ():=by kernel_rfl
theorem ye (a:Value):∀ {l:Lv0},t5 l=true->refuseLoop a "__setattr__" l=pure ()
 | [],e=>by cases beq_iff_eq.mp (show ([] == [Xi "ValueError",.type "Exception",.type "BaseException",.type "object"])=true from e)
 | x::r,e=>by
  cases x with
  | ref c=>rw[refuseLoop_ref];exact ye a (l:=r) e
  | type n=>rw[beq_iff_eq.mp (show ((Xi n::r) == [Xi "ValueError",.type "Exception",.type "BaseException",.type "object"])=true from e)];exact Ce a
  | _=>cases (ah8 (beq_iff_eq.mp e)).1
theorem BZ:∀ {l:Lv0},t5 l=true->l.contains (.type "object")=true
 | [],e=>by cases beq_iff_eq.mp (show ([] == [Xi "ValueError",.type "Exception",.type "BaseException",.type "object"])=true from e)
 | x::r,e=>by
  cases x with
  | ref c=>rw[List.contains_cons,BZ (l:=r) e,Bool.or_true]
  | type n=>rw[beq_iff_eq.mp (show ((Xi n::r) == [Xi "ValueError",.type "Exception",.type "BaseException",.type "object"])=true from e)];decide +kernel
  | _=>cases (ah8 (beq_iff_eq.mp e)).1
theorem JK{l:Lv0}(h:t5 l=true):l.isEmpty=false:=by
 match l with
 | []=>cases BZ h
 | _::_=>rfl
abbrev UR (prog:Pv)(w:World)(A:Around)(R:Result->Shared->Prop)(fin:PySem.Fin)(b:Shared):Prop:=match fin with
 | .done c=>R (.ok c) b
 | .again a=>a.quiet=true/\FU (model prog w) A a R b
structure Dj (K:Fg0) (C:Addr):Prop where
 hd:ov K C=true
 po:(WV K C).any (λcd=>t5 cd.mro)=true
 sa:dV K (.ref C) "__setattr__"=some (some (.builtin "object.__setattr__"))
section
variable {E:VS0}{s:Shared}
open PySem.W in
theorem xU {ox:Obj}{od:Option Obj}{j:Tok}{r:Option Value}(X:K.In s.heap)(I:InstAt s.heap e ox C od)(c:Dj K C)(p:Do K C name=some none)(h:∀ b,wpAny (model prog w) A.in1 (storeInOwnDict (.ref e) (.ref C) (.str name j) name v b) (UR prog w A R) (λx o=>R (.error x) o) s) :
  FU (model prog w) A (.call (.builtin "object.__setattr__") #[[.ref e,.str name j,v],[]]) R s:=by
 have g:=PySem.F.store_object;let#[z,m,l]:=Ye c.po;have line:Looks (model prog w) s.heap (mroOf (.ref C)) z.mro:=aa1 (XS X m) .now;have Gi:mroIn K C (.type "object")=some true:=by rw[mroIn,m,YU,JK l,BZ l];rfl
 have inst:Looks (model prog w) s.heap (YS (.ref e) (.type "object")) true:=I.type.andThen (td X Gi);refine WA g.slot.plain g.entry ?_;refine ZE (i:="object.__setattr__") (owner:="object") (n:="__setattr__") (rest:=[.str name j,v]) (kw:=[]) g.kind g.split inst (g.args (.ref e) (.str name j) v) ?_;let#[d,u,k]:=Ti.mp p;have f:Looks (model prog w) s.heap (storeTaker? d) none:=by
  match d,k with
  | none,_=>exact .now
  | some a,k=>
   let#[t,q,y]:=Option.map_eq_some_iff.mp k
   match t,y with
   | false,_=>exact(looks_takesIn X q).andThen .now
 rw[osa_eq,refuse_eq];refine au ?_;refine au (I.type.here ?_);refine au (line.here ?_);rw[ye _ l];refine bh ?_;refine au (I.type.here ?_);refine au ((Xs X u).here ?_);exact au (f.here (h _))
theorem FJ{vs:Array Value}{Q:Unit->Shared->Prop}(X:K.In s.heap)(g:s.heap.get? e=some { cls:=.ref C,data:=.fields vs })(c:Dj K C)(x:Do K C name=some none)(h:∀ h' tk,h'.get? e=some { cls:=.ref C,dict:=some s.heap.objs.size,data:=.fields vs }->h'.Ns1 s.heap.objs.size (λy=>if y=name then some v else none)->(∀ b o,b≠e->s.heap.get? b=some o->h'.get? b=some o)->
   Q () { s with heap:=h',toks:=tk }):wpAny (model prog w) A (aj4 (.ref e) name v) Q E s:=by
 have I:Zv s.heap e { cls:=.ref C,data:=.fields vs } C none:=#[g,rfl,rfl,TQ];refine ZS X I c.sa (xU (s:={ s with toks:=s.toks + 1 }) (r:=none) X I c x λb=>?_);let#[J,B,l]:=Ye c.hd;have i:e≠s.heap.objs.size:=jz (dw g);refine au (bh (au (au (Zw (s:={ s with toks:=s.toks + 1 }) g (au (Zx (s:={ s with toks:=s.toks + 1 }) (XS X B) ?_))))));rw[l];have t:(s.heap.push hW).get? e=some { cls:=.ref C,data:=.fields vs }:=av _ g;refine au (wpAny_alloc (au (wpAny_update t ?_)));refine bh (a:=some s.heap.objs.size) ?_;have F:((s.heap.push hW).update e λo=>{ o with dict:=some s.heap.objs.size }).get? s.heap.objs.size=some hW:=(ah5 _ _ _ _ i.symm).trans (Heap.get?_push_at rfl rfl);have u:((s.heap.push hW).update e λo=>{ o with dict:=some s.heap.objs.size }).Ns s.heap.objs.size (λ_=>none):=#[_,#[],_,F,rfl,λe z=>absurd z (by simp),λ_=>rfl];have G:((s.heap.push hW).update e λo=>{ o with dict:=some s.heap.objs.size }).get? e=some { cls:=.ref C,dict:=some s.heap.objs.size,data:=.fields vs }:=pL _ t rfl;show wpAny _ _ (storeInDict s.heap.objs.size (.str name s.toks) name v) _ _ { s with heap:=((s.heap.push hW).update e λo=>{ o with dict:=some s.heap.objs.size }),toks:=s.toks + 1 };unfold storeInDict newKeyGuard;refine au (bh (au (aj5 (s:={ s with heap:=((s.heap.push hW).update e λo=>{ o with dict:=some s.heap.objs.size }),toks:=s.toks + 1 }) (aj7 u) λh' f d=>?_)));let#[oD,p,H,j,k,m]:=f.count (ZT name v PySem.Within.nil);have n:p.size<=sizeLine:=eC m (show 1<=sizeLine by rw[ff];decide);refine au (aa6 j (k ▸ aa7 (ak8 n)) ?_);exact bh (h h' _ ((d.2 e i).trans G) f λb o D q=>(d.2 b (jz (dw q))).trans ((ah5 _ _ _ _ D).trans (av _ q)))
theorem FI{vs:Array Value}{d:Addr}{j:SV0}{t:Ls0}{Q:Unit->Shared->Prop}(X:K.In s.heap)(g:s.heap.get? e=some { cls:=.ref C,dict:=some d,data:=.fields vs })(n:s.heap.Ns1 d j)(x:d≠e)(c:Dj K C)(B:Do K C name=some none)(z:XI j t)(hsz:t.length + 1<=sizeLine)(h:∀ h' tk,h'.get? e=some { cls:=.ref C,dict:=some d,data:=.fields vs }->h'.Ns1 d (λy=>if y=name then some v else j y)->Yz d s.heap h'->Q () { s with heap:=h',toks:=tk }):wpAny (model prog w) A (aj4 (.ref e) name v) Q E s:=by
 let#[u,D,_]:=pv n;have I:Zv s.heap e { cls:=.ref C,dict:=some d,data:=.fields vs } C (some u):=#[g,rfl,rfl,D];refine ZS X I c.sa (xU (s:={ s with toks:=s.toks + 1 }) (r:=none) X I c B λb=>?_);let#[H,F,m]:=Ye c.hd;refine au (bh (au (au (Zw (s:={ s with toks:=s.toks + 1 }) g (au (Zx (s:={ s with toks:=s.toks + 1 }) (XS X F) ?_))))));rw[m];refine bh (a:=some d) ?_;refine au (bh ?_);refine au ?_;refine aj5 (s:={ s with toks:=s.toks + 1 }) n λh' i f=>?_;let#[oD,q,G,k,l,o]:=i.count (ZT name v z);have p:q.size<=sizeLine:=eC o (by simpa using hsz);refine au (aa6 k (l ▸ aa7 (ak8 p)) ?_);exact bh (h h' _ ((f.2 _ (ky x)).trans g) i f)
end
noncomputable def XdO (d:Addr)(fs:List (Str×V)):HO:=HO.ext λh=>∃ mA,h.Ns1 d mA/\(∀ f,pY (fs.lookup f) (mA f))/\XI mA (fs.map (·.1))
theorem FP{h:Heap}{d:Addr}{fs:List (Str×V)}{a:SV0}(n:h.Ns1 d a)(r:∀ f,pY (fs.lookup f) (a f))(b:XI a (fs.map (·.1))):cQ P w H h d (XdO d fs):=
 #[#[a,n,r,b],let ⟨o,_,_,q,_⟩:=n;#[o,q],λ_ _ ⟨a,n,r,b⟩ k=>#[a,n.at k,r,b]]
theorem y9{h:Heap}{d:Addr}{fs:List (Str×V)}(ok:HOk P w H h)(q:H d=some (XdO d fs)):∃ mA,h.Ns1 d mA/\(∀ f,pY (fs.lookup f) (mA f))/\XI mA (fs.map (·.1)):=
 (show cQ P w H h d (XdO d fs) from ok d _ q).1
section
variable {pins:Pn0}{s:Shared}{E:VS0}{d:Addr}{f:Str}{fs:List (Str×V)}
theorem y7{Q:Unit->Shared->Prop}(I:Inv X pins σ H s)(q:H e=some (df e C none))(c:Dj X.K C)(n:Do X.K C f=some none)(F:RelV y u)(h:∀ d s',H d=none->d≠e->Inv X pins σ (upd (upd H d (XdO d [(f,y)])) e (df e C (some d))) s'->Q () s'):wpAny (model X.prog X.w) A (aj4 (.ref e) f u) Q E s:=by
 let#[t,g]:=jX I.hok q;have i:s.heap.objs.size≠e:=wh (dw g);refine FJ I.kIn g c n λh' D B v k=>h s.heap.objs.size _ (I.hok.fresh (cc _)) i ?_;let#[od,L,M,p,m]:=id v;have r:od.isFreed=false:=(Heap.get?_some_iff.mp p).2;have w:(s.heap.push od).get? s.heap.objs.size=some od:=er _ r;have G:(s.heap.push od).Ns1 s.heap.objs.size (λy=>if y=f then some u else none):=v.at λo q=>by rw[p] at q;cases q;exact w
 have K:=I.laid (a:=s.heap.objs.size) (o:=XdO s.heap.objs.size [(f,y)]) (h':=s.heap.push od) (t':=s.toks) (λb u q=>av _ q) (cc _) (FP G (λg=>?_) λg J=>?_)
 .refine K.write (t':=D) (h':=h') (x:=e) (e:=e) (o:=df e C (some s.heap.objs.size)) (by rw[ao (ky i),q];exact TQ) (.inl rfl) (λb u l z=>?_) #[_,B] (vQ B);by_cases j:b=s.heap.objs.size
  .subst j;rw[w] at z;cases z;exact p
  .refine k b u l ?_;have:(s.heap.push od).get? b=s.heap.get? b:=Heap.get?_push_ne s.heap b od j;rw[<- this];exact z
 .show pY (SF g [(f,y)]) (if g=f then some u else none);by_cases z:g=f
  .have l:(g == f)=true:=beq_iff_eq.mpr z;simp only[SF,l,if_pos z];exact F
  .have l:(g == f)=false:=beq_eq_false_iff_ne.mpr z;simp only[SF,l,if_neg z];exact TQ
 .by_cases z:g=f
  .simp [z]
  .exact absurd (if_neg z) J
theorem y6{Q:Unit->Shared->Prop}(I:Inv X pins σ H s)(q:H e=some (df e C (some d)))(i:H d=some (XdO d fs))(v:d≠e)(J:fs.length < 1000)(c:Dj X.K C)(n:Do X.K C f=some none)(p:RelV y u)(h:∀ s',Inv X pins σ (upd H d (XdO d (j0 f y fs))) s'->Q () s'):wpAny (model X.prog X.w) A (aj4 (.ref e) f u) Q E s:=by
 let#[t,g]:=jX I.hok q;let#[k,w,r,a]:=y9 I.hok i;have B:(fs.map (·.1)).length + 1<=sizeLine:=by rw[lM0,ff];lia
 refine FI I.kIn g w v c n a B λK l L j m=>h _ ?_;refine I.write (t':=l) (x:=d) (e:=d) (by rw[i];exact TQ) (.inl rfl) (λb q F z=>(m.2 b F).trans z) (let ⟨o,_,_,G,_⟩:=j;#[o,G]) (FP j (λg=>?_) λg D=>?_)
 .show pY ((j0 f y fs).lookup g) (if g=f then some u else k g);rw[oB];by_cases q:g=f
  .rw[if_pos q,if_pos q];exact p
  .rw[if_neg q,if_neg q];exact r g
 .by_cases q:g=f
  .rw[q];exact(lP f y fs).1
  .refine(lP f y fs).2 g (a g λz=>D ?_);show (if g=f then some u else k g)=none;rw[if_neg q];exact z
end
def Sw (K:Fg0)(ta a:TE)(f:Str):TS:=λD σ H=>a σ H λy H1=>ta σ H1 λx H2=>∃ e C,x=.ref e/\Dj K C/\Do K C f=some none/\
 ((H2 e=some (df e C none)/\∀ d,H2 d=none->d≠e->D.nx σ (upd (upd H2 d (XdO d [(f,y)])) e (df e C (some d))))\/
  ∃ d fs,H2 e=some (df e C (some d))/\H2 d=some (XdO d fs)/\d≠e/\fs.length < 1000/\D.nx σ (upd H2 d (XdO d (j0 f y fs))))
section
variable {CX:CXT}{g:Addr}{sp:Sp}{ds:Lv0}{x m f:Str}{p pos':Pos}{e value:Expr}{tv:TE}{mc:Value}
theorem rS(F:PE X o ta)(A:PE X value tv)(B:autoParam (Xb value (some (.Attribute o f pos')) pos.line X.env=pure false) wE):PS X (.Assign [.Attribute o f pos'] value pos) (Sw X.K ta tv f):=by
 intro b s g H D I h;refine YI (thn (A b s g H _ I h) λu r ⟨y,K,J,l,q⟩=>thn (F b r g K _ J q) λw L Z=>?_) B;let#[x,M,m,t,a,C,G,c,n,e]:=Z;subst G;obtain rfl:w=fS a:=t;rcases e with ⟨i,e⟩ | ⟨d,fs,i,v,z,E,e⟩
 .exact y7 m i c n l λd p hd j k=>#[g,_,k,e d hd j]
 .exact y6 m i v z E c n l λp k=>#[g,_,k,e]
end
namespace _x
open PySem.W
theorem fc(K:Frag):aa2 K (.type "ValueError") (.type "type") "__init__"=some (.val (.builtin "ValueError.__init__")):=by kernel_rfl
theorem fg(K:Frag):findIn K (.type "type") "__getattribute__"=some (some (.builtin "type.__getattribute__")):=by kernel_rfl
theorem fs(K:Frag):subIn K (.type "type") (.type "type")=some true:=by kernel_rfl
theorem hk{h:Heap}:Looks M h (ai9 (.type "type")) none:=by
 unfold ai9;rw[if_neg (by decide)];exact .now
theorem so{h:Heap}:Looks M h (specialOf (.type "ValueError") "__getattribute__") (some (.builtin "type.__getattribute__")):=Xx (by kernel_rfl)
theorem oq{h:Heap}:Looks M h (opaqueClassAbove (.type "ValueError")) none:=Xx (by kernel_rfl)
theorem ty{h:Heap}:Looks M h (typeOf (.type "ValueError")) (.type "type"):=Xx (by kernel_rfl)
theorem hd{E:VS0}{s:Shared}{Q:VS0}(h:Q (.builtin "ValueError.__init__") s):wpAny M A (handedOut (.builtin "ValueError.__init__")) Q E s:=by
 rw[handedOut_of (by kernel_rfl)];exact bh h
end _x
section
variable {E:VS0}{s:Shared}{t:Addr}
theorem Jz{pl:Sem Bool}{Q:Value×Lv0->Shared->Prop}(X:K.In s.heap)(h:Q (.builtin "ValueError.__init__",[]) { s with toks:=s.toks + 1 }):wpAny (model prog w) A (XJ (.type "ValueError") "__init__" pl) Q E s:=by
 unfold XJ;refine au (_x.so.here ?_);dsimp only;rw[if_pos PySem.W.canon_tga];refine au (PySem.W.cls_open X _x.oq _x.ty (_x.fg K) _x.hk (_x.fs K) (_x.fc K) (bh ?_));exact _x.hd (bh h)
theorem NP{Q:VS0}(Y:gx (model prog w) s.heap C "ValueError" "ValueError.__new__")(g:s.heap.get? e=some { cls:=.ref C,dict:=dx,data:=.fields (Vz9 [.ref t,.none,.none,.none,.bool false,.none]) })(h:∀ h' t',h'.get? e=some { cls:=.ref C,dict:=dx,data:=.fields (Vz9 [.ref t',.none,.none,.none,.bool false,.none]) }->(∀ b o,b≠e->s.heap.get? b=some o->h'.get? b=some o)->Q .none { s with heap:=h' }) :
  wpAny (model prog w) A (call (.builtin "ValueError.__init__") [.ref e,u]) Q E s:=by
 have F:=ZF;have i:nr (model prog w) s.heap (YS (.ref e) (.type "ValueError")) true:=((Sb g).andThen .now).andThen Y.top;refine PP (WA F.init.plain F.initEntry ?_);let#[#[r,p,D,n,l,z,y,x],c,base,_,dunder,d]:=Y;have a:=F.noStar;let#[j,v,B,m,os]:=s;dsimp only at *;unfold YT;simp only[F.initRow,F.initSplit,F.initKind];refine au (i.here ?_)
 repeat (first | simp only[Bool.not_true,ry,if_false] | with_reducible refine xo g ?_ | with_reducible refine xo l ?_ | lk | wp_step)
 have f:=av { cls:=.type "tuple",data:=.seq (Vz9 [u]) } g;refine wpAny_load f ?_
 wp_walk
 refine h _ j.objs.size ?_ λb o k q=>?_
 .rw[pL _ f rfl];rfl
 .rw[gm _ _ (ky k)];exact av _ q
end
def Og (K:Fg0)(t:TA):TE:=λσ H Q=>t σ H λvs H2=>∃ e C dx y,vs=[.ref e,y]/\jt K C "ValueError" "ValueError.__new__"=true/\H2 e=some (df e C dx)/\Q .non H2
section
variable {p:Pos}{a:Expr}
theorem G_{pl:Sem Bool}(M:Gl X "ValueError")(L:X.mg "ValueError"=none)(N:PA X (a::es) t)(j:autoParam (bp (a::es) X.env=(false,eval a X.env)::bp es X.env) wE)(l:autoParam (Vjq pos X es) wE)(K:autoParam (eval (.Call (.Attribute (.Name "ValueError" p) "__init__" apos) (a::es) [] pos) X.env=(do
   let O <- eval (.Name "ValueError" p) X.env
   VS apos.atName
   let (f,first) <- holding [O] (XJ O "__init__" pl)
   af3 pos f first (backTo pos (bp (a::es) X.env)) (Wm pos (DM [] X.env)))) wE) :
  PE X (.Call (.Attribute (.Name "ValueError" p) "__init__" apos) (a::es) [] pos) (Og X.K t):=by
 intro c s A H Q I h;refine Xt (pl:=pl) (k9 (u:=.type "ValueError") I M L (by kernel_rfl) ?_) K;refine Jz I.kIn ?_;have S:=I.tok (s.toks + 1);have n:=N pos c _ A H _ S h;rw[j] at n ⊢;refine ac9 (by show (false || (backTo pos (bp es X.env)).any (·.1))=false;rw[l] <;> rfl) (af5 ?_);refine thn n λB E Z=>?_;let#[T,H2,m,G,e,C,v,y,R,mk,q,P]:=Z;subst R;obtain⟨D,i,rfl,J,F⟩:∃ u us',B=u::us'/\RelV (.ref e) u/\Vals [y] us':=by cases G with | cons a b=>exact#[_,_,rfl,a,b]
 obtain⟨U,rfl,_⟩:∃ u,i=[u]/\RelV y u:=by cases F with | cons a b=>cases b;exact#[_,rfl,a]
 obtain rfl:D=fS e:=J;let#[V,g]:=jX m.hok q;refine NP (lE m.kIn mk) g λh' t' r k=>#[.non,H2,?_,rfl,P];have w:=m.write (t':=E.toks) (h':=h') (x:=e) (e:=e) (o:=df e C v) (by rw[q];exact TQ) (.inl rfl) (λb o d z=>k b o d z) #[_,r] (vQ r);have:upd H2 e (df e C v)=H2:=by
  funext b
  by_cases d:b=e
  .rw[d,aB,q]
  .rw[ao d]
 rw[this] at w;exact w
end
open PySem PySem.Spec PyProof.Rows
structure XAt (X:Cx) (pins:Pn0) (n:Nat):Prop where
 s0:X.ab.heap.objs.size<=n
 loc:X.env.locals < n
 cel:∀ x c,X.env.cells.lookup x=some c->c < n
 pin:∀ p∈X.pn++pins,p.1 < n
section
variable {pins:Pn0}{s:Shared}{cls:Value}{E:VS0}{d:Bool}
theorem Inv.xat(I:Inv X pins σ H s):XAt X pins s.heap.objs.size:=
 #[I.sz,I.lt,λx c q=>let ⟨_,_,b,_⟩:=I.cell x c q;dw b,λp a=>dw (I.pin p a).1]
theorem XAt.forget(a:XAt X pins n):XAt X [] n:=#[a.s0,a.loc,a.cel,λp b=>a.pin p (ml _ (by simpa using b))]
theorem Inv.lv(I:Inv X pins σ H s)(a:XAt X pins n)(l:Lv n H (frs X.stack) s.heap h'):Inv X pins σ H { s with heap:=h' }:=by
 have f:HOk X.prog X.w H h':=λb o q=>by
  refine(I.hok b o q).pJ (λc u r g=>?_) (λ_ z=>z) λ_ _ z=>z;have i:H c≠none:=by
   rcases r with z | z
   .rw[z,q];simp
   .rw[z];simp
  exact l.keep c u g (λm=>i (I.zd c m)) (.inr i)
 have d:∀ b,b∈(gs s.heap.objs.size).filter (λb=>decide (n<=b))↔b < s.heap.objs.size/\n<=b:=λb=>by simp [List.mem_filter,XE]
 refine I.call (g':=s.gens) (t':=s.toks) (d':=s.drawn) (ch:=(gs s.heap.objs.size).filter (λb=>decide (n<=b))) #[λb o q nn j e=>?_,λb o q nn h _=>l.slot b o q h,λb o _ nn _=>nn,λb o q _=>l.there b o q,λ_ _ z=>z,λ_ _ _ z=>z,λb t z=>#[#[],by rw[z,Xn]]] f I.bare λb h=>?_
 .refine l.keep b o q j (.inl ?_);rcases XM b n with z | z
  .exact z
  .exact absurd ((d b).mpr #[dw q,z]) e
 .have z:=((d b).mp h).2;refine#[.inr (eC a.s0 z),λy=>?_,λx c q y=>?_,λp k y=>?_]
  .exact hY b (da (by rw[y];exact a.loc) z)
  .exact hY b (da (by rw[<- y];exact a.cel x c q) z)
  .exact hY b (da (by rw[<- y];exact a.pin p k) z)
theorem land(I:Inv X pins σ H s)(a:XAt X pins n)(x:ExcAt d n H s.heap e cls dx)(c:X.stack=X.env::X.outer)(k:X.env.frame=some L){Q:Unit->Shared->Prop}(h:∀ h',Inv X pins σ H { s with heap:=h' }->ExcAt d n H h' e cls dx->Q () { s with heap:=h' }) :
  wpAny M X.A (ab1 (.ref e) X.env) (λ_ s'=>wpAny M X.A (ab0 (.ref e) none) Q E s') E s:=by
 have g:=I.stack;have f:=I.ok.frames;rw[c] at g f;have j:n<=s.heap.objs.size:=by
  let#[q,p,m,_]:=x.rcd;exact eC x.ge (Wh (dw m))
 refine Bj (n:=n) (H:=H) f g k j (λb o=>I.hok.fresh o) x λh' l i _=>h h' (I.lv a ?_) i;rw[c];exact l
end
def XP (X:Cx)(W:St->XK)(b:Value)(a:Shared):Prop:=∃ e cls dx H' ay n,b=.ref e/\Inv X [] ay H' a/\XAt X [] n/\ExcAt true n H' a.heap e cls dx/\W ay cls dx H'
def dM (CX:CXT)(X:Cx)(E:St->XK):Prop:=∀ (pins:Pn0) (σ:St) (H:Hp) (s:Shared) (e:Value) (s':Shared),Inv X pins σ H s->CX X.stack H s (E σ) e s'->X.xe e s'
theorem dM.of{CX:CXT}(h:Passes CX X E):dM CX X λ_=>E:=λa b H s e c I q=>h a b H s e c I q
theorem Jy{d:Bool}{a:Pn0}{s:Shared}{g:Value}(I:Inv X a σ H s)(h:CX1 X.prog X.w X.base d X.stack H s (W σ) g s'):XP X W g s':=by
 let#[e,c,l,f,k,os,bare,i,b,o,x,j]:=h;have n:Inv X a σ f s':=I.BG (ch:=[]) os i b bare λ_ z=>nomatch z
 have m:Inv X [] σ f s':=n.mR λ_ z=>nomatch z
 exact#[e,c,l,f,σ,s.heap.objs.size,k,m,I.xat.forget,x.up λ_=>rfl,j]
theorem M4{d:Bool}:dM (CX1 X.prog X.w X.base d) (X.i8 (XP X W)) W:=by
 intro a b H s e s' I h;have c:CX1 X.prog X.w X.base d X.stack H s (W b) e s':=h;exact Jy I.bZ c
section
variable {pins:Pn0}{s:Shared}{cls:Value}{d:Bool}
theorem vP{E:VS0}{x:Str}{Q:Unit->Shared->Prop}(I:Inv X pins σ H s)(Y:X.N.Nodup)(J:X.N[i]?=some x)(hk:X.env.kindOf x=some .local)(h:∀ s',Inv X pins (σ.set i none) H s'->Q () s'):wpAny M A (do Yc X.env x .none;unbindBehindTheSuite X.env x pos) Q E s:=by
 let#[m,U,V]:=id I.loc;have t:(X.env.scope.kind == .class || (X.env.scope.kind == .module && X.env.locals != X.env.globals))=false:=by rw[I.ok.kind];rfl
 have r:i < σ.length:=by rw[I.len];exact(gS0 J).1
 refine wpAny_nameGoes_keeps hk U t λh' v B f=>h _ ?_;have a:HOk X.prog X.w H h':=λb P e=>by
  refine(I.hok b P e).pJ (λc F W q=>(f.2 c ?_).trans q) (λ_ q=>q) λ_ _ q=>q;intro z;have u:=I.free;rw[<- z] at u;rcases W with y | y
  .rw[y,e] at u;cases u
  .rw[y] at u;cases u
 refine#[I.ok,I.os,I.bare,#[λb o e n D l=>?_,λb o e n D l=>?_,I.base.free,λb o e l=>?_,I.base.tups,I.base.m4,I.base.tbls],#[_,B,λj y K g w Z=>?_],λy c e=>?_,I.free,I.freeC,λp T=>?_,a,by rw[rk];exact I.len]
 .exact(f.2 b (jz (da (dw e) I.ok.above))).trans (I.base.keep b o e n D l)
 .let#[N,g]:=I.base.slot b o e n D l;exact#[N,(f.2 b (jz (da (dw e) I.ok.above))).trans g]
 .let#[R,g]:=I.base.there b o e l;exact#[R,(f.2 b (jz (da (dw e) I.ok.above))).trans g]
 .by_cases C:j=i
  .subst C;rw[UV r] at w;cases w
  .rw[Wj (ky C)] at w;let#[L,O,q]:=V j y K g w Z;refine#[L,O,?_];rcases q with ⟨k,e⟩ | ⟨k,c,e,z⟩
   .refine .inl #[k,?_];have:y≠x:=λe=>C (wI Y g (e ▸ J));simp [this,e]
   .exact .inr #[k,c,e,z.sameBut f (I.cne y c e)]
 .let#[F,z]:=I.cell y c e;exact#[F,z.sameBut f (I.cne y c e)]
 .let#[e,n,G,S,d]:=I.pin p T;exact#[(f.2 p.1 G).trans e,n,G,S,d]
noncomputable def mf (e:Addr)(cls:Value)(a:Option Addr):HO:=HO.ext λh=>∃ o vs,h.get? e=some o/\o.cls=cls/\o.dict=a/\o.data=.fields vs
theorem Bt{h:Heap}(ok:HOk P w H h)(q:H e=some (mf e cls dx)):∃ o vs,h.get? e=some o/\o.cls=cls/\o.dict=dx/\o.data=.fields vs:=
 (show cQ P w H h e (mf e cls dx) from ok e _ q).1
theorem Inv.Rg(I:Inv X pins σ H s)(a:XAt X pins n)(x:ExcAt d n H s.heap e cls dx):Inv X pins σ (upd H e (mf e cls dx)) s:=by
 let#[h,C,t,i,v,B,hd,m,E,_]:=x;have f:∀ b,H b≠none->b≠e:=λb g z=>g (by rw[z];exact C);have l:HOk X.prog X.w (upd H e (mf e cls dx)) s.heap:=λb o q=>by
  by_cases z:b=e
  .subst z;rw[aB] at q;cases q;exact#[#[t,i,v,B,hd,m],#[t,v],λ_ _ ⟨o,i,q,r⟩ k=>#[o,i,k _ q,r]]
  .rw[ao z] at q;exact(I.hok b o q).pJ (λ_ _ _ r=>r) (λc r=>by rw[ao (f c (by rw[r];simp))];exact r) λc w r=>by rw[ao (f c (by rw[r];simp))];exact r
 refine I.BG (ch:=[e]) rfl #[λb o q _ _ _=>q,λb o q _ _ _=>#[o.slots,q],λb o q nn j=>?_,λb o q _=>#[o,q],λb w r=>?_,λb o u r=>?_,λb D r=>#[#[],?_]] l I.bare λb g=>?_
 .rw[ao (λz=>j (by simp [z]))];exact nn
 .rw[ao (f b (by rw[r];simp))];exact r
 .rw[ao (f b (by rw[r];simp))];exact r
 .rw[ao (f b (by rw[r];simp)),Xn];exact r
 .have g:b=e:=by simpa using g
  subst g;refine#[.inr (eC a.s0 h),λy=>?_,λx c q y=>?_,λp A y=>?_]
  .exact hY b (da (by rw[y];exact a.loc) h)
  .exact hY b (da (by rw[<- y];exact a.cel x c q) h)
  .exact hY b (da (by rw[<- y];exact a.pin p A) h)
theorem yD{E:VS0}{Q:Unit->Shared->Prop}(I:Inv X pins σ H s)(a:XAt X pins n)(x:ExcAt d n H s.heap e cls dx)(h:∀ h',Inv X pins σ H { s with heap:=h' }->ExcAt d n H h' e cls dx->Q () { s with heap:=h' }):wpAny M A (ab0 (.ref e) none) Q E s:=by
 let#[C,F,u,p,k,B,hd,c,y,K]:=x;unfold ab0;rcases K with i | ⟨T,N,J,i,D,v,G,m,hdT,L⟩
 .refine au (qd k c i ?_);rw[if_neg (by decide)];exact bh (h s.heap I #[C,F,u,p,k,B,hd,c,y,.inl i])
 .refine au (qd k c i ?_);rw[if_pos (show (fS T != pF)=true by simp)];have r:=(VE.mp L).1;refine XC m hdT r ?_;have j:∀ b,b≠T->(s.heap.update T (FS (·.setIfInBounds 3 pF))).get? b=s.heap.get? b:=λb g=>gm _ _ (ky g);have t:=pL (FS (·.setIfInBounds 3 pF)) m (Xu (VO hdT _));refine h _ (I.lv a #[λb o q P g=>(j b λz=>?_).trans q,λb o q g=>#[o.slots,(j b λz=>?_).trans q],λb o q=>?_]) #[C,F,u,p,(j e (ky v)).trans k,B,hd,c,y,.inr #[T,_,_,i,D,v,G,t,VO hdT _,?_]]
  .subst z;rcases g with w | w
   .exact hY _ (da w D)
   .exact w G
  .subst z;let#[_,O,f,l]:=I.stack.mem g;rw[m] at f;cases f;exact l J hdT
  .by_cases z:b=T
   .subst z;exact#[_,t]
   .exact#[o,(j b z).trans q]
  .rw[Xy r]
end
structure ma (K:Fg0) (C:Addr):Prop where
 ty:KF K (.ref C)=some (.type "type")
 ex:ia K C (.type "BaseException")=some true
theorem ux{a:ClassData}(h:WV K C=some a):∃ c od b,K.lookup C=some #[c,od,.cls a,b]:=by
 unfold WV at h;split at h
 .rename_i q;cases h;exact#[_,_,_,q]
 .cases h
section
variable {E:VS0}{s:Shared}{az:Addr}{b:Bool}{Q:Bool->Shared->Prop}
theorem exm(X:K.In s.heap)(c:ma K az)(d:s.heap.get? e=some oe)(g:oe.cls=.ref C)(a:ia K C (.ref az)=some b)(h:Q b s):wpAny (model prog w) A (aj0 (.ref e) (.ref az)) Q E s:=by
 have t:nr (model prog w) s.heap (typeOf (.ref az)) (.type "type"):=XF X c.ty;have r:nr (model prog w) s.heap (PQ (.ref az) (.type "BaseException")) true:=td X c.ex;have q:nr (model prog w) s.heap (typeOf (.ref e)) (.ref C):=by rw[<- g];exact(Sb d).andThen .now
 have p:nr (model prog w) s.heap (PQ (.ref C) (.ref az)) b:=td X a;have f:=tc_notTuple;have x:=tc_sub;let#[z,k,_]:=Ti.mp c.ex;let#[o,n,m,j]:=ux k;have i:=X _ _ j;unfold aj0;let#[u,v,y,l,os]:=s
 repeat (first | with_reducible refine xo i ?_ | lk | wp_step)
 cases b <;> (wp_walk;exact h)
end
noncomputable abbrev Cx.dD (X:Cx)(a:Pn0):Cx:={ X with pn:=X.pn++a }
noncomputable abbrev Cx.sui (X:Cx)(e:Addr):Cx:={ X with A:=X.A.mark (some (.ref e)),calm:=false,xe:=λ_ _=>False }
section
variable {pins:Pn0}{s:Shared}
theorem Cx.Ok.dD(ok:X.Ok):(X.dD pins).Ok:=
 #[ok.mod,ok.kind,ok.glob,ok.blt,ok.above,ok.inj,ok.has,ok.cab,ok.hd,ok.frames,ok.stk,ok.exf,ok.bs,ok.bsz,ok.noex,ok.exfs,ok.lQ,ok.frf,ok.tb]
theorem Cx.Ok.cK(ok:(X.dD pins).Ok):X.Ok:=
 #[ok.mod,ok.kind,ok.glob,ok.blt,ok.above,ok.inj,ok.has,ok.cab,ok.hd,ok.frames,ok.stk,ok.exf,ok.bs,ok.bsz,ok.noex,ok.exfs,ok.lQ,ok.frf,ok.tb]
theorem Inv.dD(I:Inv X pins σ H s):Inv (X.dD pins) [] σ H s:=#[I.ok.dD,I.os,I.bare,I.base,I.loc,I.cell,I.free,I.freeC,λp a=>I.pin p (by rw[nT] at a;exact a),I.hok,I.len]
theorem Inv.cK(I:Inv (X.dD pins) [] σ H s):Inv X pins σ H s:=#[I.ok.cK,I.os,I.bare,I.base,I.loc,I.cell,I.free,I.freeC,λp a=>I.pin p (by rw[nT];exact a),I.hok,I.len]
theorem Cx.Ok.sui(ok:X.Ok)(e:Addr):(X.sui e).Ok:=
 #[ok.mod,ok.kind,ok.glob,ok.blt,ok.above,ok.inj,ok.has,ok.cab,λz=>(YV z),ok.frames,ok.stk,ok.exf,ok.bs,ok.bsz,ok.noex,ok.exfs,ok.lQ,ok.frf,ok.tb]
theorem Inv.sui(I:Inv X pins σ H s)(e:Addr):Inv (X.sui e) pins σ H s:=#[I.ok.sui e,I.os,I.bare,I.base,I.loc,I.cell,I.free,I.freeC,I.pin,I.hok,I.len]
theorem Inv.Az(ok:X.Ok)(I:Inv (X.sui e) pins σ H s):Inv X pins σ H s:=#[ok,I.os,I.bare,I.base,I.loc,I.cell,I.free,I.freeC,I.pin,I.hok,I.len]
end
noncomputable def Ends.xO (D:Ends)(i:Nat):Ends:=#[λσ H=>D.nx (σ.set i none) H,D.rt,λσ H=>D.bk (σ.set i none) H,λσ H=>D.ct (σ.set i none) H]
noncomputable def AD (K:Fg0)(a:Addr)(i:Nat)(ts:TS)(D:Ends):St->XK:=λay cls dx H'=>∃ C,cls=.ref C/\ia K C (.ref a)=some true/\∀ e,H' e=none->ts (D.xO i) (ay.set i (some (.ref e))) (upd H' e (mf e cls dx))
def Oh (K:Fg0)(a:Addr)(i:Nat)(b:(St->XK)->TS)(ts:TS):TS:=λD σ H=>b (AD K a i ts D) D σ H
section
variable {x nm:Str}{az:Addr}{body suite:List Stmt}{aD:Stmt}{np hpos:Pos}{tb:(St->XK)->TS}{ts:TS}
theorem BD{d:Bool}{b:Pn0}{s:Shared}{cls:Value}{D:Ends}(c:ma X.K az)(J:Gl X x)(G:X.mg x=some (.ref az))(o:X.N.Nodup)(m:X.N[i]?=some nm)(hk:X.env.kindOf nm=some .local)(F:∀ e,PSs (X.sui e) (aD::suite) ts)(I:Inv X b σ H s)(a:XAt X b n)(y:ExcAt d n H s.heap e cls dx)(w:AD X.K az i ts D σ cls dx H)(t:Vjj x) :
  wpAny (model X.prog X.w) X.A (handleBy (.ref e) X.env [.ExceptHandler (some (.Name x np)) (some nm) (aD::suite) hpos]) (SP X b D) X.xe s:=by
 let#[C,rfl,l,E]:=w;let#[R,P,K,L,_]:=id y.rcd;refine ah6 (ae7 (dG (X:=X.sui e) (I.sui e) J G ?_ t)) (by intro q;cases q);refine exm I.kIn c K L l ?_;dsimp only;rw[if_pos rfl];refine codeAny_handlers_suite_as (yD I a y λS O A=>?_);have N:=O.Rg a A;refine h_ (v:=.ref e) N o m (.inl hk) rfl (λB M=>?_) (.inr hk);refine Bk ((F e) b B _ _ (D.xO i) (M.sui e) (E e y.free)) (λf Q q=>?_) λ_ _ z=>z.elim;have ok:=I.ok;cases f with
 | next=>
  let#[g,k,j,q]:=q;exact vP (j.Az ok) o m hk λp h=>#[_,k,h,q]
 | brk=>
  let#[g,k,j,q]:=q;exact vP (j.Az ok) o m hk λp h=>#[_,k,h,q]
 | cont=>
  let#[g,k,j,q]:=q;exact vP (j.Az ok) o m hk λp h=>#[_,k,h,q]
 | ret u=>
  let#[v,g,k,j,r,q]:=q;exact vP (j.Az ok) o m hk λp h=>#[v,_,k,h,r,q]
theorem OY(c:ma X.K az)(m:X.stack=X.env::X.outer)(o:X.env.frame=some L)(F:Gl X x)(C:X.mg x=some (.ref az))(J:X.N.Nodup)(E:X.N[i]?=some nm)(hk:X.env.kindOf nm=some .local)(G:∀ pins W,PSs ((X.dD pins).i8 (XP (X.dD pins) W)) body (tb W))(B:∀ pins e,PSs ((X.dD pins).sui e) (aD::suite) ts)(p:autoParam (Vjj x) wP) :
  PS X (.Try body [.ExceptHandler (some (.Name x np)) (some nm) (aD::suite) hpos] [] [] pos) (Oh X.K az i tb ts):=by
 intro pins s t H D I h;have M:=G pins (AD X.K az i ts D) [] s t H D (I.dD.i8 _) h;refine ab2 (Bk M (λf A q=>?_) λP A q=>?_)
 .cases f with
  | next=>
   let#[b,k,j,q]:=q;exact Yh #[b,k,j.bZ.cK,q]
  | brk=>
   let#[b,k,j,q]:=q;exact#[b,k,j.bZ.cK,q]
  | cont=>
   let#[b,k,j,q]:=q;exact#[b,k,j.bZ.cK,q]
  | ret u=>
   let#[v,b,k,j,r,q]:=q;exact#[v,b,k,j.bZ.cK,r,q]
 .let#[e,K,Q,k,b,n,rfl,j,a,y,w]:=q;refine land j a y m o λO g z=>?_;have r:=BD (X:=X.dD pins) (np:=np) (hpos:=hpos) (D:=D) c F C J E hk (B pins) g a z w p;refine thn r λf N q=>?_;cases f with
  | next=>
   let#[d,l,g,q]:=q;exact#[d,l,g.cK,q]
  | brk=>
   let#[d,l,g,q]:=q;exact#[d,l,g.cK,q]
  | cont=>
   let#[d,l,g,q]:=q;exact#[d,l,g.cK,q]
  | ret u=>
   let#[v,d,l,g,r,q]:=q;exact#[v,d,l,g.cK,r,q]
end
def B7 (sp:Sp)(a:List V)(E:St->XK)(t:TA):TE:=λσ H Q=>t σ H λvs H1=>sp (vs++a) H1 Q (E σ)
def B6 (C:Addr)(sp:Sp)(a:List V)(E:St->XK)(t:TA):TE:=λσ H Q=>Dv C sp a (E σ) t σ H Q
section
variable {CX:CXT}{sp:Sp}{ds:Lv0}{E:St->XK}{x m:Str}{p:Pos}{e:Expr}
theorem J4{a:Pn0}{s:Shared}{Q:VK}(F:aT X.prog X.w X.K X.mg X.base CX k f fd ps sp)(i:cy k X.A)(l:Binds X.K fd ps ds)(hd:Vals dvs ds)(g:dM CX X E)(I:Inv X a σ H s)(r:Vals vs us)(h:sp (vs++dvs) H Q (E σ)):wpAny (model X.prog X.w) X.A (call (.ref f) us) (EP X a σ Q) X.xe s:=by
 have c:Vals (vs++dvs) (us++ds):=r.append hd;have j:(us++ds).length=ps.length:=by rw[<- c.length];exact F.len _ _ _ _ h
 refine PP (Sa (F.run X.A X.stack s H #[us,[]] (us++ds) (vs++dvs) Q (E σ) i I.CU (l s us I.kIn j) c h) λr d b=>?_);cases r with
 | error e=>exact g a σ H s e d I b
 | ok m=>
  cases m with
  | ret u=>exact I.after b
  | next=>exact ke b
  | brk=>exact ke b
  | cont=>exact ke b
theorem Hf(F:aT X.prog X.w X.K X.mg X.base CX k f fd ps sp)(j:cy k X.A)(m:Gl X x)(l:X.mg x=some (.ref f))(hk:kv X.K (.ref f)=true)(o:Binds X.K fd ps ds)(hd:Vals dvs ds)(i:dM CX X E)(u:PA X (e::es) t)(c:autoParam (Vjj x) wP)(n:autoParam (Vjk X e es) wE)(b:autoParam (Vjq pos X es) wE) :
  PE X (.Call (.Name x p) (e::es) [] pos) (B7 sp dvs E t):=by
 intro a s g H Q I h;refine tT (dG I m l ?_ c);refine GM (h₀:=X.base) I.ok.mod.kin hk (thn (u pos a s g H _ I h) λw y ⟨v,z,d,r,q⟩=>#[d.kIn,?_]) n b;exact J4 F j o hd i d r q
theorem EJ{a:Pn0}{s:Shared}{Q:VK}(M:Mk X.K C f)(F:aT X.prog X.w X.K X.mg X.base CX k f fd ps sp)(n:cy (k + 1) X.A)(p:Binds X.K fd ps ds)(hd:Vals dvs ds)(m:dM CX X E)(I:Inv X a σ H s)(r:Vals vs us)(h:∀ x dx,H x=none->H dx=none->dx≠x->sp (.ref x::(vs++dvs)) (upd (upd H dx (.own x)) x (.ins C dx [])) (λv H2=>v=.non/\Q (.ref x) H2) (E σ)) :
  wpAny (model X.prog X.w) X.A (call (.ref C) us) (EP X a σ Q) X.xe s:=by
 have g:=h (s.heap.objs.size + 1) s.heap.objs.size (I.hok.fresh (Xf _)) (I.hok.fresh (cc _)) (jz (PL _));have c:=Inv.made (C:=C) I;have d:Vals (V.ref (s.heap.objs.size + 1)::(vs++dvs)) (fS (s.heap.objs.size + 1)::(us++ds)):=.cons rfl (r.append hd);have o:(fS (s.heap.objs.size + 1)::us++ds).length=ps.length:=by
  have e:=d.length;rw[F.len _ _ _ _ g] at e;exact e.symm
 refine PP (Bh (f:=f) I.kIn M.makes M.init (beq_iff_eq.mp M.fn) (Sa (F.run _ X.stack _ _ #[fS (s.heap.objs.size + 1)::us,[]] (fS (s.heap.objs.size + 1)::(us++ds)) _ _ (E σ) (n.make C us [])
  (c.CU.make C us []) (p _ (fS (s.heap.objs.size + 1)::us) c.kIn o) d g) λr i b=>?_))
 cases r with
 | error e=>exact m a σ _ _ e i c b
 | ok q=>
  cases q with
  | ret u=>
   let#[v,y,w,j,t,l]:=c.after b;subst t;exact#[j,#[V.ref (s.heap.objs.size + 1),y,w,rfl,l]]
  | next=>exact ke b
  | brk=>exact ke b
  | cont=>exact ke b
theorem Hb(M:Mk X.K C f)(F:aT X.prog X.w X.K X.mg X.base CX k f fd ps sp)(j:cy (k + 1) X.A)(m:Gl X x)(l:X.mg x=some (.ref C))(o:Binds X.K fd ps ds)(hd:Vals dvs ds)(i:dM CX X E)(u:PA X (e::es) t)(c:autoParam (Vjj x) wP)(n:autoParam (Vjk X e es) wE)(b:autoParam (Vjq pos X es) wE) :
  PE X (.Call (.Name x p) (e::es) [] pos) (B6 C sp dvs E t):=by
 intro a s g H Q I h;refine tT (dG I m l ?_ c);refine GM (h₀:=X.base) I.ok.mod.kin M.kp (thn (u pos a s g H _ I h) λw y ⟨v,z,d,r,q⟩=>#[d.kIn,?_]) n b;exact EJ M F j o hd i d r q
end
structure Di (K:Fg0) (C:Addr):Prop where
 ga:dV K (.ref C) "__getattribute__"=some (some (.builtin "BaseException.__getattribute__"))
 gh:dV K (.ref C) "__getattr__"=some none
 hd:ov K C=true
 ex:ia K C (.type "BaseException")=some true
section
variable {E:VS0}{s:Shared}{dx:Addr}{mA:SV0}{vs:Array Value}
open PySem.W in
theorem FL {b:Bool}{Q:VS0}(X:K.In s.heap)(y:s.heap.get? e=some oe)(z:oe.cls=.ref C)(i:oe.dict=some dx)(j:oe.data=.fields vs)(n:s.heap.Ns1 dx mA)(c:Di K C)(D:findIn K (.ref C) name=some none)(p:mA name=some v)(f:ah1 v=true)(h:Q v { s with toks:=s.toks + 1 }):wpAny (model prog w) A (getAttr (.ref e) name b) Q E s:=by
 let#[k,q,r]:=pv n;have I:InstAt s.heap e oe C (some k):=#[y,z,by unfold notCls;rw[j],by rw[i];exact q];have x:findObj K C (some k) name=some (.value v):=ao0 c.hd D rfl (by rw[r,p]);have o:Looks (model prog w) s.heap (YS (.ref e) (.type "BaseException")) true:=I.type.andThen (td X c.ex);have m:=I.type (M:=model prog w);have F:=looks_find (M:=model prog w) X I x;have B:Looks (model prog w) s.heap (ai9 (.ref C)) none:=looks_hook X (show (if true=true then findIn K (.ref C) "__getattr__" else some none)=some none from c.gh);have l:=ab3.ga;refine au (wpAny_mkText (pb (au (m _ _ _ _ (λ_ _ e=>e) (au (Xs X c.ga _ _ _ _ (λ_ _ e=>e) ?_))))));dsimp only;rw[show (onTheHeap (fS C) && FG "BaseException.__getattribute__" == FG "object.__getattribute__")=false from by rw[show (FG "BaseException.__getattribute__" == FG "object.__getattribute__")=false from by decide +kernel,YD],if_neg (by decide)];refine au (B _ _ _ _ (λ_ _ e=>e) ?_);refine au (YY (pb ?_));unfold callGetattribute;rw[show (b && onTheHeap (FG "BaseException.__getattribute__"))=false from YD _,if_neg (by decide)];unfold boundAndCalled;rw[l.bind];refine au (bh ?_);show wpAny _ _ (call (.builtin "BaseException.__getattribute__") [.ref e,.str name s.toks]) _ _ _;refine PP ?_;refine WA l.plain ae8 ?_;refine @ZE (model prog w) _ _ { s with toks:=s.toks + 1 } "BaseException.__getattribute__" "BaseException" "__getattribute__" (.ref e) [.str name s.toks] [] _ (by decide +kernel) (by decide +kernel) o (af8 (.ref e) (.str name s.toks)) ?_;let#[u,g,d,t,os]:=s;unfold Zp.«object.__getattribute__»;refine au (bh (a:=(fS e,[XH name t])) ?_);refine au (bh (a:=name) ?_);refine au (m _ _ _ _ (λ_ _ e=>e) (au (F _ _ _ _ (λ_ _ e=>e) (bh ?_))));show wpAny _ _ (handedOut v) _ _ _;rw[handedOut_of f];exact bh h
end
def MN (K:Fg0)(ta:TE)(f:Str):TE:=λσ H Q=>ta σ H λx H1=>∃ e C d fs v,x=.ref e/\H1 e=some (mf e (.ref C) (some d))/\H1 d=some (XdO d fs)/\Di K C/\bK K C f/\fs.lookup f=some v/\Q v H1
section
variable {f:Str}
theorem KL(z:PE X o ta)(B:vr o f X.env (eval o X.env)=eval o X.env):PE X (.Attribute o f pos) (MN X.K ta f):=by
 intro a s p H Q I h;refine Ej B (thn (z a s p H _ I h) λu K Z=>?_);let#[x,G,b,t,e,C,d,fs,v,D,E,F,c,n,l,q]:=Z;subst D;obtain rfl:u=fS e:=t;let#[L,J,g,A,i,j]:=Bt b.hok E;let#[M,w,r,_]:=y9 b.hok F;have m:=r f;rw[l] at m;let#[u,y,k]:=pY.some_of m;exact FL b.kIn g A i j w c n y (yC k) #[v,G,b.tok _,k,q]
end
structure XIs (K:Fg0) (C:Addr):Prop extends Di K C where
 ca:dV K (.ref C) "__class__"=some (some (.builtin "object.__class__"))
 cg:VC K (.builtin "object.__class__") "__get__"=some (some (.builtin "getset_descriptor.__get__"))
 ct:ad4 K (.builtin "object.__class__")=some true
 ob:ia K C (.type "object")=some true
section
variable {E:VS0}{s:Shared}{od:Option Obj}
open PySem.W in
theorem BV {Q:Option Value->Shared->Prop}(c:XIs K C)(X:K.In s.heap)(I:InstAt s.heap e oe C od)(h:Q (some (.ref C)) { s with toks:=s.toks + 1 }):wpAny (model prog w) A (getAttr? (.ref e) "__class__") Q E s:=by
 have l:findObj K C od "__class__"=some (.bind (.builtin "getset_descriptor.__get__") (.builtin "object.__class__")):=by
  let#[p,f,_]:=Ye c.hd;cases od with
  | some o=>exact findObj_data (by rw[f];rfl) c.ca c.cg c.ct
  | none=>simp [findObj,f,c.ca,c.cg,c.ct]
 have k:Looks (model prog w) s.heap (YS (.ref e) (.type "BaseException")) true:=I.type.andThen (td X c.ex);have j:=I.type (M:=model prog w);have n:=looks_find (M:=model prog w) X I l;have m:Looks (model prog w) s.heap (ai9 (.ref C)) none:=looks_hook X (show (if true=true then findIn K (.ref C) "__getattr__" else some none)=some none from c.gh);have i:=ab3.ga;refine au (wpAny_mkText (au (YY (pb (au (j _ _ _ _ (λ_ _ e=>e) (au (Xs X c.ga _ _ _ _ (λ_ _ e=>e) ?_))))))));dsimp only;rw[show (onTheHeap (fS C) && FG "BaseException.__getattribute__" == FG "object.__getattribute__")=false from by rw[show (FG "BaseException.__getattribute__" == FG "object.__getattribute__")=false from by decide +kernel,YD],if_neg (by decide)];refine au (m _ _ _ _ (λ_ _ e=>e) ?_);refine au (YY (pb ?_));unfold callGetattribute;rw[if_neg (by decide)];unfold boundAndCalled;rw[i.bind];refine au (bh ?_);show wpAny _ _ (call (.builtin "BaseException.__getattribute__") [.ref e,.str "__class__" s.toks]) _ _ _;refine PP ?_;refine WA i.plain ae8 ?_;refine @ZE (model prog w) _ _ { s with toks:=s.toks + 1 } "BaseException.__getattribute__" "BaseException" "__getattribute__" (.ref e) [.str "__class__" s.toks] [] _ (by decide +kernel) (by decide +kernel) k (af8 (.ref e) (.str "__class__" s.toks)) ?_;let#[b,g,d,t,os]:=s;unfold Zp.«object.__getattribute__»;refine au (bh (a:=(fS e,[XH "__class__" t])) ?_);refine au (bh (a:=("__class__":Str)) ?_);refine au (j _ _ _ _ (λ_ _ e=>e) (au (n _ _ _ _ (λ_ _ e=>e) ?_)));show wpAny _ _ (ZP _ _ _ _) _ _ _;unfold ZP;refine au (pb (PP (class_get (s:=#[b,g,d,t + 1,os]) (ox:=oe) (od:=od) X I c.ob (bh ?_))));show wpAny _ _ (handedOut (.ref C)) _ _ _;exact handed_on rfl (bh h)
open PySem.W in
theorem HW (c:XIs K C):KitX K (.ref e) (.ref C) (λh=>InstAt h e oe C od) where
 ty:=λ_ _ _ I=>I.type
 it:=λ_ _ X _=>by
  let#[f,a,_]:=Ye c.hd;let#[_,_,_,d]:=ux a;intro p m o j k q;unfold isType loadHead;refine au (Zw (k _ _ (X _ _ d)) ?_);exact bh q
 ne:=λh tp l g n i X b=>by
  let#[f,a,_]:=Ye c.hd;let#[_,_,_,d]:=ux a;refine ZV.mpr λq=>?_;have e:C=tp:=Value.ref.inj (beq_iff_eq.mp q);subst e;cases (X _ _ d).symm.trans b
 ca:=λX I k=>BV c X I k
end
noncomputable def XDk (H:Hp):Option Addr->List (Str×V)->Prop
 | some d,a=>H d=some (XdO d a)
 | none,a=>a=[]
theorem XDk.mono(e:∀ b o,H b=some o->H' b=some o):∀ {dx:Option Addr} {a:List (Str×V)},XDk H dx a->XDk H' dx a
 | some _,_,h=>e _ _ h
 | none,_,h=>h
theorem RG{a:Pn0}{s:Shared}{k:List (Str×V)}(I:Inv X a σ H s)(j:H e=some (mf e (.ref C) dx))(hd:XDk H dx k):∃ oe od,Zv s.heap e oe C od:=by
 let#[oe,l,g,f,b,c]:=Bt I.hok j;cases dx with
 | some d=>
  let#[m,h,_]:=y9 I.hok hd;let#[od,i,_]:=pv h;exact#[oe,some od,g,f,by unfold ap6;rw[c],by rw[b];exact i]
 | none=>exact#[oe,none,g,f,by unfold ap6;rw[c],by rw[b];trivial]
noncomputable def vv:V->Value
 | .ref a=>.ref a
 | .ty n=>.type n
 | _=>.none
noncomputable def isC:V->Bool
 | .ref _=>true
 | .ty _=>true
 | _=>false
theorem R9{x:V}(h:isC x=true)(r:RelV x u):u=vv x:=by
 cases x with
 | ref a=>exact r
 | ty n=>exact r
 | _=>cases h
theorem IX:cJ X (.builtin "isinstance") (λxs H Q=>∃ e C d fs c b,xs=[.ref e,c]/\H e=some (mf e (.ref C) d)/\XDk H d fs/\XIs X.K C/\isC c=true/\aw X.K (.ref C) (vv c)=some b/\Q (.bl b) H):=by
 intro f s l H xs n Q I r h;let#[e,C,d,fs,c,b,rfl,j,hd,x,i,k,q]:=h;let#[u,m,rfl,g,a]:=vals2 r;obtain rfl:u=fS e:=g;obtain rfl:=R9 i a;let#[p,t,J]:=RG I j hd;exact vq (HW x) I.kIn J k (λz=>nomatch z) λo=>#[.bl b,H,I.tok _,rfl,q]
noncomputable abbrev cE (b:Bool)(elt:Expr)(a:List zl)(c:Scope)(pos:Pos):Expr:=match b with
 | false=>.ListComp elt a c pos
 | true=>.SetComp elt a c pos
theorem IL{b:Bool}{a:List zl}{d:Nat}:(model prog w).den (.compLoop (cE b elt a sc pos) d it acc env)=(ab4 (cE b elt a sc pos) d it acc env).onRaise (λx=>do ab1 x env;theTreesLotGoes x):=by cases b <;> rfl
theorem FZ{b:Bool}{a:List zl}{d:Nat}:A.under (.compLoop (cE b elt a sc pos) d it acc env)=A:=by cases b <;> rfl
structure Acc {α:Type} (RO:List α->Obj->Prop) (Y:Cx) (D:Addr) (pl:Pn0) (ys:List α) (σ:St) (H:Hp) (s:Shared):Prop where
 us:∃ o,Inv Y ((D,o)::pl) σ H s/\RO ys o
 exD:D∈Y.ex
 nd:∀ p∈Y.pn++pl,p.1≠D
noncomputable abbrev TBg (a:Type):=List a->St->Hp->(List a->St->Hp->Prop)->Prop
abbrev TB:=TBg V
def RL (ys:List V)(o:Obj):Prop:=∃ us,o=wL us us.length/\Vals ys us
def PB {b:Type}(RO:List b->Obj->Prop)(Y:Cx)(D:Addr)(m:Sem Fin->Sem Fin)(t:TBg b):Prop:=
 ∀ (k:Sem Fin) (c:Pn0) (s:Shared) (ys:List b) (σ:St) (H:Hp) (Q:List b->St->Hp->Prop) (R:Fin->Shared->Prop),Acc RO Y D c ys σ H s->t ys σ H Q->
  (∀ a ay H' s',Acc RO Y D c a ay H' s'->Q a ay H'->wpAny (model Y.prog Y.w) Y.A k R (λ_ _=>False) s')->wpAny (model Y.prog Y.w) Y.A (m k) R (λ_ _=>False) s
section
variable {D:Addr}{α:Type}{RO:List α->Obj->Prop}
def qC (te:TE):TB:=λys σ H Q=>ys.length < sizeLine/\te σ H λy H'=>Q (ys++[y]) σ H'
noncomputable abbrev xg (elt:Expr)(D:Addr)(a:Env)(k:Sem Fin):Sem Fin:=(eval elt a >>= λx=>call (.builtin "list.append") [.ref D,x] >>= λ_=>pure ()) >>= λ_=>k
theorem Acc.pins{pl:Pn0}{ys:List α}{b:St}{s:Shared}{o:Obj}(a:Acc RO Y D pl ys σ H s)(I:Inv Y ((D,o)::pl) b H' s')(r:RO ys o):Acc RO Y D pl ys b H' s':=#[#[o,I,r],a.exD,a.nd]
theorem rZ(L:Y.xe=λ_ _=>False)(M:PE Y elt te):PB RL Y D (xg elt D Y.env) (qC te):=by
 intro k u s r h H Q R a ⟨K,q⟩ hk;let#[_,I,d,rfl,t]:=a.us;have g:=M _ s h H _ I q;rw[L] at g;refine au (au (thn g λy s7 ⟨E,n,i,F,G⟩=>au ?_));let#[pD,A,w,J,P]:=i.pin (D,wL d d.length) (eP _ eH);have f:d.length=r.length:=t.length.symm;refine append_at (hsz:=by rw[eR,f];exact Wh K) pD λB j l=>bh ?_;have m:Inv Y u h n s7:=i.mR λp z=>i.pin p (eP _ (cb _ z));have C:Inv Y u h n { s7 with heap:=B }:=m.turned (t':=s7.toks) (it:=D) (λb o N e=>(j.2 b N).trans e) A w (.inl a.exD) (λx c e=>(i.ok.exf D a.exD).2 x c e) a.nd;have O:B.get? D=some (wL (d++[y]) (d++[y]).length):=by
  rw[l];simp
 refine hk (r++[E]) h n _ #[#[_,C.mR λp z=>?_,d++[y],rfl,t.append (.cons F .nil)],a.exD,a.nd] G;rcases dk.mp z with e | z
 .subst e;exact#[O,A,w,J,λv z=>by cases z]
 .exact C.pin p (eP _ z)
noncomputable def bIf (a:TT)(t:TBg α):TBg α:=λys σ H Q=>a σ H λb H'=>if b=true then t ys σ H' Q else Q ys σ H'
noncomputable abbrev ifK (c:Expr)(a:Env)(m:Sem Fin->Sem Fin)(k:Sem Fin):Sem Fin:=(forIn [c] true λc r=>if r=true then do let ok <- isTrue c a (eval c a);pure (VX ok) else pure (VX r)) >>= λok=>if ok=true then m k else k
theorem Te{c:Expr}{g:TT}{m:Sem Fin->Sem Fin}{t:TBg α}(p:Y.xe=λ_ _=>False)(u:PT Y c g)(r:PB RO Y D m t):PB RO Y D (ifK c Y.env m) (bIf g t):=by
 intro k o s f e H Q R a q hk;let#[v,I,i]:=a.us;have d:=u _ s e H _ I q;rw[p] at d;refine au (wpAny_tests_one (thn d λb h Z=>?_));let#[n,l,j]:=Z;cases b with
 | true=>exact r k o h f e n Q R (a.pins l i) (by simpa using j) hk
 | false=>exact hk f e n h (a.pins l i) (by simpa using j)
noncomputable def yY (J:It)(g:TG)(t:TBg α):TBg α:=λys σ H Q=>∃ W:Nat->Nat->List α->St->Hp->Prop,(∃ m,W 0 m ys σ H)/\∀ i m ys σ H,W i m ys σ H->
 (J.stop i H/\Q ys σ H)\/(J.go i H/\∀ x H',J.yld i H x H'->g x σ H' λa H2=>t ys a H2 λb ay c=>∃ d,d < m/\W (i + 1) d b ay c)
theorem Nd{b:Bool}{w:List zl}{d:Nat}{it:Addr}{m:Sem Fin->Sem Fin}{t:TBg α}(hx:Y.xe=λ_ _=>False)(hc:Y.calm=true)(T:Turn Y.prog Y.w Y.K tg J fp it tn)(hg:PG Y tg g)(hm:PB RO Y D m t)(I:ab4 (cE b elt w sc pos) d (.ref it) (.ref D) Y.env=(VS p0 >>= λ_=>pyNext (.ref it) >>= λr=>match r with
   | none=>pure (.done .next)
   | some v=>Oq tg (.ref it) v >>= λ_=>assign tg Y.env v >>= λ_=>m (again (.compLoop (cE b elt w sc pos) d (.ref it) (.ref D) Y.env)))){pl:Pn0}{ys:List α}{s:Shared}{Q:List α->St->Hp->Prop}(a:Acc RO Y D pl ys σ H s)(st:tn 0 s.heap)(f:∀ b∈fp,md Y pl H b/\D≠b)(q:yY J g t ys σ H Q)(hR:∀ j ay H' s',Acc RO Y D pl j ay H' s'->Q j ay H'->R (.ok .next) s'):FU (model Y.prog Y.w) Y.A (.compLoop (cE b elt w sc pos) d (.ref it) (.ref D) Y.env) R s:=by
 let#[W,#[m0,w0],N]:=q;have k:∀ {H':Hp} {o:Obj},(∀ b∈fp,H' b=none)->∀ b∈fp,md Y ((D,o)::pl) H' b:=λhn b B=>by
  let#[#[_,f1,f2,f3,f4,f5],f6]:=f b B;refine#[hn b B,f1,f2,f3,f4,λp hp=>?_];rcases kS.mp hp with hp | hp
  .exact f5 p (ml _ hp)
  .rcases dk.mp hp with e | hp
   .subst e;exact f6
   .exact f5 p (eP _ hp)
 refine codeAny_loop rfl (λn s'=>∃ i j ay H',Acc RO Y D pl j ay H' s'/\tn i s'.heap/\(∀ b∈fp,H' b=none)/\W i n j ay H') (λn s3 hI=>?_) m0 #[0,ys,σ,H,a,st,λb B=>(f b B).1.1,w0];rw[IL,FZ];refine wpAny_noted ?_;rw[I];let#[i,y,c,V,a3,O,U,w3]:=hI;let#[a2,I3,P]:=a3.us;have l:∀ {M:Model} {A:Around} {α:Type} {t:Sem α} {Q:α->Shared->Prop} {E:VS0} {s:Shared},wpAny M A t Q (λ_ _=>False) s->wpAny M A t Q E s:=λh=>Bk h (λ_ _ x=>x) λ_ _ x=>x.elim;refine au (yv (au ?_));rcases N i n y c V w3 with ⟨stop,qn⟩ | ⟨go,step⟩
 .refine l (thn (T.done Y rfl rfl rfl hc i _ s3 c V _ I3 (k U) O stop) λr s4 Z=>?_);let#[hr,I4]:=Z;subst hr;exact bh (hR y c V s4 (a3.pins I4 P) qn)
 .refine l (thn (T.item Y rfl rfl rfl hc i _ s3 c V _ I3 (k U) O go) λr s4 Z=>?_);let#[u,hr,h4]:=Z;subst hr;refine au (l (thn h4 λ_ s5 Z=>?_));let#[x,H5,I5,r5,y5,F,a5]:=Z;have a0:=I5.pinned (k a5) (T.obj _ _ F);have S:=hg _ s5 c H5 x u _ a0 r5 (step x H5 y5);rw[hx] at S;refine au (l (thn S λ_ s6 Z=>?_));let#[L,H6,I6,q6]:=Z;have a6:Acc RO Y D (pl++wq fp s5.heap) y L H6 s6:=#[#[a2,I6,P],a.exD,λp hp=>by
   rcases kS.mp hp with hp | hp
   .exact a.nd p (ml _ hp)
   .rcases kS.mp hp with hp | hp
    .exact a.nd p (eP _ hp)
    .exact λz=>(f p.1 (ym hp).1).2 z.symm]
  refine l (hm _ _ s6 y L H6 _ _ a6 q6 λa1 X H7 s7 a7 ⟨m',a4,w7⟩=>bh #[rfl,m',a4,i + 1,a1,X,H7,?_,?_,?_,w7])
  .let#[C,K,G]:=a7.us;exact#[#[C,K.mR λp hp=>K.pin p (eP _ (by
    rcases dk.mp hp with e | hp
    .subst e;exact eH
    .exact cb _ (ml _ hp))),G],a.exD,a.nd]
  .let#[C,K,G]:=a7.us;exact T.keep _ _ _ F λb B o e=>(K.pin (b,o) (eP _ (cb _ (eP _ (mW B e))))).1
  .intro b B;let#[C,K,G]:=a7.us;let#[o,e,d]:=T.obj _ _ F b B;exact(K.pin (b,o) (eP _ (cb _ (eP _ (mW B e))))).2.1
end
theorem Ft{b:Bool}{a:List zl}{d:Nat}:(model prog w).den (.compStart (cE b elt a sc pos) d it acc env)=(compStart (cE b elt a sc pos) d it acc env).onRaise (λx=>do ab1 x env;VS theWindowsPlace):=by cases b <;> rfl
theorem Ex{b:Bool}{a:List zl}{d:Nat}:A.under (.compStart (cE b elt a sc pos) d it acc env)=A:=by cases b <;> rfl
theorem tI{s:Shared}{b:Bool}{a:List zl}{d:Nat}(f:a[d]?=some #[tg,iter,ifs,0])(same:FU (model prog w) A (.compLoop (cE b elt a sc pos) d it acc env) R s)(c:wpAny (model prog w) A (pyIter it) (λe s2=>FU (model prog w) A (.compLoop (cE b elt a sc pos) d e acc env) R s2) (notedBy (model prog w) A env λx s2=>R (.error x) s2) s) :
  FU (model prog w) A (.compStart (cE b elt a sc pos) d it acc env) R s:=by
 have g:(clausesOf (cE b elt a sc pos))[d]?=some #[tg,iter,ifs,0]:=by cases b <;> exact f
 apply ad5;rw[Ft,Ex];apply wpAny_notedAt (pos:=theWindowsPlace) (m:=compStart (cE b elt a sc pos) d it acc env);simp only[compStart,g];apply au;apply wpAny_askSetting;apply wpAny_ite;split
 .exact bh #[rfl,same]
 .apply au;apply Zt;apply au;apply yv;exact au (Bk c (λ_ _ q=>bh #[rfl,q]) λ_ _ q=>q)
section
variable {D:Addr}{α:Type}{RO:List α->Obj->Prop}
noncomputable def Jj (a:TI)(g:TG)(t:TBg α):TBg α:=λys σ H Q=>a σ H λJ H1=>yY J g t ys σ H1 Q
noncomputable abbrev MX (b:Bool)(elt:Expr)(c:List zl)(f:Scope)(pos:Pos)(d:Nat)(iter:Expr)(D:Addr)(a:Env)(k:Sem Fin):Sem Fin:=
 eval iter a >>= λx=>VS iter.pos >>= λ_=>pk iter a x >>= λx=>holding [x] (pyIter x) >>= λe=>runOwn (.compStart (cE b elt c f pos) d e (.ref D) a) a >>= λ_=>k
theorem KU{b:Bool}{c:List zl}{d:Nat}{m:Sem Fin->Sem Fin}{t:TBg α}(A:Y.xe=λ_ _=>False)(S:Y.calm=true)(z:c[d]?=some #[tg,iter,ifs,0])(O:PI Y tg iter wi)(P:PG Y tg g)(N:PB RO Y D m t)(o:∀ it,ab4 (cE b elt c sc pos) d (.ref it) (.ref D) Y.env=(VS p0 >>= λ_=>pyNext (.ref it) >>= λr=>match r with
   | none=>pure (.done .next)
   | some v=>Oq tg (.ref it) v >>= λ_=>assign tg Y.env v >>= λ_=>m (again (.compLoop (cE b elt c sc pos) d (.ref it) (.ref D) Y.env))))(M:autoParam (∀ x,pk iter Y.env x=pure x) wT):PB RO Y D (MX b elt c sc pos d iter D Y.env) (Jj wi g t):=by
 intro k G s ys C H Q R a q hk;let#[us,I,E]:=a.us;have w:=O _ s C H _ I q;rw[A] at w;refine au (thn w λv s1 W=>au (yv (au ?_)));rw[M];refine bh (au (pb (thn W λL s2 V=>?_)));let#[it,fp,tn,J,H2,e,I2,T,u,f2,cw]:=V;subst e;have a2:=a.pins I2 E;refine au (wpAny_runOwn ?_);have K:∀ {R:Result->Shared->Prop},(∀ l j y i,Acc RO Y D G l j y i->Q l j y->R (.ok .next) i)->FU (model Y.prog Y.w) Y.A (.compLoop (cE b elt c sc pos) d (.ref it) (.ref D) Y.env) R s2:=λhR=>
  Nd A S T P N (o it) a2 u (λb U=>by
   let#[f0,f1,f3,Z,X,B]:=f2 b U;exact#[#[f0,f1,f3,Z,X,λp hp=>B p (by
    rcases kS.mp hp with hp | hp
    .exact ml _ hp
    .exact eP _ (cb _ hp))],B (D,_) (eP _ eH)]) cw hR
 have fin:=K (R:=λr i=>match r with | .ok f=>wpAny (model Y.prog Y.w) Y.A k R (λ_ _=>False) i | .error e=>False) λl j y i a' F=>hk l j y i a' F;have n:FU (model Y.prog Y.w) Y.A (.compLoop (cE b elt c sc pos) d (.ref it) (.ref D) Y.env) (λr i=>match r with | .ok f=>wpAny (model Y.prog Y.w) Y.A k R (λ_ _=>False) i | .error e=>cameBackBy (model Y.prog Y.w) Y.A Y.env (λ_ _=>False) e i) s2:=
  Sa fin λr i h=>by cases r with | ok f=>exact h | error e=>exact h.elim
 exact tI z n (Bk (T.self Y.A 0 _ _ (λ_ _=>False) u n) (λ_ _ h=>h) λ_ _ h=>h.elim)
end
theorem Bz{α:Type}{RO:List α->Obj->Prop}{b:Bool}{j:List zl}{m:Addr->Env->Sem Fin->Sem Fin}{t:TBg α}{a5:Sem Value}{o0:Obj}(b6:j[0]?=some #[tg,iter,ifs,0])(mk:∀ {P:VS0} {E:VS0} {s:Shared},P (.ref s.heap.objs.size) { s with heap:=s.heap.push o0 }->wpAny (model X.prog X.w) X.A a5 P E s)(b1:o0.isFreed=false)(a2:RO [] o0)(nc:∀ ys o,RO ys o->∀ v,o.data≠.cell v)(B:Blk X.N X.env.scope sc Nc fr)(hc:X.calm=true)(hg:∀ ab ar C ex pn,PG (cv X sc Nc ab ar C ex pn) tg g)(hm:∀ ab ar C ex pn D,PB RO (cv X sc Nc ab ar C ex pn) D (m D (cv X sc Nc ab ar C ex pn).env) t)(R:∀ (it D:Addr) (env:Env),ab4 (cE b elt j sc pos) 0 (.ref it) (.ref D) env=(VS p0 >>= λ_=>pyNext (.ref it) >>= λr=>match r with
   | none=>pure (.done .next)
   | some v=>Oq tg (.ref it) v >>= λ_=>assign tg env v >>= λ_=>m D env (again (.compLoop (cE b elt j sc pos) 0 (.ref it) (.ref D) env)))){a:Pn0}{it:Addr}(K:Inv X a σ H2 s2)(T:Turn X.prog X.w X.K tg J fp it tn)(N:tn 0 s2.heap)(V:∀ b∈fp,md X a H2 b){QF:List α->St->Hp->Prop}(cw:yY J g t [] (tQ fr σ) H2 QF){E:VS0}(b7:∀ D C s' H' ys o ay,Inv X a σ H' s'->(∃ m,s'.heap.Ns C m)->C≠D->md X a H' C->md X a H' D->s'.heap.get? D=some o->RO ys o->QF ys ay H'->RR (.ref D) C (.ok .next) s') :
  wpAny (model X.prog X.w) X.A a5 (λacc a1=>wpAny (model X.prog X.w) X.A (ZC sc X.env.globals (takes X.env.cells sc.names []) [] X.env.qual none .none (some X.env)) (λI Z=>
   FU (model X.prog X.w) X.A (.compStart (cE b elt j sc pos) 0 (.ref it) acc { I with scope:=relabel sc X.env }) (RR acc I.locals) Z) E a1) E s2:=by
 refine mk (E_ λl d f i=>?_);dsimp only at d f i ⊢;generalize U:s2.heap.push o0=q at d f i ⊢;have w:q.objs.size=s2.heap.objs.size + 1:=by rw[<- U,yn]
 generalize F:q.objs.size=C at d i ⊢;generalize k:s2.heap.objs.size=D at w ⊢;have b0:D≠C:=by rw[<- F,w];exact jz (PL _)
 have L:∀ b o,s2.heap.get? b=some o->q.get? b=some o:=λb o e=>by rw[<- U];exact av _ e
 have b9:q.get? D=some o0:=by rw[<- U,<- k];exact er _ b1
 have I3:Inv X a σ H2 { s2 with heap:=q }:=K.kept (t':=s2.toks) L;have a7:H2 D=none:=K.hok.fresh (by rw[k];exact cc _);have fD:md X a H2 D:=K.xP (by rw[k];exact cc _) a7;have b':∀ b∈fp,∃ o,s2.heap.get? b=some o/\∀ v,o.data≠.cell v:=T.obj 0 _ N;have y:∀ b∈fp,b < D:=λb hb=>by let#[o,e,_]:=b' b hb;rw[<- k];exact dw e
 have a6:D∉fp:=λhb=>hY _ (y D hb);have a':C∉fp:=λhb=>by have:=y C hb;rw[<- F,w] at this;exact absurd (ak6 this) (hY _)
 have A:∀ b,(b∈X.ex\/X.ab.heap.objs.size<=b)->∀ o,X.base.get? b≠some o:=λb h o e=>by
  rcases h with h | h
  .exact K.ok.noex b o e h
  .exact absurd (da (dw e) (eC K.ok.bsz h)) (hY _)
 have hex:∀ b∈D::fp,b < q.objs.size/\b∉X.fs/\b≠X.env.locals/\(∀ x c,X.env.cells.lookup x=some c->c≠b)/\∀ o,X.base.get? b≠some o:=λb hb=>by
  have fb:md X a H2 b:=by
   rcases dk.mp hb with e | hb
   .rw[e];exact fD
   .exact V b hb
  refine#[?_,fb.2.2.1,fb.2.1,fb.2.2.2.2.1,A b fb.2.2.2.1];rcases dk.mp hb with e | hb
  .rw[e,w];exact PL _
  .rw[w];exact Wu (y b hb)
 have H:q.objs.size<=C:=by rw[F];exact cc _
 have ok:(cv X sc Nc { s2 with heap:=q } H2 C (D::fp) (X.pn++a)).Ok:=Rm B I3 H hex;have O:∀ b u,q.get? b=some u->l.get? b=some u:=f;have J0:Inv (cv X sc Nc { s2 with heap:=q } H2 C (D::fp) (X.pn++a)) [(D,o0)] (tQ fr σ) H2 { s2 with heap:=l }:=
  Ml B ok I3 H rfl rfl O d i b9 a7 fD.2.1 fD.2.2.1 (nc _ _ a2)
 have a0:Acc RO (cv X sc Nc { s2 with heap:=q } H2 C (D::fp) (X.pn++a)) D [] [] (tQ fr σ) H2 { s2 with heap:=l }:=
  #[#[_,J0,a2],eH,λp S=>fD.2.2.2.2.2 p (by simpa using S)]
 have c1:∀ b∈fp,md (cv X sc Nc { s2 with heap:=q } H2 C (D::fp) (X.pn++a)) [] H2 b/\D≠b:=λb hb=>
  #[#[(V b hb).1,λe=>a' (by have e':b=C:=e;rw[<- e'];exact hb),ok.exfs b (cb _ hb),.inl (cb _ hb),(ok.exf b (cb _ hb)).2,λp S=>(V b hb).2.2.2.2.2 p (by simpa using S)],λz=>a6 (by rw[z];exact hb)]
 have G:FU (model X.prog X.w) X.A (.compLoop (cE b elt j sc pos) 0 (.ref it) (.ref D) (compEnvC sc (bcl X.env.cells sc C) C X.env)) (RR (.ref D) C) { s2 with heap:=l }:=by
  refine Nd (Y:=cv X sc Nc { s2 with heap:=q } H2 C (D::fp) (X.pn++a)) (D:=D) rfl hc T (hg _ _ _ _ _) (hm _ _ _ _ _ D) (R it D _) a0 (T.keep _ _ _ N (λb _ o e=>O b o (L b o e))) c1 cw λys c2 H3 s4 a4 hq=>?_;let#[o4,W,rv]:=a4.us;let#[pD,pH,_,_,_]:=W.pin (D,o4) (eP _ eH);let#[b4,b5,_]:=W.loc;have un:Un (frs X.stack) fp H2 H3 s2.heap s4.heap:=by
   have M:Un (frs X.stack) (D::fp) H2 H3 q s4.heap:=W.base;have nx:∀ {b:Addr} {o:Obj},s2.heap.get? b=some o->b∉fp->b∉D::fp:=λe h1 h2=>by
    rcases dk.mp h2 with z | z
    .exact jz (dw e) (by rw[k];exact z)
    .exact h1 z
   exact#[λb o e n hb Q=>M.keep b o (L b o e) n hb (nx e Q),λb o e n hb Q=>M.slot b o (L b o e) n hb (nx e Q),λb o e n Q=>M.free b o (L b o e) n (nx e Q),
    λb o e Q=>M.there b o (L b o e) (nx e Q),M.tups,M.m4,M.tbls]
  have I5:Inv X a σ H3 s4:=K.BG W.os un W.hok W.bare λb hb=>#[(V b hb).2.2.2.1,(V b hb).2.1,(V b hb).2.2.2.2.1,(V b hb).2.2.2.2.2];exact b7 D C s4 _ ys o4 _ I5 #[b4,b5] (ky b0) (K.xP (by rw[k,<- F,w];exact Xf _) W.free) (K.xP (by rw[k];exact cc _) pH) pD rv hq
 exact tI b6 G (Bk (T.self X.A 0 _ _ (λ_ _=>False) (T.keep _ _ _ N (λb _ o e=>O b o (L b o e))) G) (λ_ _ h=>h) λ_ _ h=>h.elim)
theorem ve{c:List zl}{m:Addr->Env->Sem Fin->Sem Fin}{t:TB}(q:c[0]?=some #[tg,iter,ifs,0])(B:Blk X.N X.env.scope sc Nc fr)(K:X.calm=true)(I:∀ ab ar C ex k,PG (cv X sc Nc ab ar C ex k) tg g)(H:∀ ab ar C ex k D,PB RL (cv X sc Nc ab ar C ex k) D (m D (cv X sc Nc ab ar C ex k).env) t)(f:∀ (it D:Addr) (env:Env),ab4 (.ListComp elt c sc pos) 0 (.ref it) (.ref D) env=(VS p0 >>= λ_=>pyNext (.ref it) >>= λr=>match r with
   | none=>pure (.done .next)
   | some v=>Oq tg (.ref it) v >>= λ_=>assign tg env v >>= λ_=>m D env (again (.compLoop (.ListComp elt c sc pos) 0 (.ref it) (.ref D) env)))){a:Pn0}{it:Addr}(N:Inv X a σ H2 s2)(T:Turn X.prog X.w X.K tg J fp it tn)(n:tn 0 s2.heap)(L:∀ b∈fp,md X a H2 b){Q:VK}(M:yY J g t [] (tQ fr σ) H2 λys _ H'=>ys.length < sizeLine/\∀ l,H' l=none->Q (.ref l) (upd H' l (.lst ys))){E:VS0}(s:∀ D C s' H',Inv X a σ H' s'->(∃ m,s'.heap.Ns C m)->md X a H' C->Q (.ref D) H'->RR (.ref D) C (.ok .next) s') :
  wpAny (model X.prog X.w) X.A (newList []) (λacc j=>wpAny (model X.prog X.w) X.A (ZC sc X.env.globals (takes X.env.cells sc.names []) [] X.env.qual none .none (some X.env)) (λd i=>
   FU (model X.prog X.w) X.A (.compStart (.ListComp elt c sc pos) 0 (.ref it) acc { d with scope:=relabel sc X.env }) (RR acc d.locals) i) E j) E s2:=by
 refine Bz (RO:=RL) (b:=false) (elt:=elt) (pos:=pos) (o0:=wL [] 0) q (λh=>vx h) rfl #[[],rfl,.nil] (λys o ⟨x,e,_⟩ v z=>by subst e;cases z) B K I H f N T n L M λD C s' H' ys o w O G F u fD pD ⟨x,e,y⟩ ⟨p,A⟩=>?_;subst e;exact s D C s' _ (O.adopt fD pD y (Wh p)) G #[by rw[ao F];exact u.1,u.2] (A D fD.1)
def kT (b:On)(a:TI)(g:TG)(t:TB):TE:=λσ H Q=>a σ H λJ H1=>yY J g t [] (tQ b σ) H1 λys _ H'=>ys.length < sizeLine/\∀ l,H' l=none->Q (.ref l) (upd H' l (.lst ys))
theorem rX{rest:List zl}{m:Addr->Env->Sem Fin->Sem Fin}{t:TB}(E:X.calm=true)(z:PI X tg iter wi)(B:Blk X.N X.env.scope sc Nc fr)(A:∀ ab ar C ex f,PG (cv X sc Nc ab ar C ex f) tg g)(y:∀ ab ar C ex f D,PB RL (cv X sc Nc ab ar C ex f) D (m D (cv X sc Nc ab ar C ex f).env) t)(c:∀ (it D:Addr) (env:Env),ab4 (.ListComp elt (#[tg,iter,ifs,0]::rest) sc pos) 0 (.ref it) (.ref D) env=(VS p0 >>= λ_=>pyNext (.ref it) >>= λr=>match r with
   | none=>pure (.done .next)
   | some v=>Oq tg (.ref it) v >>= λ_=>assign tg env v >>= λ_=>m D env (again (.compLoop (.ListComp elt (#[tg,iter,ifs,0]::rest) sc pos) 0 (.ref it) (.ref D) env))))(w:autoParam (∀ x,pk iter X.env x=pure x) wT) :
  PE X (.ListComp elt (#[tg,iter,ifs,0]::rest) sc pos) (kT fr wi g t):=by
 intro a s l H Q I h;rw[eval_ListComp];refine aa3 (use:=none) rfl w (Eb B I) B.kind B.locs (thn (z a s l H _ I h) λv U K=>thn K λu S G=>?_);let#[it,W,R,J,Y,e,N,T,i,L,M]:=G;subst e;refine ve (RR:=λk C=>compPost (model X.prog X.w) X.A X.xe none (EP X a l Q) k C) rfl B E A y c N T i L M λD C p P O j d q=>?_;let#[m,j]:=j;exact#[m,j,λV n=>#[.ref D,P,O.turned (t':=p.toks) (λb o F e=>(n.2 b F).trans e) d.1 d.2.1 d.2.2.2.1 d.2.2.2.2.1 d.2.2.2.2.2,rfl,q]]
theorem A5{x:Str}{k d:Pos}{rest:List zl}{m:Addr->Env->Sem Fin->Sem Fin}{t:TB}(hN:X.N.Nodup)(E:X.N[i]?=some x)(M:X.env.scope.names.lookup x=some .local)(Y:X.calm=true)(V:PI X tg iter wi)(B:Blk X.N X.env.scope sc Nc fr)(W:∀ ab ar C ex n,PG (cv X sc Nc ab ar C ex n) tg g)(U:∀ ab ar C ex n D,PB RL (cv X sc Nc ab ar C ex n) D (m D (cv X sc Nc ab ar C ex n).env) t)(f:∀ (it D:Addr) (env:Env),ab4 (.ListComp elt (#[tg,iter,ifs,0]::rest) sc pos) 0 (.ref it) (.ref D) env=(VS p0 >>= λ_=>pyNext (.ref it) >>= λr=>match r with
   | none=>pure (.done .next)
   | some v=>Oq tg (.ref it) v >>= λ_=>assign tg env v >>= λ_=>m D env (again (.compLoop (.ListComp elt (#[tg,iter,ifs,0]::rest) sc pos) 0 (.ref it) (.ref D) env))))(w:autoParam (Xb (.ListComp elt (#[tg,iter,ifs,0]::rest) sc pos) (some (.Name x k)) d.line X.env=pure true) wE)(R:autoParam (∀ x,pk iter X.env x=pure x) wT) :
  PS X (.Assign [.Name x k] (.ListComp elt (#[tg,iter,ifs,0]::rest) sc pos) d) (pI (kT fr wi g t) (kG i)):=by
 intro c s K H D I h;rw[exec_Assign_Name_used _ _ _ _ w];refine au (yv (au ?_));show wpAny _ X.A (do let _ <- comprehension (.ListComp elt (#[tg,iter,ifs,0]::rest) sc pos) sc X.env _ (newList []) false (eval iter X.env) (some (assign (.Name x k) X.env))) _ _ s;refine au (Bk (aa3 (use:=some (assign (.Name x k) X.env)) (Q:=λ_ l=>SP X c D .next l) rfl R (Eb B I) B.kind B.locs
  (thn (V c s K H _ I h) λv s1 h1=>thn h1 λP s2 h2=>?_)) (λ_ l S=>bh (bh S)) λ_ _ e=>e)
 let#[it,fp,tn,J,H2,e,I2,T,p,f2,cw]:=h2;subst e;refine ve (Q:=λx H1=>kG i x K H1 D.nx) (RR:=λG C=>compPost (model X.prog X.w) X.A X.xe (some (assign (.Name x k) X.env)) (λ_ l=>SP X c D .next l) G C) rfl B Y W U f I2 T p f2 cw λL C l H' I' A j q=>?_;let#[m,A]:=A;show wpAny _ X.A (assign (.Name x k) X.env (.ref L)) _ _ _;refine wpAny_assign_Name (x_ I' hN E (.inl M) (v:=.ref L) rfl (λO I3 y=>?_) (.inr M));let#[a,N,ha]:=y;have F:C≠a:=by
  rcases ha with e | e
  .rw[e];exact j.2.1
  .exact λz=>j.2.2.2.2.1 _ _ e (by rw[z])
 exact#[m,A.sameBut N F,λh' u=>#[_,H',I3.turned (t':=O.toks) (λb o Z e=>(u.2 b Z).trans e) j.1 j.2.1 j.2.2.2.1 j.2.2.2.2.1 j.2.2.2.2.2,q]]
end _2
namespace _3
open PySem _2
def VB (o:Obj)(c:Addr)(q:Str):Prop:=∃ fd,o.data=.func fd/\fd.code=.ref c/\fd.qualname=q
set_option genSizeOf true in
inductive D where
 | non | bl (b:Bool) | int (i:Int) | str (x:Str) | lst (xs:List D) | tup (xs:List D) | ktup (xs:List D) | ins (C:Addr) (ns:Ls0) (xs:List D) | scr (ns:Li0) | ty (n:String) | adr (a:Addr) | cel (p:Addr) (xs:List D) | exc (C:Addr) (ns:Ls0) (xs:List D) | dct | dcs (k:Str) (i:Int) | fn (o:Unit->Obj) (f:Addr) (v:V) (r:D)
noncomputable def mpT (a:List (Int×Int×Int)):List (List Key×V):=a.map λq=>([.inl q.1,.inl q.2.1],.int q.2.2)
noncomputable def MG (F:Hp)(p:Addr):Option Addr->Prop
 | some C=>∃ dx a,F p=some (.ins C dx a)
 | none=>F p=some (.dK [])
theorem MG.to(e:∀ o,F p=some o->(∀ vs,o≠.lst vs)->F' p=some o):∀ {c:Option Addr},MG F p c->MG F' p c
 | some _,⟨b,a,h⟩=>#[b,a,e _ h λ_ z=>by cases z]
 | none,h=>e _ h λ_ z=>by cases z
mutual
noncomputable def Rep (K:Fg0)(F:Hp):D->V->Prop
 | .non,v=>v=.non
 | .bl b,v=>v=.bl b
 | .int i,v=>v=.int i
 | .str x,v=>v=.str x
 | .ty n,v=>v=.ty n
 | .adr a,v=>v=.ref a
 | .cel p xs,v=>v=.ref p/\∃ vs,F p=some (.lst vs)/\aN K F xs vs
 | .scr ns,v=>∃ p,v=.ref p/\SqL K F p (ns.map V.int)
 | .lst xs,v=>∃ p vs,v=.ref p/\F p=some (.lst vs)/\aN K F xs vs
 | .tup xs,v=>∃ p vs,v=.ref p/\F p=some (.tup vs)/\aN K F xs vs
 | .ktup xs,v=>∃ p vs,v=.ref p/\SqT K F p vs/\aN K F xs vs
 | .ins C ns xs,v=>∃ p dx e,v=.ref p/\F p=some (.ins C dx e)/\e.map (·.1)=ns/\aN K F xs (e.map (·.2))
 | .dct,v=>∃ p,v=.ref p/\F p=some (.dK [])
 | .dcs k i,v=>∃ p,v=.ref p/\F p=some (.dK [(.inr k,.int i)])
 | .exc C ns xs,v=>∃ p d e,v=.ref p/\F p=some (mf p (.ref C) d)/\XDk F d e/\e.map (·.1)=ns/\aN K F xs (e.map (·.2))
 | .fn o f v r,x=>x=.ref f/\(∃ c q,F f=some (.frz (o ()) (.cod c q))/\VB (o ()) c q)/\Rep K F r v
noncomputable def aN (K:Fg0)(F:Hp):List D->List V->Prop
 | [],vs=>vs=[]
 | x::xs,vs=>∃ v a,vs=v::a/\Rep K F x v/\aN K F xs a
end
theorem SqT.same(e:aS H H')(h:SqT K H a xs):SqT K H' a xs:=by
 rcases h with (h | ⟨o,h⟩) | h
 .exact .inl (.inl (e _ _ h))
 .exact .inl (.inr #[o,e _ _ h])
 .exact .inr h
mutual
theorem Rep.mono {K:Fg0}{F m:Hp}(e:aS F m):∀ {d:D} {v:V},Rep K F d v->Rep K m d v
 | .non,_,h=>h
 | .bl _,_,h=>h
 | .int _,_,h=>h
 | .str _,_,h=>h
 | .ty _,_,h=>h
 | .adr _,_,h=>h
 | .cel _ _,_,⟨f,i,a,g⟩=>#[f,i,e _ _ a,aN.mono e g]
 | .scr _,_,⟨p,f,a⟩=>#[p,f,e.seq a]
 | .lst _,_,⟨p,i,f,a,g⟩=>#[p,i,f,e _ _ a,aN.mono e g]
 | .tup _,_,⟨p,i,f,a,g⟩=>#[p,i,f,e _ _ a,aN.mono e g]
 | .ktup _,_,⟨p,i,f,a,g⟩=>#[p,i,f,SqT.same e a,aN.mono e g]
 | .ins _ _ _,_,⟨p,l,k,f,a,g,j⟩=>#[p,l,k,f,e _ _ a,g,aN.mono e j]
 | .dct,_,⟨p,f,a⟩=>#[p,f,e _ _ a]
 | .dcs _ _,_,⟨p,f,a⟩=>#[p,f,e _ _ a]
 | .exc _ _ _,_,⟨p,l,k,f,a,n,g,j⟩=>#[p,l,k,f,e _ _ a,n.mono e,g,aN.mono e j]
 | .fn _ _ _ _,_,⟨f,⟨c,q,a,j⟩,g⟩=>#[f,#[c,q,e _ _ a,j],Rep.mono e g]
theorem aN.mono {K:Fg0}{F a:Hp}(e:aS F a):∀ {xs:List D} {vs:List V},aN K F xs vs->aN K a xs vs
 | [],_,h=>h
 | _::_,_,⟨v,b,f,d,c⟩=>#[v,b,f,Rep.mono e d,aN.mono e c]
end
inductive Sl where
 | fz (d:D) | ow (d:D) | ln (d:D)
abbrev G:=List (Option Sl)
inductive RV where
 | fz (d:D) | fr (d:D) | two (xs ys:List D) | rws (xss:List (List D))
noncomputable def RV.pl:RV->Bool
 | .fz _=>true
 | .fr _=>true
 | _=>false
noncomputable def RV.d:RV->D
 | .fz d=>d
 | .fr d=>d
 | .two xs ys=>.tup [.lst xs,.lst ys]
 | .rws xss=>.lst (xss.map .lst)
set_option backward.eqns.nonrecursive false in
noncomputable def RV.sl:RV->Sl
 | .fz d=>.fz d
 | .fr d=>.ow d
 | .two xs ys=>.fz (.tup [.lst xs,.lst ys])
 | .rws xss=>.ow (.lst (xss.map .lst))
set_option genInjectivity false in
structure Bs where
 F:Hp
 H:Hp
 own:List (Nat×Addr)
noncomputable def Own (K:Fg0)(F H:Hp)(p:Addr):D->Prop
 | .lst xs=>∃ vs,H p=some (.lst vs)/\aN K F xs vs
 | .cel q xs=>p=q/\∃ vs,H p=some (.lst vs)/\aN K F xs vs
 | .ins C ns xs=>∃ dx a,H p=some (.ins C dx a)/\a.map (·.1)=ns/\aN K F xs (a.map (·.2))
 | _=>False
theorem Own.mono(e:aS F F')(h:H' p=H p):∀ {d:D},Own K F H p d->Own K F' H' p d
 | .lst _,⟨f,a,b⟩=>#[f,h.trans a,b.mono e]
 | .cel _ _,⟨z,f,a,b⟩=>#[z,f,h.trans a,b.mono e]
 | .ins _ _ _,⟨i,g,a,b,c⟩=>#[i,g,h.trans a,b,c.mono e]
theorem Own.some {K:Fg0}{F H:Hp}{p:Addr}:∀ {d:D},Own K F H p d->∃ o,H p=some o
 | .lst _,⟨_,a,_⟩=>#[_,a]
 | .cel _ _,⟨_,_,a,_⟩=>#[_,a]
 | .ins _ _ _,⟨_,_,a,_⟩=>#[_,a]
theorem Own.rep{o:HO}(h:F p=none)(g:H p=Option.some o):∀ {d:D},Own K F H p d->Rep K (upd F p o) d (.ref p)
 | .lst _,Z=>by
  let#[f,a,b]:=Z;rw[g] at a;cases a;exact#[p,f,rfl,aB,b.mono λx u e=>by rw[ao (bS e h)];exact e]
 | .cel _ _,Z=>by
  let#[z,f,a,b]:=Z;rw[g] at a;cases a;subst z;exact#[rfl,f,aB,b.mono λx u e=>by rw[ao (bS e h)];exact e]
 | .ins _ _ _,Z=>by
  let#[j,i,a,b,c]:=Z;rw[g] at a;cases a;exact#[p,j,i,rfl,aB,b,c.mono λx u e=>by rw[ao (bS e h)];exact e]
def Hld (Γ:G)(i:Nat)(d:D):Prop:=Γ[i]?=some (some (Sl.ow d))\/Γ[i]?=some (some (Sl.ln d))
structure En (K:Fg0) (B:Bs) (F:Hp) (σ:St) (H:Hp) (Γ:G):Prop where
 sub:aS F H
 len:σ.length=Γ.length
 fz:∀ (i:Nat) (d:D),Γ[i]?=some (some (Sl.fz d))->∃ v,σ[i]?=some (some v)/\Rep K F d v
 hl:∀ (i:Nat) (d:D),Hld Γ i d->∃ p,σ[i]?=some (some (V.ref p))/\F p=none/\Own K F H p d
 ow:∀ (i:Nat) (d:D) (p:Addr),Γ[i]?=some (some (Sl.ow d))->σ[i]?=some (some (V.ref p))->B.H p=none
 ln:∀ (i:Nat) (d:D) (p:Addr),Γ[i]?=some (some (Sl.ln d))->σ[i]?=some (some (V.ref p))->(i,p)∈B.own
 dis:∀ (i j:Nat) (d e:D) (p:Addr),Hld Γ i d->Hld Γ j e->σ[i]?=some (some (V.ref p))->σ[j]?=some (some (V.ref p))->i=j
 par:∀ (i:Nat) (p:Addr),(i,p)∈B.own->σ[i]?=some (some (V.ref p))/\∃ d,Γ[i]?=some (some (Sl.ln d))
 keep:aS B.F F
 new:∀ (b:Addr) (o:HO),F b=some o->B.F b=some o\/B.H b=none
 rest:∀ (b:Addr) (o:HO),B.H b=some o->(∀ i,(i,b)∉B.own)->H b=some o
 dom:∀ b,H b=none->B.H b=none
section
variable {B:Bs}{Γ:G}
theorem En.alloc(e:En K B F σ H Γ)(hl:H l=none)(o:HO):En K B F σ (upd H l o) Γ where
 sub:=λb u h=>by rw[ao (bS (e.sub b u h) hl)];exact e.sub b u h
 len:=e.len
 fz:=e.fz
 hl:=λi d h=>by
  let#[p,g,f,a]:=e.hl i d h;let#[u,c]:=a.some;exact#[p,g,f,a.mono (aS.refl F) (ao (bS c hl))]
 ow:=e.ow
 ln:=e.ln
 dis:=e.dis
 par:=e.par
 keep:=e.keep
 new:=e.new
 rest:=λb u h n=>by rw[ao (bS (e.rest b u h n) hl)];exact e.rest b u h n
 dom:=λb h=>by
  by_cases q:b=l
  .subst q;exact e.dom _ hl
  .rw[ao q] at h;exact e.dom b h
theorem a9{o:HO}(h:F l=none):aS F (upd F l o):=λb u e=>by rw[ao (bS e h)];exact e
theorem En.freeze(e:En K B F σ H Γ){o:HO}(c:F l=none)(j:H l=some o)(k:B.H l=none)(g:∀ (i:Nat) (d:D),Hld Γ i d->σ[i]?≠some (some (V.ref l))):En K B (upd F l o) σ H Γ where
 sub:=λb u h=>by
  by_cases q:b=l
  .subst q;rw[aB] at h;cases h;exact j
  .rw[ao q] at h;exact e.sub b u h
 len:=e.len
 fz:=λi d h=>by
  let#[v,a,f]:=e.fz i d h;exact#[v,a,f.mono (a9 c)]
 hl:=λi d h=>by
  let#[p,a,f,m]:=e.hl i d h;have q:p≠l:=λz=>g i d h (z ▸ a);exact#[p,a,by rw[ao q];exact f,m.mono (a9 c) rfl]
 ow:=e.ow
 ln:=e.ln
 dis:=e.dis
 par:=e.par
 keep:=e.keep.trans (a9 c)
 new:=λb u h=>by
  by_cases q:b=l
  .subst q;exact .inr k
  .rw[ao q] at h;exact e.new b u h
 rest:=e.rest
 dom:=e.dom
noncomputable def eQ (K:Fg0)(F H:Hp):La0->List (List D)->Prop
 | [],xss=>xss=[]
 | q::qs,xss=>∃ xs a vs,xss=xs::a/\H q=some (.lst vs)/\aN K F xs vs/\eQ K F H qs a
theorem eQ.mono(s:aS F F'):∀ {qs:La0} {xss:List (List D)},(∀ q∈qs,H' q=H q)->eQ K F H qs xss->eQ K F' H' qs xss
 | [],_,_,h=>h
 | q::qs,_,e,⟨b,a,c,j,i,g,f⟩=>#[b,a,c,j,(e q (.head _)).trans i,g.mono s,eQ.mono s (λz d=>e z (.tail _ d)) f]
noncomputable def nM (K:Fg0)(B:Bs)(F:Hp)(σ:St)(H:Hp)(Γ:G)(v:V):RV->Prop
 | .fz d=>Rep K F d v
 | .fr d=>∃ p,v=.ref p/\F p=none/\Own K F H p d/\B.H p=none/\∀ (i:Nat) (e:D),Hld Γ i e->σ[i]?≠some (some (V.ref p))
 | .rws xss=>∃ p qs,v=.ref p/\H p=some (.lst (qs.map V.ref))/\(p::qs).Nodup/\eQ K F H qs xss/\∀ z,z∈p::qs->F z=none/\B.H z=none/\∀ (i:Nat) (e:D),Hld Γ i e->σ[i]?≠some (some (V.ref z))
 | .two xs ys=>∃ t p q vs a,v=.ref t/\H t=some (.tup [.ref p,.ref q])/\H p=some (.lst vs)/\H q=some (.lst a)/\aN K F xs vs/\aN K F ys a/\p≠q/\∀ z,z=t\/z=p\/z=q->F z=none/\B.H z=none/\∀ (i:Nat) (e:D),Hld Γ i e->σ[i]?≠some (some (V.ref z))
theorem Mz{q:Addr}{xs ys:List D}{w:V}(s:aS F F')(h:F' q=some (.lst vs))(b:aN K F' xs vs)(r:Rep K F (.lst (.adr q::ys)) w):Rep K F' (.lst (.lst xs::ys)) w:=by
 let#[a,f,rfl,d,v,e,rfl,rfl,c]:=r;exact#[a,_,rfl,s _ _ d,_,_,rfl,#[q,vs,rfl,h,b],c.mono s]
theorem En.D8:∀ {qs:La0} {xss:List (List D)} {F:Hp},En K B F σ H Γ->eQ K F H qs xss->qs.Nodup->(∀ z∈qs,F z=none/\B.H z=none/\∀ (i:Nat) (e:D),Hld Γ i e->σ[i]?≠some (some (V.ref z)))->
  ∃ F',aS F F'/\En K B F' σ H Γ/\aN K F' (xss.map .lst) (qs.map V.ref)/\∀ z,z∉qs->F' z=F z
 | [],_,F,e,h,_,_=>by cases h;exact#[F,aS.refl F,e,rfl,λ_ _=>rfl]
 | q::qs,_,F,e,⟨J,I,g,v,u,t,s⟩,m,j=>by
  subst v;let#[p,n]:=tj.mp m;let#[k,G,E]:=j q (.head _);have x:=e.freeze k u G E;have d:=a9 (o:=.lst g) k;let#[F',f,y,l,r]:=En.D8 (qs:=qs) x (s.mono d λ_ _=>rfl) n λz c=>by
   let#[C,b2,A]:=j z (.tail _ c);exact#[by rw[ao (a:=q) (b:=z) (λw=>p (by rw[<- w];exact c))];exact C,b2,A]
  refine#[F',d.trans f,y,#[_,_,rfl,#[q,g,rfl,f _ _ aB,t.mono (d.trans f)],l],λz c=>?_];rw[dk,not_or] at c;rw[r z c.2,ao c.1]
theorem En.DC(e:En K B F σ H Γ){qs:La0}{xss:List (List D)}(k:H p=some (.lst (qs.map V.ref)))(d:(p::qs).Nodup)(r:eQ K F H qs xss)(a:∀ z,z∈p::qs->F z=none/\B.H z=none/\∀ (i:Nat) (e:D),Hld Γ i e->σ[i]?≠some (some (V.ref z))) :
  ∃ F',aS F F'/\En K B F' σ H Γ/\F' p=none/\Own K F' H p (.lst (xss.map .lst)):=by
 let#[g,f]:=tj.mp d;let#[F',b,l,c,h]:=e.D8 r f λz j=>a z (.tail _ j);exact#[F',b,l,(h p g).trans (a p (.head _)).1,_,k,c]
theorem En.Gg(e:En K B F σ H Γ){x:Str}{xs ys:List D}{q:Addr}{w:V}(h1:H p=some (.lst [.str x,w]))(h:Rep K F (.lst (.adr q::ys)) w)(g:H q=some (.lst vs))(f:aN K F xs vs)(d:p≠q)(b:∀ z,z=p\/z=q->F z=none/\B.H z=none/\∀ (i:Nat) (e:D),Hld Γ i e->σ[i]?≠some (some (V.ref z))) :
  ∃ F',aS F F'/\En K B F' σ H Γ/\F' p=none/\Own K F' H p (.lst [.str x,.lst (.lst xs::ys)]):=by
 let#[c,k,j]:=b q (.inr rfl);have a:=a9 (o:=.lst vs) c;exact#[upd F q (.lst vs),a,e.freeze c g k j,(ao d).trans (b p (.inl rfl)).1,_,h1,_,_,rfl,rfl,_,_,rfl,Mz a aB (f.mono a) h,rfl]
theorem En.frozen(e:En K B F σ H Γ){v:V}:∀ {r:RV},nM K B F σ H Γ v r->∃ F',aS F F'/\En K B F' σ H Γ/\Rep K F' r.d v
 | .fz d,h=>#[F,aS.refl F,e,h]
 | .fr d,Z=>by
  let#[p,g,a,b,f,c]:=Z;subst g;let#[o,y]:=b.some;exact#[upd F p o,a9 a,e.freeze a y f c,b.rep a y]
 | .rws G,Z=>by
  let#[p,qs,g,a,b,f,c]:=Z;subst g;let#[F',I,P,s,J]:=e.DC a b f c;let#[_,b2,u]:=c p (.head _);exact#[_,I.trans (a9 s),P.freeze s a b2 u,J.rep s a]
 | .two Y X,Z=>by
  let#[t,p,q,i,j,g,a,b,f,c,L,A,n]:=Z;subst g;let#[W,U,T]:=n t (.inl rfl);let#[E,b2,u]:=n p (.inr (.inl rfl));let#[S,R,Q]:=n q (.inr (.inr rfl));have x:t≠p:=λz=>by rw[z,b] at a;cases a
  have w:t≠q:=λz=>by rw[z,f] at a;cases a
  have O:=e.freeze E b b2 u;have D:upd F p (.lst i) q=none:=by rw[ao (ky A)];exact S
  have N:=O.freeze D f R Q;have C:upd (upd F p (.lst i)) q (.lst j) t=none:=by rw[ao w,ao x];exact W
  have M:=N.freeze C a U T;have m:=a9 (o:=.lst i) E;have l:=a9 (o:=.lst j) D;have k:=a9 (o:=.tup [.ref p,.ref q]) C;exact#[_,(m.trans l).trans k,M,t,_,rfl,aB,#[_,_,rfl,#[p,i,rfl,by rw[ao (ky x),ao A];exact aB,(c.mono ((m.trans l).trans k))],_,_,rfl,#[q,j,rfl,by rw[ao (ky w)];exact aB,L.mono ((m.trans l).trans k)],rfl]]
theorem En.norm(e:En K B F σ H Γ){v:V}:∀ {r:RV},nM K B F σ H Γ v r->∃ F' r',aS F F'/\En K B F' σ H Γ/\nM K B F' σ H Γ v r'/\r'.sl=r.sl/\r'.pl=true
 | .fz d,h=>#[F,.fz d,aS.refl F,e,h,rfl,rfl]
 | .fr d,h=>#[F,.fr d,aS.refl F,e,h,rfl,rfl]
 | .rws a,Z=>by
  let#[p,t,k,n,m,l,c]:=Z;subst k;let#[F',i,b,o,j]:=e.DC n m l c;let#[_,b2,q]:=c p (.head _);exact#[F',.fr (.lst (a.map .lst)),i,b,#[p,rfl,o,j,b2,q],rfl,rfl]
 | .two g f,h=>by
  let#[F',s,b,r]:=e.frozen h;exact#[F',.fz (.tup [.lst g,.lst f]),s,b,r,rfl,rfl]
def Po (K:Fg0)(B:Bs)(F:Hp)(σ:St)(Q:RV->G->Prop):VK:=λv H'=>∃ F' Γ' r,aS F F'/\En K B F' σ H' Γ'/\nM K B F' σ H' Γ' v r/\Q r Γ'
abbrev TE3:=G->(RV->G->Prop)->Prop
def Ref (K:Fg0)(t:TE)(a:TE3):Prop:=∀ (B:Bs) (F:Hp) (σ:St) (H:Hp) (Γ:G) (Q:RV->G->Prop) (QQ:VK),En K B F σ H Γ->a Γ Q->(∀ v H',Po K B F σ Q v H'->QQ v H')->t σ H QQ
theorem Po.mono{Q:RV->G->Prop}{v:V}(s:aS F F')(h:Po K B F' σ Q v H):Po K B F σ Q v H:=by
 let#[d,c,r,a,b]:=h;exact#[d,c,r,s.trans a,b]
theorem ku(e:En K B F σ H Γ){Q:RV->G->Prop}{v:V}{d:D}(r:Rep K F d v)(q:Q (.fz d) Γ):Po K B F σ Q v H:=#[F,Γ,.fz d,aS.refl F,e,r,q]
theorem En.qY(e:En K B F σ H Γ)(b:H l=none):∀ (i:Nat) (d:D),Hld Γ i d->σ[i]?≠some (some (V.ref l)):=λi d h z=>by
 let#[p,f,g,c]:=e.hl i d h;rw[f] at z;cases z;let#[o,a]:=c.some;rw[b] at a;cases a
theorem En.nof(e:En K B F σ H Γ)(a:H l=none):F l=none:=by
 cases q:F l with
 | none=>rfl
 | some o=>have:=e.sub _ _ q;rw[a] at this;cases this
theorem kr(e:En K B F σ H Γ){Q:RV->G->Prop}{xs:List D}(a:H l=none)(r:aN K F xs vs)(q:Q (.fr (.lst xs)) Γ):Po K B F σ Q (.ref l) (upd H l (.lst vs)):=
 #[F,Γ,.fr (.lst xs),aS.refl F,e.alloc a _,#[l,rfl,e.nof a,#[vs,aB,r],e.dom _ a,e.qY a],q]
theorem vJ(e:En K B F σ H Γ){Q:RV->G->Prop}{xs:List D}(a:H l=none)(r:aN K F xs vs)(q:Q (.fz (.tup xs)) Γ):Po K B F σ Q (.ref l) (upd H l (.tup vs)):=
 #[upd F l (.tup vs),Γ,.fz (.tup xs),a9 (e.nof a),(e.alloc a _).freeze (e.nof a) aB (e.dom _ a) (e.qY a),#[l,vs,rfl,aB,r.mono (a9 (e.nof a))],q]
set_option backward.eqns.nonrecursive false in
def Dw (i:Nat)(Γ:G)(Q:RV->G->Prop):Prop:=match Γ[i]? with
 | some (some (.fz d))=>Q (.fz d) Γ
 | some (some (.ow d))=>Q (.fz d) (Γ.set i (some (Sl.fz d)))
 | _=>False
theorem aW{b:Type}{l:List b}{a:b}(h:i≠j):(l.set i a)[j]?=l[j]?:=by rw[ZW,if_neg h]
theorem wV{c:Type}{l:List c}{a b:c}(h:l[i]?=some b):(l.set i a)[i]?=some a:=by
 rw[ZW,if_pos rfl,if_pos (gS0 h).1]
theorem En.give(e:En K B F σ H Γ){d:D}(h:Γ[i]?=some (some (Sl.ow d))):∃ F' p,aS F F'/\σ[i]?=some (some (V.ref p))/\Rep K F' d (.ref p)/\En K B F' σ H (Γ.set i (some (Sl.fz d))):=by
 let#[p,m,l,s]:=e.hl i d (.inl h);let#[o,r]:=s.some;have n:=s.rep l r;have back:∀ {j u},j≠i->(Γ.set i (some (Sl.fz d)))[j]?=u->Γ[j]?=u:=λC q=>by rw[aW (ky C)] at q;exact q
 have f:∀ {j x},Hld (Γ.set i (some (Sl.fz d))) j x->j≠i/\Hld Γ j x:=λ{j x} q=>by
  by_cases z:j=i
  .subst z;rcases q with q | q <;> rw[wV h] at q <;> cases q
  .exact#[z,q.imp (back z) (back z)]
 refine#[upd F p o,p,a9 l,m,n,?_,?_,?_,?_,?_,?_,?_,?_,?_,?_,e.rest,e.dom]
 .intro b u q;by_cases z:b=p
  .subst z;rw[aB] at q;cases q;exact r
  .rw[ao z] at q;exact e.sub b u q
 .rw[rk];exact e.len
 .intro j x q;by_cases z:j=i
  .subst z;rw[wV h] at q;cases q;exact#[_,m,n]
  .let#[v,a,b]:=e.fz j x (back z q);exact#[v,a,b.mono (a9 l)]
 .intro j x q;let#[z,q]:=f q;let#[g,a,b,c]:=e.hl j x q;have A:g≠p:=λy=>z (e.dis j i x d p q (.inl h) (y ▸ a) m);exact#[g,a,by rw[ao A];exact b,c.mono (a9 l) rfl]
 .intro j x g q a;let#[z,_]:=f (.inl q);exact e.ow j x g (back z q) a
 .intro j x g q a;let#[z,_]:=f (.inr q);exact e.ln j x g (back z q) a
 .intro j k x y g w t;exact e.dis j k x y g (f w).2 (f t).2
 .intro j g q;let#[a,y,b]:=e.par j g q;have z:j≠i:=λz=>by subst z;rw[h] at b;cases b
  exact#[a,y,by rw[aW (ky z)];exact b]
 .exact e.keep.trans (a9 l)
 .intro b u q;by_cases z:b=p
  .subst z;exact .inr (e.ow i d _ h m)
  .rw[ao z] at q;exact e.new b u q
theorem Ka(i:Nat):Ref K (i9 i) (Dw i):=by
 intro B F g H j Q l e h k;unfold Dw at h;split at h
 .rename_i d q;let#[v,b,a]:=e.fz i d q;exact#[v,b,k _ _ (ku e a h)]
 .rename_i d q;let#[f,p,s,b,a,c]:=e.give q;exact#[_,b,k _ _ #[f,_,.fz d,s,c,a,h]]
 .exact h.elim
def t3C (d:D)(Γ:G)(Q:RV->G->Prop):Prop:=Q (.fz d) Γ
theorem uK{v:V}{d:D}(h:∀ F,Rep K F d v):Ref K (tC v) (t3C d):=λB F a H b Q c e q k=>k _ _ (ku e (h F) q)
inductive Bo where
 | d (x:D) | v (i:Nat)
noncomputable def bare:D->D
 | .cel _ xs=>.lst xs
 | .non=>.non
 | .bl b=>.bl b
 | .int i=>.int i
 | .str x=>.str x
 | .lst xs=>.lst xs
 | .tup xs=>.tup xs
 | .ktup xs=>.ktup xs
 | .ins C ns xs=>.ins C ns xs
 | .scr ns=>.scr ns
 | .ty n=>.ty n
 | .adr a=>.adr a
 | .exc C ns xs=>.exc C ns xs
 | .dct=>.dct
 | .dcs k i=>.dcs k i
 | .fn o f v r=>.fn o f v r
set_option backward.eqns.nonrecursive false in
noncomputable def Gat (Γ:G)(i:Nat):Option D:=match Γ[i]? with
 | some (some (.fz d))=>some d
 | some (some (.ow d))=>some (bare d)
 | some (some (.ln d))=>some (bare d)
 | _=>none
set_option backward.eqns.nonrecursive false in
noncomputable def Bo.at (Γ:G):Bo->Option D
 | .d x=>some x
 | .v i=>Gat Γ i
noncomputable def vf (K:Fg0)(F:Hp)(σ:St):Bo->V->Prop
 | .d x,v=>Rep K F x v
 | .v i,v=>σ[i]?=some (some v)
noncomputable def jk (K:Fg0)(F H:Hp):D->V->Prop
 | .lst xs,v=>∃ p vs,v=.ref p/\H p=some (.lst vs)/\aN K F xs vs
 | .cel q xs,v=>v=.ref q/\∃ vs,H q=some (.lst vs)/\aN K F xs vs
 | .ins C ns xs,v=>∃ p dx a,v=.ref p/\H p=some (.ins C dx a)/\a.map (·.1)=ns/\aN K F xs (a.map (·.2))
 | d,v=>Rep K F d v
theorem Rep.b(s:aS F H):∀ {d:D} {v:V},Rep K F d v->jk K F H d v
 | .non,_,h=>h
 | .bl _,_,h=>h
 | .int _,_,h=>h
 | .str _,_,h=>h
 | .ty _,_,h=>h
 | .adr _,_,h=>h
 | .exc _ _ _,_,h=>h
 | .dct,_,h=>h
 | .dcs _ _,_,h=>h
 | .fn _ _ _ _,_,h=>h
 | .cel _ _,_,⟨e,f,c,a⟩=>#[e,f,s _ _ c,a]
 | .scr _,_,h=>h
 | .tup _,_,h=>h
 | .ktup _,_,h=>h
 | .lst _,_,⟨p,f,e,c,a⟩=>#[p,f,e,s _ _ c,a]
 | .ins _ _ _,_,⟨p,j,i,e,c,a,g⟩=>#[p,j,i,e,s _ _ c,a,g]
theorem Own.b:∀ {d:D},Own K F H p d->jk K F H (bare d) (.ref p)
 | .lst _,⟨e,c,a⟩=>#[p,e,rfl,c,a]
 | .cel _ _,Z=>by let#[z,e,c,a]:=Z;subst z;exact#[_,e,rfl,c,a]
 | .ins _ _ _,⟨h,g,c,a,f⟩=>#[p,h,g,rfl,c,a,f]
theorem vf.mono(s:aS F F'):∀ {a:Bo} {v:V},vf K F σ a v->vf K F' σ a v
 | .d _,_,h=>Rep.mono s h
 | .v _,_,h=>h
theorem En.get(e:En K B F σ H Γ){d:D}(h:Gat Γ i=some d):∃ v,σ[i]?=some (some v)/\jk K F H d v:=by
 unfold Gat at h;split at h
 .cases h;rename_i q;let#[v,a,c]:=e.fz i _ q;exact#[v,a,c.b e.sub]
 .cases h;rename_i q;let#[p,a,c,b]:=e.hl i _ (.inl q);exact#[_,a,b.b]
 .cases h;rename_i q;let#[p,a,c,b]:=e.hl i _ (.inr q);exact#[_,a,b.b]
 .cases h
theorem En.bo (e:En K B F σ H Γ):∀ {bo:Bo} {v:V} {d:D},vf K F σ bo v->bo.at Γ=some d->jk K F H d v
 | .d x,v,d,h,q=>by cases q;exact Rep.b e.sub h
 | .v i,v,d,h,q=>by
  let#[u,a,b]:=e.get q;rw[show σ[i]?=some (some v) from h] at a;cases a;exact b
abbrev Tag {a:Sort _}(_:a):Type:=Unit
def m1 (o:Option D)(k:D->Prop)(_:Tag k):Prop:=match o with
 | some d=>k d
 | none=>False
theorem DR{d:D}{k:D->Prop}{t:Tag k}:m1 (some d) k t=k d:=rfl
theorem jJ{o:Option D}{k:D->Prop}{t:Tag k}:m1 o k t↔∃ d,o=some d/\k d:=by
 cases o with
 | none=>exact#[λh=>h.elim,λZ=>by let#[_,h,_]:=Z;cases h]
 | some d=>exact#[λh=>#[d,rfl,h],λZ=>by let#[_,h,q]:=Z;cases h;exact q]
def mL (o:Option (List D))(k:List D->Prop)(_:Tag k):Prop:=match o with
 | some d=>k d
 | none=>False
theorem Lr{d:List D}{k:List D->Prop}{t:Tag k}:mL (some d) k t=k d:=rfl
theorem oA{o:Option (List D)}{k:List D->Prop}{t:Tag k}:mL o k t↔∃ d,o=some d/\k d:=by
 cases o with
 | none=>exact#[λh=>h.elim,λZ=>by let#[_,h,_]:=Z;cases h]
 | some d=>exact#[λh=>#[d,rfl,h],λZ=>by let#[_,h,q]:=Z;cases h;exact q]
def mI (o:Option D)(k:Int->Prop)(_:Tag k):Prop:=match o with
 | some (.int d)=>k d
 | _=>False
theorem Ls{d:Int}{k:Int->Prop}{t:Tag k}:mI (some (.int d)) k t=k d:=rfl
theorem TU{o:Option D}{k:Int->Prop}{t:Tag k}(h:mI o k t):∃ j,o=some (.int j)/\k j:=by
 rcases o with _ | d
 .exact h.elim
 cases d <;> first | exact h.elim | exact#[_,rfl,h]
def bT (c:Bool)(p q:Prop)(_:Tag p)(_:Tag q):Prop:=match c with
 | true=>p
 | false=>q
theorem Mo{p q:Prop}{s:Tag p}{t:Tag q}:bT true p q s t=p:=rfl
theorem WJ{p q:Prop}{s:Tag p}{t:Tag q}:bT false p q s t=q:=rfl
theorem rC{c:Bool}{p:Prop}{s:Tag p}{t:Tag False}(h:bT c p False s t):c=true/\p:=by cases c;exact h.elim;exact#[rfl,h]
noncomputable def one?:List D->Option D
 | [d]=>some d
 | _=>none
theorem PC{ds:List D}{d:D}(h:one? ds=some d):ds=[d]:=by
 rcases ds with _ | ⟨a,_ | ⟨b,c⟩⟩
 .cases h
 .cases h;rfl
 .cases h
theorem Tx{d:D}:one? [d]=some d:=rfl
noncomputable def HP:D->Option (List D)
 | .lst xs=>some xs
 | _=>none
theorem lst_is{d:D}{xs:List D}(h:HP d=some xs):d=.lst xs:=by cases d <;> cases h;rfl
theorem T7{xs:List D}:HP (.lst xs)=some xs:=rfl
noncomputable def Gb:D->Option (List D)
 | .tup xs=>some xs
 | _=>none
theorem tup_is{d:D}{xs:List D}(h:Gb d=some xs):d=.tup xs:=by cases d <;> cases h;rfl
theorem Sd{xs:List D}:Gb (.tup xs)=some xs:=rfl
abbrev TB3:=G->(Bo->G->Prop)->Prop
def PoB (K:Fg0)(B:Bs)(F:Hp)(σ:St)(Q:Bo->G->Prop):VK:=λv H'=>∃ F' Γ' a,aS F F'/\En K B F' σ H' Γ'/\vf K F' σ a v/\Q a Γ'
def xu (K:Fg0)(t:TE)(a:TB3):Prop:=∀ (B:Bs) (F:Hp) (σ:St) (H:Hp) (Γ:G) (Q:Bo->G->Prop) (QQ:VK),En K B F σ H Γ->a Γ Q->(∀ v H',PoB K B F σ Q v H'->QQ v H')->t σ H QQ
def bor (i:Nat)(Γ:G)(Q:Bo->G->Prop):Prop:=m1 (Gat Γ i) (λ_=>Q (.v i) Γ) ⟨⟩
def bof (a:TE3)(Γ:G)(Q:Bo->G->Prop):Prop:=a Γ λx aa=>Q (.d x.d) aa
theorem GG(i:Nat):xu K (i9 i) (bor i):=by
 intro B F c H b Q f e q k;let#[d,hd,q]:=jJ.1 q;let#[v,a,_]:=e.get hd;exact#[v,a,k _ _ #[F,b,.v i,aS.refl F,e,a,q]]
theorem J_{t:TE}{g:TE3}(h:Ref K t g):xu K t (bof g):=by
 intro B F i H j Q p e q k;refine h B F i H j _ _ e q (λv r Z=>?_);let#[s,a,x,l,o,m,n]:=Z;let#[f,b,d,c]:=o.frozen m;exact k _ _ #[f,a,.d x.d,l.trans b,d,c,n]
def oX (K:Fg0)(r:R2)(b:D->D->TE3):Prop:=∀ (B:Bs) (F:Hp) (σ:St) (H:Hp) (Γ:G) (x y:V) (dx a:D) (Q:RV->G->Prop) (QQ:VK),En K B F σ H Γ->jk K F H dx x->jk K F H a y->b dx a Γ Q->(∀ v H',Po K B F σ Q v H'->QQ v H')->r x y H QQ
def nP (b:D->D->TE3)(e d:TB3)(Γ:G)(Q:RV->G->Prop):Prop:=e Γ λx aa=>d aa λy a=>m1 (x.at a) (λdx=>m1 (y.at a) (λc=>b dx c a Q) ⟨⟩) ⟨⟩
theorem jF{r:R2}{f:TE}{l j:TB3}{i:D->D->TE3}(h:oX K r i)(C:xu K ta l)(A:xu K f j):Ref K (tOp r ta f) (nP i l j):=by
 intro B F a H m Q M e q k;refine C B F a H m _ _ e q (λv P Z=>?_);let#[S,c,x,n,I,s,w]:=Z;refine A B S a P c _ _ I w (λu O Z=>?_);let#[R,b,y,g,d,o,Z]:=Z;let#[L,G,Z]:=jJ.1 Z;let#[J,E,t]:=jJ.1 Z;exact h B R a O b v u L J Q M d (d.bo (s.mono g) G) (d.bo o E) t λz N p=>k z N (p.mono (n.trans g))
def EB (a:D->TE3)(b:TB3)(Γ:G)(Q:RV->G->Prop):Prop:=b Γ λx aa=>m1 (x.at aa) (λdx=>a dx aa Q) ⟨⟩
def Vu (K:Fg0)(r:V->Hp->VK->Prop)(a:D->TE3):Prop:=∀ (B:Bs) (F:Hp) (σ:St) (H:Hp) (Γ:G) (x:V) (dx:D) (Q:RV->G->Prop) (QQ:VK),En K B F σ H Γ->jk K F H dx x->a dx Γ Q->(∀ v H',Po K B F σ Q v H'->QQ v H')->r x H QQ
theorem Cf{r:V->Hp->VK->Prop}{d:TB3}{b:D->TE3}(h:Vu K r b)(l:xu K ta d):Ref K (λσ H Q=>ta σ H λx H1=>r x H1 Q) (EB b d):=by
 intro B F σ H f Q o e q k;refine l B F σ H f _ _ e q (λv H1 Z=>?_);let#[t,a,x,g,c,i,Z]:=Z;let#[n,m,j]:=jJ.1 Z;exact h B t σ H1 a v n Q o c (c.bo i m) j λz s p=>k z s (p.mono g)
end
variable {a e:YP}{tc:_2.TT}{c3:List _3.D->_3.TE3}{e3:_3.TE3}{B:_3.Bs}{Γ Γa Γ':_3.G}{Q:_3.RV->_3.G->Prop}{v:_2.V}{pos' p2 px:al8}{C:Int->Int->Prop}{op:PySem.CmpOp}{r:List _2.V->_2.Hp->_2.VK->Prop}{o3 o3':_3.D->_3.D->_3.TE3}{r':_2.R2}{xs ys:List _3.D}{lo hi:Option YP}{ls:On}{aI:_2.St}{k3:_3.TB3}{d':_3.D}{QQ:List _2.V->_2.St->_2.Hp->Prop}
open PySem _2 PySem.Spec PyProof.Rows
structure P3 (K:Fg0) (X:Cx) (e:Expr) (t:TE) (t3:TE3):Prop where
 pe:PE X e t
 rf:Ref K t t3
structure P3B (K:Fg0) (X:Cx) (e:Expr) (t:TE) (t3:TB3):Prop where
 pe:PE X e t
 rf:xu K t t3
section
variable {b c:Expr}{tb tc:TE}{a3 b3 c3:TB3}
theorem P3.opd(h:P3 K X a ta e3):P3B K X a ta (bof e3):=#[h.pe,J_ h.rf]
theorem bv(i:Nat){x:Str}(c:autoParam (X.N[i]?=some x) wE)(b:autoParam (Vis X.env.scope x) wq2)(hd:autoParam (Vjj x) wP)(a:autoParam ((x == ("__classdict__":Str))=false) wP):P3B K X (.Name x pos) (i9 i) (bor i):=#[du c b hd a,GG i]
theorem gI{i:Int}(e:En K B F σ H Γ)(q:Q (.fz (.int i)) Γ):Po K B F σ Q (.int i) H:=ku (d:=.int i) e rfl q
theorem eM{i:Str}(e:En K B F σ H Γ)(q:Q (.fz (.str i)) Γ):Po K B F σ Q (.str i) H:=ku (d:=.str i) e rfl q
theorem lK{i:Bool}(e:En K B F σ H Γ)(q:Q (.fz (.bl i)) Γ):Po K B F σ Q (.bl i) H:=ku (d:=.bl i) e rfl q
theorem p3v(i:Nat){x:Str}(c:autoParam (X.N[i]?=some x) wE)(b:autoParam (Vis X.env.scope x) wq2)(hd:autoParam (Vjj x) wP)(a:autoParam ((x == ("__classdict__":Str))=false) wP):P3 K X (.Name x pos) (i9 i) (Dw i):=#[du c b hd a,Ka i]
theorem ai{i j pos}:P3 K X (.Constant (.int i) j pos) (tC (.int i)) (t3C (.int i)):=#[Ck,uK λ_=>rfl]
theorem V5{i j pos}:P3B K X (.Constant (.int i) j pos) (tC (.int i)) (bof (t3C (.int i))):=P3.opd ai
theorem fB{i j pos}:P3 K X (.Constant (.bool i) j pos) (tC (.bl i)) (t3C (.bl i)):=#[Td,uK λ_=>rfl]
theorem gJ{j pos}:P3 K X (.Constant .none j pos) (tC .non) (t3C .non):=#[Pa,uK λ_=>rfl]
theorem aq{x j pos}:P3 K X (.Constant (.str x) j pos) (tC (.str x)) (t3C (.str x)):=#[wu,uK λ_=>rfl]
theorem jg{x:Str}{i:Int}(a:∃ t,X.mg x=some (.int i t))(hd:autoParam (Vjj x) wP)(b:autoParam (Gl X x) wE):P3 K X (.Name x pos) (tC (.int i)) (t3C (.int i)):=
 #[let ⟨t,a⟩:=a;vK (v:=.int i) b a #[t,rfl] hd,uK λ_=>rfl]
theorem zJ{x:Str}{i:Str}(b:Gl X x)(a:∃ t,X.mg x=some (.str i t))(hd:autoParam (Vjj x) wP):P3 K X (.Name x pos) (tC (.str i)) (t3C (.str i)):=
 #[let ⟨t,a⟩:=a;vK (v:=.str i) b a #[t,rfl] hd,uK λ_=>rfl]
theorem Hl{x y v:Int}{a:Pos}(h:x ^ y.toNat=v)(b:BQ x y):P3 K X (.BinOp (.Constant (.int x) j pos') .Pow (.Constant (.int y) k a) pos) (tOp (rI BQ λi j=>.int (i ^ j.toNat)) (tC (.int x)) (tC (.int y))) (t3C (.int v)):=
 #[rW Hx Ck Ck,λB F d H f Q c e q k=>#[x,y,rfl,rfl,b,by show c (.int (x ^ y.toNat)) H;rw[h];exact k _ _ (gI e q)]]
set_option backward.eqns.nonrecursive false in
def i2 (C:Int->Int->Prop)(f:Int->Int->D)(x y:D)(Γ:G)(Q:RV->G->Prop):Prop:=match x,y with
 | .int i,.int j=>C i j/\Q (.fz (f i j)) Γ
 | _,_=>False
set_option backward.eqns.nonrecursive false in
def i2' (f:Int->Int->D)(x y:D)(Γ:G)(Q:RV->G->Prop):Prop:=match x,y with
 | .int i,.int j=>Q (.fz (f i j)) Γ
 | _,_=>False
theorem opI{f:Int->Int->D}{g:Int->Int->V}(h:∀ F i j,Rep K F (f i j) (g i j)):oX K (rI C g) (i2 C f):=by
 intro B F c H d x y m l Q n e b a q k;unfold i2 at q;split at q
 .cases b;cases a;exact#[_,_,rfl,rfl,q.1,k _ _ (ku e (h F _ _) q.2)]
 .exact q.elim
theorem Cp{f:Int->Int->D}{g:Int->Int->V}(h:∀ F i j,Rep K F (f i j) (g i j)):oX K (rI0 g) (i2' f):=by
 intro B F c H d x y m l Q n e b a q k;unfold i2' at q;split at q
 .cases b;cases a;exact#[_,_,rfl,rfl,k _ _ (ku e (h F _ _) q)]
 .exact q.elim
set_option backward.eqns.nonrecursive false in
def BM (x y:D)(Γ:G)(Q:RV->G->Prop):Prop:=match x,y with
 | .int i,.int j=>Q (.fz (.int (i + j))) Γ
 | .lst xs,.lst ys=>xs.length + ys.length<=sizeLine/\Q (.fr (.lst (xs++ys))) Γ
 | .str i,.str j=>i.length + j.length<=sizeLine/\Q (.fz (.str (i++j))) Γ
 | _,_=>False
theorem aN.length:∀ {xs:List D} {vs:List V},aN K F xs vs->vs.length=xs.length
 | [],_,h=>by cases h;rfl
 | _::_,_,Z=>by let#[v,c,b,d,a]:=Z;subst b;simp [a.length]
theorem aN.append:∀ {xs ys:List D} {vs a:List V},aN K F xs vs->aN K F ys a->aN K F (xs++ys) (vs++a)
 | [],_,_,_,h,b=>by cases h;exact b
 | _::_,_,_,_,⟨v,a,e,d,c⟩,b=>by subst e;exact#[v,_,rfl,d,c.append b]
theorem aN.get:∀ {xs:List D} {vs:List V},aN K F xs vs->∀ {i:Nat} {d:D},xs[i]?=some d->∃ v,vs[i]?=some v/\Rep K F d v
 | [],_,_,i,d,e=>by simp at e
 | x::xs,_,⟨v,h,c,g,f⟩,0,d,e=>by subst c;simp at e;subst e;exact#[v,rfl,g]
 | x::xs,_,⟨v,h,c,g,f⟩,i + 1,d,e=>by
  subst c;let#[u,a,b]:=f.get (i:=i) (d:=d) (by simpa using e);exact#[u,by simpa using a,b]
theorem aN.LQ:∀ {xs:List D} {vs:List V},aN K F xs vs->∀ {i:Nat} {v:V},vs[i]?=some v->∃ d,xs[i]?=some d/\Rep K F d v:=λ{xs vs} h {i v} e=>by
 have c:i < vs.length:=(gS0 e).1;rw[h.length] at c;let#[u,a,b]:=h.get (gE0 c);rw[e] at a;cases a;exact#[_,gE0 c,b]
theorem aN.take:∀ {xs:List D} {vs:List V} (n:Nat),aN K F xs vs->aN K F (xs.take n) (vs.take n)
 | _,_,0,_=>by simp [aN]
 | [],_,n + 1,h=>by cases h;simp [aN]
 | x::xs,_,n + 1,Z=>by let#[v,d,c,b,a]:=Z;subst c;exact#[v,_,rfl,b,aN.take n a]
theorem aN.drop:∀ {xs:List D} {vs:List V} (n:Nat),aN K F xs vs->aN K F (xs.drop n) (vs.drop n)
 | _,_,0,h=>h
 | [],_,n + 1,h=>by cases h;simp [aN]
 | x::xs,_,n + 1,Z=>by let#[v,c,b,d,a]:=Z;subst b;exact aN.drop n a
theorem aN.set{d:D}(r:Rep K F d v):∀ {xs:List D} {vs:List V} (n:Nat),aN K F xs vs->aN K F (xs.set n d) (vs.set n v)
 | [],_,_,h=>by cases h;simp [aN]
 | x::xs,_,0,Z=>by let#[u,c,b,e,a]:=Z;subst b;exact#[v,c,rfl,r,a]
 | x::xs,_,n + 1,Z=>by let#[u,c,b,e,a]:=Z;subst b;exact#[u,_,rfl,e,aN.set r n a]
theorem aN.ints:∀ (ns:Li0),aN K F (ns.map D.int) (ns.map V.int)
 | []=>rfl
 | n::ns=>#[_,_,rfl,rfl,aN.ints ns]
abbrev OS:R2:=λx y H Q=>rI0 (λi j=>.int (i + j)) x y H Q\/S2 x y H Q\/(∃ i j,x=.str i/\y=.str j/\i.length + j.length<=sizeLine/\Q (.str (i++j)) H)
theorem K8:OpR X (XA .Add) OS:=Py.or (Px.or Co)
theorem addRef:oX K OS BM:=by
 intro B F n H o x y s r Q t e b a q k;unfold BM at q;split at q
 .cases b;cases a;exact .inl #[_,_,rfl,rfl,k _ _ (gI e q)]
 .let#[p,g,rfl,m,d]:=b;let#[h,f,rfl,j,c]:=a;refine .inr (.inl #[p,h,g,f,rfl,rfl,m,j,by rw[d.length,c.length];exact q.1,λl i=>k _ _ (kr e i (d.append c) q.2)])
 .cases b;cases a;exact .inr (.inr #[_,_,rfl,rfl,q.1,k _ _ (eM e q.2)])
 .exact q.elim
theorem aO(d:P3B K X a ta a3)(c:P3B K X b tb b3):P3 K X (.BinOp a .Add b pos) (tOp OS ta tb) (nP BM a3 b3):=#[rW K8 d.pe c.pe,jF addRef d.rf c.rf]
theorem iI(d:P3B K X a ta a3)(c:P3B K X b tb b3):P3 K X (.BinOp a .Sub b pos) (tOp (rI0 λi j=>.int (i - j)) ta tb) (nP (i2' λi j=>.int (i - j)) a3 b3):=#[rW Pl d.pe c.pe,jF (Cp λ_ _ _=>rfl) d.rf c.rf]
theorem oh(d:P3B K X a ta a3)(c:P3B K X b tb b3):P3 K X (.BinOp a .Mult b pos) (tOp (rI Jw λi j=>.int (i * j)) ta tb) (nP (i2 Jw λi j=>.int (i * j)) a3 b3):=#[rW Pq d.pe c.pe,jF (opI λ_ _ _=>rfl) d.rf c.rf]
theorem g8(d:P3B K X a ta a3)(c:P3B K X b tb b3):P3 K X (.BinOp a .FloorDiv b pos) (tOp (rI RC λi j=>.int (i / j)) ta tb) (nP (i2 RC λi j=>.int (i / j)) a3 b3):=#[rW K7 d.pe c.pe,jF (opI λ_ _ _=>rfl) d.rf c.rf]
theorem mS(d:P3B K X a ta a3)(c:P3B K X b tb b3):P3 K X (.BinOp a .Mod b pos) (tOp (rI (λ_ j=>0 < j) λi j=>.int (i % j)) ta tb) (nP (i2 (λ_ j=>0 < j) λi j=>.int (i % j)) a3 b3):=#[rW Pr d.pe c.pe,jF (opI λ_ _ _=>rfl) d.rf c.rf]
theorem DL(d:P3B K X a ta a3)(c:P3B K X b tb b3):P3 K X (.BinOp a .Pow b pos) (tOp (rI BQ λi j=>.int (i ^ j.toNat)) ta tb) (nP (i2 BQ λi j=>.int (i ^ j.toNat)) a3 b3):=#[rW Hx d.pe c.pe,jF (opI λ_ _ _=>rfl) d.rf c.rf]
def Mb (f:Int->Int->Bool)(x y:D)(Γ:G)(Q:RV->G->Prop):Prop:=i2' (λi j=>.bl (f i j)) x y Γ Q
noncomputable abbrev pP (i j:Int):Bool:=decide (i < j)
noncomputable abbrev jT (i j:Int):Bool:=decide (i<=j)
noncomputable abbrev UU (i j:Int):Bool:=decide (j < i)
structure C3 (K:Fg0) (X:Cx) (op:CmpOp) (r:R2) (o3:D->D->TE3):Prop where
 op:OpR X (Fk op) r
 rf:oX K r o3
theorem yR:C3 K X .Lt (rI0 λi j=>.bl (decide (i < j))) (Mb pP):=#[Tt,Cp λ_ _ _=>rfl]
theorem oR:C3 K X .LtE (rI0 λi j=>.bl (decide (i<=j))) (Mb jT):=#[Tu,Cp λ_ _ _=>rfl]
theorem Eg:C3 K X .Gt (rI0 λi j=>.bl (decide (j < i))) (Mb UU):=#[Tv,Cp λ_ _ _=>rfl]
set_option backward.eqns.nonrecursive false in
noncomputable def eqS:D->D->Option Bool
 | .int i,.int j=>some (decide (i=j))
 | .str i,.str j=>some (decide (i=j))
 | .bl i,.bl j=>some (decide (i=j))
 | .non,.non=>some true
 | .int _,.str _=>some false
 | .str _,.int _=>some false
 | .bl _,.str _=>some false
 | .str _,.bl _=>some false
 | .non,.int _=>some false
 | .int _,.non=>some false
 | .non,.str _=>some false
 | .str _,.non=>some false
 | .non,.bl _=>some false
 | .bl _,.non=>some false
 | _,_=>none
set_option backward.eqns.nonrecursive false in
def eq3 (a:Bool)(x y:D)(Γ:G)(Q:RV->G->Prop):Prop:=match eqS x y with
 | some k=>Q (.fz (.bl (a ^^ k))) Γ
 | none=>False
theorem IA{b a:D}{x:V}{k:Bool}(d:jk K F H b x)(c:jk K F H a y)(h:eqS b a=some k):Sv x y=true/\decide (x=y)=k:=by
 unfold eqS at h;split at h <;> first | (cases h;done) | (cases d;cases c;cases h;exact#[rfl,by simp])
theorem Vd:C3 K X .Eq rEq (eq3 false):=#[Tw,by
 intro B F h H i x y l j Q m e c a q k;unfold eq3 at q;split at q
 .rename_i b d;let#[g,f]:=IA c a d;refine#[g,?_];rw[f];exact k _ _ (lK e (by simpa using q))
 .exact q.elim]
theorem dP{r:R2}(h:C3 K X op r o3)(d:P3B K X a ta a3)(c:P3B K X b tb b3)(e:Yd op b=false):P3 K X (.Compare a [op] [b] pos) (tOp r ta tb) (nP o3 a3 b3):=#[KQ h.op d.pe c.pe e,jF h.rf d.rf c.rf]
set_option backward.eqns.nonrecursive false in
def vG (g e:D->D->TE3)(j i h:TB3)(Γ:G)(Q:RV->G->Prop):Prop:=j Γ λx aa=>i aa λy b=>∃ dx d,x.at b=some dx/\y.at b=some d/\g dx d b λz c=>match z with
 | .fz (.bl true)=>h c λw a=>∃ d f,y.at a=some d/\w.at a=some f/\e d f a Q
 | .fz (.bl false)=>Q (.fz (.bl false)) c
 | _=>False
theorem yg{r:R2}(h:oX K r o3)(h':oX K r' o3')(P:xu K ta a3)(O:xu K tb b3)(N:xu K tc c3):Ref K (vY r r' ta tb tc) (vG o3 o3' a3 b3 c3):=by
 intro B F c H D Q Y e q k;refine P B F c H D _ _ e q (λv H1 Z=>?_);let#[F1,j,x,E,V,I,M]:=Z;refine O B F1 c H1 j _ _ V M (λu H2 Z=>?_);let#[F2,i,y,t,m,A,W,n,U,T,L]:=Z;refine h B F2 c H2 i v u W n _ _ m (m.bo (I.mono t) U) (m.bo A T) L λz H3 Z=>?_;let#[F3,g,z3,s,C,d,b]:=Z;have a:=(E.trans t).trans s
 revert d b
 split
 .intro d b;refine#[true,d,?_];rw[if_pos rfl];refine N B F3 c H3 g _ _ C b (λw H4 Z=>?_);let#[F4,f,w3,o,l,G,n,X,S,R,J]:=Z;exact h' B F4 c H4 f u w n X Q Y l (l.bo (A.mono (s.trans o)) S) (l.bo G R) J λz H5 p=>k z H5 (p.mono (a.trans o))
 .intro d b;refine#[false,d,?_];rw[if_neg (by simp)];exact k _ _ (Po.mono a (lK C b))
 .intro _ b;exact b.elim
theorem Hq{d:CmpOp}{r:R2}(h:C3 K X op r o3)(h':C3 K X d r' o3')(g:P3B K X a ta a3)(f:P3B K X b tb b3)(e:P3B K X c tc c3)(i:autoParam (am2 [op,d] [b,c]=false) wq1) :
  P3 K X (.Compare a [op,d] [b,c] pos) (vY r r' ta tb tc) (vG o3 o3' a3 b3 c3):=#[He h.op h'.op g.pe f.pe e.pe i,yg h.rf h'.rf g.rf f.rf e.rf]
set_option backward.eqns.nonrecursive false in
def Lh (x:D)(Γ:G)(Q:RV->G->Prop):Prop:=match x with
 | .int i=>Q (.fz (.int (-i))) Γ
 | _=>False
theorem zH(b:P3B K X a ta a3):P3 K X (.UnaryOp .USub a pos) (tUn (rU λi=>.int (-i)) ta) (EB Lh a3):=#[S_ N8 b.pe,Cf (r:=rU λi=>.int (-i)) (ta:=ta) (by
 intro B F d H f x g Q h e c q k;unfold Lh at q;split at q
 .cases c;exact#[_,rfl,k _ _ (gI e q)]
 .exact q.elim) b.rf]
end
abbrev TT3:=G->(Bool->G->Prop)->Prop
noncomputable def PoT (K:Fg0)(B:Bs)(F:Hp)(σ:_2.St)(Q:Bool->G->Prop):Bool->Hp->Prop:=λb H'=>∃ F' Γ',aS F F'/\En K B F' σ H' Γ'/\Q b Γ'
def vD (K:Fg0)(t:TT)(a:TT3):Prop:=∀ (B:Bs) (F:Hp) (σ:_2.St) (H:Hp) (Γ:G) (Q:Bool->G->Prop) (QQ:Bool->Hp->Prop),En K B F σ H Γ->a Γ Q->(∀ b H',PoT K B F σ Q b H'->QQ b H')->t σ H QQ
structure P3T (K:Fg0) (X:Cx) (e:Expr) (t:TT) (t3:TT3):Prop where
 pe:PT X e t
 rf:vD K t t3
structure P3W (K:Fg0) (X:Cx) (e:Expr) (t:TT) (t3:TT3):Prop where
 pe:PW X e t
 rf:vD K t t3
section
variable {b c:Expr}{tb tc:TE}{a3 b3 c3:TE3}{a3' b3' c3':TB3}{tA tB':TT}{A3 B3:TT3}{rest:List Expr}
def tst (a:TE3)(Γ:G)(Q:Bool->G->Prop):Prop:=a Γ λx aa=>match x.d with
 | .bl k=>Q k aa
 | _=>False
theorem PoT.mono{Q:Bool->G->Prop}{k:Bool}(s:aS F F')(h:PoT K B F' σ Q k H):PoT K B F σ Q k H:=by
 let#[d,c,a,b]:=h;exact#[d,c,s.trans a,b]
theorem GN(h:Ref K ta a3):vD K (λσ H Q=>ta σ H λx H1=>∃ c,x=.bl c/\Q c H1) (tst a3):=by
 intro B F σ H j Q p e q k;refine h B F σ H j _ _ e q (λv H1 Z=>?_);let#[r,d,x,l,o,m,b]:=Z;let#[i,f,g,a]:=o.frozen m
 revert a b
 split
 .rename_i n;intro b a;rw[n] at a;exact#[_,a,k _ _ #[i,d,l.trans f,g,b]]
 .intro b;exact b.elim
theorem cC{t:TE}(h:P3 K X e t e3)(b:autoParam (∀ a,isTrue e X.env a=(do let v <- a;VS e.pos;holding [v] (truthy v))) wT):P3T K X e (tB t) (tst e3):=#[OV h.pe b,GN h.rf]
theorem aE{r:R2}(h:C3 K X op r o3)(d:P3B K X a ta a3')(c:P3B K X b tb b3')(e:Yd op b=false):P3T K X (.Compare a [op] [b] pos) (Dr (tOp r ta tb)) (tst (nP o3 a3' b3')):=
 #[Ko h.op d.pe c.pe e,GN (jF h.rf d.rf c.rf)]
theorem pf{d:CmpOp}{r:R2}(h:C3 K X op r o3)(h':C3 K X d r' o3')(g:P3B K X a ta a3')(f:P3B K X b tb b3')(e:P3B K X c tc c3')(i:autoParam (am2 [op,d] [b,c]=false) wq1) :
  P3T K X (.Compare a [op,d] [b,c] pos) (Dr (vY r r' ta tb tc)) (tst (vG o3 o3' a3' b3' c3')):=#[GW h.op h'.op g.pe f.pe e.pe i,GN (yg h.rf h'.rf g.rf f.rf e.rf)]
def Rq (a B3:TT3)(Γ:G)(Q:Bool->G->Prop):Prop:=a Γ λc aa=>bT c (B3 aa Q) (Q false aa) ⟨⟩ ⟨⟩
def or3 (a B3:TT3)(Γ:G)(Q:Bool->G->Prop):Prop:=a Γ λc aa=>bT c (Q true aa) (B3 aa Q) ⟨⟩ ⟨⟩
def PN (a:TT3)(Γ:G)(Q:Bool->G->Prop):Prop:=a Γ λc aa=>Q (!c) aa
theorem Kf(l:vD K tA A3)(j:vD K tB' B3):vD K (Oo tA tB') (Rq A3 B3):=by
 intro B F b H i Q n e q k;refine l B F b H i _ _ e q (λc m Z=>?_);let#[h,a,d,g,f]:=Z;cases c with
 | true=>exact CM (j B h b m a _ _ g f λc o p=>k _ _ (p.mono d))
 | false=>exact CN (k _ _ #[h,a,d,g,f])
theorem OP(l:vD K tA A3)(j:vD K tB' B3):vD K (tOr tA tB') (or3 A3 B3):=by
 intro B F b H i Q n e q k;refine l B F b H i _ _ e q (λc m Z=>?_);let#[h,a,d,g,f]:=Z;cases c with
 | true=>exact CM (k _ _ #[h,a,d,g,f])
 | false=>exact CN (j B h b m a _ _ g f λc o p=>k _ _ (p.mono d))
theorem Kc(h:vD K tA A3):vD K (Oj tA) (PN A3):=by
 intro B F b H d Q l e q k;exact h B F b H d _ _ e q (λc m ⟨j,a,f,i,g⟩=>k _ _ #[j,a,f,i,g])
theorem iq(b:P3T K X a tA A3):P3W K X (.BoolOp .And [a] pos) tA A3:=#[Ki b.pe,b.rf]
theorem cB(b:P3T K X a tA A3):P3W K X (.BoolOp .Or [a] pos) tA A3:=#[OT b.pe,b.rf]
theorem kz(d:P3T K X a tA A3)(c:P3W K X (.BoolOp .And (b::rest) pos) tB' B3):P3W K X (.BoolOp .And (a::b::rest) pos) (Oo tA tB') (Rq A3 B3):=#[OU d.pe c.pe,Kf d.rf c.rf]
theorem cM(d:P3T K X a tA A3)(c:P3W K X (.BoolOp .Or (b::rest) pos) tB' B3):P3W K X (.BoolOp .Or (a::b::rest) pos) (tOr tA tB') (or3 A3 B3):=#[S5 d.pe c.pe,OP d.rf c.rf]
theorem P3W.pt(h:P3W K X e tA A3):P3T K X e tA A3:=#[h.pe.pt,h.rf]
theorem cj(b:P3T K X a tA A3):P3T K X (.UnaryOp .Not a pos) (Oj tA) (PN A3):=#[OW b.pe,Kc b.rf]
set_option backward.eqns.nonrecursive false in
def NN (b a:TE3)(Γ:G)(Q:RV->G->Prop):Prop:=b Γ λx aa=>match x.d with
 | .bl true=>a aa Q
 | .bl false=>Q (.fz (.bl false)) aa
 | _=>False
set_option backward.eqns.nonrecursive false in
def Tr (b a:TE3)(Γ:G)(Q:RV->G->Prop):Prop:=b Γ λx aa=>match x.d with
 | .bl true=>Q (.fz (.bl true)) aa
 | .bl false=>a aa Q
 | _=>False
theorem zG{op}(h:P3 K X a ta a3):P3 K X (.BoolOp op [a] pos) ta a3:=#[O_ h.pe,h.rf]
theorem zK(o:P3 K X a ta a3)(n:P3 K X (.BoolOp .And (b::rest) pos) tb b3):P3 K X (.BoolOp .And (a::b::rest) pos) (MS ta tb) (NN a3 b3):=#[Pd o.pe n.pe,by
 intro B F l H r Q w e q k;refine o.rf B F l H r _ _ e q (λv u Z=>?_);let#[z,h,x,m,t,s,d]:=Z;let#[j,f,g,c]:=t.frozen s
 revert c d
 split
 .rename_i i;intro d c;rw[i] at c;exact#[true,c,CM (n.rf B j l u h _ _ g d λv y p=>k _ _ (p.mono (m.trans f)))]
 .rename_i i;intro d c;rw[i] at c;exact#[false,c,CN (k _ _ (Po.mono (m.trans f) (lK g d)))]
 .intro d;exact d.elim]
theorem Th(o:P3 K X a ta a3)(n:P3 K X (.BoolOp .Or (b::rest) pos) tb b3):P3 K X (.BoolOp .Or (a::b::rest) pos) (Si ta tb) (Tr a3 b3):=#[Ta o.pe n.pe,by
 intro B F l H r Q w e q k;refine o.rf B F l H r _ _ e q (λv u Z=>?_);let#[z,h,x,m,t,s,d]:=Z;let#[j,f,g,c]:=t.frozen s
 revert c d
 split
 .rename_i i;intro d c;rw[i] at c;exact#[true,c,CM (k _ _ (Po.mono (m.trans f) (lK g d)))]
 .rename_i i;intro d c;rw[i] at c;exact#[false,c,CN (n.rf B j l u h _ _ g d λv y p=>k _ _ (p.mono (m.trans f)))]
 .intro d;exact d.elim]
def if3 (d:TT3)(b a:TE3)(Γ:G)(Q:RV->G->Prop):Prop:=d Γ λc aa=>bT c (b aa Q) (a aa Q) ⟨⟩ ⟨⟩
theorem oi{c:Expr}(i:P3T K X c tA A3)(l:P3 K X a ta a3)(j:P3 K X b tb b3):P3 K X (.IfExp c a b pos) (tIf tA ta tb) (if3 A3 a3 b3):=#[Hc i.pe l.pe j.pe,by
 intro B F f H r Q t e q k;refine i.rf B F f H r _ _ e q (λc n Z=>?_);let#[o,d,g,m,h]:=Z;cases c with
 | true=>exact CM (l.rf B o f n d _ _ m h λv s p=>k _ _ (p.mono g))
 | false=>exact CN (j.rf B o f n d _ _ m h λv s p=>k _ _ (p.mono g))]
end
abbrev TA3:=G->(List D->G->Prop)->Prop
noncomputable def PoA (K:Fg0)(B:Bs)(F:Hp)(σ:_2.St)(Q:List D->G->Prop):List V->Hp->Prop:=λvs H'=>∃ F' Γ' ds,aS F F'/\En K B F' σ H' Γ'/\aN K F' ds vs/\Q ds Γ'
def Jt (K:Fg0)(t:TA)(a:TA3):Prop:=∀ (B:Bs) (F:Hp) (σ:_2.St) (H:Hp) (Γ:G) (Q:List D->G->Prop) (QQ:List V->Hp->Prop),En K B F σ H Γ->a Γ Q->(∀ vs H',PoA K B F σ Q vs H'->QQ vs H')->t σ H QQ
structure P3A (K:Fg0) (X:Cx) (es:List Expr) (t:TA) (t3:TA3):Prop where
 pe:PA X es t
 rf:Jt K t t3
section
variable {t3:TA3}
def E9 (Γ:G)(Q:List D->G->Prop):Prop:=Q [] Γ
def nF (c:TE3)(b:TA3)(Γ:G)(Q:List D->G->Prop):Prop:=c Γ λx aa=>b aa λxs a=>Q (x.d::xs) a
theorem aA:P3A K X [] nJ E9:=#[fm,λB F b H a Q c e q k=>k _ _ #[F,a,[],aS.refl F,e,rfl,q]]
theorem ae(l:P3 K X e te e3)(j:P3A K X es t t3)(w:autoParam (Vjk X e es) wE):P3A K X (e::es) (jy te t) (nF e3 t3):=#[cf l.pe j.pe w,by
 intro B F h H m Q E e q k;refine l.rf B F h H m _ _ e q (λv C Z=>?_);let#[I,b,x,o,z,r,u]:=Z;let#[g,c,f,d]:=z.frozen r;refine j.rf B g h C b _ _ f u (λn G Z=>?_);let#[D,a,A,i,y,p,s]:=Z;exact k _ _ #[D,a,x.d::A,(o.trans c).trans i,y,#[v,n,rfl,d.mono i,p],s]]
def P2 (a:TA3)(Γ:G)(Q:RV->G->Prop):Prop:=a Γ λxs aa=>xs.length<=sizeLine/\Q (.fr (.lst xs)) aa
def Gd (a:TA3)(Γ:G)(Q:RV->G->Prop):Prop:=a Γ λxs aa=>xs.length<=sizeLine/\Q (.fz (.tup xs)) aa
theorem bx(h:P3A K X es t t3):P3 K X (.List es pos) (Sj t) (P2 t3):=#[Pb h.pe,by
 intro B F c H f Q n e q k;refine h.rf B F c H f _ _ e q (λl o Z=>?_);let#[r,d,m,g,j,a,b]:=Z;exact#[by rw[a.length];exact b.1,λp i=>k _ _ (Po.mono g (kr j i a b.2))]]
theorem cF{x1}(h:P3A K X es t t3):P3 K X (.Tuple es x1 pos) (Sf t) (Gd t3):=#[O9 h.pe,by
 intro B F c H f Q n e q k;refine h.rf B F c H f _ _ e q (λl o Z=>?_);let#[r,d,m,g,j,a,b]:=Z;exact#[by rw[a.length];exact b.1,λp i=>k _ _ (Po.mono g (vJ j i a b.2))]]
end
noncomputable abbrev gy:=G->(List Bo->G->Prop)->Prop
noncomputable def cO (K:Fg0)(F:Hp)(σ:_2.St):List Bo->List V->Prop
 | [],vs=>vs=[]
 | b::c,vs=>∃ v a,vs=v::a/\vf K F σ b v/\cO K F σ c a
noncomputable def vg (K:Fg0)(F H:Hp):List D->List V->Prop
 | [],vs=>vs=[]
 | d::ds,vs=>∃ v a,vs=v::a/\jk K F H d v/\vg K F H ds a
noncomputable def ats (Γ:G):List Bo->Option (List D)
 | []=>some []
 | b::a=>match b.at Γ,ats Γ a with
  | some d,some ds=>some (d::ds)
  | _,_=>none
noncomputable def WX (K:Fg0)(B:Bs)(F:Hp)(σ:_2.St)(Q:List Bo->G->Prop):List V->Hp->Prop:=λvs H'=>∃ F' Γ' a,aS F F'/\En K B F' σ H' Γ'/\cO K F' σ a vs/\Q a Γ'
def BN (K:Fg0)(t:TA)(a:gy):Prop:=∀ (B:Bs) (F:Hp) (σ:_2.St) (H:Hp) (Γ:G) (Q:List Bo->G->Prop) (QQ:List V->Hp->Prop),En K B F σ H Γ->a Γ Q->(∀ vs H',WX K B F σ Q vs H'->QQ vs H')->t σ H QQ
structure BO (K:Fg0) (X:Cx) (es:List Expr) (t:TA) (t3:gy):Prop where
 pe:PA X es t
 rf:BN K t t3
section
variable {e3:TB3}{t3:gy}
theorem En.bos(e:En K B F σ H Γ):∀ {c:List Bo} {vs:List V} {ds:List D},cO K F σ c vs->ats Γ c=some ds->vg K F H ds vs
 | [],_,_,h,q=>by cases q;exact h
 | b::c,_,_,⟨v,f,j,i,g⟩,q=>by
  unfold ats at q;split at q
  .rename_i d ds hd a;cases q;exact#[v,f,j,e.bo i hd,e.bos g a]
  .cases q
def Lg (Γ:G)(Q:List Bo->G->Prop):Prop:=Q [] Γ
def NC (c:TB3)(b:gy)(Γ:G)(Q:List Bo->G->Prop):Prop:=c Γ λx aa=>b aa λxs a=>Q (x::xs) a
theorem ag:BO K X [] nJ Lg:=#[fm,λB F b H a Q c e q k=>k _ _ #[F,a,[],aS.refl F,e,rfl,q]]
theorem af(g:P3B K X e te e3)(f:BO K X es t t3)(p:autoParam (Vjk X e es) wE):BO K X (e::es) (jy te t) (NC e3 t3):=#[cf g.pe f.pe p,by
 intro B F c H h Q A e q k;refine g.rf B F c H h _ _ e q (λv w Z=>?_);let#[z,b,x,j,s,m,o]:=Z;refine f.rf B z c w b _ _ s o (λi C Z=>?_);let#[y,a,u,d,r,l,n]:=Z;exact k _ _ #[y,a,x::u,j.trans d,r,#[v,i,rfl,m.mono d,l],n]]
def Er (K:Fg0)(r:List V->Hp->VK->Prop)(a:List D->TE3):Prop:=∀ (B:Bs) (F:Hp) (σ:_2.St) (H:Hp) (Γ:G) (vs:List V) (ds:List D) (Q:RV->G->Prop) (QQ:VK),En K B F σ H Γ->vg K F H ds vs->a ds Γ Q->(∀ v H',Po K B F σ Q v H'->QQ v H')->r vs H QQ
def Ef (b:List D->TE3)(a:gy)(Γ:G)(Q:RV->G->Prop):Prop:=a Γ λc aa=>mL (ats aa c) (λds=>b ds aa Q) ⟨⟩
theorem GL(h:Er K r c3)(l:BN K t t3):Ref K (tCB r t) (Ef c3 t3):=by
 intro B F b H d Q n e q k;refine l B F b H d _ _ e q (λf o Z=>?_);let#[s,a,u,g,c,i,Z]:=Z;let#[m,hd,j]:=oA.1 Z;exact h B s b o a f m Q n c (c.bos i hd) j λv w p=>k _ _ (p.mono g)
structure B3 (K:Fg0) (X:Cx) (f:Value) (r:List V->Hp->VK->Prop) (c3:List D->TE3):Prop where
 op:cJ X f r
 rf:Er K r c3
variable {x:Str}{p:Pos}{id T:String}
theorem aJ(c:B3 K X (.builtin id) r c3)(h:X.mg x=none)(d:BO K X (e::es) t t3)(g:autoParam (x≠"__name__") wP)(b:autoParam (Vjj x) wP)(j:autoParam (Vjk X e es) wE)(a:autoParam (Vjq pos X es) wE)(i:autoParam (Gl X x) wE)(f:autoParam (Jv x=some (.builtin id)) wK9):P3 K X (.Call (.Name x p) (e::es) [] pos) (tCB r t) (Ef c3 t3):=
 #[Hg c.op i h f d.pe g b j a,GL c.rf d.rf]
theorem ba(c:B3 K X (.type T) r c3)(h:X.mg x=none)(d:BO K X (e::es) t t3)(g:autoParam (x≠"__name__") wP)(b:autoParam (Vjj x) wP)(j:autoParam (Vjk X e es) wE)(a:autoParam (Vjq pos X es) wE)(i:autoParam (Gl X x) wE)(f:autoParam (Jv x=some (.type T)) wK9):P3 K X (.Call (.Name x p) (e::es) [] pos) (tCB r t) (Ef c3 t3):=
 #[EW c.op i h f d.pe g b j a,GL c.rf d.rf]
set_option backward.eqns.nonrecursive false in
def mx3 (f:Int->Int->Int)(ds:List D)(Γ:G)(Q:RV->G->Prop):Prop:=match ds with
 | [.int i,.int j]=>Q (.fz (.int (f i j))) Γ
 | _=>False
theorem vg.one{d:D}(h:vg K F H [d] vs):∃ v,vs=[v]/\jk K F H d v:=by
 let#[v,c,rfl,b,a]:=h;cases a;exact#[v,rfl,b]
theorem vg.two{d e:D}(h:vg K F H [d,e] vs):∃ v w,vs=[v,w]/\jk K F H d v/\jk K F H e w:=by
 let#[v,f,rfl,c,b]:=h;let#[w,rfl,a]:=vg.one b;exact#[v,w,rfl,c,a]
noncomputable abbrev fmax (i j:Int):Int:=if j > i then j else i
noncomputable abbrev fmin (i j:Int):Int:=if j < i then j else i
theorem NJ(a:X.calm=true):B3 K X (.builtin "max") (λxs H Q=>∃ i j,xs=[.int i,.int j]/\Q (.int (if j > i then j else i)) H) (mx3 fmax):=#[Fy a,by
 intro B F c H d f g Q l e r q k;unfold mx3 at q;split at q
 .let#[v,w,rfl,h,b]:=r.two;cases h;cases b;exact#[_,_,rfl,k _ _ (gI e q)]
 .exact q.elim]
theorem NI(a:X.calm=true):B3 K X (.builtin "min") (λxs H Q=>∃ i j,xs=[.int i,.int j]/\Q (.int (if j < i then j else i)) H) (mx3 fmin):=#[Fx a,by
 intro B F c H d f g Q l e r q k;unfold mx3 at q;split at q
 .let#[v,w,rfl,h,b]:=r.two;cases h;cases b;exact#[_,_,rfl,k _ _ (gI e q)]
 .exact q.elim]
set_option backward.eqns.nonrecursive false in
def Qn (ds:List D)(Γ:G)(Q:RV->G->Prop):Prop:=match ds with
 | [.int i]=>Q (.fz (.int i)) Γ
 | [.bl k]=>Q (.fz (.int (if k then 1 else 0))) Γ
 | _=>False
theorem yQ:B3 K X (.type "int") (λxs H Q=>(∃ i,xs=[.int i]/\Q (.int i) H)\/∃ k,xs=[.bl k]/\Q (.int (if k then 1 else 0)) H) Qn:=#[FA,by
 intro B F a H b c d Q f e r q k;unfold Qn at q;split at q
 .let#[v,rfl,h]:=r.one;cases h;exact .inl #[_,rfl,k _ _ (gI e q)]
 .let#[v,rfl,h]:=r.one;cases h;exact .inr #[_,rfl,k _ _ (gI e q)]
 .exact q.elim]
set_option backward.eqns.nonrecursive false in
noncomputable def Lz:D->Option Nat
 | .lst xs=>some xs.length
 | .tup xs=>some xs.length
 | .ktup xs=>some xs.length
 | .scr ns=>some ns.length
 | _=>none
set_option backward.eqns.nonrecursive false in
def P5 (ds:List D)(Γ:G)(Q:RV->G->Prop):Prop:=match ds with
 | [.str z]=>z.length<=sizeLine/\Q (.fz (.int z.length)) Γ
 | [d]=>∃ n,Lz d=some n/\Q (.fz (.int n)) Γ
 | _=>False
noncomputable abbrev VR (K:Fg0):List V->Hp->VK->Prop:=λxs H Q=>(∃ p ys,xs=[.ref p]/\(SqL K H p ys\/SqT K H p ys)/\Q (.int ys.length) H)\/(∃ z,xs=[.str z]/\z.length<=sizeLine/\Q (.int z.length) H)
theorem cJ.or'{f:Value}{e:List V->Hp->VK->Prop}(h:cJ X f r)(h':cJ X f e):cJ X f (λxs H Q=>r xs H Q\/e xs H Q):=by
 intro a s b H xs c Q I d q;rcases q with q | q
 .exact h a s b H xs c Q I d q
 .exact h' a s b H xs c Q I d q
theorem Ly{d:D}(s:aS F H)(h:jk K F H d v)(a:Lz d=some n):∃ p ys,v=.ref p/\(SqL K H p ys\/SqT K H p ys)/\ys.length=n:=by
 unfold Lz at a;split at a
 .cases a;let#[p,c,rfl,b,e]:=h;exact#[p,c,rfl,.inl (SqL.of b),e.length]
 .cases a;let#[p,c,rfl,b,e]:=h;exact#[p,c,rfl,.inr (.inl (.inl (s _ _ b))),e.length]
 .cases a;let#[p,c,rfl,b,e]:=h;exact#[p,c,rfl,.inr (SqT.same s b),e.length]
 .cases a;let#[p,rfl,b]:=h;exact#[p,_,rfl,.inl (s.seq b),by simp]
 .cases a
theorem gv(f:autoParam (X.K=K) wE):B3 K X (.builtin "len") (VR K) P5:=#[by subst f;exact cJ.or' Ah Ag,by
 intro B F g H i j l Q m e r q k;unfold P5 at q;split at q
 .let#[v,rfl,h]:=r.one;cases h;exact .inr #[_,rfl,q.1,k _ _ (gI e q.2)]
 .let#[v,rfl,h]:=r.one;let#[n,c,q]:=q;let#[p,a,rfl,b,d]:=Ly e.sub h c;subst d;exact .inl #[p,a,rfl,b,k _ _ (gI e q)]
 .exact q.elim]
end
section
variable {b c:Expr}{tb tc:TE}{a3 b3 c3:TB3}
theorem aN.atI(h:aN K F xs vs){i:Int}{d:D}(e:atI xs i=some d):∃ v,_2.atI vs i=some v/\Rep K F d v:=by
 unfold _2.atI at e ⊢;rw[h.length];cases q:ixN xs.length i with
 | none=>rw[q] at e;cases e
 | some j=>
  rw[q] at e;exact h.get e
def ix3 (x y:D)(Γ:G)(Q:RV->G->Prop):Prop:=match x,y with
 | .lst xs,.int i=>m1 (atI xs i) (λd=>Q (.fz d) Γ) ⟨⟩
 | .tup xs,.int i=>m1 (atI xs i) (λd=>Q (.fz d) Γ) ⟨⟩
 | .ktup xs,.int i=>∃ d,atI xs i=some d/\Q (.fz d) Γ
 | .scr ns,.int i=>∃ n,atI ns i=some n/\Q (.fz (.int n)) Γ
 | .str z,.int i=>z.length<=sizeLine/\∃ c,atI z.cps.toList i=some c/\Q (.fz (.str #[(Vz9 [c])])) Γ
 | _,_=>False
theorem Am{a b:Type}{f:a->b}{xs:List a}{i:Int}{d:a}(e:atI xs i=some d):atI (xs.map f) i=some (f d):=by
 unfold _2.atI at e ⊢;rw[lM0];cases q:ixN xs.length i with
 | none=>rw[q] at e;cases e
 | some j=>
  rw[q] at e;show (xs.map f)[j]?=_;rw[ef,show xs[j]?=some d from e]
  rfl
theorem Ua:oX K (rIx K) ix3:=by
 intro B F m H n x y s o Q t e g f q k;unfold ix3 at q;split at q
 .let#[d,hd,q]:=jJ.1 q;let#[p,b,rfl,a,i]:=g;cases f;let#[v,h,r]:=i.atI hd;exact .inl #[p,b,_,v,rfl,rfl,SqL.of a,h,k _ _ (ku e r q)]
 .let#[d,hd,q]:=jJ.1 q;let#[p,b,rfl,a,i]:=g;cases f;let#[v,h,r]:=i.atI hd;exact .inr (.inl #[p,b,_,v,rfl,rfl,.inl (.inl (e.sub _ _ a)),h,k _ _ (ku e r q)])
 .let#[d,hd,q]:=q;let#[p,b,rfl,a,i]:=g;cases f;let#[v,h,r]:=i.atI hd;exact .inr (.inl #[p,b,_,v,rfl,rfl,SqT.same e.sub a,h,k _ _ (ku e r q)])
 .let#[d,hd,q]:=q;let#[p,rfl,a]:=g;cases f;exact .inl #[p,_,_,.int d,rfl,rfl,e.sub.seq a,Am hd,k _ _ (gI e q)]
 .cases g;cases f;let#[j,c,l,q]:=q;exact .inr (.inr #[_,_,c,rfl,rfl,j,l,k _ _ (eM e q)])
 .exact q.elim
theorem bg(d:P3B K X a ta a3)(c:P3B K X b tb b3)(f:autoParam (X.K=K) wE)(e:autoParam (Ep b) wL9):P3 K X (.Subscript a b pos) (tOp (rIx K) ta tb) (nP ix3 a3 b3):=#[Tb (by subst f;exact Qf) d.pe c.pe e,jF Ua d.rf c.rf]
noncomputable def cut {α:Type}(xs:List α)(lo a:Option Int):List α:=(xs.drop (_h.sIx xs.length 0 lo)).take (_h.sIx xs.length xs.length a - _h.sIx xs.length 0 lo)
theorem aN.cut {xs:List D}{vs:List V}(h:aN K F xs vs)(lo a:Option Int):aN K F (cut xs lo a) (By vs lo a):=by
 unfold _3.cut By;rw[h.length];exact(h.drop _).take _
abbrev TO3:=G->(Option Int->G->Prop)->Prop
def WW (K:Fg0)(t:TO)(a:TO3):Prop:=∀ (B:Bs) (F:Hp) (σ:_2.St) (H:Hp) (Γ:G) (Q:Option Int->G->Prop) (QQ:Option Int->Hp->Prop),En K B F σ H Γ->a Γ Q->(∀ o H',(∃ F' Γ',aS F F'/\En K B F' σ H' Γ'/\Q o Γ')->QQ o H')->t σ H QQ
structure P3O (K:Fg0) (X:Cx) (e:Option Expr) (t:TO) (t3:TO3):Prop where
 pe:PO X e t
 rf:WW K t t3
def HE (Γ:G)(Q:Option Int->G->Prop):Prop:=Q none Γ
def Gq (a:TB3)(Γ:G)(Q:Option Int->G->Prop):Prop:=a Γ λx aa=>∃ i,x.at aa=some (.int i)/\Q (some i) aa
theorem fX:P3O K X none Ds HE:=#[Kz,λB F b H a Q c e q k=>k _ _ #[F,a,aS.refl F,e,q]]
theorem de(h:P3B K X a ta a3):P3O K X (some a) (MP ta) (Gq a3):=#[Ky h.pe,by
 intro B F d H f Q o e q k;refine h.rf B F d H f _ _ e q (λv p Z=>?_);let#[n,b,x,g,c,j,i,m,l]:=Z;have:v=.int i:=c.bo j m;exact#[i,this,k _ _ #[n,b,g,c,l]]]
def sl3 (e:TB3)(c d:TO3)(Γ:G)(Q:RV->G->Prop):Prop:=e Γ λx aa=>c aa λlo b=>d b λhi a=>∃ xs,x.at a=some (.lst xs)/\Q (.fr (.lst (cut xs lo hi))) a
theorem og{tl h:TO}{m c:TO3}(o:P3B K X a ta a3)(b:P3O K X lo tl m)(n:P3O K X hi h c)(D:autoParam (X.K=K) wE):P3 K X (.Subscript a (.Slice lo hi none p2) pos) (tSl (SW K) ta tl h) (sl3 a3 m c):=
 #[wx (by subst D;exact JR) o.pe b.pe n.pe,by
 intro B F d H t Q R e q k;refine o.rf B F d H t _ _ e q (λv M Z=>?_);let#[O,g,x,w,J,y,C]:=Z;refine b.rf B O d M g _ _ J C (λlo L Z=>?_);let#[N,f,j,I,A]:=Z;refine n.rf B N d L f _ _ I A (λhi S Z=>?_);let#[T,s,i,r,P,c,z]:=Z;let#[p,u,rfl,G,E]:=r.bo (y.mono (j.trans i)) c;exact#[p,u,rfl,SqL.of G,λl b=>k _ _ (Po.mono ((w.trans j).trans i) (kr r b (E.cut lo hi) z))]]
def So (e:TB3)(c d:TO3)(Γ:G)(Q:RV->G->Prop):Prop:=e Γ λx aa=>c aa λlo b=>d b λhi a=>∃ xs,x.at a=some (.tup xs)/\¬ (_h.sIx xs.length 0 lo=0/\_h.sIx xs.length xs.length hi=xs.length)/\Q (.fz (.tup (cut xs lo hi))) a
theorem EX{tl i:TO}{n c:TO3}(G:X.K=K)(r:P3B K X a ta a3)(b:P3O K X lo tl n)(o:P3O K X hi i c):P3 K X (.Subscript a (.Slice lo hi none p2) pos) (tSl (SU K) ta tl i) (So a3 n c):=
 #[wx (by subst G;exact Ox) r.pe b.pe o.pe,by
 intro B F d H u Q S e q k;refine r.rf B F d H u _ _ e q (λv N Z=>?_);let#[P,g,x,y,L,z,D]:=Z;refine b.rf B P d N g _ _ L D (λlo M Z=>?_);let#[O,f,m,J,C]:=Z;refine o.rf B O d M f _ _ J C (λhi T Z=>?_);let#[U,t,j,h,R,c,E,A]:=Z;let#[p,w,rfl,I,s]:=h.bo (z.mono (m.trans j)) c;exact#[p,w,rfl,.inl (.inl (h.sub _ _ I)),by rw[s.length];exact E,λl b=>k _ _ (Po.mono ((y.trans m).trans j) (vJ h b (s.cut lo hi) A))]]
set_option backward.eqns.nonrecursive false in
noncomputable def wO:D->Option (List D)
 | .lst xs=>some xs
 | .tup xs=>some xs
 | .ktup xs=>some xs
 | .scr ns=>some (ns.map .int)
 | _=>none
theorem yx{d:D}(s:aS F H)(h:jk K F H d v)(a:wO d=some xs):∃ p ys,v=.ref p/\(SqL K H p ys\/SqT K H p ys)/\aN K F xs ys:=by
 unfold wO at a;split at a
 .cases a;let#[p,c,rfl,b,e]:=h;exact#[p,c,rfl,.inl (SqL.of b),e]
 .cases a;let#[p,c,rfl,b,e]:=h;exact#[p,c,rfl,.inr (.inl (.inl (s _ _ b))),e]
 .cases a;let#[p,c,rfl,b,e]:=h;exact#[p,c,rfl,.inr (SqT.same s b),e]
 .cases a;let#[p,rfl,b]:=h;exact#[p,_,rfl,.inl (s.seq b),aN.ints _]
 .cases a
set_option backward.eqns.nonrecursive false in
def HR (ds:List D)(Γ:G)(Q:RV->G->Prop):Prop:=match ds with
 | [d]=>∃ xs,wO d=some xs/\Q (.fr (.lst xs)) Γ
 | _=>False
theorem Jc(f:X.K=K):B3 K X (.type "list") (λxs H Q=>∃ p ys,xs=[.ref p]/\(SqL K H p ys\/SqT K H p ys)/\∀ l,H l=none->Q (.ref l) (upd H l (.lst ys))) HR:=#[by subst f;exact Af,by
 intro B F g H i j m Q n e r q k;unfold HR at q;split at q
 .let#[v,rfl,h]:=r.one;let#[xs,b,q]:=q;let#[p,ys,rfl,a,c]:=yx e.sub h b;exact#[p,ys,rfl,a,λl d=>k _ _ (kr e d c q)]
 .exact q.elim]
set_option backward.eqns.nonrecursive false in
def B4 (ds:List D)(Γ:G)(Q:RV->G->Prop):Prop:=match ds with
 | [.lst xs]=>Q (.fz (.tup xs)) Γ
 | _=>False
theorem Aj(b:autoParam (X.K=K) wE):B3 K X (.type "tuple") (λxs H Q=>∃ p ys,xs=[.ref p]/\((SqL K H p ys/\∀ l,H l=none->Q (.ref l) (upd H l (.tup ys)))\/(SqT K H p ys/\Q (.ref p) H))) B4:=#[by subst b;exact xS,by
 intro B F f H g h i Q j e r q k;unfold B4 at q;split at q
 .let#[v,rfl,p,ys,rfl,d,c]:=r.one;exact#[p,ys,rfl,.inl #[SqL.of d,λl a=>k _ _ (vJ e a c q)]]
 .exact q.elim]
set_option backward.eqns.nonrecursive false in
noncomputable def knD:D->Bool
 | .non=>true | .bl _=>true | .int _=>true | .str _=>true | .lst _=>true | .tup _=>true | .dct=>true | .dcs _ _=>true | _=>false
theorem P8{d:D}(s:aS F H)(h:jk K F H d v)(hk:knD d=true):Kn H v:=by
 unfold knD at hk;split at hk
 .cases h;exact .non
 .cases h;exact .bl _
 .cases h;exact .int _
 .cases h;exact .str _
 .let#[p,b,rfl,a,_]:=h;exact .lst a
 .let#[p,b,rfl,a,_]:=h;exact .tup (s _ _ a)
 .let#[p,rfl,a]:=h;exact .dK (s _ _ a)
 .let#[p,rfl,a]:=h;exact .dK (s _ _ a)
 .cases hk
set_option backward.eqns.nonrecursive false in
noncomputable def dB:D->Bool
 | .bl _=>true | _=>false
set_option backward.eqns.nonrecursive false in
noncomputable def dI:D->Bool
 | .bl _=>true | .int _=>true | _=>false
set_option backward.eqns.nonrecursive false in
noncomputable def dL:D->Bool
 | .lst _=>true | _=>false
set_option backward.eqns.nonrecursive false in
noncomputable def dT:D->Bool
 | .tup _=>true | _=>false
set_option backward.eqns.nonrecursive false in
def is3 (t:String)(f:D->Bool)(ds:List D)(Γ:G)(Q:RV->G->Prop):Prop:=match ds with
 | [d,.ty t']=>t'=t/\knD d=true/\Q (.fz (.bl (f d))) Γ
 | _=>False
theorem Mi{t:String}{f:D->Bool}{g:Hp->V->Bool}(h:cJ X (.builtin "isinstance") (λxs H Q=>∃ x,xs=[x,.ty t]/\Kn H x/\Q (.bl (g H x)) H))(b:∀ {F H:Hp} {d:D} {v:V},aS F H->jk K F H d v->knD d=true->g H v=f d):B3 K X (.builtin "isinstance") (λxs H Q=>∃ x,xs=[x,.ty t]/\Kn H x/\Q (.bl (g H x)) H) (is3 t f):=#[h,by
 intro B F i H j l m Q n e r q k;unfold is3 at q;split at q
 .let#[v,w,rfl,a,c]:=r.two;let#[rfl,hk,q]:=q;cases c;exact#[v,rfl,P8 e.sub a hk,by rw[b e.sub a hk];exact k _ _ (lK e q)]
 .exact q.elim]
theorem Vc(T:m_ X.K):B3 K X (.builtin "isinstance") (λxs H Q=>∃ x,xs=[x,.ty "bool"]/\Kn H x/\Q (.bl (isB x)) H) (is3 "bool" dB):=Mi (g:=λ_ v=>isB v) (I_ T) λs h hk=>by
 unfold knD at hk;split at hk
 .cases h;rfl
 .cases h;rfl
 .cases h;rfl
 .cases h;rfl
 .let#[p,b,rfl,a,_]:=h;rfl
 .let#[p,b,rfl,a,_]:=h;rfl
 .let#[p,rfl,a]:=h;rfl
 .let#[p,rfl,a]:=h;rfl
 .cases hk
theorem Vb(T:m_ X.K):B3 K X (.builtin "isinstance") (λxs H Q=>∃ x,xs=[x,.ty "int"]/\Kn H x/\Q (.bl (isI x)) H) (is3 "int" dI):=Mi (g:=λ_ v=>isI v) (I9 T) λs h hk=>by
 unfold knD at hk;split at hk
 .cases h;rfl
 .cases h;rfl
 .cases h;rfl
 .cases h;rfl
 .let#[p,b,rfl,a,_]:=h;rfl
 .let#[p,b,rfl,a,_]:=h;rfl
 .let#[p,rfl,a]:=h;rfl
 .let#[p,rfl,a]:=h;rfl
 .cases hk
theorem NM(T:m_ X.K):B3 K X (.builtin "isinstance") (λxs H Q=>∃ x,xs=[x,.ty "list"]/\Kn H x/\Q (.bl (isL H x)) H) (is3 "list" dL):=Mi (IZ T) λs h hk=>by
 unfold knD at hk;split at hk
 .cases h;rfl
 .cases h;rfl
 .cases h;rfl
 .cases h;rfl
 .let#[p,b,rfl,a,_]:=h;exact DX a
 .let#[p,b,rfl,a,_]:=h;exact DW (s _ _ a)
 .let#[p,rfl,a]:=h;exact CO (s _ _ a)
 .let#[p,rfl,a]:=h;exact CO (s _ _ a)
 .cases hk
set_option backward.eqns.nonrecursive false in
def Rr (ds:List D)(Γ:G)(Q:RV->G->Prop):Prop:=match ds with
 | [.lst xs]=>∃ a:List Bool,xs=a.map .bl/\Q (.fz (.bl (a.all id))) Γ
 | _=>False
theorem aN.Ei:∀ {a:List Bool} {vs:List V},aN K F (a.map D.bl) vs->vs=a.map V.bl
 | [],_,h=>h
 | n::f,_,Z=>by
  let#[v,e,d,c,b]:=Z;rw[d,aN.Ei b];have:v=.bl n:=c;rw[this];rfl
theorem BH(b:X.calm=true)(c:autoParam (X.K=K) wE):B3 K X (.builtin "all") (λxs H Q=>∃ (p:Addr) (a:List Bool),xs=[.ref p]/\SqL K H p (a.map V.bl)/\Q (.bl (a.all id)) H) Rr:=#[by subst c;exact FC b,by
 intro B F g H h j l Q m e r q k;unfold Rr at q;split at q
 .let#[a,rfl,q]:=q;let#[v,rfl,p,i,rfl,f,d]:=r.one;exact#[p,a,rfl,SqL.of (by rw[f,d.Ei]),k _ _ (lK e q)]
 .exact q.elim]
noncomputable def flD:D->Bool
 | .non=>true | .bl _=>true | .int _=>true | .str _=>true | _=>false
noncomputable def toV:D->V
 | .bl b=>.bl b | .int i=>.int i | .str x=>.str x | _=>.non
theorem Nz{d:D}(h:jk K F H d v)(hk:flD d=true):v=toV d/\qg v=true:=by
 unfold flD at hk;split at hk
 .cases h;exact#[rfl,rfl]
 .cases h;exact#[rfl,rfl]
 .cases h;exact#[rfl,rfl]
 .cases h;exact#[rfl,rfl]
 .cases hk
theorem Ny (s:aS F H):∀ {xs:List D} {vs:List V},aN K F xs vs->xs.all flD=true->vs=xs.map toV/\vs.all qg=true
 | [],_,h,_=>by cases h;exact#[rfl,rfl]
 | x::xs,_,⟨v,i,g,f,e⟩,hk=>by
  rw[YX,eN] at hk;let#[a,b]:=Ny s e hk.2;let#[c,d]:=Nz (Rep.b s f) hk.1;subst g a c;refine#[rfl,?_];rw[YX,d,b];rfl
def in3 (a:Bool)(x y:D)(Γ:G)(Q:RV->G->Prop):Prop:=∃ xs,wO y=some xs/\flD x=true/\xs.all flD=true/\Q (.fz (.bl (if a then !inV (toV x) (xs.map toV) else inV (toV x) (xs.map toV)))) Γ
theorem Nk(f:Bool):oX K (rIn K f) (in3 f):=by
 intro B F o H r x y v u Q w e h g q k;let#[t,j,n,m,q]:=q;let#[p,s,rfl,i,l]:=yx e.sub g j;let#[a,b]:=Ny e.sub l m;let#[c,d]:=Nz h n;subst a c;exact#[p,_,rfl,i,d,b,k _ _ (lK e q)]
theorem tL(a:autoParam (X.K=K) wE):C3 K X .In (rIn K false) (in3 false):=#[by subst a;exact E5,Nk false]
theorem Jd(a:X.K=K):C3 K X .NotIn (rIn K true) (in3 true):=#[by subst a;exact zN,Nk true]
theorem aN.lookup:∀ {ns:Ls0} {xs:List D} {c:List (Str×V)} {f:Str} {d:D},c.map (·.1)=ns->aN K F xs (c.map (·.2))->(ns.zip xs).lookup f=some d->∃ v,c.lookup f=some v/\Rep K F d v
 | [],_,[],f,d,_,_,h=>by simp at h
 | n::ns,xs,(m,u)::c,f,d,b,g,a=>by
  simp only[gr,Ot] at b;let#[rfl,b]:=b;cases xs with
  | nil=>simp at a
  | cons x xs=>
   let#[v,i,e,r,g]:=g;simp only[gr,Ot] at e;let#[rfl,rfl]:=e;rw[Xo,eS] at a;rw[eS];cases q:f == m with
   | true=>rw[q] at a;cases a;exact#[_,rfl,r]
   | false=>rw[q] at a;exact aN.lookup b g a
end
set_option genInjectivity false in
structure E3 where
 nx:G->Prop
 rt:RV->G->Prop
 bk:G->Prop:=λ_=>False
 ct:G->Prop:=λ_=>False
abbrev TS3:=E3->G->Prop
structure qE (K:Fg0) (B:Bs) (F:Hp) (D:Ends) (D3:E3):Prop where
 nx:∀ F' ay H' Γ',aS F F'->En K B F' ay H' Γ'->D3.nx Γ'->D.nx ay H'
 rt:∀ F' ay H' Γ' v r,aS F F'->En K B F' ay H' Γ'->nM K B F' ay H' Γ' v r->D3.rt r Γ'->D.rt v H'
 bk:∀ F' ay H' Γ',aS F F'->En K B F' ay H' Γ'->D3.bk Γ'->D.bk ay H'
 ct:∀ F' ay H' Γ',aS F F'->En K B F' ay H' Γ'->D3.ct Γ'->D.ct ay H'
theorem qE.mono{f:Hp}{D:Ends}{D3:E3}(h:qE K B F D D3)(s:aS F f):qE K B f D D3:=
 #[λe a d b c=>h.nx e a d b (s.trans c),λe a d b v r c=>h.rt e a d b v r (s.trans c),λe a d b c=>h.bk e a d b (s.trans c),λe a d b c=>h.ct e a d b (s.trans c)]
def MD (K:Fg0)(t:TS)(a:TS3):Prop:=∀ (B:Bs) (F:Hp) (σ:_2.St) (H:Hp) (Γ:G) (D:Ends) (D3:E3),En K B F σ H Γ->qE K B F D D3->a D3 Γ->t D σ H
structure P3S (K:Fg0) (X:Cx) (st:Stmt) (t:TS) (t3:TS3):Prop where
 pe:PS X st t
 rf:MD K t t3
structure lB (K:Fg0) (X:Cx) (st:List Stmt) (t:TS) (t3:TS3):Prop where
 pe:PSs X st t
 rf:MD K t t3
section
noncomputable def Wv:Option Sl->Bool
 | some (.ln _)=>false
 | _=>true
noncomputable def frB:G->Nat->Bool
 | s::_,0=>Wv s
 | _::Γ,i + 1=>frB Γ i
 | [],_=>false
def bC (Γ:G)(i:Nat):Prop:=match Γ[i]? with
 | some (some (.ln _))=>False
 | some _=>True
 | none=>False
theorem oE:∀ {Γ:G} {i:Nat},frB Γ i=true->bC Γ i
 | [],_,h=>by cases h
 | s::_,0,h=>by rcases s with _ | s;trivial;cases s;trivial;trivial;cases h
 | _::Γ,i + 1,h=>oE (Γ:=Γ) h
theorem lR(h:bC Γ i):i < Γ.length:=by
 unfold bC at h;split at h
 .exact h.elim
 .rename_i q;exact(gS0 q).1
 .exact h.elim
theorem aV{b:Type}{l:List b}{a:b}(h:i < l.length):(l.set i a)[i]?=some a:=by
 rw[ZW,if_pos rfl,if_pos h]
theorem En.set(e:En K B F σ H Γ)(s:bC Γ i){r:RV}(n:nM K B F σ H Γ v r)(A:autoParam (r.pl=true) wE):En K B F (σ.set i (some v)) H (Γ.set i (some r.sl)):=by
 have il:=lR s;have m:i < σ.length:=by rw[e.len];exact il
 have J:∀ d,Γ[i]?≠some (some (Sl.ln d)):=λd q=>by unfold bC at s;rw[q] at s;exact s
 have c:∀ {j:Nat},j≠i->(Γ.set i (some r.sl))[j]?=Γ[j]?/\(σ.set i (some v))[j]?=σ[j]?:=λh=>#[aW (ky h),aW (ky h)];have f:∀ {j x},Hld (Γ.set i (some r.sl)) j x->(j=i/\r=.fr x)\/(j≠i/\Hld Γ j x):=λ{j x} q=>by
  by_cases z:j=i
  .subst z
   left
   refine#[rfl,?_];rcases q with q | q <;> rw[aV il] at q <;> cases r <;> first | (cases A;done) | (cases q;done) | (cases q;rfl)
  .right
   exact#[z,by unfold Hld at q ⊢;rw[(c z).1] at q;exact q]
 refine#[e.sub,by rw[rk,rk];exact e.len,?_,?_,?_,?_,?_,?_,e.keep,e.new,e.rest,e.dom]
 .intro j d q;by_cases z:j=i
  .subst z;rw[aV il] at q;cases r with
   | fz x=>cases q;exact#[v,aV m,n]
   | fr x=>cases q
   | two N M=>cases A
   | rws G=>cases A
  .rw[(c z).1] at q;rw[(c z).2];exact e.fz j d q
 .intro j d q;rcases f q with ⟨rfl,rfl⟩ | ⟨z,q⟩
  .let#[p,rfl,w,u,t,o]:=n;exact#[p,aV m,w,u]
  .rw[(c z).2];exact e.hl j d q
 .intro j d p q a;rcases f (.inl q) with ⟨rfl,rfl⟩ | ⟨z,_⟩
  .let#[E,rfl,w,u,t,o]:=n;rw[aV m] at a;cases a;exact t
  .rw[(c z).1] at q;rw[(c z).2] at a;exact e.ow j d p q a
 .intro j d p q a;rcases f (.inr q) with ⟨rfl,rfl⟩ | ⟨z,_⟩
  .rw[aV il] at q;cases q
  .rw[(c z).1] at q;rw[(c z).2] at a;exact e.ln j d p q a
 .intro j k d L p I D l g;rcases f I with ⟨rfl,rfl⟩ | ⟨z1,C⟩
  .rcases f D with ⟨rfl,h⟩ | ⟨z2,y⟩
   .rfl
   .let#[E,rfl,w,u,t,o]:=n;rw[aV m] at l;cases l;rw[(c z2).2] at g;exact absurd g (o k _ y)
  .rcases f D with ⟨rfl,h⟩ | ⟨z2,y⟩
   .subst h;let#[E,rfl,w,u,t,o]:=n;rw[aV m] at g;cases g;rw[(c z1).2] at l;exact absurd l (o j _ C)
   .rw[(c z1).2] at l;rw[(c z2).2] at g;exact e.dis j k d L p C y l g
 .intro j p q;let#[a,d,b]:=e.par j p q;have z:j≠i:=λz=>by subst z;exact J d b
  rw[(c z).1,(c z).2];exact#[a,d,b]
theorem En.forget(e:En K B F σ H Γ)(g:bC Γ i):En K B F σ H (Γ.set i none):=by
 have m:∀ d,Γ[i]?≠some (some (Sl.ln d)):=λd q=>by unfold bC at g;rw[q] at g;exact g
 have il:=lR g;have f:∀ {j:Nat} {s:Sl},(Γ.set i none)[j]?=some (some s)->j≠i/\Γ[j]?=some (some s):=λ{j s} q=>by
  by_cases z:j=i
  .subst z;rw[aV il] at q;cases q
  .exact#[z,by rw[aW (ky z)] at q;exact q]
 have c:∀ {j x},Hld (Γ.set i none) j x->Hld Γ j x:=λq=>q.imp (λq=>(f q).2) (λq=>(f q).2);exact#[e.sub,by rw[rk];exact e.len,λj d q=>e.fz j d (f q).2,λj d q=>e.hl j d (c q),λj d p q=>e.ow j d p (f q).2,λj d p q=>e.ln j d p (f q).2,λj k d n p l h=>e.dis j k d n p (c l) (c h),
  λj p q=>by
   let#[a,d,b]:=e.par j p q;have z:i≠j:=λz=>by subst z;exact m d b
   exact#[a,d,by rw[aW z];exact b],e.keep,e.new,e.rest,e.dom]
set_option backward.eqns.nonrecursive false in
def JP (i:Nat)(Γ:G)(Q:RV->G->Prop):Prop:=match Γ[i]? with
 | some (some (.fz d))=>Q (.fz d) Γ
 | some (some (.ow d))=>Q (.fr d) (Γ.set i none)
 | _=>False
theorem OQ(i:Nat):Ref K (i9 i) (JP i):=by
 intro B F o H g Q r e h k;unfold JP at h;split at h
 .rename_i d q;let#[v,c,f]:=e.fz i d q;exact#[v,c,k _ _ (ku e f h)]
 .rename_i d q;let#[p,c,f,m]:=e.hl i d (.inl q);have l:bC g i:=by unfold bC;rw[q];trivial
  have n:=e.forget l;refine#[_,c,k _ _ #[F,_,.fr d,aS.refl F,n,#[p,rfl,f,m,e.ow i d p q c,λj x hj=>?_],h]];intro a;have b:j≠i/\Hld g j x:=by
   by_cases z:j=i
   .subst z;rcases hj with hj | hj <;> rw[aV (lR l)] at hj <;> cases hj
   .exact#[z,by unfold Hld at hj ⊢;rw[aW (ky z)] at hj;exact hj]
  exact b.1 (e.dis j i x d p b.2 (.inl q) a c)
 .exact h.elim
theorem Cm(i:Nat){x:Str}(c:autoParam (X.N[i]?=some x) wE)(b:autoParam (Vis X.env.scope x) wq2)(hd:autoParam (Vjj x) wP)(a:autoParam ((x == ("__classdict__":Str))=false) wP):P3 K X (.Name x pos) (i9 i) (JP i):=#[du c b hd a,OQ i]
variable {rest:List Stmt}{t u:TS}{t3 u3:TS3}
def M9 (D:E3)(Γ:G):Prop:=D.nx Γ
def EE (t u:TS3)(D:E3)(Γ:G):Prop:=t { D with nx:=u D } Γ
def J9 (a:TE3)(D:E3)(Γ:G):Prop:=a Γ D.rt
def II (a:TE3)(D:E3)(Γ:G):Prop:=a Γ λ_ aa=>D.nx aa
theorem aX:lB K X [] MR M9:=#[Kr,λB F a H b D c e k q=>k.nx F a H b (aS.refl F) e q]
theorem ak(h1:P3S K X st t t3)(d:lB K X rest u u3):lB K X (st::rest) (JO t u) (EE t3 u3):=#[ij h1.pe d.pe,λB F f H g D c e k q=>
 h1.rf B F f H g _ { c with nx:=u3 c } e #[λl a j b s i h=>d.rf B l a j b _ c i (k.mono s) h,k.rt,k.bk,k.ct] q]
theorem ax(h1:P3S K X st t t3):lB K X [st] t t3:=#[mP h1.pe,h1.rf]
theorem aG(h:P3 K X e te e3):P3S K X (.Return (some e) pos) (Oi te) (J9 e3):=#[GY h.pe,λB F b H c D l e k q=>
 h.rf B F b H c _ _ e q λv i ⟨j,a,r,s,g,d,f⟩=>k.rt j b i a v r s g d f]
theorem gZ(h:P3 K X e te e3)(f:autoParam (Xb e none pos.line X.env=pure false) wE):P3S K X (.Expr e pos) (Gm te) (II e3):=#[mQ h.pe f,λB F b H c D m e k q=>
 h.rf B F b H c _ _ e q λv i ⟨j,a,r,s,g,l,d⟩=>k.nx j b i a s g d]
def bG (c:Bool)(t u:TS3)(a:E3)(Γ:G)(_:Tag (t,u,a)):Prop:=match c with
 | true=>t a Γ
 | false=>u a Γ
def Qs (a:TT3)(t u:TS3)(D:E3)(Γ:G):Prop:=a Γ λc aa=>bG c t u D aa ⟨⟩
theorem bL{c:Expr}{a b:List Stmt}{p:TT3}(h:P3T K X c tc p)(j:lB K X a t t3)(i:lB K X b u u3):P3S K X (.If c a b pos) (Ol tc t u) (Qs p t3 u3):=#[M1 h.pe j.pe i.pe,λB F f H r D o e k q=>
 h.rf B F f H r _ _ e q λc m Z=>by
  let#[n,d,s,l,g]:=Z;cases c with
  | true=>exact CM (j.rf B n f m d D o l (k.mono s) g)
  | false=>exact CN (i.rf B n f m d D o l (k.mono s) g)]
theorem dv:P3S K X st Gk (λ_ _=>False):=#[G0,λB F a H b D c e k q=>q]
def Gy (i:Nat)(a:TE3)(D:E3)(Γ:G):Prop:=a Γ λr aa=>bT (frB aa i) (D.nx (aa.set i (some r.sl))) False ⟨⟩ ⟨⟩
theorem DE(h:Ref K te e3):MD K (pI te (kG i)) (Gy i e3):=λB F c H f D x e k q=>
 h B F c H f _ _ e q λv p Z=>by
  let#[w,d,r,s,o,j,b]:=Z;let#[hf,b]:=rC b;replace hf:=oE hf;let#[t,u,g,n,a,m,l]:=o.norm j;exact k.nx t _ p _ (s.trans g) (by have:=n.set hf a l;rw[m] at this;exact this) b
theorem aM{x:Str}(g:X.N.Nodup)(d:X.N[i]?=some x)(b:Loc X.env.scope x)(a:P3 K X e te e3)(c:autoParam (Xb e (some (.Name x pos')) pos.line X.env=pure false) wE)(f:autoParam (X.fn x=true\/X.env.scope.names.lookup x=some .local) wq0) :
  P3S K X (.Assign [.Name x pos'] e pos) (pI te (kG i)) (Gy i e3):=#[GX g d b a.pe c f,DE a.rf]
def Tg (i j:Nat)(a:TA3)(D:E3)(Γ:G):Prop:=a Γ λds aa=>∃ d d',ds=[d,d']/\bC aa i/\bC (aa.set i (some (.fz d))) j/\D.nx ((aa.set i (some (.fz d))).set j (some (.fz d')))
noncomputable def gives (Γ:G):List Nat->List D->Option G
 | [],[]=>some Γ
 | i::is,d::ds=>gives (Γ.set i (some (.fz d))) is ds
 | _,_=>none
noncomputable def frees (Γ:G):List Nat->List D->Prop
 | [],_=>True
 | i::is,d::ds=>bC Γ i/\frees (Γ.set i (some (.fz d))) is ds
 | _,_=>True
noncomputable def iO:List Nat->TGs
 | []=>QU
 | i::is=>D6 (kG i) (iO is)
theorem jN{is:List Nat}:∀ {Γ:G} {σ:_2.St} {vs:List V} {ds:List D} {Γ':G} {QQ:_2.St->Hp->Prop},En K B F σ H Γ->aN K F ds vs->gives Γ is ds=some Γ'->frees Γ is ds->(∀ ay,En K B F ay H Γ'->QQ ay H)->iO is vs σ H QQ:=by
 induction is with
 | nil=>
  intro Γ σ vs ds Γ' QQ e r g f k;cases ds with
  | nil=>cases g;cases r;exact#[rfl,k σ e]
  | cons d ds=>cases g
 | cons i is h=>
  intro Γ σ vs ds Γ' QQ e r g f k;cases ds with
  | nil=>cases g
  | cons d ds=>
   let#[v,a,rfl,c,b]:=r;exact#[v,a,rfl,h (e.set (r:=.fz d) f.1 c) b g f.2 k]
noncomputable def gvF:G->List Nat->List D->(G->Prop)->Prop
 | Γ,[],[],Q=>Q Γ
 | Γ,i::is,d::ds,Q=>bT (frB Γ i) (gvF (Γ.set i (some (.fz d))) is ds Q) False ⟨⟩ ⟨⟩
 | _,_,_,_=>False
theorem wR:∀ {is:List Nat} {ds:List D} {Γ:G} {Q:G->Prop},gvF Γ is ds Q->∃ Γ',gives Γ is ds=some Γ'/\frees Γ is ds/\Q Γ'
 | [],[],Γ,_,h=>#[Γ,rfl,trivial,h]
 | [],_::_,_,_,h=>h.elim
 | _::_,[],_,_,h=>h.elim
 | _::_,_::_,_,_,h=>let ⟨a,b⟩:=rC h;let ⟨Γ',c,e,f⟩:=wR b;#[Γ',c,#[oE a,e],f]
theorem UE{Q:G->Prop}:gvF Γ [] [] Q=Q Γ:=rfl
theorem UG{is:List Nat}{d:D}{ds:List D}{Q:G->Prop}:gvF Γ (i::is) (d::ds) Q=bT (frB Γ i) (gvF (Γ.set i (some (.fz d))) is ds Q) False ⟨⟩ ⟨⟩:=rfl
def Gx (is:List Nat)(a:TE3)(D:E3)(Γ:G):Prop:=a Γ λr aa=>mL (Gb r.d) (λds=>gvF aa is ds D.nx) ⟨⟩
theorem pC{is:List Nat}:∀ {Γ Γ':G} {ds:List D},gives Γ is ds=some Γ'->ds.length=is.length:=by
 induction is with
 | nil=>intro Γ Γ' ds h;cases ds with | nil=>rfl | cons=>cases h
 | cons i is a=>intro Γ Γ' ds h;cases ds with | nil=>cases h | cons d ds=>simp [a h]
theorem kq{kt:Nat}{a:Pos}{is:List Nat}(g:P3 K X e te e3)(A:PGs X es (iO is))(C:X.calm=true)(z:autoParam ((lg es X.env).length=is.length) wE)(d:autoParam ((lg es X.env).findIdx? (·.1)=none) wE)(y:autoParam (Ri [.Tuple es kt a] e pos.line X.env=pure false) wE)(x:autoParam (Rj [.Tuple es kt a] e X.env=pure none) wE)(h1:autoParam ((lg [.Tuple es kt a] X.env).map (·.2)=[assign (.Tuple es kt a) X.env]) wE)(E:autoParam (X.K=K) wE) :
  P3S K X (.Assign [.Tuple es kt a] e pos) (pI te (Fq K is.length (iO is))) (Gx is e3):=#[by subst E;exact wo g.pe (wt C A z d) y x h1,λB F l H n D P e k q=>
 g.rf B F l H n _ _ e q λv N Z=>by
  let#[O,m,r,s,J,u,Z]:=Z;let#[M,h1,Z]:=oA.1 Z;replace h1:=tup_is h1;let#[c,i,I,w]:=wR Z;let#[L,t,j,f]:=J.frozen u;rw[h1] at f;let#[p,o,rfl,G,h]:=f;refine#[p,o,rfl,.inl (.inl (j.sub _ _ G)),by rw[h.length,pC i],jN j h i I λb e3=>k.nx L b _ c (s.trans t) e3 w]]
set_option backward.eqns.nonrecursive false in
noncomputable def putD (Γ:G)(i:Nat)(d:D):G:=match Γ[i]? with
 | some (some (.ow _))=>Γ.set i (some (.ow d))
 | some (some (.ln _))=>Γ.set i (some (.ln d))
 | _=>Γ
set_option backward.eqns.nonrecursive false in
noncomputable def c7 (Γ:G)(i:Nat):Option (List D):=match Γ[i]? with
 | some (some (.ow (.lst xs)))=>some xs
 | some (some (.ln (.lst xs)))=>some xs
 | _=>none
theorem yB(h:c7 Γ i=some xs):Hld Γ i (.lst xs):=by
 unfold c7 at h;split at h
 .cases h;rename_i q;exact .inl q
 .cases h;rename_i q;exact .inr q
 .cases h
theorem En.Lj(e:En K B F σ H Γ){E m:D}(C:Hld Γ i E)(w:σ[i]?=some (some (V.ref p))){G:HO}(r:Own K F (upd H p G) p m):En K B F σ (upd H p G) (putD Γ i m):=by
 let#[T,J,I,S]:=e.hl i _ C;rw[w] at J;cases J;let#[o,U]:=S.some;have l:(Γ[i]?=some (some (Sl.ow E))/\putD Γ i m=Γ.set i (some (.ow m)))\/(Γ[i]?=some (some (Sl.ln E))/\putD Γ i m=Γ.set i (some (.ln m))):=by
  rcases C with q | q
  .exact .inl #[q,by unfold putD;rw[q]]
  .exact .inr #[q,by unfold putD;rw[q]]
 have il:i < Γ.length:=by rcases l with ⟨q,_⟩ | ⟨q,_⟩ <;> exact(gS0 q).1
 have f:∀ {j:Nat},j≠i->(putD Γ i m)[j]?=Γ[j]?:=λz=>by
  rcases l with ⟨_,q⟩ | ⟨_,q⟩ <;> rw[q,aW (ky z)]
 have same:∀ {s:Sl},(putD Γ i m)[i]?=some (some s)->(s=.ow m/\Γ[i]?=some (some (Sl.ow E)))\/(s=.ln m/\Γ[i]?=some (some (Sl.ln E))):=λ{s} q=>by
  rcases l with ⟨a,b⟩ | ⟨a,b⟩
  .rw[b,aV il] at q;cases q;exact .inl #[rfl,a]
  .rw[b,aV il] at q;cases q;exact .inr #[rfl,a]
 have A:∀ {j x},Hld (putD Γ i m) j x->(j=i/\x=m)\/(j≠i/\Hld Γ j x):=λ{j x} q=>by
  by_cases z:j=i
  .subst z
   left
   rcases q with q | q <;> rcases same q with ⟨h,_⟩ | ⟨h,_⟩ <;> cases h <;> exact#[rfl,rfl]
  .right;exact#[z,by unfold Hld at q ⊢;rw[f z] at q;exact q]
 have v:∀ {j x},Hld (putD Γ i m) j x->∃ y,Hld Γ j y:=λq=>by
  rcases A q with ⟨rfl,_⟩ | ⟨_,q⟩
  .exact#[_,C]
  .exact#[_,q]
 refine#[?_,?_,?_,?_,?_,?_,?_,?_,e.keep,e.new,?_,?_]
 .intro b u q;have z:b≠p:=λz=>by subst z;rw[I] at q;cases q
  rw[ao z];exact e.sub b u q
 .rcases l with ⟨_,q⟩ | ⟨_,q⟩ <;> rw[q,rk] <;> exact e.len
 .intro j d q;by_cases z:j=i
  .subst z;rcases same q with ⟨h,_⟩ | ⟨h,_⟩ <;> cases h
  .rw[f z] at q;exact e.fz j d q
 .intro j d q;rcases A q with ⟨rfl,rfl⟩ | ⟨z,q⟩
  .exact#[p,w,I,r]
  .let#[t,a,b,c]:=e.hl j d q;have P:t≠p:=λy=>z (e.dis j i _ _ p q C (y ▸ a) w);exact#[t,a,b,c.mono (aS.refl F) (ao P)]
 .intro j d t q a;by_cases z:j=i
  .subst z;rcases same q with ⟨h,g⟩ | ⟨h,g⟩
   .exact e.ow j _ t g a
   .cases h
  .rw[f z] at q;exact e.ow j d t q a
 .intro j d t q a;by_cases z:j=i
  .subst z;rcases same q with ⟨h,g⟩ | ⟨h,g⟩
   .cases h
   .exact e.ln j _ t g a
  .rw[f z] at q;exact e.ln j d t q a
 .intro j k d W t O N;let#[M,R]:=v O;let#[L,Q]:=v N;exact e.dis j k M L t R Q
 .intro j t q;let#[a,d,b]:=e.par j t q;refine#[a,?_];by_cases z:j=i
  .subst z;rcases l with ⟨c,_⟩ | ⟨_,c⟩
   .rw[b] at c;cases c
   .exact#[_,by rw[c,aV il]]
  .exact#[d,by rw[f z];exact b]
 .intro b u q n;have z:b≠p:=λz=>by
   subst z;rcases C with g | g
   .rw[e.ow i _ _ g w] at q;cases q
   .exact n i (e.ln i _ _ g w)
  rw[ao z];exact e.rest b u q n
 .intro b q;by_cases z:b=p
  .subst z;rw[aB] at q;cases q
  .rw[ao z] at q;exact e.dom b q
theorem En.mut(e:En K B F σ H Γ){b:List D}(h:c7 Γ i=some xs)(c:σ[i]?=some (some (V.ref p))){a:List V}(r:aN K F b a):En K B F σ (upd H p (.lst a)) (putD Γ i (.lst b)):=
 e.Lj (yB h) c #[a,aB,r]
end
section
noncomputable def newD:On->G->Nat->Option D
 | some a::ls,s::cs,j=>if a=j then (match s with
   | some (.ln d)=>some d
   | _=>newD ls cs j) else newD ls cs j
 | none::ls,_::cs,j=>newD ls cs j
 | _,_,_=>none
theorem jo:∀ {ls:On} {cs:G} {j:Nat} {d:D},newD ls cs j=some d->∃ k:Nat,ls[k]?=some (some j)/\cs[k]?=some (some (Sl.ln d))
 | some c::ls,s::cs,j,d,h=>by
  unfold newD at h;split at h
  .rename_i e;subst e;split at h
   .cases h;exact#[0,rfl,rfl]
   .let#[k,a,b]:=jo h;exact#[k + 1,by simpa using a,by simpa using b]
  .let#[k,a,b]:=jo h;exact#[k + 1,by simpa using a,by simpa using b]
 | none::ls,_::cs,j,d,h=>by
  unfold newD at h;let#[k,a,b]:=jo h;exact#[k + 1,by simpa using a,by simpa using b]
 | [],_,_,_,h=>by unfold newD at h;cases h
 | some _::_,[],_,_,h=>by unfold newD at h;cases h
 | none::_,[],_,_,h=>by unfold newD at h;cases h
theorem vL:∀ {ls:On} {cs:G} {j k:Nat} {d:D},ls[k]?=some (some j)->cs[k]?=some (some (Sl.ln d))->∃ d',newD ls cs j=some d'
 | [],_,_,_,_,h,_=>by simp at h
 | _::_,[],_,_,_,_,h=>by simp at h
 | some b::ls,s::cs,j,0,d,h,a=>by
  simp at h a;subst h a;exact#[d,by unfold newD;rw[if_pos rfl]]
 | none::ls,s::cs,j,0,d,h,a=>by simp at h
 | some b::ls,s::cs,j,k + 1,d,h,a=>by
  unfold newD;split
  .split
   .exact#[_,rfl]
   .exact vL (k:=k) (by simpa using h) (by simpa using a)
  .exact vL (k:=k) (by simpa using h) (by simpa using a)
 | none::ls,s::cs,j,k + 1,d,h,a=>by
  unfold newD;exact vL (k:=k) (by simpa using h) (by simpa using a)
noncomputable def dJ (n:Option D):Option Sl->Option Sl
 | some (.ow d)=>some (.ow (n.getD d))
 | some (.ln d)=>some (.ln (n.getD d))
 | s=>s
noncomputable def xF:G->Nat->D->G
 | s::Γ,0,d=>dJ (some d) s::Γ
 | s::Γ,i + 1,d=>s::xF Γ i d
 | [],_,_=>[]
noncomputable def br:On->G->G->G
 | [],Γ,_=>Γ
 | none::ls,Γ,cs=>br ls Γ cs.tail
 | some i::ls,Γ,some (.ln d)::cs=>xF (br ls Γ cs) i d
 | some _::ls,Γ,cs=>br ls Γ cs.tail
theorem tR(s:Option Sl):dJ none s=s:=by
 rcases s with _|s;rfl;cases s<;>rfl
theorem A4 {d:D}:∀ {Γ:G} {i j:Nat},(xF Γ i d)[j]?=(Γ[j]?).map (dJ (if i=j then some d else none))
 | [],_,_=>by simp [xF]
 | s::Γ,0,0=>rfl
 | s::Γ,0,j + 1=>by rw[if_neg (by lia),show dJ none=id from funext tR,ah9];rfl
 | s::Γ,i + 1,0=>by rw[if_neg (by lia),show dJ none=id from funext tR,ah9];rfl
 | s::Γ,i + 1,j + 1=>by
  have:=A4 (d:=d) (Γ:=Γ) (i:=i) (j:=j);simpa [xF] using this
theorem su:∀ {ls:On},newD ls [] j=none
 | []=>rfl
 | none::_=>rfl
 | some _::_=>rfl
theorem bU {j:Nat}:∀ {ls:On} {Γ cs:G},(br ls Γ cs)[j]?=(Γ[j]?).map (dJ (newD ls cs j))
 | [],Γ,cs=>by rw[show newD [] cs j=none from rfl,show dJ none=id from funext tR,ah9];rfl
 | none::ls,Γ,[]=>by rw[su];exact(bU (ls:=ls) (cs:=[])).trans (by rw[su])
 | none::ls,Γ,_::cs=>bU (ls:=ls) (cs:=cs)
 | some i::ls,Γ,[]=>by rw[su];exact(bU (ls:=ls) (cs:=[])).trans (by rw[su])
 | some i::ls,Γ,s::cs=>by
  have h:=bU (j:=j) (ls:=ls) (Γ:=Γ) (cs:=cs);have n:(∀ d,s≠some (.ln d))->(br (some i::ls) Γ (s::cs))[j]?=(Γ[j]?).map (dJ (newD (some i::ls) (s::cs) j)):=λw=>by
   have e:newD (some i::ls) (s::cs) j=newD ls cs j:=by
    rcases s with _|s
    .exact ite_self _
    cases s with
    | fz=>exact ite_self _
    | ow=>exact ite_self _
    | ln=>exact absurd rfl (w _)
   rw[e,<-h];rcases s with _|s;rfl;cases s;rfl;rfl;exact absurd rfl (w _)
  rcases s with _|s
  .exact n nofun
  cases s with
  | fz=>exact n nofun
  | ow=>exact n nofun
  | ln d=>
   show (xF (br ls Γ cs) i d)[j]?=_;rw[A4,h,Option.map_map]
   congr 1;funext s
   show dJ (if i=j then some d else none) (dJ (newD ls cs j) s)=dJ (if i=j then some d else newD ls cs j) s;split
   .rcases s with _|s;rfl;cases s<;>rfl
   .exact tR _
theorem FD{cs:G}:(br ls Γ cs).length=Γ.length:=Nat.le_antisymm
 (Nat.not_lt.1 λh=>by have:=bU (ls:=ls) (Γ:=Γ) (cs:=cs) (j:=Γ.length);rw[gE0 h,nA (cc _)] at this;cases this)
 (Nat.not_lt.1 λh=>by have:=bU (ls:=ls) (Γ:=Γ) (cs:=cs) (j:=(br ls Γ cs).length);rw[gE0 h,nA (cc _)] at this;cases this)
theorem En.back{J:Hp}{own':List (Nat×Addr)}{f:G}(e:En K B J σ H1 Γ)(g:En K #[J,H1,own'] F aI H f)(h1:∀ k p,(k,p)∈own'->∃ j d,ls[k]?=some (some j)/\Hld Γ j d/\σ[j]?=some (some (V.ref p))):En K B F σ H (br ls Γ f):=by
 have E:∀ {j d},(br ls Γ f)[j]?=some (some (Sl.fz d))->Γ[j]?=some (some (Sl.fz d)):=λ{j d} q=>by
  rw[bU] at q;cases w:Γ[j]? with
  | none=>rw[w] at q;cases q
  | some s=>
   rw[w] at q;cases s with
   | none=>cases q
   | some s=>cases s <;> cases q;rfl
 have m:∀ {j d},(br ls Γ f)[j]?=some (some (Sl.ow d))->∃ d0,Γ[j]?=some (some (Sl.ow d0))/\d=(newD ls f j).getD d0:=λ{j d} q=>by
  rw[bU] at q;cases w:Γ[j]? with
  | none=>rw[w] at q;cases q
  | some s=>
   rw[w] at q;cases s with
   | none=>cases q
   | some s=>cases s <;> cases q;exact#[_,rfl,rfl]
 have r:∀ {j d},(br ls Γ f)[j]?=some (some (Sl.ln d))->∃ d0,Γ[j]?=some (some (Sl.ln d0))/\d=(newD ls f j).getD d0:=λ{j d} q=>by
  rw[bU] at q;cases w:Γ[j]? with
  | none=>rw[w] at q;cases q
  | some s=>
   rw[w] at q;cases s with
   | none=>cases q
   | some s=>cases s <;> cases q;exact#[_,rfl,rfl]
 have gh:∀ {j d},Hld (br ls Γ f) j d->∃ d0,Hld Γ j d0/\d=(newD ls f j).getD d0:=λ{j d} q=>by
  rcases q with q | q
  .let#[d0,a,b]:=m q;exact#[d0,.inl a,b]
  .let#[d0,a,b]:=r q;exact#[d0,.inr a,b]
 refine#[g.sub,by rw[FD];exact e.len,?_,?_,?_,?_,?_,?_,e.keep.trans g.keep,?_,?_,?_]
 .intro j d q;let#[v,a,b]:=e.fz j d (E q);exact#[v,a,b.mono g.keep]
 .intro j d q;let#[d0,L,rfl]:=gh q;let#[p,a,b,c]:=e.hl j d0 L;let#[o,A]:=c.some;have P:F p=none:=by
   cases w:F p with
   | none=>rfl
   | some u=>
    rcases g.new p u w with z | z
    .rw[show J p=some u from z] at b;cases b
    .rw[show H1 p=none from z] at A;cases A
  refine#[p,a,P,?_];cases w:newD ls f j with
  | some I=>
   let#[k,x,y]:=jo w;let#[M,S,W,R]:=g.hl k I (.inr y);let#[D,N,t,_,C]:=h1 k M (g.ln k I M y S);rw[x] at t;cases t;rw[a] at C;cases C;exact R
  | none=>
   have hk:∀ k,(k,p)∉own':=λk hk=>by
    let#[D,N,t,h,C]:=h1 k p hk;let#[_,U,y]:=g.par k p hk;have:D=j:=e.dis D j N d0 p h L C a;subst this;let#[T,z]:=vL t y;rw[w] at z;cases z
   have O:H p=H1 p:=by rw[A];exact g.rest p o A hk
   exact c.mono g.keep O
 .intro j d p q a;let#[d0,q,_]:=m q;exact e.ow j d0 p q a
 .intro j d p q a;let#[d0,q,_]:=r q;exact e.ln j d0 p q a
 .intro i j d I p l h;let#[d0,l,_]:=gh l;let#[Q,h,_]:=gh h;exact e.dis i j d0 Q p l h
 .intro j p q;let#[a,d,b]:=e.par j p q;exact#[a,_,by rw[bU,b];rfl]
 .intro b o q;rcases g.new b o q with z | z
  .exact e.new b o z
  .exact .inr (e.dom b z)
 .intro b o q n;have l:=e.rest b o q n;refine g.rest b o l λk hk=>?_;let#[j,d,x,y,a]:=h1 k b hk;rcases y with y | y
  .rw[e.ow j d b y a] at q;cases q
  .exact n j (e.ln j d b y a)
 .intro b q;exact e.dom b (g.dom b q)
structure ItR (K:Fg0) (F:Hp) (J:It) (xs:List D):Prop where
 go:∀ i H',aS F H'->i < xs.length->J.go i H'
 stop:∀ i H',aS F H'->i=xs.length->J.stop i H'
 yld:∀ i H' x H'' d,aS F H'->xs[i]?=some d->J.yld i H' x H''->(H''=H'/\Rep K F d x)\/∃ t vs ds,H' t=none/\H''=upd H' t (.tup vs)/\x=.ref t/\aN K F ds vs/\d=.tup ds
abbrev TI3:=G->(List D->G->Prop)->Prop
def Js (K:Fg0)(t:TI)(b:TI3):Prop:=∀ (B:Bs) (F:Hp) (σ:_2.St) (H:Hp) (Γ:G) (Q:List D->G->Prop) (R:It->Hp->Prop),En K B F σ H Γ->b Γ Q->(∀ J H1 a aa xs,aS F a->En K B a σ H1 aa->ItR K a J xs->Q xs aa->R J H1)->t σ H R
structure P3I (K:Fg0) (X:Cx) (tg iter:Expr) (t:TI) (i3:TI3):Prop where
 pe:PI X tg iter t
 rf:Js K t i3
abbrev TG3:=D->G->(G->Prop)->Prop
def FF (K:Fg0)(g:TG)(a:TG3):Prop:=∀ (B:Bs) (F:Hp) (σ:_2.St) (H:Hp) (Γ:G) (v:V) (d:D) (Q:G->Prop) (QQ:_2.St->Hp->Prop),En K B F σ H Γ->Rep K F d v->a d Γ Q->(∀ ay Γ',En K B F ay H Γ'->Q Γ'->QQ ay H)->g v σ H QQ
structure P3G (K:Fg0) (X:Cx) (tg:Expr) (g:TG) (g3:TG3):Prop where
 pe:PG X tg g
 rf:FF K g g3
def tgN (i:Nat)(d:D)(Γ:G)(Q:G->Prop):Prop:=bT (frB Γ i) (Q (Γ.set i (some (.fz d)))) False ⟨⟩ ⟨⟩
def tgT (is:List Nat)(d:D)(Γ:G)(Q:G->Prop):Prop:=mL (Gb d) (λds=>gvF Γ is ds Q) ⟨⟩
theorem bB{x:Str}(f:X.N.Nodup)(b:X.N[i]?=some x)(a:Loc X.env.scope x)(c:autoParam (X.fn x=true\/X.env.scope.names.lookup x=some .local) wq0):P3G K X (.Name x pos) (kG i) (tgN i):=
 #[a8 f b a c,λB F g H h v d Q j e r q k=>k _ _ (e.set (r:=.fz d) (oE (rC q).1) r) (rC q).2]
theorem QV{kt:Nat}{is:List Nat}(m:X.K=K)(j:PGs X es (iO is))(l:X.calm=true)(i:autoParam ((lg es X.env).length=is.length) wE)(c:autoParam ((lg es X.env).findIdx? (·.1)=none) wE) :
  P3G K X (.Tuple es kt pos) (Fq K is.length (iO is)) (tgT is):=#[by subst m;exact wt l j i c,λB F u H w v d Q y e r q k=>by
 let#[x,s,q]:=oA.1 q;cases tup_is s;let#[b,g,o,q]:=wR q;let#[p,h,rfl,n,f]:=r;exact#[p,h,rfl,.inl (.inl (e.sub _ _ n)),by rw[f.length,pC g],jN e f g o λa t=>k a b t q]]
theorem ItR.turn(R:ItR K F J xs){a:Hp}(s:aS F F')(e:En K B F' σ H' Γ){d:D}{x:V}(hd:xs[i]?=some d)(y:J.yld i H' x a):∃ c,aS F' c/\En K B c σ a Γ/\Rep K c d x:=by
 rcases R.yld i H' x a d (s.trans e.sub) hd y with ⟨rfl,r⟩ | ⟨t,f,g,b,rfl,rfl,r,rfl⟩
 .exact#[F',aS.refl F',e,r.mono s]
 .exact#[upd F' t (.tup f),a9 (e.nof b),(e.alloc b _).freeze (e.nof b) aB (e.dom _ b) (e.qY b),t,f,rfl,aB,r.mono (s.trans (a9 (e.nof b)))]
def LV (b:TI3)(c:TG3)(e:TS3)(D:E3)(Γ:G):Prop:=b Γ λxs aa=>∃ a:Nat->G->Prop,a 0 aa/\(∀ k d Γ,xs[k]?=some d->a k Γ->c d Γ λΓ'=>e { D with nx:=a (k + 1),ct:=a (k + 1),bk:=D.nx } Γ')/\∀ Γ,a xs.length Γ->D.nx Γ
theorem fV{l:List Stmt}{O:TI3}{T:TG3}{M:TS}{U:TS3}(hp:am1 (model X.prog X.w) X.A X.env X.xe)(hc:X.calm=true)(P:P3I K X tg iter wi O)(Q:P3G K X tg g T)(S:lB K X l M U)(hs:autoParam (∀ x,pk iter X.env x=pure x) wT) :
  P3S K X (.For tg iter l [] pos) (Om wi g M) (LV O T U):=#[G1 hp hc P.pe Q.pe S.pe hs,λB F C H Γ D Y e k q=>by
 refine P.rf B F C H Γ _ _ e q λJ H1 L E o G e1 R Z=>?_;let#[A,i0,it,ie]:=Z;refine#[λi m C H=>m=o.length - i/\i<=o.length/\∃ h d,aS L h/\En K B h C H d/\A i d,#[_,rfl,rx _,L,E,aS.refl _,e1,i0],?_];rintro i m p I ⟨rfl,a1,F2,j,t,w,N⟩;by_cases lt:i < o.length
 .refine .inr #[R.go i I (t.trans w.sub) lt,λf n=>∃ h d,aS L h/\En K B h f n d/\A (i + 1) d,λf n ⟨h,d,a,b,c⟩=>#[o.length - (i + 1),by lia,rfl,lt,h,d,a,b,c],λx V y=>?_];have hd:o[i]?=some o[i]:=gE0 lt;let#[W,s3,e3,r3]:=R.turn t w hd y;refine Q.rf B W p V j x _ _ _ e3 r3 (it i _ j hd N) λf d e4 q4=>?_;have u:=t.trans s3;refine S.rf B W f V d _ { Y with nx:=A (i + 1),ct:=A (i + 1),bk:=Y.nx } e4 #[λh f n d s e q=>#[h,d,u.trans s,e,q],λh f n d v r s e rv q=>k.rt h f n d v r ((G.trans u).trans s) e rv q,λh f n d s e q=>k.nx h f n d ((G.trans u).trans s) e q,λh f n d s e q=>#[h,d,u.trans s,e,q]] q4
 .have z:i=o.length:=by lia
  subst z;exact .inl #[R.stop _ I (t.trans w.sub) rfl,k.nx F2 p I j (G.trans t) w (ie j N)]]
def iL3 (a:TE3)(Γ:G)(Q:List D->G->Prop):Prop:=a Γ λr aa=>mL (HP r.d) (λxs=>Q xs aa) ⟨⟩
theorem hU{l:Expr}{tl:TE}{o:TE3}(h:P3 K X l tl o)(E:autoParam (X.K=K) wE):P3I K X tg l (Np K tl) (iL3 o):=#[by subst E;exact KI h.pe,λB F u H w Q R e q k=>
 h.rf B F u H w _ _ e q λv J Z=>by
  let#[P,j,r,s,I,C,Z]:=Z;let#[z,hx,D]:=oA.1 Z;replace hx:=lst_is hx;let#[L,A,t,n]:=I.frozen C;rw[hx] at n;let#[p,a,rfl,g,m]:=n;refine#[p,rfl,#[a,SqL.of (t.sub _ _ g)],k _ J L j z (s.trans A) t #[λi f b lt=>?_,λi f b M=>?_,λi f x O d b hd y=>?_] D]
  .rw[<- m.length] at lt;exact#[a,a[i],SqL.of (b _ _ g),by simp [lt]]
  .exact#[a,SqL.of (b _ _ g),by rw[m.length];lia]
  .let#[G,y]:=y;let#[N,c,r]:=m.LQ (y a (SqL.of (b _ _ g)));rw[hd] at c;cases c;exact .inl #[G,r]]
noncomputable def rng (lo:Int)(n:Nat):List D:=(gs n).map λ(k:Nat)=>D.int (lo + (k:Int))
theorem MW{lo:Int}:ItR K F (Itr lo n) (rng lo n):=by
 have a:(rng lo n).length=n:=by simp [rng]
 refine#[λi b _ lt=>by rw[a] at lt;exact lt,λi b _ e=>by rw[a] at e;exact Zn e.symm,λi b x h d _ hd y=>?_];let#[g,f]:=y;subst g f;refine .inl #[rfl,?_];have c:i < n:=by have:=(gS0 hd).1;rw[a] at this;exact this
 have:(rng lo n)[i]?=some (.int (lo + i)):=by unfold rng;rw[ef,XX c];rfl
 rw[this] at hd;cases hd
 rfl
def iR1 (a:TA3)(Γ:G)(Q:List D->G->Prop):Prop:=a Γ λds aa=>mI (one? ds) (λj=>-(2 ^ 62)<=j/\j < 2 ^ 62/\Q (rng 0 j.toNat) aa) ⟨⟩
def iR2 (a:TA3)(Γ:G)(Q:List D->G->Prop):Prop:=a Γ λds aa=>∃ i j:Int,ds=[.int i,.int j]/\(-(2 ^ 62)<=i/\i < 2 ^ 62/\-(2 ^ 62)<=j/\j < 2 ^ 62)/\Q (rng i (j - i).toNat) aa
theorem fG{ta:TA}{d:TA3}{p:Pos}(o:X.mg "range"=none)(c:P3A K X [a] ta d)(n:autoParam (bp [a] X.env=[(false,eval a X.env)]) wE)(r:autoParam (Gl X "range") wE):P3I K X tg (.Call (.Name "range" p) [a] [] pos) (Nn ta) (iR1 d):=#[EU r o c.pe n,λB F f H g Q R e q k=>
 c.rf B F f H g _ _ e q λC y Z=>by
  let#[z,b,D,s,x,h,Z]:=Z;let#[j,w,u,t,m]:=TU Z;cases PC w;let#[v,A,rfl,l,i]:=h;cases l;cases i;exact#[j,rfl,u,t,k _ y z b _ s x MW m]]
theorem yz{b:Expr}{ta:TA}{g:TA3}{p:Pos}(z:Gl X "range")(y:X.mg "range"=none)(f:P3A K X [a,b] ta g)(x:autoParam (bp [a,b] X.env=[(false,eval a X.env),(false,eval b X.env)]) wE)(d:autoParam (bp [b] X.env=[(false,eval b X.env)]) wE) :
  P3I K X tg (.Call (.Name "range" p) [a,b] [] pos) (Nm ta) (iR2 g):=#[ET z y f.pe x d,λB F h H l Q R e q k=>
 f.rf B F h H l _ _ e q λJ E Z=>by
  let#[G,c,L,s,D,n,i,j,C,A,u]:=Z;subst C;let#[v,I,rfl,t,w,m,rfl,r,o]:=n;cases t;cases r;cases o;exact#[i,j,rfl,A,k _ E G c _ s D MW u]]
noncomputable def Aw (xs ys:List D):List D:=(xs.zip ys).map λp=>.tup [p.1,p.2]
def iZ3 (a:TA3)(Γ:G)(Q:List D->G->Prop):Prop:=a Γ λds aa=>∃ xs ys,ds=[.lst xs,.lst ys]/\Q (Aw xs ys) aa
theorem vT{d:D}(h:(Aw xs ys)[i]?=some d):∃ x y,xs[i]?=some x/\ys[i]?=some y/\d=.tup [x,y]:=by
 unfold Aw at h;rw[ef] at h;cases q:(xs.zip ys)[i]? with
 | none=>rw[q] at h;cases h
 | some p=>
  rw[q] at h;cases h;rw[ZN] at q;exact#[_,_,q.1,q.2,rfl]
theorem Qv{b:Expr}{ta:TA}{J:TA3}{kt:Nat}{U p:Pos}(hg:Gl X "zip")(hm:X.mg "zip"=none)(I:P3A K X [a,b] ta J)(hs:autoParam (bp [a,b] X.env=[(false,eval a X.env),(false,eval b X.env)]) wE)(E:autoParam (bp [b] X.env=[(false,eval b X.env)]) wE) :
  P3I K X (.Tuple es kt U) (.Call (.Name "zip" p) [a,b] [] pos) (Ul ta) (iZ3 J):=#[O4 hg hm I.pe hs E,λB F N H O Q R e q k=>
 I.rf B F N H O _ _ e q λvs H' Z=>by
  let#[F',o,ds,s,G,u,xs,ys,h1,W]:=Z;subst h1;let#[v,ws,rfl,#[p1,g,rfl,n,A],w,T,rfl,#[Y,f,rfl,m,z],V]:=u;cases V;refine#[p1,Y,g,f,rfl,G.sub _ _ n,G.sub _ _ m,k _ H' F' o _ s G #[λi h c lt=>?_,λi h c ei=>?_,λi h x H3 d c hd y=>?_] W]
  .let#[x,y,D,C,_]:=vT (gE0 lt);let#[v,l,_]:=A.get D;let#[w,j,_]:=z.get C;exact#[g,f,v,w,c _ _ n,c _ _ m,l,j]
  .refine#[g,f,c _ _ n,c _ _ m,?_];subst ei;unfold Aw;rw[lM0,ao4,A.length,z.length];lia
  .let#[t,S,P,x1,y1,ht,M,L,b1,b2,rfl,rfl]:=y;rw[c _ _ n] at M;cases M;rw[c _ _ m] at L;cases L;let#[dx,dy,D,C,rfl]:=vT hd;let#[v,l,u]:=A.get D;let#[w,j,r]:=z.get C;rw[b1] at l;cases l;rw[b2] at j;cases j;exact .inr #[t,_,[dx,dy],ht,rfl,rfl,#[_,_,rfl,u,_,_,rfl,r,rfl],rfl]]
theorem Dq(h:H p=some (.lst vs)):tyV K "list" (.ref p) H:=.inl #[rfl,_,SqL.of h]
theorem En.c7(e:En K B F σ H Γ)(h:c7 Γ i=some xs):∃ p vs,σ[i]?=some (some (V.ref p))/\H p=some (.lst vs)/\aN K F xs vs:=by
 let#[p,a,b,vs,c,d]:=e.hl i _ (yB h);exact#[p,vs,a,c,d]
def Rp (i:Nat)(a:TE3)(Γ:G)(Q:RV->G->Prop):Prop:=mL (c7 Γ i) (λ_=>a Γ λr aa=>mL (c7 aa i) (λxs=>xs.length < sizeLine/\Q (.fz .non) (putD aa i (.lst (xs++[r.d])))) ⟨⟩) ⟨⟩
theorem Ke(i:Nat)(h:Ref K te e3):Ref K (tBM K "list" zB (i9 i) (jy te nJ)) (Rp i e3):=by
 intro B F j H m Q J e q k;let#[n,A,q]:=oA.1 q;let#[p,o,d,D,_]:=e.c7 A;refine#[_,d,Dq D,h B F j H m _ _ e q λv L Z=>?_];let#[M,l,r,s,C,w,Z]:=Z;let#[G,f,z,y]:=oA.1 Z;let#[E,u,g,x]:=C.frozen w;let#[I,t,a,b,c]:=g.c7 f;rw[d] at a;cases a;exact#[p,t,v,rfl,rfl,b,by rw[c.length];exact z,k _ _ #[E,_,.fz .non,s.trans u,g.mut f d (aN.append (ys:=[r.d]) c #[v,[],rfl,x,rfl]),rfl,y]]
def ext3 (i:Nat)(a:TB3)(Γ:G)(Q:RV->G->Prop):Prop:=(∃ xs,c7 Γ i=some xs)/\a Γ λr aa=>∃ xs ys,c7 aa i=some xs/\r.at aa=some (.lst ys)/\xs.length + ys.length<=sizeLine/\Q (.fz .non) (putD aa i (.lst (xs++ys)))
theorem Kd{j:TB3}(i:Nat)(h:xu K te j):Ref K (tBM K "list" zA (i9 i) (jy te nJ)) (ext3 i j):=by
 intro B F m H o Q N e ⟨⟨t,E⟩,q⟩ k;let#[p,w,f,G,_]:=e.c7 E;refine#[_,f,Dq G,h B F m H o _ _ e q λv O Z=>?_];let#[I,n,r,s,d,y,L,J,g,D,C,z]:=Z;let#[A,u,rfl,b2,l]:=d.bo y D;let#[M,x,a,b,c]:=d.c7 g;rw[f] at a;cases a;exact#[p,A,x,u,rfl,rfl,b,b2,by rw[c.length,l.length];exact C,k _ _ #[I,_,.fz .non,s,d.mut g f (c.append l),rfl,z]]
variable {eb:TB3}
theorem lM(i:Nat){x:Str}(h:P3B K X (.Name x px) (i9 i) (bor i))(g:P3 K X e te e3)(c:autoParam (vr (.Name x px) "append" X.env (eval (.Name x px) X.env)=eval (.Name x px) X.env) wE)(d:autoParam (((backTo cpos (bp [e] X.env)).all (λx=>!x.1) && (Wm cpos (DM [] X.env)).all (λx=>x.1.isSome)
   && decide ([e].length + ([]:List Wn).length + (if ([]:List Wn).isEmpty then 0 else 1) < 30))=true) wE)(b:autoParam ((apos.endLine == cpos.line)=true) wE)(f:autoParam (bp [e] X.env=(false,eval e X.env)::bp [] X.env) wE)(a:autoParam ((backTo cpos (bp [] X.env)).any (·.1)=false) wE)(j:autoParam (X.K=K) wE) :
  P3 K X (.Call (.Attribute (.Name x px) "append" apos) [e] [] cpos) (tBM K "list" zB (i9 i) (jy te nJ)) (Rp i e3):=
 #[by subst j;exact uL ab5 ae4 PySem.F.type_list_append Fe h.pe (cf g.pe fm f) c d b f a,Ke i g.rf]
theorem EY(i:Nat){x:Str}(j:X.K=K)(h:P3B K X (.Name x px) (i9 i) (bor i))(g:P3B K X e te eb)(c:autoParam (vr (.Name x px) "extend" X.env (eval (.Name x px) X.env)=eval (.Name x px) X.env) wE)(d:autoParam (((backTo cpos (bp [e] X.env)).all (λx=>!x.1) && (Wm cpos (DM [] X.env)).all (λx=>x.1.isSome)
   && decide ([e].length + ([]:List Wn).length + (if ([]:List Wn).isEmpty then 0 else 1) < 30))=true) wE)(b:autoParam ((apos.endLine == cpos.line)=true) wE)(f:autoParam (bp [e] X.env=(false,eval e X.env)::bp [] X.env) wE)(a:autoParam ((backTo cpos (bp [] X.env)).any (·.1)=false) wE) :
  P3 K X (.Call (.Attribute (.Name x px) "extend" apos) [e] [] cpos) (tBM K "list" zA (i9 i) (jy te nJ)) (ext3 i eb):=
 #[by subst j;exact uL ab5 ae6 PySem.F.type_list_extend Fd h.pe (cf g.pe fm f) c d b f a,Kd i g.rf]
def Dz (i:Nat)(c:TB3)(d:TE3)(D:E3)(Γ:G):Prop:=d Γ λr aa=>(∃ xs,c7 aa i=some xs)/\c aa λb a=>∃ xs k j,c7 a i=some xs/\b.at a=some (.int k)/\ixN xs.length k=some j/\D.nx (putD a i (.lst (xs.set j r.d)))
theorem JY(i:Nat){x:Str}{k:Expr}{g:TE}(h:P3B K X (.Name x px) (i9 i) (bor i))(hk:P3B K X k g k3)(O:P3 K X e te e3)(L:PS X (.Assign [.Subscript (.Name x px) k p2] e pos) (pI te (Io (i9 i) g A2))) :
  P3S K X (.Assign [.Subscript (.Name x px) k p2] e pos) (pI te (Io (i9 i) g A2)) (Dz i k3 e3):=#[L,λB F d H t D D3 e k q=>
 O.rf B F d H t _ _ e q λv S Z=>by
  let#[F',f,r,s,R,C,#[w,Q],J]:=Z;let#[U,A,n,G]:=R.frozen C;let#[p,y,l,b0,_]:=n.c7 Q;refine#[_,l,hk.rf B U d S f _ _ n J λu H2 Z=>?_];let#[T,o,Y,m,e3,E,V,kk,j,h,P,N,I]:=Z;let#[W,z,a,b,c]:=e3.c7 h;rw[l] at a;cases a;have M:u=.int kk:=e3.bo E P;exact#[p,z,kk,j,rfl,M,b,by rw[c.length];exact N,k.nx T d _ _ ((s.trans A).trans m) (e3.mut h l (aN.set (G.mono m) j c)) I]]
end
set_option backward.eqns.nonrecursive false in
noncomputable def kP:Option (Option Sl)->Option Sl
 | some (some (.fz d))=>some (.fz d)
 | some (some (.ow d))=>some (.ln d)
 | some (some (.ln d))=>some (.ln d)
 | _=>none
set_option backward.eqns.nonrecursive false in
noncomputable def uE (Γ:G):Bo->Option Sl
 | .d x=>some (.fz x)
 | .v i=>kP Γ[i]?
set_option backward.eqns.nonrecursive false in
noncomputable def cR:Option Bo->Option Nat
 | some (.v i)=>some i
 | _=>none
noncomputable def Hs (Γ:G)(σ:_2.St)(k:Nat):Option Bo->Option (Nat×Addr)
 | some (.v i)=>match Γ[i]?,σ[i]? with
  | some (some (.ow _)),some (some (.ref p))=>some (k,p)
  | some (some (.ln _)),some (some (.ref p))=>some (k,p)
  | _,_=>none
 | _=>none
noncomputable def ownOf (Γ:G)(σ:_2.St)(bs:List (Option Bo)):List (Nat×Addr):=(gs bs.length).filterMap λk=>(bs[k]?).bind (Hs Γ σ k)
theorem pj{bs:List (Option Bo)}:(k,p)∈ownOf Γ σ bs↔∃ i d,bs[k]?=some (some (Bo.v i))/\Hld Γ i d/\σ[i]?=some (some (V.ref p)):=by
 unfold ownOf;rw[Yl];constructor
 .rintro⟨b,_,h⟩;cases q:bs[b]? with
  | none=>rw[q] at h;cases h
  | some o=>
   rw[q] at h;change Hs Γ σ b o=some (k,p) at h;unfold Hs at h;split at h
   .rename_i i;split at h
    .rename_i d e a h2;cases h;exact#[i,d,q,.inl a,h2]
    .rename_i d e a h2;cases h;exact#[i,d,q,.inr a,h2]
    .cases h
   .cases h
 .rintro⟨i,d,a,h2,c⟩;refine#[k,XE.mpr (gS0 a).1,?_];rw[a];show Hs Γ σ k (some (Bo.v i))=_;unfold Hs;rcases h2 with h2 | h2
  .simp only[h2,c]
  .simp only[h2,c]
noncomputable def gw (Γ:G)(bs:List (Option Bo)):G:=bs.map λo=>o.bind (uE Γ)
theorem l_{bs:List (Option Bo)}{s:Sl}:(gw Γ bs)[k]?=some (some s)↔∃ a,bs[k]?=some (some a)/\uE Γ a=some s:=by
 unfold gw;rw[ef];constructor
 .intro h;cases q:bs[k]? with
  | none=>rw[q] at h;cases h
  | some o=>
   rw[q] at h;cases o with
   | none=>cases h
   | some a=>exact#[a,rfl,by simpa using h]
 .rintro⟨a,c,b⟩;rw[c];simp [b]
theorem Mw{bo:Bo}{d:D}(h:uE Γ bo=some (.ln d)):∃ i,bo=.v i/\Hld Γ i d:=by
 cases bo with
 | d x=>cases h
 | v i=>
  change kP Γ[i]?=_ at h;unfold kP at h;split at h
  .cases h
  .cases h;rename_i q;exact#[i,rfl,.inl q]
  .cases h;rename_i q;exact#[i,rfl,.inr q]
  .cases h
theorem Mx{bo:Bo}{d:D}(h:uE Γ bo=some (.fz d)):bo=.d d\/∃ i,bo=.v i/\Γ[i]?=some (some (Sl.fz d)):=by
 cases bo with
 | d x=>cases h;exact .inl rfl
 | v i=>
  change kP Γ[i]?=_ at h;unfold kP at h;split at h
  .cases h;rename_i q;exact .inr #[i,rfl,q]
  .cases h
  .cases h
  .cases h
theorem Ao{bo:Bo}{d:D}:uE Γ bo≠some (.ow d):=by
 intro h;cases bo with
 | d x=>cases h
 | v i=>change kP Γ[i]?=_ at h;unfold kP at h;split at h <;> cases h
theorem tV{bs:List (Option Bo)}:∀ (k:Nat) (d:D),(gw Γ bs)[k]?≠some (some (Sl.ow d)):=λk d h=>by
 let#[a,_,h]:=l_.mp h;exact Ao h
theorem En.inner(e:En K B F σ H Γ){bs:List (Option Bo)}(J:aI.length=bs.length)(m:∀ (k:Nat) (bo:Bo) (s:Sl),bs[k]?=some (some bo)->uE Γ bo=some s->∃ v,aI[k]?=some (some v)/\vf K F σ bo v)(G:∀ (k t i:Nat),bs[k]?=some (some (Bo.v i))->bs[t]?=some (some (Bo.v i))->k=t):En K #[F,H,ownOf Γ σ bs] F aI H (gw Γ bs):=by
 have f:∀ {k d},Hld (gw Γ bs) k d->∃ i p,bs[k]?=some (some (Bo.v i))/\Hld Γ i d/\σ[i]?=some (some (V.ref p))/\aI[k]?=some (some (V.ref p)):=λ{k d} q=>by
  rcases q with q | q
  .let#[bo,g,h2]:=l_.mp q;exact absurd h2 Ao
  .let#[bo,g,h2]:=l_.mp q;let#[v,j,c]:=m k bo _ g h2;let#[i,rfl,l]:=Mw h2;let#[p,n,_]:=e.hl i d l;rw[show σ[i]?=some (some v) from c] at n;cases n;exact#[i,p,g,l,c,j]
 refine#[e.sub,by unfold gw;rw[lM0];exact J,?_,?_,?_,?_,?_,?_,aS.refl F,λb o h=>.inl h,λb o h _=>h,λb h=>h]
 .intro k d q;let#[bo,g,h2]:=l_.mp q;let#[v,j,c]:=m k bo _ g h2;refine#[v,j,?_];rcases Mx h2 with rfl | ⟨i,rfl,l⟩
  .exact c
  .let#[u,n,w]:=e.fz i d l;rw[show σ[i]?=some (some v) from c] at n;cases n;exact w
 .intro k d q;let#[i,p,g,h2,j,c]:=f q;let#[E,l,n,w]:=e.hl i d h2;rw[j] at l;cases l;exact#[p,c,n,w]
 .intro k d p q;let#[bo,g,h2]:=l_.mp q;exact absurd h2 Ao
 .intro k d p q a;let#[i,E,g,h2,j,c]:=f (.inr q);rw[a] at c;cases c;exact pj.mpr #[i,d,g,h2,j]
 .intro k t d L p D C N M;let#[i,P,g,h2,j,c]:=f D;let#[I,O,z,y,x,r]:=f C;rw[N] at c;cases c;rw[M] at r;cases r;have:=e.dis i I d L p h2 y j x;subst this;exact G k t i g z
 .intro k p q;let#[i,d,g,h2,j]:=pj.mp q;have A:uE Γ (.v i)=some (.ln d):=by
   show kP Γ[i]?=_;rcases h2 with h2 | h2 <;> rw[h2] <;> rfl
  let#[v,c,l]:=m k _ _ g A;rw[show σ[i]?=some (some v) from l] at j;cases j;exact#[c,d,l_.mpr #[_,g,A]]
theorem r8{bs:List (Option Bo)}:∀ k p,(k,p)∈ownOf Γ σ bs->∃ j d,(bs.map cR)[k]?=some (some j)/\Hld Γ j d/\σ[j]?=some (some (V.ref p)):=λk p h=>by
 let#[i,d,c,b,a]:=pj.mp h;exact#[i,d,by rw[ef,c];rfl,b,a]
noncomputable def gA (a:On):List (Option Bo):=a.map λo=>o.map Bo.v
def BA (f:On)(g:TI3)(h:TG3)(i:TE3)(Γ:G)(Q:RV->G->Prop):Prop:=g Γ λxs aa=>xs.length < sizeLine/\∃ b:Nat->List D->G->Prop,b 0 [] (gw aa (gA f))/\
 (∀ k d ys a,xs[k]?=some d->ys.length=k->b k ys a->h d a λe=>i e λr c=>b (k + 1) (ys++[r.d]) c)/\∀ ys a,ys.length=xs.length->b xs.length ys a->Q (.fr (.lst ys)) (br f aa a)
theorem Je(h:(fr.filterMap id).Nodup):∀ (k k' i:Nat),(gA fr)[k]?=some (some (Bo.v i))->(gA fr)[k']?=some (some (Bo.v i))->k=k':=by
 unfold gA;have g:∀ (l:On),(l.filterMap id).Nodup->∀ (k k' i:Nat),l[k]?=some (some i)->l[k']?=some (some i)->k=k':=by
  intro l
  induction l with
  | nil=>intro _ k k' i h;simp at h
  | cons o l f=>
   intro a k k' i h d;cases o with
   | none=>
    rw[List.filterMap_cons_none rfl] at a;cases k with
    | zero=>simp at h
    | succ k=>
     cases k' with
     | zero=>simp at d
     | succ k'=>rw[f a k k' i (by simpa using h) (by simpa using d)]
   | some j=>
    rw[show XG id (some j::l)=j::XG id l from rfl,tj] at a;have e:∀ {k:Nat},l[k]?=some (some i)->i∈l.filterMap id:=λq=>Yl.mpr #[some i,hF q,rfl];cases k with
    | zero=>
     simp at h;subst h;cases k' with
     | zero=>rfl
     | succ k'=>exact absurd (e (by simpa using d)) a.1
    | succ k=>
     cases k' with
     | zero=>
      simp at d;subst d;exact absurd (e (by simpa using h)) a.1
     | succ k'=>rw[f a.2 k k' i (by simpa using h) (by simpa using d)]
 intro k k' i c b;refine g fr h k k' i ?_ ?_
 .rw[ef] at c;cases q:fr[k]? with
  | none=>rw[q] at c;cases c
  | some o=>rw[q] at c;cases o with | none=>cases c | some j=>cases c;rfl
 .rw[ef] at b;cases q:fr[k']? with
  | none=>rw[q] at b;cases b
  | some o=>rw[q] at b;cases o with | none=>cases b | some j=>cases b;rfl
theorem wN:(gA fr).map cR=fr:=by
 unfold gA;rw[Gc]
 conv=>rhs;rw[<- af9 fr]
 refine XY λo _=>?_;cases o <;> rfl
theorem En.blk(e:En K B F σ H Γ)(f:(fr.filterMap id).Nodup):En K #[F,H,ownOf Γ σ (gA fr)] F (tQ fr σ) H (gw Γ (gA fr)):=by
 refine e.inner (by unfold tQ gA;simp) (λk bo s a b=>?_) (Je f);unfold gA at a;rw[ef] at a;cases q:fr[k]? with
 | none=>rw[q] at a;cases a
 | some o=>
  rw[q] at a;cases o with
  | none=>cases a
  | some j=>
   cases a;have:∃ d,Gat Γ j=some d:=by
    change kP Γ[j]?=_ at b;unfold kP at b;unfold Gat
    split at b <;> first | (cases b;done) | (rename_i w;rw[w];exact#[_,rfl]) | exact#[_,rfl]
   let#[d,hd]:=this;let#[v,c,_]:=e.get hd;refine#[v,?_,c];unfold tQ;rw[ef,q];simp [c]
theorem AY{O:TI3}{P:TG3}(nd:(fr.filterMap id).Nodup)(hi:Js K wi O)(hg:FF K g P)(he:Ref K te e3):Ref K (kT fr wi g (qC te)) (BA fr O P e3):=by
 intro B F σ H Γ Q QQ e q k;refine hi B F σ H Γ _ _ e q λJ H1 D c d V S R Z=>?_;let#[hz,Iv,i0,it,ie]:=Z;have eb:=S.blk nd;refine#[λi m ys b H=>m=d.length - i/\i<=d.length/\∃ E h f,aS D E/\En K #[D,H1,ownOf c σ (gA fr)] E b H h/\aN K E f ys/\f.length=i/\Iv i f h,#[_,rfl,rx _,D,_,[],aS.refl _,eb,rfl,rfl,i0],?_];rintro i m ys b C ⟨rfl,a1,F2,a,f,j,o,u,n,N⟩;have G:ys.length < sizeLine:=by rw[u.length,n];lia
 by_cases lt:i < d.length
 .refine .inr #[R.go i C (j.trans o.sub) lt,λx T y=>?_];have hd:d[i]?=some d[i]:=gE0 lt;let#[U,M,A,Y]:=R.turn j o hd y;refine hg _ U b T a x _ _ _ A Y (it i _ f a hd n N) λp t e4 q4=>?_;refine#[G,he _ U p T t _ _ e4 q4 λy H5 Z=>?_];let#[F5,s,r,L,e5,W,v]:=Z;let#[F6,I,e6,X]:=e5.frozen W;refine#[d.length - (i + 1),by lia,rfl,lt,F6,s,f++[r.d],((j.trans M).trans L).trans I,e6,?_,by simp [n],v];exact aN.append (ys:=[r.d]) (u.mono ((M.trans L).trans I)) #[y,[],rfl,X,rfl]
 .have z:i=d.length:=by lia
  subst z;refine .inl #[R.stop _ C (j.trans o.sub) rfl,G,λl w=>k _ _ ?_];have eo:En K B F2 σ C (br fr c a):=S.back (ls:=fr) o (by have:=r8 (Γ:=c) (σ:=σ) (bs:=gA fr);rw[wN] at this;exact this);exact Po.mono (V.trans j) (kr eo w u (ie f a n N))
theorem kB{i:TI3}{n:TG3}(q:X.calm=true)(j:P3I K X tg iter wi i)(r:Blk X.N X.env.scope sc Nc fr)(k:∀ ab ar C ex f,P3G K (cv X sc Nc ab ar C ex f) tg g n)(l:∀ ab ar C ex f,P3 K (cv X sc Nc ab ar C ex f) elt te e3)(o:autoParam ((fr.filterMap id).Nodup) wP)(p:autoParam (∀ x,pk iter X.env x=pure x) wT) :
  P3 K X (.ListComp elt [#[tg,iter,[],0]] sc pos) (kT fr wi g (qC te)) (BA fr i n e3):=
 #[rX (m:=λD h=>xg elt D h) q j.pe r (λa b c d e=>(k a b c d e).pe) (λa b c d e D=>rZ rfl (l a b c d e).pe) (λ_ _ _=>rfl) p,AY o j.rf (k X.ab X.ar 0 [] []).rf (l X.ab X.ar 0 [] []).rf]
theorem Cc{x:Str}{f:Pos}{n:TI3}{r:TG3}(w:X.N.Nodup)(k:X.N[i]?=some x)(t:X.env.scope.names.lookup x=some .local)(v:X.calm=true)(o:P3I K X tg iter wi n)(y:Blk X.N X.env.scope sc Nc fr)(p:∀ ab ar C ex h,P3G K (cv X sc Nc ab ar C ex h) tg g r)(q:∀ ab ar C ex h,P3 K (cv X sc Nc ab ar C ex h) elt te e3)(s:autoParam ((fr.filterMap id).Nodup) wP)(j:autoParam (Xb (.ListComp elt [#[tg,iter,[],0]] sc pos) (some (.Name x px)) f.line X.env=pure true) wE)(u:autoParam (∀ x,pk iter X.env x=pure x) wT) :
  P3S K X (.Assign [.Name x px] (.ListComp elt [#[tg,iter,[],0]] sc pos) f) (pI (kT fr wi g (qC te)) (kG i)) (Gy i (BA fr n r e3)):=
 #[A5 (m:=λD l=>xg elt D l) w k t v o.pe y (λa b c d e=>(p a b c d e).pe) (λa b c d e D=>rZ rfl (q a b c d e).pe) (λ_ _ _=>rfl) j u,DE (AY s o.rf (p X.ab X.ar 0 [] []).rf (q X.ab X.ar 0 [] []).rf)]
abbrev S3:=G->(RV->G->Prop)->Prop
def sp3 (K:Fg0)(n:Nat)(S:S3):Sp:=λvs H Q _=>vs.length=n/\∃ F own Γa a,En K #[F,H,own] F (vs.map some) H Γa/\(∀ (k:Nat) (d:D),Γa[k]?≠some (some (Sl.ow d)))/\S Γa a/\∀ r Γ',a r Γ'->∀ v H' F',En K #[F,H,own] F' (vs.map some) H' Γ'->nM K #[F,H,own] F' (vs.map some) H' Γ' v r->Q v H'
noncomputable def gf:List Bo->List Nat
 | []=>[]
 | .d _::a=>gf a
 | .v i::a=>i::gf a
noncomputable def uO (i:Nat):List Nat->Bool->Bool
 | [],b=>b
 | j::a,b=>bif i == j then false else uO i a b
noncomputable def nH:List Bo->Nat->Bool
 | .d _::a,n + 1=>nH a n
 | .v i::a,n + 1=>uO i (gf a) (nH a n)
 | [],0=>true
 | _,_=>false
theorem Bf {i:Nat}{b:Bool}:∀ {js:List Nat},uO i js b=true->i∉js/\b=true
 | [],h=>#[by simp,h]
 | j::js,h=>by
  unfold uO at h;cases e:i == j with
  | true=>rw[e] at h;cases h
  | false=>
   rw[e] at h;let#[a,b]:=Bf (js:=js) h;exact#[by simp at e;simp [e,a],b]
theorem tU:∀ {bs:List Bo} {n:Nat},nH bs n=true->bs.length=n/\(gf bs).Nodup
 | [],0,_=>#[rfl,ap7]
 | [],_ + 1,h=>by cases h
 | .d _::_,0,h=>by cases h
 | .v _::_,0,h=>by cases h
 | .d _::bs,n + 1,h=>let ⟨a,b⟩:=tU (bs:=bs) h;#[congrArg (· + 1) a,b]
 | .v i::bs,n + 1,h=>let ⟨x,y⟩:=Bf h;let ⟨a,b⟩:=tU y;#[congrArg (· + 1) a,tj.2 #[x,b]]
theorem Ld{b:Bool}:uO i [] b=b:=rfl
theorem Le{js:List Nat}{b:Bool}:uO i (j::js) b=bif i == j then false else uO i js b:=rfl
theorem Mv:nH [] 0=true:=rfl
theorem Mu{d:D}{bs:List Bo}:nH (.d d::bs) (n + 1)=nH bs n:=rfl
theorem Mt{bs:List Bo}:nH (.v i::bs) (n + 1)=uO i (gf bs) (nH bs n):=rfl
def Ai (n:Nat)(S:S3)(b:gy)(Γ:G)(Q:RV->G->Prop):Prop:=b Γ λa aa=>bT (nH a n) (S (gw aa (a.map some)) λr Γa=>Q r (br ((a.map some).map cR) aa Γa)) False ⟨⟩ ⟨⟩
theorem HS:∀ {bs:List Bo},(gf bs).Nodup->∀ (k k' i:Nat),(bs.map some)[k]?=some (some (Bo.v i))->(bs.map some)[k']?=some (some (Bo.v i))->k=k':=by
 intro bs h k k' i f e;have a:((((bs.map some).map cR)).filterMap id)=gf bs:=by
  clear h f e
  induction bs with
  | nil=>rfl
  | cons b bs c=>cases b with
   | d x=>simpa [cR,gf] using c
   | v j=>simpa [cR,gf] using c
 rw[<- a] at h;refine Je h k k' i ?_ ?_
 .unfold gA;rw[ef,ef,f];rfl
 .unfold gA;rw[ef,ef,e];rfl
theorem cO.get:∀ {h:List Bo} {vs:List V},cO K F σ h vs->∀ {k:Nat} {bo:Bo},h[k]?=some bo->∃ v,vs[k]?=some v/\vf K F σ bo v
 | [],_,_,k,bo,e=>by simp at e
 | x::j,_,⟨v,l,c,g,f⟩,0,d,e=>by subst c;simp at e;subst e;exact#[v,rfl,g]
 | x::j,_,⟨v,l,c,g,f⟩,i + 1,d,e=>by
  subst c;let#[u,a,b]:=cO.get f (k:=i) (bo:=d) (by simpa using e);exact#[u,by simpa using a,b]
theorem cO.length:∀ {a:List Bo} {vs:List V},cO K F σ a vs->vs.length=a.length
 | [],_,h=>by cases h;rfl
 | _::_,_,Z=>by let#[v,d,c,e,b]:=Z;subst c;simp [cO.length b]
theorem En.args(e:En K B F σ H Γ){bs:List Bo}(r:cO K F σ bs vs)(d:(gf bs).Nodup):En K #[F,H,ownOf Γ σ (bs.map some)] F (vs.map some) H (gw Γ (bs.map some)):=by
 refine e.inner (by simp [r.length]) (λk bo s c f=>?_) (HS d);rw[ef] at c;cases q:bs[k]? with
 | none=>rw[q] at c;cases c
 | some b=>
  rw[q] at c;cases c;let#[v,a,b]:=r.get q;exact#[v,by rw[ef,a];rfl,b]
theorem En.called(e:En K B F σ H Γ){bs:List (Option Bo)}{r:RV}(A:En K #[F,H,ownOf Γ σ bs] F' aI H' Γa)(m:nM K #[F,H,ownOf Γ σ bs] F' aI H' Γa v r) :
  aS F F'/\En K B F' σ H' (br (bs.map cR) Γ Γa)/\nM K B F' σ H' (br (bs.map cR) Γ Γa) v r:=by
 have N:=e.back A r8;refine#[A.keep,N,?_];have nw:∀ {p:Addr},H p=none->∀ (i:Nat) (x:D),Hld (br (bs.map cR) Γ Γa) i x->σ[i]?≠some (some (V.ref p)):=λ{p} n i x hx J=>by
  obtain⟨d0,w⟩:∃ d0,Hld Γ i d0:=by
   rcases hx with hx | hx <;> rw[bU] at hx
   .cases w:Γ[i]? with
    | none=>rw[w] at hx;cases hx
    | some s=>rw[w] at hx;cases s with
     | none=>cases hx
     | some s=>cases s with
      | fz d=>cases hx
      | ow d=>exact#[d,.inl w]
      | ln d=>cases hx
   .cases w:Γ[i]? with
    | none=>rw[w] at hx;cases hx
    | some s=>rw[w] at hx;cases s with
     | none=>cases hx
     | some s=>cases s with
      | fz d=>cases hx
      | ow d=>cases hx
      | ln d=>exact#[d,.inr w]
  let#[Q,a,b,c]:=e.hl i d0 w;rw[J] at a;cases a;let#[o,u]:=c.some;rw[n] at u;cases u
 cases r with
 | fz d=>exact m
 | fr d=>
  let#[p,l,k,j,h,y]:=m;exact#[p,l,k,j,e.dom p h,nw h]
 | two P O=>
  let#[t,p,q,G,E,l,k,j,h,y,M,L,g]:=m;exact#[t,p,q,G,E,l,k,j,h,y,M,L,λz f=>#[(g z f).1,e.dom z (g z f).2.1,nw (g z f).2.1]]
 | rws C=>
  let#[p,I,l,k,j,h,g]:=m;exact#[p,I,l,k,j,h,λz f=>#[(g z f).1,e.dom z (g z f).2.1,nw (g z f).2.1]]
theorem AZ{d:gy}{S:S3}(h:BN K t d):Ref K (AF (sp3 K n S) [] E t) (Ai n S d):=by
 intro B F i H m Q A e q k;refine h B F i H m _ _ e q λo C Z=>?_;let#[G,l,J,p,g,f,Z]:=Z;let#[z,u]:=rC Z;let#[x,w]:=tU z;show sp3 K n S (o++[]) C A E;rw[nT];refine#[by rw[f.length];exact x,G,_,_,_,g.args f w,tV,u,λr j q v D I y s=>?_];let#[a,b,c]:=g.called y s;exact k v D #[I,_,r,p.trans a,b,c,q]
noncomputable def Ph:Option (Option Sl)->D->Option Sl
 | some (some (.ln d)),_=>some (.ln d)
 | _,d=>some (.ln d)
noncomputable def Tq (x:Option (Option Sl)):Option Sl->Option Sl
 | some (.ln d)=>Ph x d
 | s=>s
noncomputable def ir:G->G->G
 | [],_=>[]
 | s::Γ,Γ'=>Tq Γ'.head? s::ir Γ Γ'.tail
theorem r_:∀ {Γ Γ':G} {k:Nat},(ir Γ Γ')[k]?=(Γ[k]?).map (Tq Γ'[k]?)
 | [],_,_=>rfl
 | _::_,[],0=>rfl
 | _::_,_::_,0=>rfl
 | _::Γ,[],k + 1=>r_ (Γ:=Γ) (Γ':=[]) (k:=k)
 | _::Γ,_::Γ',k + 1=>r_ (Γ:=Γ) (Γ':=Γ') (k:=k)
theorem A_:∀ {Γ Γ':G},(ir Γ Γ').length=Γ.length
 | [],_=>rfl
 | _::Γ,_=>congrArg (· + 1) (A_ (Γ:=Γ))
theorem Tn:ir [] Γ'=[]:=rfl
theorem Tp:ir (none::Γ) Γ'=none::ir Γ Γ'.tail:=rfl
theorem Tj{d:D}:ir (some (.fz d)::Γ) Γ'=some (.fz d)::ir Γ Γ'.tail:=rfl
theorem To{d:D}:ir (some (.ln d)::Γ) (some (.ln d')::Γ')=some (.ln d')::ir Γ Γ':=rfl
theorem K3{d:D}(h:Γa[k]?=some (some (Sl.ln d)))(h':Γ'[k]?=some (some (Sl.ln d'))):(ir Γa Γ')[k]?=some (some (Sl.ln d')):=by
 rw[r_,h,h'];rfl
theorem r9{s:Sl}(h:(ir Γa Γ')[k]?=some (some s)):(∃ d d',Γa[k]?=some (some (Sl.ln d))/\s=.ln d')\/(Γa[k]?=some (some s)/\∀ d,s≠.ln d):=by
 rw[r_] at h;cases w:Γa[k]? with
 | none=>rw[w] at h;cases h
 | some o=>
  rw[w] at h;cases o with
  | none=>cases h
  | some a=>
   cases a with
   | fz d=>cases h;exact .inr #[rfl,λd z=>by cases z]
   | ow d=>cases h;exact .inr #[rfl,λd z=>by cases z]
   | ln d=>
    left
    have h:Ph Γ'[k]? d=some s:=gT h;unfold Ph at h;split at h <;> cases h <;> exact#[_,_,rfl,rfl]
theorem En.out{G F:Hp}{f:List (Nat×Addr)}{i l:_2.St}(B:En K #[G,F,f] G i F Γa)(L:∀ (k:Nat) (d:D),Γa[k]?≠some (some (Sl.ow d)))(n:En K #[G,F,f] F' l H' Γ'){r:RV}(R:nM K #[G,F,f] F' l H' Γ' v r) :
  En K #[G,F,f] F' i H' (ir Γa Γ')/\nM K #[G,F,f] F' i H' (ir Γa Γ') v r:=by
 have I:∀ {k:Nat} {d:D},Γa[k]?=some (some (Sl.ln d))->∃ p o,(k,p)∈f/\i[k]?=some (some (V.ref p))/\l[k]?=some (some (V.ref p))/\Γ'[k]?=some (some (Sl.ln o))/\(ir Γa Γ')[k]?=some (some (Sl.ln o)):=λ{k d} h=>by
  let#[p,a,b,c]:=B.hl k d (.inr h);have m:=B.ln k d p h a;let#[e,o,j]:=n.par k p m;exact#[p,o,m,a,e,j,K3 h j]
 have g:∀ {k:Nat} {d:D},Hld (ir Γa Γ') k d->∃ p E,Γa[k]?=some (some (Sl.ln E))/\(k,p)∈f/\i[k]?=some (some (V.ref p))/\l[k]?=some (some (V.ref p))/\Γ'[k]?=some (some (Sl.ln d)):=λ{k d} h=>by
  rcases h with h | h
  .rcases r9 h with ⟨C,Q,_,z⟩ | ⟨z,_⟩
   .cases z
   .exact absurd z (L k d)
  .rcases r9 h with ⟨C,Q,z,_⟩ | ⟨_,z⟩
   .let#[p,o,m,a,e,j,s]:=I z;rw[h] at s;cases s;exact#[p,C,z,m,a,e,j]
   .exact absurd rfl (z d)
 refine#[#[n.sub,?_,?_,?_,?_,?_,?_,?_,n.keep,n.new,n.rest,n.dom],?_]
 .rw[A_];exact B.len
 .intro k d q;rcases r9 q with ⟨C,Q,_,z⟩ | ⟨z,_⟩
  .cases z
  .let#[u,a,b]:=B.fz k d z;exact#[u,a,b.mono n.keep]
 .intro k d q;let#[p,E,_,m,a,e,b]:=g q;let#[H,x,y,z]:=n.hl k d (.inr b);rw[e] at x;cases x;exact#[p,a,y,z]
 .intro k d p q;rcases r9 q with ⟨C,Q,_,z⟩ | ⟨z,_⟩
  .cases z
  .exact absurd z (L k d)
 .intro k d p q a;let#[H,E,_,m,e,_]:=g (.inr q);rw[a] at e;cases e;exact m
 .intro k k' d o p Z Y a1 a2;let#[p1,C,z1,_]:=g Z;let#[p2,Q,z2,_]:=g Y;exact B.dis k k' C Q p (.inr z1) (.inr z2) a1 a2
 .intro k p q;let#[a,d,b]:=B.par k p q;let#[H,o,m,e,_,_,c]:=I b;exact#[a,o,c]
 .cases r with
  | fz d=>exact R
  | fr d=>
   let#[p,P,O,N,M,S]:=R;refine#[p,P,O,N,M,λk x J a=>?_];let#[H,E,_,m,e,j,s]:=g J;rw[a] at e;cases e;exact S k x (.inr s) j
  | two xs ys=>
   let#[t,p,q,W,U,P,O,N,M,S,h6,h7,A]:=R;refine#[t,p,q,W,U,P,O,N,M,S,h6,h7,λz w=>#[(A z w).1,(A z w).2.1,λk x J a=>?_]];let#[H,E,_,m,e,j,s]:=g J;rw[a] at e;cases e;exact(A z w).2.2 k x (.inr s) j
  | rws T=>
   let#[p,X,P,O,N,M,A]:=R;refine#[p,X,P,O,N,M,λz w=>#[(A z w).1,(A z w).2.1,λk x J a=>?_]];let#[H,E,_,m,e,j,s]:=g J;rw[a] at e;cases e;exact(A z w).2.2 k x (.inr s) j
noncomputable def gE (N:Ls0)(Γa:G):G:=Γa++bw (N.length - Γa.length) none
section
variable {mg:SV0}
theorem En.start(e:En K B F (vs.map some) H Γa)(u:Γa.length<=N.length):En K B F (_2.start N vs) H (gE N Γa):=by
 have len:=e.len;rw[lM0] at len;have c:∀ {i:Nat},i < Γa.length->(_2.start N vs)[i]?=(vs.map some)[i]?:=λ{i} h=>by
  unfold _2.start;rw[eW (by rw[lM0];lia)]
 have f:∀ {i:Nat} {s:Sl},(gE N Γa)[i]?=some (some s)->i < Γa.length/\Γa[i]?=some (some s):=λ{i s} h=>by
  unfold gE at h;by_cases lt:i < Γa.length
  .rw[eW lt] at h;exact#[lt,h]
  .rw[yp (by lia)] at h;have:=hF h;rw[Rb] at this;cases this.2
 have l:∀ {i:Nat} {d:D},Hld (gE N Γa) i d->i < Γa.length/\Hld Γa i d:=λh=>by
  rcases h with h | h
  .exact#[(f h).1,.inl (f h).2]
  .exact#[(f h).1,.inr (f h).2]
 refine#[e.sub,?_,?_,?_,?_,?_,?_,?_,e.keep,e.new,e.rest,e.dom]
 .unfold _2.start gE;simp only[cn,lM0,ey];lia
 .intro i d q;let#[lt,q]:=f q;rw[c lt];exact e.fz i d q
 .intro i d q;let#[lt,q]:=l q;rw[c lt];exact e.hl i d q
 .intro i d p q a;let#[lt,q]:=f q;rw[c lt] at a;exact e.ow i d p q a
 .intro i d p q a;let#[lt,q]:=f q;rw[c lt] at a;exact e.ln i d p q a
 .intro i j d t p k g n m;let#[r,k]:=l k;let#[o,g]:=l g;rw[c r] at n;rw[c o] at m;exact e.dis i j d t p k g n m
 .intro i p q;let#[a,d,b]:=e.par i p q;have lt:i < Γa.length:=(gS0 b).1;refine#[by rw[c lt];exact a,d,?_];unfold gE;rw[eW lt];exact b
theorem ok3{x:Str}{S:S3}(F:Fun K x qual st f fd)(L:aC N ps (aj st))(J:autoParam (ps.length<=N.length) wP)(hbody:∀ (c:Value) (A:Around) (outer:List Env) (s:Shared) (H:Hp) (E:XK),cy k (A.deeper (envOfC qual (aj st) s.heap.objs.size f c))->
   ∃ t t3,lB K (lA CX0 P w K mg base N qual (aj st) f c A outer s H E).nox (hV st) t t3/\∀ Γa Q,S Γa Q->Γa.length=ps.length->t3 { nx:=λΓ'=>Q (.fz .non) (ir Γa Γ'),rt:=λr Γ'=>Q r (ir Γa Γ') } (gE N Γa)) :
  aT P w K mg base CX0 (k + 1) f fd ps (sp3 K ps.length S):=by
 refine F.ok L (λu H Q E h=>h.1) λc A outer s H u Q E D h=>?_;let#[G,p,j,Γa,m,e,d,I,o]:=h;let#[t,t3,n,C]:=hbody c A outer s H E D;have g:Γa.length=ps.length:=by rw[<- e.len,lM0];exact G
 refine#[t,n.pe,n.rf #[p,H,j] p _ H _ _ { nx:=λΓ'=>m (.fz .non) (ir Γa Γ'),rt:=λr Γ'=>m r (ir Γa Γ') } (e.start (N:=N) (by rw[g];exact J)) #[?_,?_,λ_ _ _ _ _ _ z=>ke z,λ_ _ _ _ _ _ z=>ke z] (C Γa m I g)]
 .intro O i M Γ' y l q;let#[a,b]:=e.out d l (v:=.non) (r:=.fz .non) rfl;exact o _ _ q _ _ _ a b
 .intro O i M Γ' v r y l B q;let#[a,b]:=e.out d l B;exact o _ _ q _ _ _ a b
end
section
variable {C:Addr}{x m:Str}{p:Pos}{t3:gy}{o3:TB3}{S:S3}
theorem aH(F:aT X.prog X.w X.K X.mg X.base CX0 k f fd ps (sp3 K n S))(d:cy k X.A)(g:X.mg x=some (.ref f))(hk:kv X.K (.ref f)=true)(j:Binds X.K fd ps [])(c:BO K X (e::es) t t3)(b:autoParam (Vjj x) wP)(i:autoParam (Vjk X e es) wE)(a:autoParam (Vjq pos X es) wE)(l:autoParam (X.K=K) wE)(h:autoParam (Gl X x) wE) :
  P3 K X (.Call (.Name x p) (e::es) [] pos) (AF (sp3 K n S) [] E0 t) (Ai n S t3):=#[KR F d h g hk j .nil yi c.pe b i a,AZ c.rf]
theorem Hr(g:X.K=K)(F:aT X.prog X.w X.K X.mg X.base CX0 k f fd ps (sp3 K n S))(b:cy k X.A)(d:Gl X x)(c:X.mg x=some (.ref f))(hk:kv X.K (.ref f)=true)(e:Binds X.K fd ps [])(a:autoParam (Vjj x) wP) :
  P3 K X (.Call (.Name x p) [] [] pos) (AF (sp3 K n S) [] E0 nJ) (Ai n S Lg):=#[Hh F b d c hk e .nil yi a,AZ (ag (X:=X)).rf]
def lO (C:Addr)(m:Str)(n:Nat)(S:S3)(d:TB3)(c:gy)(Γ:G)(Q:RV->G->Prop):Prop:=d Γ λx aa=>(∃ ns xs,x.at aa=some (.ins C ns xs)/\m∉ns)/\c aa λb a=>bT (nH (x::b) n) (S (gw a ((x::b).map some)) λr Γa=>Q r (br (((x::b).map some).map cR) a Γa)) False ⟨⟩ ⟨⟩
theorem Fj{c:Ls0}:∀ {b:List (Str×V)} {m:Str},b.map (·.1)=c->m∉c->b.lookup m=none:=by
 induction c with
 | nil=>intro b m h _;cases b with | nil=>rfl | cons=>cases h
 | cons a c e=>
  intro b m h d;cases b with
  | nil=>cases h
  | cons g b=>
   simp only[gr,Ot] at h;let#[rfl,h]:=h;rw[dk,not_or] at d;let#[f,i]:=g;rw[eS,show (m == f)=false from beq_eq_false_iff_ne.mpr d.1];exact e h d.2
theorem AW(J:xu K ta o3)(N:BN K t t3):Ref K (AE C m (sp3 K n S) [] E0 ta t) (lO C m n S o3 t3):=by
 intro B F d H w Q QQ e q G;refine J B F d H w _ _ e q λv H0 Z=>?_;let#[F0,f,Y,x,l,j,#[ns,xs,I,M],D]:=Z;let#[p,U,R,rfl,P,O,h3]:=l.bo j I;refine#[p,U,R,rfl,P,Fj O M,N B F0 d H0 f _ _ l D λg H1 Z=>?_];let#[o,u,X,h,k,z,Z]:=Z;let#[W,A]:=rC Z;let#[L,E]:=tU W;show sp3 K n S (V.ref p::(g++[])) H1 QQ E0;rw[nT];have i:cO K o d (Y::X) (V.ref p::g):=#[_,_,rfl,j.mono h,z];refine#[by rw[i.length];exact L,o,_,_,_,k.args i E,tV,A,λr s q v H' F' T y=>?_];let#[a,b,c]:=k.called T y;exact G v H' #[F',_,r,(x.trans h).trans a,b,c,q]
theorem jf{pl:Sem Bool}(d:P3B K X o ta o3)(c:Cls X.K C)(j:Meth X.K C m f)(F:aT X.prog X.w X.K X.mg X.base CX0 k f fd ps (sp3 K n S))(i:cy k X.A)(l:Binds X.K fd ps [])(g:BO K X (e::es) t t3)(a:autoParam (Vjk X e es) wE)(b:autoParam (Vjq pos X es) wE)(h:autoParam (eval (.Call (.Attribute o m apos) (e::es) [] pos) X.env=(do
   let I <- eval o X.env
   VS apos.atName
   let (f,first) <- holding [I] (XJ I m pl)
   af3 pos f first (backTo pos (bp (e::es) X.env)) (Wm pos (DM [] X.env)))) wE)(p:autoParam (X.K=K) wE) :
  P3 K X (.Call (.Attribute o m apos) (e::es) [] pos) (AE C m (sp3 K n S) [] E0 ta t) (lO C m n S o3 t3):=#[KN d.pe c j F i l .nil yi g.pe a b h,AW d.rf g.rf]
theorem aK{pl:Sem Bool}(a:P3B K X o ta o3)(c:Cls X.K C)(e:Meth X.K C m f)(F:aT X.prog X.w X.K X.mg X.base CX0 k f fd ps (sp3 K n S))(d:cy k X.A)(g:Binds X.K fd ps [])(b:autoParam (eval (.Call (.Attribute o m apos) [] [] pos) X.env=(do
   let I <- eval o X.env
   VS apos.atName
   let (f,first) <- holding [I] (XJ I m pl)
   af3 pos f first (backTo pos (bp [] X.env)) (Wm pos (DM [] X.env)))) wE)(h:autoParam (X.K=K) wE) :
  P3 K X (.Call (.Attribute o m apos) [] [] pos) (AE C m (sp3 K n S) [] E0 ta nJ) (lO C m n S o3 Lg):=#[Ha a.pe c e F d g .nil yi b,AW a.rf (ag (X:=X)).rf]
theorem P3.or{t t':TE}{c b:TE3}(h:P3 K X e t c)(h':P3 K X e t' b):P3 K X e (λσ H Q=>t σ H Q\/t' σ H Q) (λΓ Q=>c Γ Q\/b Γ Q):=
 #[λa s σ H Q I q=>q.elim (h.pe a s σ H Q I) (h'.pe a s σ H Q I),λB F σ H Γ Q d e q k=>q.imp (λq=>h.rf B F σ H Γ Q d e q k) (λq=>h'.rf B F σ H Γ Q d e q k)]
theorem ph(M:Mk0 X.K C)(i:X.mg x=some (.ref C))(c:autoParam (Vjj x) wP)(j:autoParam (Gl X x) wE):P3 K X (.Call (.Name x p) [] [] pos) (Du C) (λΓ Q=>Q (.fr (.ins C [] [])) Γ):=
 #[EV M j i c,λB F l H Γ Q m e q k=>λy g f b h=>k _ _ (by
  have d:=e.alloc b (.own y);have a:(upd H g (.own y)) y=none:=by rw[ao (ky h)];exact f
  exact#[F,Γ,.fr (.ins C [] []),aS.refl F,d.alloc a _,#[y,rfl,d.nof a,#[g,[],aB,rfl,rfl],e.dom _ f,d.qY a],q])]
end
section
variable {p:Pos}{x:Str}
theorem yk{n:String}(c:X.mg x=none)(b:autoParam (x≠"__name__") wP)(hd:autoParam (Vjj x) wP)(d:autoParam (Gl X x) wE)(a:autoParam (Jv x=some (.type n)) wK9):P3 K X (.Name x pos) (tC (.ty n)) (t3C (.ty n)):=
 #[KS (v:=.ty n) d c a rfl b hd,uK λ_=>rfl]
theorem we(i:Nat){y:Str}{k:Expr}{a:TE}(b:P3B K X (.Name y px) (i9 i) (bor i))(hk:P3B K X k a k3)(c:P3 K X e te e3)(g:autoParam (∀ v,assign (.Subscript (.Name y px) k p2) X.env v=(do
   let I <- holding [v] (eval (.Name y px) X.env)
   let O <- holding [v,I] (eval k X.env)
   VS p2
   holding [v,I,O] (setItem I O v)
   release [v,I,O] [])) wT)(f:autoParam (Ri [.Subscript (.Name y px) k p2] e pos.line X.env=pure false) wE)(d:autoParam (Rj [.Subscript (.Name y px) k p2] e X.env=pure none) wE)(h1:autoParam ((lg [.Subscript (.Name y px) k p2] X.env).map (·.2)=[assign (.Subscript (.Name y px) k p2) X.env]) wE) :
  P3S K X (.Assign [.Subscript (.Name y px) k p2] e pos) (pI te (Io (i9 i) a A2)) (Dz i k3 e3):=JY i b hk c (wo c.pe (G9 b.pe hk.pe set_list g) f d h1)
end
theorem Vn{b:Type}{a:b}{l:List b}:atI (a::l) 0=some a:=by
 unfold _2.atI ixN;simp
theorem Vm{c:Type}{a b:c}{l:List c}:atI (a::b::l) 1=some b:=by
 have:ixN (a::b::l).length 1=some 1:=by
  unfold ixN;rw[if_pos (by decide),if_pos (by simp;lia)];rfl
 unfold _2.atI;rw[this];rfl
theorem Vl{d:Type}{a b c:d}{l:List d}:atI (a::b::c::l) 2=some c:=by
 have:ixN (a::b::c::l).length 2=some 2:=by
  unfold ixN;rw[if_pos (by decide),if_pos (by simp;lia)];rfl
 unfold _2.atI;rw[this];rfl
theorem Vk{e:Type}{a b c d:e}{l:List e}:atI (a::b::c::d::l) 3=some d:=by
 have:ixN (a::b::c::d::l).length 3=some 3:=by
  unfold ixN;rw[if_pos (by decide),if_pos (by simp;lia)];rfl
 unfold _2.atI;rw[this];rfl
theorem Qi:ixN 3 0=some 0:=rfl
theorem Qh:ixN 3 1=some 1:=rfl
theorem Qg:ixN 3 2=some 2:=rfl
theorem iD{a:Type}{xs:List a}{k:Int}{d:a}(h:0<=k)(e:xs[k.toNat]?=some d):atI xs k=some d:=by
 obtain⟨j,rfl⟩:∃ j:Nat,k=(j:Int):=#[k.toNat,by lia];exact Mr (by simpa using e)
theorem Mp{a:Li0}{k:Int}(b:0<=k)(h1:k < (a.length:Int)):atI a k=some (a.getD k.toNat 0):=by
 refine iD b ?_;have:k.toNat < a.length:=by lia
 rw[gE0 this];simp [am6,this]
theorem Ek{a:Type}{xs:List a}{k:Int}(b:0<=k)(h1:k < (xs.length:Int)):∃ d,atI xs k=some d/\d∈xs:=by
 have:k.toNat < xs.length:=by lia
 exact#[xs[k.toNat],iD b (gE0 this),YW this]
section
variable {mg:SV0}
def Ng (n:Nat):S3:=λΓ Q=>∃ ns:Li0,Γ=[some (.fz (.scr ns))]/\ns.length<=n/\∀ Γ',Q (.fz (.bl true)) Γ'
theorem P7(F:aT P w K mg base CX0 k f fd ps (sp3 K 1 (Ng n))) :
  aT P w K mg base CX0 k f fd ps (λvs H Q _=>∃ (p:Addr) (ns:Li0),vs=[.ref p]/\SqL K H p (ns.map V.int)/\ns.length<=n/\∀ H',Q (.bl true) H'):=by
 refine F.imp λvs H Q E h=>?_;let#[p,ns,rfl,l,m,q]:=h;have a:∀ {i:Nat} {s:Sl},([some (Sl.fz (.scr ns))]:G)[i]?=some (some s)->i=0/\s=.fz (.scr ns):=λ{i s} h=>by
  cases i with
  | zero=>cases h;exact#[rfl,rfl]
  | succ i=>cases h
 refine#[rfl,H,[],[some (.fz (.scr ns))],λr _=>r=.fz (.bl true),#[aS.refl H,rfl,?_,?_,?_,?_,?_,?_,aS.refl H,λb o h=>.inl h,λb o h _=>h,λb h=>h],?_,#[ns,rfl,m,λ_=>rfl],?_]
 .intro i d h;let#[rfl,e]:=a h;cases e;exact#[_,rfl,p,rfl,l]
 .intro i d h;rcases h with h | h <;> cases (a h).2
 .intro i d p h;cases (a h).2
 .intro i d p h;cases (a h).2
 .intro i j d e p h;rcases h with h | h <;> cases (a h).2
 .intro i p h;cases h
 .intro k d h;cases (a h).2
 .intro r c e v H' t _ g;subst e;have:v=.bl true:=g;subst this;exact q H'
end
open PySem _2 PySem.Spec PySem.SeqAt
noncomputable def b2 (b:Bool):Int:=if b then 1 else 0
mutual
noncomputable def eqN:Nat->D->D->Option Bool
 | _,.non,.non=>some true
 | _,.bl a,.bl b=>some (a == b)
 | _,.int a,.int b=>some (a == b)
 | _,.str a,.str b=>some (a == b)
 | n + 1,.lst xs,.lst ys=>iU n xs ys
 | n + 1,.tup xs,.tup ys=>iU n xs ys
 | _,_,_=>none
noncomputable def iU:Nat->List D->List D->Option Bool
 | _,[],[]=>some true
 | n,x::xs,y::ys=>match eqN n x y,iU n xs ys with
  | some a,some b=>some (a && b)
  | _,_=>none
 | _,_,_=>some false
end
theorem Bv {n:Nat}:∀ {xs ys:List D} {k:Bool},iU n xs ys=some k->xs.length≠ys.length->k=false
 | [],[],_,_,h=>absurd rfl h
 | x::xs,[],_,e,_=>by unfold iU at e;cases e;rfl
 | [],y::ys,_,e,_=>by unfold iU at e;cases e;rfl
 | x::xs,y::ys,k,e,h=>by
  unfold iU at e;split at e
  .rename_i a b d c;cases e;rw[Bv c (by simpa using h),YD]
  .cases e
theorem xf {n:Nat}:∀ {xs ys:List D} {k:Bool},iU n xs ys=some k->∃ e:Nat->Bool,(∀ (j:Nat) x y,xs[j]?=some x->ys[j]?=some y->eqN n x y=some (e j))/\k=((gs (min xs.length ys.length)).all e && xs.length == ys.length)
 | [],[],k,h=>by unfold iU at h;cases h;exact#[λ_=>true,λj x y h=>by simp at h,by simp]
 | x::xs,[],k,h=>by unfold iU at h;cases h;exact#[λ_=>true,λj x y _ h=>by simp at h,by simp]
 | [],y::ys,k,h=>by unfold iU at h;cases h;exact#[λ_=>true,λj x y h=>by simp at h,by simp]
 | x::xs,y::ys,k,h=>by
  unfold iU at h;split at h
  .rename_i a b m l;cases h;let#[e,p,o]:=xf l;refine#[λj=>match j with | 0=>a | j + 1=>e j,λj g f d c=>?_,?_]
   .cases j with
    | zero=>simp at d c;subst d c;exact m
    | succ j=>exact p j g f (by simpa using d) (by simpa using c)
   .subst o;have i:min (x::xs).length (y::ys).length=min xs.length ys.length + 1:=by simp [Nat.succ_min_succ]
    rw[i,List.range_succ_eq_map,YX,List.all_map];simp only[ed,Function.comp_def,Bool.and_assoc]
    congr 1
    congr 1
    simp
  .cases h
theorem yJ {n:Nat}(l:∀ {d d':D} {v:V} {k:Bool},Rep K F d v->Rep K F d' v->eqN n d d'=some k->k=true):∀ {xs ys:List D} {vs:List V} {k:Bool},aN K F xs vs->aN K F ys vs->iU n xs ys=some k->k=true
 | [],[],_,k,_,_,e=>by unfold iU at e;cases e;rfl
 | x::xs,[],_,k,⟨v,j,c,_⟩,s,e=>by cases s;cases c
 | [],y::ys,_,k,h,⟨v,j,c,_⟩,e=>by cases h;cases c
 | x::xs,y::ys,_,k,⟨v,j,c,r,q⟩,⟨t,m,i,g,f⟩,e=>by
  subst c;cases i;unfold iU at e;split at e
  .rename_i a b p o;cases e;rw[l r g p,yJ l q f o];rfl
  .cases e
theorem D9:∀ {d d':D} {v:V} {k:Bool},Rep K F d v->Rep K F d' v->eqN n d d'=some k->k=true:=by
 induction n using ad7 with
 | ind n m=>
  intro d d' v k h c e;unfold eqN at e;split at e <;> first
   | (cases e;rfl)
   | (cases e;cases h;cases c;simp;done)
   | (cases e;cases h;cases c;done)
   | (cases e;cases h;let#[_,_,z,_]:=c;cases z;done)
   | (cases e;cases c;let#[_,_,z,_]:=h;cases z;done)
   | (let#[p,j,rfl,a,b]:=h;let#[l,g,q,f,i]:=c;cases q;rw[a] at f;cases f;exact yJ (m _ (PL _)) b i e)
   | (let#[p,j,rfl,a,b]:=h;let#[l,g,q,f,i]:=c;cases q;rw[a] at f;cases f;done)
   | (cases e;done)
section
variable {pins:Pn0}{s:Shared}
theorem Vals.at'{xs:List V}(r:Vals xs us)(h:j < us.toArray.size):∃ v,xs[j]?=some v/\RelV v (us.toArray[j]):=by
 have b:j < xs.length:=by rw[r.length];simpa using h
 let#[u,d,c]:=r.get (gE0 b);refine#[_,gE0 b,?_];have:us.toArray[j]=u:=by
  have e:j < us.length:=by simpa using h
  have a:us[j]?=some us[j]:=gE0 e;rw[d] at a;cases a;simp
 rw[this];exact c
theorem H8(I:Inv X pins σ H s)(h:H p=some (.lst vs)):∃ its:Lv0,Vals vs its/\s.heap.IsList p its.toArray:=by
 let#[its,n,r,e,_]:=I.lst h;exact#[its,r,_,e,rfl,n,rfl]
theorem HY(I:Inv X pins σ H s)(h:H p=some (.tup vs)):∃ its:Lv0,Vals vs its/\s.heap.IsTuple p its.toArray:=by
 let#[its,r,#[o,e,b,n,d],_]:=I.tuple (a:=p) (xs:=vs) (.inl (.inl h));exact#[its,r,o,e,b,n,d]
theorem IH{ws:List V}{zs:Lv0}{e:Nat->Bool}(q:∀ {d d':D} {v f:V} {u g:Value} {k:Bool},Rep K F d v->Rep K F d' f->RelV v u->RelV f g->eqN n d d'=some k->EqAt A s u g k)(m:aN K F xs vs)(l:aN K F ys ws)(p:Vals vs us)(o:Vals ws zs)(z:∀ (j:Nat) x y,xs[j]?=some x->ys[j]?=some y->eqN n x y=some (e j)) :
  ∀ j (h1:j < us.toArray.size) (h2:j < zs.toArray.size),EqAt A s us.toArray[j] zs.toArray[j] (e j):=λj h1 h2=>by
 let#[v,t,h]:=Vals.at' p h1;let#[w,r,a]:=Vals.at' o h2;let#[d,hd,i]:=m.LQ t;let#[d',c,b]:=l.LQ r;exact q i b h a (z j d d' hd c)
theorem A0{q:Addr}{ws:List V}{k:Bool}(I:Inv X pins σ H s)(G:∀ {d d':D} {v l:V} {u o:Value} {k:Bool},Rep K F d v->Rep K F d' l->RelV v u->RelV l o->eqN n d d'=some k->EqAt A.in1 s u o k)(h1:H p=some (.lst vs))(J:H q=some (.lst ws))(x:aN K F xs vs)(w:aN K F ys ws)(C:iU n xs ys=some k)(h:A.units < cLine):RcAt A s (.ref p) (.ref q) k/\RcNeAt A s (.ref p) (.ref q) (!k):=by
 let#[m,B,f]:=H8 I h1;let#[j,y,c]:=H8 I J;have b:m.toArray.size=xs.length:=by rw[<- x.length,B.length];simp
 have i:j.toArray.size=ys.length:=by rw[<- w.length,y.length];simp
 by_cases a:xs.length=ys.length
 .let#[e,g,rfl]:=xf C;have E:=IH G x w B y g;have t:=RcAt.lists f c (by rw[b,i,a]) h E;have r:=RcNeAt.lists f c (by rw[b,i,a]) h E;rw[b,a] at t r;rw[a,ad1,beq_self_eq_true,Bool.and_true];exact#[t,r]
 .rw[Bv C a];have z:(m.toArray.size != j.toArray.size)=true:=by rw[b,i,bne_iff_ne];exact a
  exact#[RcAt.lists_lengths f c z h,RcNeAt.lists_lengths f c z h]
theorem yh{q:Addr}{ws:List V}{k:Bool}(I:Inv X pins σ H s)(B:∀ {d d':D} {v a:V} {u b:Value} {k:Bool},Rep K F d v->Rep K F d' a->RelV v u->RelV a b->eqN n d d'=some k->EqAt A.in1 s u b k)(h1:H p=some (.tup vs))(E:H q=some (.tup ws))(i:aN K F xs vs)(h:aN K F ys ws)(C:iU n xs ys=some k)(r:A.units < cLine):RcAt A s (.ref p) (.ref q) k/\RcNeAt A s (.ref p) (.ref q) (!k):=by
 let#[x,l,o]:=HY I h1;let#[w,j,m]:=HY I E;have z:x.toArray.size=xs.length:=by rw[<- i.length,l.length];simp
 have y:w.toArray.size=ys.length:=by rw[<- h.length,j.length];simp
 let#[e,g,rfl]:=xf C;have t:=IH B i h l j g;have f:=RcAt.tuples o m r t;have c:=RcNeAt.tuples o m r t;rw[z,y] at f c;exact#[f,c]
theorem IB(I:Inv X pins σ H s)(l:aS F H):∀ (n:Nat) {A:Around} {d d':D} {v i:V} {u j:Value} {k:Bool},A.units + n < cLine->Rep K F d v->Rep K F d' i->RelV v u->RelV i j->eqN n d d'=some k->EqAt A s u j k:=by
 intro n
 induction n with
 | zero=>
  intro A d d' v i u j k O r b q a e;unfold eqN at e;split at e <;> (try (cases e;done)) <;> (try (rename_i h;cases h;done)) <;> cases r <;> cases b
  .cases e;cases q;cases a;exact ac2 _
  .cases e;cases q;cases a;exact .bool_bool _ _
  .cases e;let#[t,rfl]:=q;let#[o,rfl]:=a;exact .int_int _ _ _ _
  .cases e;let#[t,rfl]:=q;let#[o,rfl]:=a;exact .str_str _ _ _ _
 | succ n E=>
  intro A d d' v i u j k O r b q a e;have g:A.units < cLine:=by lia
  have f:A.in1.units + n < cLine:=by show A.units + 1 + n < cLine;lia
  have G:=e;unfold eqN at e;split at e
  .cases r;cases b;cases e;cases q;cases a;exact ac2 _
  .cases r;cases b;cases e;cases q;cases a;exact .bool_bool _ _
  .cases r;cases b;cases e;let#[t,rfl]:=q;let#[o,rfl]:=a;exact .int_int _ _ _ _
  .cases r;cases b;cases e;let#[t,rfl]:=q;let#[o,rfl]:=a;exact .str_str _ _ _ _
  ·
   rename_i N L J h;cases h;have w:=r;have c:=b;let#[p,M,rfl,C,y]:=r;let#[x,m,rfl,B,b2]:=b;cases q;cases a;by_cases z:p=x
   .subst z;rw[D9 w c G];exact ac2 _
   .exact .of_refs z (A0 I (λr b q a e=>E f r b q a e) (l _ _ C) (l _ _ B) y b2 e g).1
  ·
   rename_i N L J h;cases h;have w:=r;have c:=b;let#[p,M,rfl,C,y]:=r;let#[x,m,rfl,B,b2]:=b;cases q;cases a;by_cases z:p=x
   .subst z;rw[D9 w c G];exact ac2 _
   .exact .of_refs z (yh I (λr b q a e=>E f r b q a e) (l _ _ C) (l _ _ B) y b2 e g).1
  .cases e
def GS (K:Fg0)(n:Nat)(a:Bool):R2:=λx y H Q=>∃ F d d' k,aS F H/\jk K F H d x/\jk K F H d' y/\eqN (n + 1) d d'=some k/\Q (.bl (a ^^ k)) H
theorem MY(I:Inv X pins σ H s)(g:aS F H)(n:Nat){d:D}{w:V}{i:Value}{k:Bool}(G:A.units + n + 1 < cLine)(r:jk K F H d v)(a:jk K F H d' w)(q:RelV v u)(b:RelV w i)(e:eqN (n + 1) d d'=some k):RcAt A s u i k/\RcNeAt A s u i (!k):=by
 have f:A.units < cLine:=by lia
 have c:A.in1.units + n < cLine:=by show A.units + 1 + n < cLine;lia
 unfold eqN at e;split at e
 .cases r;cases a;cases e;cases q;cases b;exact#[.none_none,.none_none]
 .cases r;cases a;cases e;cases q;cases b;exact#[.bool_bool _ _,.bool_bool _ _]
 .cases r;cases a;cases e;let#[t,rfl]:=q;let#[B,rfl]:=b;exact#[.int_int _ _ _ _,.int_int _ _ _ _]
 .cases r;cases a;cases e;let#[t,rfl]:=q;let#[B,rfl]:=b;exact#[.str_str _ _ _ _,.str_str _ _ _ _]
 .rename_i E y x j;cases j;let#[p,z,rfl,o,l]:=r;let#[C,h,rfl,m,b2]:=a;cases q;cases b;exact A0 I (λr a q b e=>IB I g _ c r a q b e) o m l b2 e f
 .rename_i E y x j;cases j;let#[p,z,rfl,o,l]:=r;let#[C,h,rfl,m,b2]:=a;cases q;cases b;exact yh I (λr a q b e=>IB I g _ c r a q b e) (g _ _ o) (g _ _ m) l b2 e f
 .cases e
theorem Pw(l:X.K=K)(i:X.A.units + n + 1 < cLine):OpR X (Fk .Eq) (GS K n false):=by
 intro a s j H x y v u Q I f c h;let#[F,d,m,k,b,r,g,e,q]:=h;refine(MY I b n i r g f c e).1 _ _ _ _ (c6 I q (by simp))
def L4 (n:Nat)(a:Bool)(x y:D)(Γ:G)(Q:RV->G->Prop):Prop:=∃ k,eqN (n + 1) x y=some k/\Q (.fz (.bl (a ^^ k))) Γ
theorem IC{a:Bool}:oX K (GS K n a) (L4 n a):=by
 intro B F i H j x y h g Q l e d c q k;let#[b,f,q]:=q;exact#[F,h,g,b,e.sub,d,c,f,k _ _ (lK e q)]
theorem bF(a:cy k X.A)(b:autoParam (X.K=K) wE):C3 K X .Eq (GS K 20 false) (L4 20 false):=#[Pw b (by have:=a.un;lia),IC]
theorem Pp(l:X.K=K)(i:X.A.units + n + 1 < cLine):OpR X (Fk .NotEq) (GS K n true):=by
 intro a s j H x y v u Q I f c h;let#[F,d,m,k,b,r,g,e,q]:=h;refine(MY I b n i r g f c e).2 _ _ _ _ (c6 I q (by simp))
theorem dX(a:cy k X.A)(b:autoParam (X.K=K) wE):C3 K X .NotEq (GS K 20 true) (L4 20 true):=#[Pp b (by have:=a.un;lia),IC]
theorem yL {n:Nat}:∀ (xs ys:Li0),iU n (xs.map .int) (ys.map .int)=some (decide (xs=ys))
 | [],[]=>by simp [iU]
 | x::xs,[]=>by simp [iU]
 | [],y::ys=>by simp [iU]
 | x::xs,y::ys=>by
  simp only[gr,iU,yL xs ys,eqN]
  congr 1
  rw[TM];simp
theorem xc(xs ys:Li0):eqN (n + 1) (.lst (xs.map .int)) (.lst (ys.map .int))=some (decide (xs=ys)):=by
 unfold eqN;exact yL xs ys
end
noncomputable abbrev pX:=List D->G->(List D->G->Prop)->Prop
noncomputable def PoL (K:Fg0)(B:Bs)(F:Hp)(Q:List D->G->Prop):List V->_2.St->Hp->Prop:=λb ay H'=>∃ F' Γ' a,aS F F'/\En K B F' ay H' Γ'/\aN K F' a b/\Q a Γ'
def vh (K:Fg0)(t:TB)(b:pX):Prop:=∀ (B:Bs) (F:Hp) (σ:_2.St) (H:Hp) (Γ:G) (ys:List V) (ds:List D) (Q:List D->G->Prop) (QQ:List V->_2.St->Hp->Prop),En K B F σ H Γ->aN K F ds ys->b ds Γ Q->(∀ a ay H',PoL K B F Q a ay H'->QQ a ay H')->t ys σ H QQ
structure Rx (K:Fg0) (Y:Cx) (D:Addr) (m:Sem Fin->Sem Fin) (t:TB) (b3:pX):Prop where
 pe:PB RL Y D m t
 rf:vh K t b3
def Bx (a:TE3)(ys:List D)(Γ:G)(Q:List D->G->Prop):Prop:=ys.length < sizeLine/\a Γ λr aa=>Q (ys++[r.d]) aa
set_option backward.eqns.nonrecursive false in
def Mm (a:TT3)(c:pX)(ys:List D)(Γ:G)(Q:List D->G->Prop):Prop:=a Γ λb aa=>match b with
 | true=>c ys aa Q
 | false=>Q ys aa
def DS (xs:List D)(b:TG3)(c:pX)(ys:List D)(Γ:G)(Q:List D->G->Prop):Prop:=∃ a:Nat->List D->G->Prop,a 0 ys Γ/\(∀ k d ys Γ,xs[k]?=some d->a k ys Γ->b d Γ λΓ'=>c ys Γ' (a (k + 1)))/\∀ ys Γ,a xs.length ys Γ->Q ys Γ
def GF (a:TI3)(b:TG3)(c:pX)(ys:List D)(Γ:G)(Q:List D->G->Prop):Prop:=a Γ λxs aa=>DS xs b c ys aa Q
def xi (b:On)(c:TI3)(d:TG3)(e:pX)(Γ:G)(Q:RV->G->Prop):Prop:=c Γ λxs aa=>DS xs d e [] (gw aa (gA b)) λys a=>ys.length < sizeLine/\Q (.fr (.lst ys)) (br b aa a)
section
variable {Da:Addr}
theorem wk(h:Ref K te e3):vh K (qC te) (Bx e3):=by
 intro B F d H f ys o Q t e r ⟨l,q⟩ k;refine#[by rw[r.length];exact l,h B F d H f _ _ e q λv u ⟨w,a,c,s,n,g,j⟩=>k _ _ _ ?_];let#[p,b,m,i]:=n.frozen g;exact#[p,a,o++[c.d],s.trans b,m,aN.append (ys:=[c.d]) (r.mono (s.trans b)) #[v,[],rfl,i,rfl],j]
theorem DF{j:TT3}{t:TB}{l:pX}(w:vD K tc j)(h:vh K t l):vh K (bIf tc t) (Mm j l):=by
 intro B F d H o u i Q y e r q k;refine w B F d H o _ _ e q λb z Z=>?_;let#[m,a,s,g,f]:=Z;cases b with
 | true=>exact CM (h B m d z a u i Q y g (r.mono s) f λp n C ⟨A,c,x,v,rest⟩=>k _ _ _ #[A,c,x,s.trans v,rest])
 | false=>exact CN (k _ _ _ #[m,a,i,s,g,r.mono s,f])
theorem AX{C:TG3}{t:TB}{E:pX}(X:FF K g C)(h:vh K t E){ys:List V}{ds:List D}{Q:List D->G->Prop}(R:ItR K F J xs)(e:En K B F σ H Γ)(r:aN K F ds ys)(q:DS xs C E ds Γ Q)(k:∀ d ay H',PoL K B F Q d ay H'->QQ d ay H'):yY J g t ys σ H QQ:=by
 let#[Iv,W,T,U]:=q;refine#[λi m ys σ H=>m=xs.length - i/\i<=xs.length/\∃ s b ds,aS F s/\En K B s σ H b/\aN K s ds ys/\Iv i ds b,#[_,rfl,rx _,F,Γ,ds,aS.refl F,e,r,W],?_];rintro i m o l L ⟨rfl,hi,F2,a,c,f,j,w,A⟩;by_cases lt:i < xs.length
 .refine .inr #[R.go i L (f.trans j.sub) lt,λx I y=>?_];have hd:xs[i]?=some xs[i]:=gE0 lt;let#[M,v,e3,P]:=R.turn f j hd y;refine X B M l I a x _ _ _ e3 P (T i _ c a hd A) λay b Z S=>?_;exact h B M ay I b o c _ _ Z (w.mono v) S λd u H4 ⟨F4,n,d4,N,Y,O,p⟩=>#[xs.length - (i + 1),by lia,rfl,lt,F4,n,d4,(f.trans v).trans N,Y,O,p]
 .have z:i=xs.length:=by lia
  subst z;exact .inl #[R.stop _ L (f.trans j.sub) rfl,k _ _ _ #[F2,a,c,f,j,w,U c a A]]
theorem GJ{c:TI3}{d:TG3}{t:TB}{f:pX}(s:Js K wi c)(u:FF K g d)(h:vh K t f):vh K (Jj wi g t) (GF c d f):=by
 intro B F j H m y A Q C e r q k;refine s B F j H m _ _ e q λJ E G l z b v R p=>?_;exact AX u h R v (r.mono b) p λn i D ⟨x,a,w,o,rest⟩=>k _ _ _ #[x,a,w,b.trans o,rest]
theorem yf{f:TI3}{i:TG3}{t:TB}{m:pX}(u:(fr.filterMap id).Nodup)(w:Js K wi f)(x:FF K g i)(h:vh K t m):Ref K (kT fr wi g t) (xi fr f i m):=by
 intro B F σ H Γ Q I e q k;refine w B F σ H Γ _ _ e q λJ L M a E p j R s=>?_;refine AX x h R (j.blk u) (ds:=[]) rfl s λD n A ⟨C,b,G,o,z,d,v,r⟩=>#[by rw[d.length];exact v,λl c=>k _ _ ?_];have y:En K B C σ A (br fr a b):=j.back (ls:=fr) z (by have:=r8 (Γ:=a) (σ:=σ) (bs:=gA fr);rw[wN] at this;exact this);exact Po.mono (p.trans o) (kr y c d r)
theorem Mn(b:Y.xe=λ_ _=>False)(a:P3 K Y elt te e3):Rx K Y Da (xg elt Da Y.env) (qC te) (Bx e3):=#[rZ b a.pe,wk a.rf]
theorem Vg{c:Expr}{d:TT3}{m:Sem Fin->Sem Fin}{t:TB}{e:pX}(f:Y.xe=λ_ _=>False)(b:P3T K Y c tc d)(a:Rx K Y Da m t e):Rx K Y Da (ifK c Y.env m) (bIf tc t) (Mm d e):=#[Te f b.pe a.pe,DF b.rf a.rf]
theorem Ho{c:Expr}{i:TI3}{o:TG3}{p:TT3}(s:X.calm=true)(k:P3I K X tg iter wi i)(t:Blk X.N X.env.scope sc Nc fr)(l:∀ ab ar C ex f,P3G K (cv X sc Nc ab ar C ex f) tg g o)(j:∀ ab ar C ex f,P3T K (cv X sc Nc ab ar C ex f) c tc p)(n:∀ ab ar C ex f,P3 K (cv X sc Nc ab ar C ex f) elt te e3)(q:autoParam ((fr.filterMap id).Nodup) wP)(r:autoParam (∀ x,pk iter X.env x=pure x) wT) :
  P3 K X (.ListComp elt [#[tg,iter,[c],0]] sc pos) (kT fr wi g (bIf tc (qC te))) (xi fr i o (Mm p (Bx e3))):=
 #[rX (m:=λD h=>ifK c h (xg elt D h)) s k.pe t (λa b c d e=>(l a b c d e).pe) (λa b c d e D=>(Vg rfl (j a b c d e) (Mn rfl (n a b c d e))).pe) (λ_ _ _=>rfl) r,yf q k.rf (l X.ab X.ar 0 [] []).rf (DF (j X.ab X.ar 0 [] []).rf (wk (n X.ab X.ar 0 [] []).rf))]
theorem A9{l k i j:Expr}{q:TI3}{z:TG3}{h:TI}{p:TI3}{A:TG}{y:TG3}(w:X.calm=true)(s:P3I K X k l wi q)(F:Blk X.N X.env.scope sc Nc fr)(u:∀ ab ar C ex f,P3G K (cv X sc Nc ab ar C ex f) k g z)(r:∀ ab ar C ex f,P3I K (cv X sc Nc ab ar C ex f) j i h p)(t:∀ ab ar C ex f,P3G K (cv X sc Nc ab ar C ex f) j A y)(v:∀ ab ar C ex f,P3 K (cv X sc Nc ab ar C ex f) elt te e3)(n:∀ ab ar C ex f x,pk i (cv X sc Nc ab ar C ex f).env x=pure x:=by intros;rfl)(B:autoParam ((fr.filterMap id).Nodup) wP)(E:autoParam (∀ x,pk l X.env x=pure x) wT) :
  P3 K X (.ListComp elt [#[k,l,[],0],#[j,i,[],0]] sc pos) (kT fr wi g (Jj h A (qC te))) (xi fr q z (GF p y (Bx e3))):=
 #[rX (m:=λD o=>MX false elt [#[k,l,[],0],#[j,i,[],0]] sc pos 1 i D o) w s.pe F (λa b c d e=>(u a b c d e).pe)
  (λa b c d e D=>KU (b:=false) (m:=xg elt D _) rfl w (by rfl) (r a b c d e).pe (t a b c d e).pe (rZ rfl (v a b c d e).pe) (λ_=>rfl) (n a b c d e)) (λ_ _ _=>rfl) E,
  yf B s.rf (u X.ab X.ar 0 [] []).rf (GJ (r X.ab X.ar 0 [] []).rf (t X.ab X.ar 0 [] []).rf (wk (v X.ab X.ar 0 [] []).rf))]
end
theorem UX{a b:Int}:eqN n (.int a) (.int b)=some (a == b):=by cases n <;> rfl
theorem UW{a b:Str}:eqN n (.str a) (.str b)=some (a == b):=by cases n <;> rfl
theorem UY{a b:Bool}:eqN n (.bl a) (.bl b)=some (a == b):=by cases n <;> rfl
noncomputable def fo (s:Option D):Option Sl:=s.map Sl.fz
theorem QZ{s:Option Sl}:bC (s::Γ) (i + 1)=bC Γ i:=rfl
theorem Q1:bC (none::Γ) 0=True:=rfl
theorem QW{d:D}:bC (some (.fz d)::Γ) 0=True:=rfl
theorem QX{d:D}:bC (some (.ow d)::Γ) 0=True:=rfl
theorem UM{s:Option Sl}:frB (s::Γ) (i + 1)=frB Γ i:=rfl
theorem UO:frB (none::Γ) 0=true:=rfl
theorem UJ{d:D}:frB (some (.fz d)::Γ) 0=true:=rfl
theorem UK{d:D}:frB (some (.ow d)::Γ) 0=true:=rfl
theorem UN{s:Option D}:frB (fo s::Γ) 0=true:=by cases s <;> rfl
theorem Q0{s:Option D}:bC (fo s::Γ) 0=True:=by cases s <;> rfl
end _3
variable {i3:_3.TI3}{g3:_3.TG3}{b3 a3 k3 o3:_3.TB3}{Γ aa Γ' Γa:_3.G}{Q:_3.RV->_3.G->Prop}{e3 l3 f3:_3.TE3}{xs ys:List _3.D}{t3:_3.TA3}{B:_3.Bs}{ns:Ls0}{e a e0:YP}{C0 q az:Xz}{px p2 p pos' np hpos tp:al8}{S:_3.S3}{E:_2.St->_2.XK}{m g:Nat}{z nm y:Zq}{l:List (Zq×Xz)}{h3:_3.TO3}{D1 E1 D3:_3.E3}{QB:_3.Bo->_3.G->Prop}{QO:Option Int->_3.G->Prop}{u ts:_2.TS}{A3:_3.TT3}{s3 u3:_3.TS3}{r:_2.V->List _2.V->_2.Hp->_2.VK->Prop}{F0 H0:_2.Hp}{tc:_2.TT}{body suite ss:List ai4}{aD:ai4}{cs:List Nat}{ay:_2.St}{qs own Cs:La0}{xss:List (List _3.D)}{items:Array SB}
universe u
namespace _3
open PySem _2 PySem.Spec
def NF (c:On)(a:TI3)(b:TG3)(d:TE3)(Γ:G)(Q:RV->G->Prop)(_:Tag (c,a,b,d))(_:Tag Q):Prop:=BA c a b d Γ Q
def Q6 (a:TI3)(b:TG3)(c:TS3)(D:E3)(Γ:G)(_:Tag (a,b,c))(_:Tag D):Prop:=LV a b c D Γ
def IU (c:On)(a:TI3)(b:TG3)(d:pX)(Γ:G)(Q:RV->G->Prop)(_:Tag (c,a,b,d))(_:Tag Q):Prop:=xi c a b d Γ Q
theorem IV{a:pX}:xi fr i3 g3 a Γ Q=IU fr i3 g3 a Γ Q ⟨⟩ ⟨⟩:=rfl
theorem Ma:BA fr i3 g3 e3 Γ Q=NF fr i3 g3 e3 Γ Q ⟨⟩ ⟨⟩:=rfl
theorem Q7{a:TS3}{D:E3}:LV i3 g3 a D Γ=Q6 i3 g3 a D Γ ⟨⟩ ⟨⟩:=rfl
section
variable {op:D->D->TE3}
theorem B8:nP op a3 b3 Γ Q=(a3 Γ λx aa=>b3 aa λy a=>m1 (x.at a) (λdx=>m1 (y.at a) (λb=>op dx b a Q) ⟨⟩) ⟨⟩):=rfl
theorem Ou{a:D->TE3}:EB a a3 Γ Q=(a3 Γ λx aa=>m1 (x.at aa) (λdx=>a dx aa Q) ⟨⟩):=rfl
theorem Nj{i:Int}:ix3 (.lst xs) (.int i) Γ Q=m1 (atI xs i) (λd=>Q (.fz d) Γ) ⟨⟩:=rfl
theorem T9{i:Int}:ix3 (.tup xs) (.int i) Γ Q=m1 (atI xs i) (λd=>Q (.fz d) Γ) ⟨⟩:=rfl
theorem Mh{b:List D->TE3}{a:gy}:Ef b a Γ Q=(a Γ λc aa=>mL (ats aa c) (λds=>b ds aa Q) ⟨⟩):=rfl
def mN (o:Option Nat)(k:Nat->Prop)(_:Tag k):Prop:=match o with
 | some d=>k d
 | none=>False
theorem Lq{d:Nat}{k:Nat->Prop}{t:Tag k}:mN (some d) k t=k d:=rfl
theorem JV{D:E3}:Dz i k3 e3 D Γ=(e3 Γ λr aa=>(∃ xs,c7 aa i=some xs)/\k3 aa λb a=>mL (c7 a i) (λxs=>mI (b.at a) (λk=>mN (ixN xs.length k) (λj=>D.nx (putD a i (.lst (xs.set j r.d)))) ⟨⟩) ⟨⟩) ⟨⟩):=by
 unfold Dz
 congr;funext r aa;congr;funext b a
 refine propext #[λ⟨xs,k,j,l,g,f,q⟩=>?_,λh=>?_]
 .rw[l,g];show mN (ixN xs.length k) _ ⟨⟩;rw[f];exact q
 .cases e:c7 a i with
  | none=>rw[e] at h;exact h.elim
  | some xs=>
   rw[e] at h;replace h:mI (b.at a) (λk=>mN (ixN xs.length k) (λj=>D.nx (putD a i (.lst (xs.set j r.d)))) ⟨⟩) ⟨⟩:=h;cases c:b.at a with
   | none=>rw[c] at h;exact h.elim
   | some d=>
    rw[c] at h;cases d with
    | int k=>
     replace h:mN (ixN xs.length k) (λj=>D.nx (putD a i (.lst (xs.set j r.d)))) ⟨⟩:=h;cases e3:ixN xs.length k with
     | none=>rw[e3] at h;exact h.elim
     | some j=>rw[e3] at h;exact#[xs,k,j,rfl,rfl,e3,h]
    | _=>exact h.elim
end
theorem Bn{c:Type}{l:List c}{a b:c}(h:(l++[a])[i]?=some b):l[i]?=some b\/(i=l.length/\b=a):=by
 rcases XM i l.length with q | q
 .rw[eW q] at h;exact .inl h
 .have d:i=l.length:=by
   have:=(gS0 h).1;rw[cn,ae5] at this;lia
  subst d;rw[yp (cc _),XN] at h;exact .inr #[rfl,(gT h).symm]
theorem jM{c:Type}{l:List c}{a b:c}(h:l[i]?=some b):(l++[a])[i]?=some b:=by
 rw[eW (gS0 h).1];exact h
theorem iN{b:Type}{l:List b}{a:b}:(l++[a])[l.length]?=some a:=by
 rw[yp (cc _),XN];rfl
theorem En.push(e:En K B F σ H Γ){x:Addr}{d:D}(y:nM K B F σ H Γ (.ref x) (.fr d)):En K B F (σ++[some (V.ref x)]) H (Γ++[some (Sl.ow d)]):=by
 let#[p,G,C,A,E,t]:=y;cases G;have u:=e.len;have o:∀ {i:Nat} {s:Sl},(Γ++[some (Sl.ow d)])[i]?=some (some s)->Γ[i]?=some (some s)\/(i=Γ.length/\s=.ow d):=λh=>by
  rcases Bn h with q | ⟨q,m⟩
  .exact .inl q
  .cases m;exact .inr #[q,rfl]
 have n:∀ {i:Nat} {s:Option Sl},Γ[i]?=some s->(σ++[some (V.ref x)])[i]?=σ[i]?:=λh=>by
  have lt:=(gS0 h).1;rw[eW (by lia)]
 have f:(σ++[some (V.ref x)])[Γ.length]?=some (some (V.ref x)):=by rw[<- u];exact iN
 have r:∀ {i:Nat} {c:D},Hld (Γ++[some (Sl.ow d)]) i c->Hld Γ i c\/(i=Γ.length/\c=d):=λh=>by
  rcases h with h | h
  .rcases o h with q | ⟨q,m⟩
   .exact .inl (.inl q)
   .cases m;exact .inr #[q,rfl]
  .rcases o h with q | ⟨q,m⟩
   .exact .inl (.inr q)
   .cases m
 have g:∀ {i:Nat} {c:D},Hld Γ i c->(σ++[some (V.ref x)])[i]?=σ[i]?:=λh=>by
  rcases h with h | h <;> exact n h
 refine#[e.sub,by simp [u],?_,?_,?_,?_,?_,?_,e.keep,e.new,e.rest,e.dom]
 .intro i c h;rcases o h with q | ⟨_,q⟩
  .rw[n q];exact e.fz i c q
  .cases q
 .intro i c h;rcases r h with q | ⟨rfl,rfl⟩
  .rw[g q];exact e.hl i c q
  .exact#[x,f,C,A]
 .intro i c q h a;rcases o h with z | ⟨rfl,z⟩
  .rw[n z] at a;exact e.ow i c q z a
  .rw[f] at a;cases a;exact E
 .intro i c q h a;rcases o h with z | ⟨_,z⟩
  .rw[n z] at a;exact e.ln i c q z a
  .cases z
 .intro i j c w q h v a k;rcases r h with z | ⟨rfl,rfl⟩
  .rw[g z] at a;rcases r v with l | ⟨rfl,rfl⟩
   .rw[g l] at k;exact e.dis i j c w q z l a k
   .rw[f] at k;cases k;exact absurd a (t i c z)
  .rw[f] at a;cases a;rcases r v with l | ⟨rfl,rfl⟩
   .rw[g l] at k;exact absurd k (t j w l)
   .rfl
 .intro i q h;let#[a,c,b]:=e.par i q h;exact#[by rw[n b];exact a,c,jM b]
theorem En.pop{x:Addr}{d:D}(e:En K B F (σ++[some (V.ref x)]) H (Γ++[some (Sl.ow d)])):En K B F σ H Γ/\nM K B F σ H Γ (.ref x) (.fr d):=by
 have m:σ.length=Γ.length:=by have:=e.len;simpa using this
 have g:(σ++[some (V.ref x)])[Γ.length]?=some (some (V.ref x)):=by rw[<- m];exact iN
 have k:∀ {i:Nat} {s:Option Sl},Γ[i]?=some s->(σ++[some (V.ref x)])[i]?=σ[i]?:=λh=>by
  have lt:=(gS0 h).1;rw[eW (by lia)]
 have n:Hld (Γ++[some (Sl.ow d)]) Γ.length d:=.inl iN;have l:∀ {i:Nat} {c:D},Hld Γ i c->Hld (Γ++[some (Sl.ow d)]) i c:=λh=>h.imp jM jM;have f:∀ {i:Nat} {c:D},Hld Γ i c->(σ++[some (V.ref x)])[i]?=σ[i]?:=λh=>by
  rcases h with h | h <;> exact k h
 let#[p,a,b,c]:=e.hl _ _ n;rw[g] at a;cases a;refine#[#[e.sub,m,?_,?_,?_,?_,?_,?_,e.keep,e.new,e.rest,e.dom],x,rfl,b,c,e.ow _ _ _ iN g,?_]
 .intro i c h;have:=e.fz i c (jM h)
  rwa [k h] at this
 .intro i c h;have:=e.hl i c (l h)
  rwa [f h] at this
 .intro i c q h a;exact e.ow i c q (jM h) (by rw[k h];exact a)
 .intro i c q h a;exact e.ln i c q (jM h) (by rw[k h];exact a)
 .intro i j c r q h o a u;exact e.dis i j c r q (l h) (l o) (by rw[f h];exact a) (by rw[f o];exact u)
 .intro i q h;let#[a,c,t]:=e.par i q h;rcases Bn t with z | ⟨_,z⟩
  .exact#[by rw[<- k z];exact a,c,z]
  .cases z
 .intro i c h q;have lt:i < Γ.length:=by rcases h with h | h <;> exact(gS0 h).1
  have:=e.dis i _ c d x (l h) n (by rw[f h];exact q) g
  lia
set_option backward.eqns.nonrecursive false in
noncomputable def sG (Γ:G)(i:Nat):Option (Addr×Ls0×List D):=match Γ[i]? with
 | some (some (.ow (.ins C ns xs)))=>some (C,ns,xs)
 | some (some (.ln (.ins C ns xs)))=>some (C,ns,xs)
 | _=>none
theorem pA(h:sG Γ i=some (C,ns,xs)):Hld Γ i (.ins C ns xs):=by
 unfold sG at h;split at h
 .cases h;rename_i q;exact .inl q
 .cases h;rename_i q;exact .inr q
 .cases h
theorem wm {f:Str}{v:V}:∀ {fs:List (Str×V)},f∉fs.map (·.1)->j0 f v fs=fs++[(f,v)]
 | [],_=>rfl
 | (g,x)::r,h=>by
  simp only[gr,dk,not_or] at h;show (if g=f then _ else _)=_;rw[if_neg (ky h.1),wm h.2];rfl
theorem aN.snoc(r:aN K F xs vs){d:D}{v:V}(q:Rep K F d v):aN K F (xs++[d]) (vs++[v]):=r.append #[v,[],rfl,q,rfl]
def oI (o:Option (Addr×Ls0×List D))(k:Addr->Ls0->List D->Prop):Prop:=match o with
 | some (C,ns,xs)=>k C ns xs
 | none=>False
def AM (C0:Addr)(i:Nat)(f:Str)(a:TE3)(D:E3)(Γ:G):Prop:=a Γ λr aa=>oI (sG aa i) λC ns xs=>C=C0/\(f∉ns/\ns.length < 1000)/\D.nx (putD aa i (.ins C (ns++[f]) (xs++[r.d])))
theorem GI{f:Str}(M:Cls K C0)(J:bK K C0 f)(h:Ref K te e3):MD K (GA K (i9 i) te f) (AM C0 i f e3):=by
 intro B F o H x D S N k q;refine h B F o H x _ _ N q λv R Z=>?_;let#[U,c,r,z,O,A,G]:=Z;let#[u,y,s,E]:=O.frozen A;have d:oI (sG c i) λC e j=>C=C0/\(f∉e/\e.length < 1000)/\S.nx (putD c i (.ins C (e++[f]) (j++[r.d]))):=G;cases w:sG c i with
 | none=>rw[w] at d;exact d.elim
 | some t=>
  let#[C,e,j]:=t;rw[w] at d;let#[rfl,#[L,T],d]:=d;let#[p,a,b,m,g,Q,n,P]:=s.hl i _ (pA w);refine#[_,a,p,C,m,g,rfl,Q,M,J,?_,?_]
  .have:=congrArg YZ n;rw[lM0] at this;lia
  .have l:f∉g.map (·.1):=by rw[n];exact L
   rw[wm l];have I:Own K u (upd R p (.ins C m (g++[(f,v)]))) p (.ins C (e++[f]) (j++[r.d])):=#[m,g++[(f,v)],aB,by rw[hD,n];rfl,by rw[hD];exact P.snoc E];exact k.nx u o _ _ (z.trans y) (s.Lj (pA w) a I) d
theorem eD(i:Nat){x f:Str}(h:Cls K C0)(d:bK K C0 f)(b:P3B K X (.Name x px) (i9 i) (bor i))(a:P3 K X e te e3)(c:autoParam (Xb e (some (.Attribute (.Name x px) f p2)) pos.line X.env=pure false) wE)(g:autoParam (X.K=K) wE) :
  P3S K X (.Assign [.Attribute (.Name x px) f p2] e pos) (GA K (i9 i) te f) (AM C0 i f e3):=#[by subst g;exact G2 b.pe a.pe c,GI h d a.rf]
theorem cO.push{x:V}:∀ {a:List Bo} {vs:List V},cO K F σ a vs->cO K F (σ++[some x]) a vs
 | [],_,h=>h
 | .d d::a,_,⟨v,b,f,e,c⟩=>#[v,b,f,e,cO.push c]
 | .v i::a,_,⟨v,b,f,e,c⟩=>#[v,b,f,jM e,cO.push c]
theorem cO.ds:∀ {ds:List D} {vs:List V},aN K F ds vs->cO K F σ (ds.map Bo.d) vs
 | [],_,h=>h
 | _::_,_,⟨v,a,d,c,b⟩=>#[v,a,d,c,cO.ds b]
theorem wM:∀ ds:List D,gf (ds.map Bo.d)=[]
 | []=>rfl
 | _::ds=>wM ds
theorem El(ds:List D)(Γ:G):gw Γ ((ds.map Bo.d).map some)=ds.map λd=>some (Sl.fz d):=by
 unfold gw;rw[Gc,Gc];rfl
theorem zY {cs:G}{j:Nat}:∀ ds:List D,newD (((ds.map Bo.d).map some).map cR) cs j=none
 | []=>by cases cs <;> rfl
 | _::ds=>by
  cases cs with
  | nil=>rfl
  | cons c cs=>exact zY (cs:=cs) ds
def UI (Γa:G)(k:D->Prop):Prop:=match Γa with
 | some (.ln d)::_=>k d
 | _=>False
def HM (C:Addr)(n:Nat)(S:S3)(a:TA3)(Γ:G)(Q:RV->G->Prop):Prop:=a Γ λds aa=>ds.length + 1=n/\
 S (some (.ln (.ins C [] []))::ds.map λd=>some (.fz d)) λr Γa=>r=.fz .non/\UI Γa λd=>Q (.fr d) aa
theorem GK{E:XK}(h:Jt K t t3):Ref K (Dv C (sp3 K n S) [] E t) (HM C n S t3):=by
 intro B F g H N Q QQ e q k;refine h B F g H N _ _ e q λD A Z=>?_;let#[m,aa,b,P,w,G,Y,U]:=Z;intro y f I u W;rw[nT];have x:=w.alloc u (.own y);have c:(upd A f (.own y)) y=none:=by rw[ao (ky W)];exact I
 have e2:En K B m g (upd (upd A f (.own y)) y (.ins C f [])) aa:=x.alloc c _;have R:nM K B m g (upd (upd A f (.own y)) y (.ins C f [])) aa (.ref y) (.fr (.ins C [] [])):=#[y,rfl,x.nof c,#[f,[],aB,rfl,rfl],w.dom _ I,x.qY c];have L:=e2.push R;have hl:g.length=aa.length:=w.len;have T:cO K m (g++[some (V.ref y)]) (Bo.v aa.length::b.map Bo.d) (.ref y::D):=#[_,_,rfl,by rw[<- hl];exact iN,(cO.ds G).push];have X:(gf (Bo.v aa.length::b.map Bo.d)).Nodup:=by
  show (aa.length::gf (b.map Bo.d)).Nodup;rw[wM];simp
 have eG:gw (aa++[some (Sl.ow (.ins C [] []))]) ((Bo.v aa.length::b.map Bo.d).map some)=some (.ln (.ins C [] []))::b.map λd=>some (.fz d):=by
  rw[gr,<- El b (aa++[some (Sl.ow (.ins C [] []))])];show (some (Bo.v aa.length)).bind (uE _)::_=_
  congr 1
  show kP (aa++[some (Sl.ow (.ins C [] []))])[aa.length]?=_;rw[iN];rfl
 have len:(V.ref y::D).length=n:=by rw[<- Y,ed,G.length]
 refine#[len,m,_,_,_,L.args T X,tV,by rw[eG];exact U,λr o a v H' F' e3 l=>?_];let#[rfl,a]:=a;let#[O,M,_]:=L.called e3 l;have ev:v=.non:=l;cases o with
 | nil=>exact a.elim
 | cons s i=>
  cases s with
  | none=>exact a.elim
  | some s=>
   cases s with
   | fz d=>exact a.elim
   | ow d=>exact a.elim
   | ln d=>
    have a:Q (.fr d) aa:=a;have eq:br (((Bo.v aa.length::b.map Bo.d).map some).map cR) (aa++[some (Sl.ow (.ins C [] []))]) (some (.ln d)::i)=aa++[some (Sl.ow d)]:=by
     refine WB λj=>?_;rw[bU];show ai8 (dJ (if aa.length=j then some d else newD (((b.map Bo.d).map some).map cR) i j)) _=_;by_cases J:aa.length=j
     .subst J;rw[if_pos rfl,iN,iN];rfl
     .rw[if_neg J,zY];have:(aa++[some (Sl.ow d)])[j]?=(aa++[some (Sl.ow (.ins C [] []))])[j]?:=by
       rcases XM j aa.length with z | z
       .rw[eW z,eW z]
       .rw[nA (by simp;lia),nA (by simp;lia)]
      rw[this];cases (aa++[some (Sl.ow (.ins C [] []))])[j]? with
      | none=>rfl
      | some s=>cases s with
       | none=>rfl
       | some s=>cases s <;> rfl
    rw[eq] at M;let#[e5,p]:=M.pop;exact#[ev,k _ _ #[F',aa,.fr d,P.trans O,e5,p,a]]
section
variable {x m:Str}
theorem zI(M:Mk X.K C f)(F:aT X.prog X.w X.K X.mg X.base CX0 k f fd ps (sp3 K n S))(d:cy (k + 1) X.A)(h:Gl X x)(g:X.mg x=some (.ref C))(j:Binds X.K fd ps [])(c:P3A K X (e::es) t t3)(b:autoParam (Vjj x) wP)(i:autoParam (Vjk X e es) wE)(a:autoParam (Vjq pos X es) wE) :
  P3 K X (.Call (.Name x p) (e::es) [] pos) (Dv C (sp3 K n S) [] E0 t) (HM C n S t3):=#[KO M F d h g j .nil yi c.pe b i a,GK c.rf]
end
noncomputable def signs (z:Str):List D:=z.cps.toList.map λc=>D.str (sgn c)
def oS (d:D)(k:Str->Prop):Prop:=match d with
 | .str z=>k z
 | _=>False
theorem M7{d:D}{k:Str->Prop}(h:oS d k):∃ z,d=.str z/\k z:=by
 cases d <;> first | exact h.elim | exact#[_,rfl,h]
noncomputable def asc (z:Str):Bool:=z.cps.all (· < 128)
def iS3 (a:TE3)(Γ:G)(Q:List D->G->Prop):Prop:=a Γ λr aa=>oS r.d λz=>asc z=true/\Q (signs z) aa
theorem t9(z:Str):(signs z).length=z.cps.size:=by simp [signs]
theorem Sm:ItR K F (Its z) (signs z):=by
 refine#[λi a _ lt=>by rw[t9] at lt;exact lt,λi a _ e=>by rw[t9] at e;exact Zn e.symm,λi a x g d _ hd y=>?_];let#[f,c,b,rfl]:=y;refine .inl #[f,?_];unfold signs at hd;rw[ef,Xv,b] at hd;cases hd;rfl
theorem ur{l:Expr}{tl:TE}(h:P3 K X l tl l3):P3I K X tg l (Up tl) (iS3 l3):=#[O6 h.pe,λB F d H f Q R e q k=>
 h.rf B F d H f _ _ e q λv p Z=>by
  let#[u,a,r,s,o,i,b]:=Z;let#[z,j,m,b]:=M7 b;let#[t,g,n,c]:=o.frozen i;rw[j] at c;exact#[z,c,m,k _ p t a _ (s.trans g) n Sm b]]
noncomputable def wg (lo c:Int)(n:Nat):List D:=(gs n).map λ(k:Nat)=>D.int (lo + (k:Int) * c)
theorem OM{lo c:Int}:ItR K F (RA lo c n) (wg lo c n):=by
 have a:(wg lo c n).length=n:=by simp [wg]
 refine#[λi b _ lt=>by rw[a] at lt;exact lt,λi b _ e=>by rw[a] at e;exact Zn e.symm,λi b x j d _ hd y=>?_];let#[h,g]:=y;subst h g;refine .inl #[rfl,?_];have f:i < n:=by have:=(gS0 hd).1;rw[a] at this;exact this
 have:(wg lo c n)[i]?=some (.int (lo + i * c)):=by unfold wg;rw[ef,XX f];rfl
 rw[this] at hd;cases hd
 rfl
def Ur (a:TA3)(Γ:G)(Q:List D->G->Prop):Prop:=a Γ λds aa=>∃ j:Int,ds=[.int j]/\(0<=j/\j < 2 ^ 62)/\Q (wg (j - 1) (-1) j.toNat) aa
theorem Qx{ta:TA}{h:TA3}{t:Pos}(f:Gl X "reversed")(d:X.mg "reversed"=none)(x:Gl X "range")(w:X.mg "range"=none)(g:P3A K X [a] ta h)(u:autoParam (bp [a] X.env=[(false,eval a X.env)]) wE)(c:autoParam (bp [.Call (.Name "range" p) [a] [] pos] X.env=[(false,eval (.Call (.Name "range" p) [a] [] pos) X.env)]) wE) :
  P3I K X tg (.Call (.Name "reversed" t) [.Call (.Name "range" p) [a] [] pos] [] pos') (Us ta) (Ur h):=#[O7 f d x w g.pe u c,λB F i H l Q R e q k=>
 g.rf B F i H l _ _ e q λI D Z=>by
  let#[E,b,J,s,C,m,j,A,#[z,y],r]:=Z;subst A;let#[v,G,rfl,o,n]:=m;cases o;cases n;exact#[j,rfl,z,y,k _ D E b _ s C OM r]]
section
variable {b f:Expr}{tb tf to:TE}
def oSo (d:Option D)(k:Str->Prop):Prop:=match d with
 | some (.str z)=>k z
 | _=>False
theorem PH{d:Option D}{k:Str->Prop}(h:oSo d k):∃ z,d=some (.str z)/\k z:=by
 cases d with
 | none=>exact h.elim
 | some d=>cases d <;> first | exact h.elim | exact#[_,rfl,h]
def OD (e:TB3)(c d:TO3)(Γ:G)(Q:RV->G->Prop):Prop:=e Γ λx aa=>c aa λlo b=>d b λhi a=>oSo (x.at a) λz=>z.length<=sizeLine/\Q (.fz (.str (Xc z lo hi))) a
theorem lL{lo n:Option Expr}{tl h:TO}{m:TO3}(p:P3B K X a ta a3)(b:P3O K X lo tl m)(o:P3O K X n h h3):P3 K X (.Subscript a (.Slice lo n none p2) pos) (tSl SV ta tl h) (OD a3 m h3):=
 #[wx Oy p.pe b.pe o.pe,λB F c H t Q O e q k=>p.rf B F c H t _ _ e q λx J ⟨M,f,N,v,G,y,C⟩=>b.rf B M c J f _ _ G C λl I ⟨L,d,j,E,A⟩=>o.rf B L c I d _ _ E A λu P Z=>by
  let#[R,s,i,r,g]:=Z;let#[z,D,b,g]:=PH g;have w:=r.bo ((y.mono j).mono i) D;cases w;exact#[z,rfl,b,k _ _ (Po.mono (v.trans (j.trans i)) (eM r g))]]
set_option backward.eqns.nonrecursive false in
noncomputable def dS:D->Bool
 | .str _=>true
 | _=>false
theorem NK(T:TyS X.K):B3 K X (.builtin "isinstance") (λxs H Q=>∃ x,xs=[x,.ty "str"]/\Kn H x/\Q (.bl (isS x)) H) (is3 "str" dS):=Mi (g:=λ_ v=>isS v) (IY T) λs h hk=>by
 rename_i F H d v;cases d <;> first
  | (cases h;rfl)
  | (cases hk;done)
  | (let#[p,a,rfl,_]:=h;rfl)
  | (let#[p,rfl,_]:=h;rfl)
  | (let#[p,c,b,rfl,_]:=h;rfl)
end
mutual
noncomputable def dt:D->PyData
 | .non=>.none
 | .bl b=>.bool b
 | .int i=>.int i
 | .str x=>.str x
 | .lst xs=>.list (dtL xs)
 | .tup xs=>.tuple (dtL xs)
 | .dct=>.dict []
 | .dcs k i=>.dict [(.str k,.int i)]
 | _=>.none
noncomputable def dtL:List D->List PyData
 | []=>[]
 | x::xs=>dt x::dtL xs
end
inductive Sh:Nat->Nat->D->Prop where
 | non:Sh 100 1 .non
 | bl (b:Bool):Sh 100 1 (.bl b)
 | int {i:Int} (h:i.natAbs < 10 ^ 60):Sh 100 1 (.int i)
 | str {x:Str} {n:Nat} (h:(hG (.str x)).length<=n):Sh n 1 (.str x)
 | dct:Sh 100 1 .dct
 | dcs {k:Str} {i:Int} {n:Nat} (h:i.natAbs < 10 ^ 60) (hn:(hG (.dict [(.str k,.int i)])).length<=n):Sh n 1 (.dcs k i)
 | lst {n k l:Nat} {xs:List D} (h:∀ x∈xs,Sh n k x) (hl:xs.length<=l):Sh (l * (n + 2) + 3) (k + 1) (.lst xs)
 | tup {n k l:Nat} {xs:List D} (h:∀ x∈xs,Sh n k x) (hl:xs.length<=l):Sh (l * (n + 2) + 3) (k + 1) (.tup xs)
 | up {n k n' k':Nat} {d:D} (h:Sh n k d) (h1:n<=n') (h2:k<=k'):Sh n' k' d
structure ShD (n k:Nat) (d:D):Prop where
 sh:(dt d).showable=true
 dp:(dt d).depth<=k
 ln:(dt d).shown.length<=n
 dt:∀ {K:Fg0} {F H:Hp} {v:V},aS F H->Rep K F d v->Dt K H v (dt d)
theorem LI{i:Int}(h:i.natAbs < 10 ^ 60):(hG (.int i)).length<=100:=by
 have e:=int_text_length_le10 (k:=60) (by decide) h;show (ah (toString i)).length<=100;rw[ofString_length];lia
theorem wQ{i:Int}(h:i.natAbs < 10 ^ 60):yP (.int i)=true:=by
 show decide (i.natAbs.log2 < 1920)=true;rw[decide_eq_true_eq];by_cases a:i.natAbs=0
 .rw[a];decide
 .rw[Nat.log2_lt a];exact da (show i.natAbs < 2 ^ 200 from ak4 h (by decide)) (WR (by decide) (by decide))
theorem shL {n k:Nat}:∀ {xs:List D},(∀ x∈xs,ShD n k x)->Xm (dtL xs)=true/\ro (dtL xs)<=k/\((pz (dtL xs)).map (·.length)).sum<=xs.length * n/\(pz (dtL xs)).length=xs.length/\
  ∀ {K:Fg0} {F H:Hp} {vs:List V},aS F H->aN K F xs vs->gz K H vs (dtL xs)
 | [],_=>#[rfl,by simp [dtL,ro],by simp [dtL,pz],rfl,λ_ r=>by cases r;exact .nil]
 | x::xs,h=>by
  let#[g,l,j,f,d]:=shL (xs:=xs) λy c=>h y (cb _ c);have e:=h x eH;have m:=e.ln;have o:=e.dp;refine#[?_,?_,?_,?_,λs r=>?_]
  .simp only[dtL,Xm,e.sh,g,Bool.and_self]
  .simp only[dtL,ro];lia
  .simp only[dtL,pz,gr,List.sum_cons,ed,an7,Nat.one_mul];lia
  .simp only[dtL,pz,ed,f]
  .let#[v,i,rfl,b,a]:=r;exact .cons (e.dt s b) (d s a)
theorem Sh.spec{d:D}(h:Sh n k d):ShD n k d:=by
 induction h with
 | non=>exact#[rfl,by simp [dt,oj],by decide,λ_ r=>by cases r;exact .non]
 | bl b=>exact#[rfl,by simp [dt,oj],by cases b <;> decide,λ_ r=>by cases r;exact .bl b]
 | @int i h=>exact#[wQ h,by simp [dt,oj],LI h,λ_ r=>by cases r;exact .int i]
 | @str x n h=>exact#[rfl,by simp [dt,oj],h,λ_ r=>by cases r;exact .str x]
 | @lst n k l a h j c=>
  let#[f,w,v,u,m]:=shL c;refine#[by simp only[dt,yP,f],by simp only[dt,oj];lia,?_,λs r=>?_]
  .have e:=listText_len_le (pz (dtL a));have o:(hG (dt (.lst a)))=listText (pz (dtL a)):=by simp only[dt,hG]
   rw[o];have A:a.length * n<=l * n:=ag0 _ j;have z:l * (n + 2)=l * n + l * 2:=Nat.mul_add ..;lia
  .let#[p,q,rfl,g,r]:=r;exact .lst (SqL.of (s _ _ g)) (m s r)
 | @tup n k l a h j c=>
  let#[f,w,v,u,m]:=shL c;refine#[by simp only[dt,yP,f],by simp only[dt,oj];lia,?_,λs r=>?_]
  .have e:=tupleText_len_le (pz (dtL a));have o:(hG (dt (.tup a)))=tupleText (pz (dtL a)):=by simp only[dt,hG]
   rw[o];have A:a.length * n<=l * n:=ag0 _ j;have z:l * (n + 2)=l * n + l * 2:=Nat.mul_add ..;lia
  .let#[p,q,rfl,g,r]:=r;exact .tup (.inl (.inl (s _ _ g))) (m s r)
 | dct=>exact#[rfl,by simp [dt,oj,XB],by decide,λs r=>by let#[p,rfl,h]:=r;exact .dct (s _ _ h)]
 | @dcs k i n h t=>exact#[by have:=wQ h;simp only[dt,yP,ak5] at this ⊢;simpa using this,by simp [dt,oj,XB],t,λs r=>by let#[p,rfl,h]:=r;exact .dcs k i (s _ _ h)]
 | up h f y c=>exact#[c.sh,eC c.dp y,eC c.ln f,c.dt]
set_option backward.eqns.nonrecursive false in
noncomputable def OG:D->Bool
 | .lst _=>true
 | .tup _=>true
 | _=>false
noncomputable def shw (d:D):Str:=(dt d).shown
theorem Sh.dtB{d:D}(h:Sh n k d)(E:OG d=true){v:V}(s:aS F H)(r:jk K F H d v):∃ a,v=.ref a/\Dt K H v (dt d):=by
 cases d with
 | lst b=>
  let#[p,o,rfl,g,r]:=r;refine#[p,rfl,?_];have G:∀ {n k:Nat} {d:D},Sh n k d->∀ b,d=.lst b->∀ x∈b,∃ n k,Sh n k x:=by
   intro n k d h
   induction h with
   | lst h L i=>intro b e x C;cases e;exact#[_,_,h x C]
   | up h N M i=>exact i
   | _=>intro b e;cases e
  have all:∀ {c:List D} {f:List V},(∀ x∈c,∃ n k,Sh n k x)->aN K F c f->gz K H f (dtL c):=by
   intro c
   induction c with
   | nil=>intro f _ r;cases r;exact .nil
   | cons y c i=>
    intro f l r;let#[w,m,rfl,u,t]:=r;let#[I,J,B]:=l y eH;exact .cons (B.spec.dt s u) (i (λz A=>l z (cb _ A)) t)
  exact .lst (SqL.of g) (all (G h b rfl) r)
 | tup b=>
  have j:Rep K F (.tup b) v:=r;have q:=h.spec.dt s j;let#[p,o,rfl,_]:=j;exact#[p,rfl,q]
 | _=>cases E
section
variable {f:Expr}{tf:TE}
set_option backward.eqns.nonrecursive false in
def Ir (C0:Addr)(f:Str)(x:D)(Γ:G)(Q:RV->G->Prop):Prop:=match x with
 | .ins C ns xs=>C=C0/\m1 ((ns.zip xs).lookup f) (λd=>Q (.fz d) Γ) ⟨⟩
 | _=>False
theorem bD{f:Str}(c:P3B K X a ta a3)(n:Cls K C0)(j:bK K C0 f)(l:autoParam (vr a f X.env (eval a X.env)=eval a X.env) wE)(m:autoParam (X.K=K) wE) :
  P3 K X (.Attribute a f pos) (Sk K ta f) (EB (Ir C0 f) a3):=#[by subst m;exact Pc c.pe l,Cf (r:=λx g Q=>∃ a C b fs v,x=.ref a/\g a=some (.ins C b fs)/\Cls K C/\bK K C f/\fs.lookup f=some v/\Q v g) (ta:=ta) (by
 intro B F w H y x b Q z e h q k;unfold Ir at q;split at q
 .let#[rfl,q]:=q;let#[d,hd,q]:=jJ.mp q;let#[p,b,u,rfl,t,s,o]:=h;let#[v,i,r]:=aN.lookup s o hd;exact#[p,_,b,u,v,rfl,t,n,j,i,k _ _ (ku e r q)]
 .exact q.elim) c.rf]
noncomputable def kt (zs:Ls0):D:=.ktup (zs.map .str)
structure Rz (K:Fg0) (mg:SV0) (x:Str) (p:Addr) (zs:Ls0):Prop where
 mg:mg x=some (.ref p)
 sq:∀ F:Hp,SqT K F p (zs.map V.str)
theorem aN.strs:∀ (zs:Ls0),aN K F (zs.map D.str) (zs.map V.str)
 | []=>rfl
 | z::zs=>#[_,_,rfl,rfl,aN.strs zs]
theorem kA{x:Str}{zs:Ls0}{p:Addr}(a:Rz K X.mg x p zs)(hd:autoParam (Vjj x) wP)(b:autoParam (Gl X x) wE):P3 K X (.Name x pos) (tC (.ref p)) (t3C (kt zs)):=
 #[vK b a.mg rfl hd,uK λF=>#[p,_,rfl,a.sq F,aN.strs zs]]
end
def oIt (o:Option (Addr×Ls0×List D))(k:Addr->Ls0->List D->Prop)(_:Tag k):Prop:=oI o k
theorem HC{k:Addr->Ls0->List D->Prop}{t:Tag k}:oIt (some (C,ns,xs)) k t=k C ns xs:=rfl
def oSt (o:D)(k:Str->Prop)(_:Tag k):Prop:=oS o k
theorem K_{k:Str->Prop}{t:Tag k}:oSt (.str z) k t=k z:=rfl
def PF (o:Option D)(k:Str->Prop)(_:Tag k):Prop:=oSo o k
theorem HB{k:Str->Prop}{t:Tag k}:PF (some (.str z)) k t=k z:=rfl
def Bp (o:G)(k:D->Prop)(_:Tag k):Prop:=UI o k
theorem LR{d:D}{k:D->Prop}{t:Tag k}:Bp (some (.ln d)::Γ) k t=k d:=rfl
section
variable {QI:List D->G->Prop}{f:Str}{k1 k2:Str}{d1 d2 d0:D}{l3:TO3}
theorem JW:AM C0 i f e3 D1 Γ=(e3 Γ λr aa=>oIt (sG aa i) (λC ns xs=>C=C0/\(f∉ns/\ns.length < 1000)/\D1.nx (putD aa i (.ins C (ns++[f]) (xs++[r.d])))) ⟨⟩):=rfl
theorem Uq:iS3 e3 Γ QI=(e3 Γ λr aa=>oSt r.d (λz=>asc z=true/\QI (signs z) aa) ⟨⟩):=rfl
theorem OC:OD a3 l3 h3 Γ Q=(a3 Γ λx aa=>l3 aa λlo b=>h3 b λhi a=>PF (x.at a) (λz=>z.length<=sizeLine/\Q (.fz (.str (Xc z lo hi))) a) ⟨⟩):=rfl
end
theorem BK{c:Bool}{p q:Prop}{s:Tag p}{t:Tag q}(h1:c=true->p)(a:c=false->q):bT c p q s t:=by
 cases c with
 | true=>exact h1 rfl
 | false=>exact a rfl
section
variable {QT:Bool->G->Prop}{QA:List D->G->Prop}{QL:List Bo->G->Prop}{QG:G->Prop}{is:List Nat}{t u:TS3}{c3:TB3}{B3:TT3}{tb:gy}{d:D}{l3 s3:TO3}{bb:pX}
theorem D2:EE t u D1 Γ=t { D1 with nx:=u D1 } Γ:=rfl
theorem QK:M9 D1 Γ=D1.nx Γ:=rfl
theorem D0:Gy i e3 D1 Γ=(e3 Γ λr aa=>bT (frB aa i) (D1.nx (aa.set i (some r.sl))) False ⟨⟩ ⟨⟩):=rfl
theorem Nt:J9 e3 D1 Γ=e3 Γ D1.rt:=rfl
theorem QM:II e3 D1 Γ=(e3 Γ λ_ aa=>D1.nx aa):=rfl
theorem Uy:tst e3 Γ QT=(e3 Γ λx aa=>match x.d with | .bl k=>QT k aa | _=>False):=rfl
theorem Ij:bor i Γ QB=m1 (Gat Γ i) (λ_=>QB (.v i) Γ) ⟨⟩:=rfl
theorem Nw:bof e3 Γ QB=(e3 Γ λx aa=>QB (.d x.d) aa):=rfl
theorem D4:NC a3 tb Γ QL=(a3 Γ λx aa=>tb aa λxs a=>QL (x::xs) a):=rfl
theorem Ih:Lg Γ QL=QL [] Γ:=rfl
theorem Ii:nF e3 t3 Γ QA=(e3 Γ λx aa=>t3 aa λxs a=>QA (x.d::xs) a):=rfl
theorem Nu:E9 Γ QA=QA [] Γ:=rfl
theorem h_c:t3C d Γ Q=Q (.fz d) Γ:=rfl
theorem UD:Rq A3 B3 Γ QT=(A3 Γ λc aa=>bT c (B3 aa QT) (QT false aa) ⟨⟩ ⟨⟩):=rfl
theorem Wq:or3 A3 B3 Γ QT=(A3 Γ λc aa=>bT c (QT true aa) (B3 aa QT) ⟨⟩ ⟨⟩):=rfl
theorem Uz:PN A3 Γ QT=(A3 Γ λc aa=>QT (!c) aa):=rfl
theorem Wr:if3 A3 e3 f3 Γ Q=(A3 Γ λc aa=>bT c (e3 aa Q) (f3 aa Q) ⟨⟩ ⟨⟩):=rfl
theorem Nv:P2 t3 Γ Q=(t3 Γ λxs aa=>xs.length<=sizeLine/\Q (.fr (.lst xs)) aa):=rfl
theorem Nr:Gd t3 Γ Q=(t3 Γ λxs aa=>xs.length<=sizeLine/\Q (.fz (.tup xs)) aa):=rfl
theorem UC:Rp i e3 Γ Q=mL (c7 Γ i) (λ_=>e3 Γ λr aa=>mL (c7 aa i) (λxs=>xs.length < sizeLine/\Q (.fz .non) (putD aa i (.lst (xs++[r.d])))) ⟨⟩) ⟨⟩:=rfl
theorem QC:Gx is e3 D1 Γ=(e3 Γ λr aa=>mL (Gb r.d) (λds=>gvF aa is ds D1.nx) ⟨⟩):=rfl
theorem Qz:Gq a3 Γ QO=(a3 Γ λx aa=>∃ i,x.at aa=some (.int i)/\QO (some i) aa):=rfl
theorem QJ:HE Γ QO=QO none Γ:=rfl
abbrev hI (a:Nat->G->Prop)(k:Nat)(Γ:G)(_:Tag a):Prop:=a k Γ
def Nb (xs:List D)(c:G)(e:TG3)(f:TS3)(b:E3)(_:Tag (e,f,b)):Prop:=∃ a:Nat->G->Prop,a 0 c/\(∀ k d Γ,xs[k]?=some d->a k Γ->e d Γ λΓ'=>f { b with nx:=a (k + 1),ct:=a (k + 1),bk:=b.nx } Γ')/\∀ Γ,a xs.length Γ->b.nx Γ
theorem UB{a:TS3}{c:Tag (i3,g3,a)}{b:Tag D1}:Q6 i3 g3 a D1 Γ c b=(i3 Γ λxs aa=>Nb xs aa g3 a D1 ⟨⟩):=rfl
theorem cN{b3:TS3}{t:Tag (g3,b3,E1)}(a:Nat->G->Prop)(e:a 0 aa)(b:∀ k d Γ,xs[k]?=some d->a k Γ->g3 d Γ λΓ'=>b3 { E1 with nx:=λΓ=>hI a (k + 1) Γ ⟨⟩,ct:=λΓ=>hI a (k + 1) Γ ⟨⟩,bk:=E1.nx } Γ')(c:∀ Γ,a xs.length Γ->E1.nx Γ):Nb xs aa g3 b3 E1 t:=#[a,e,b,c]
abbrev hJ (a:Nat->List D->G->Prop)(k:Nat)(ys:List D)(Γ:G)(_:Tag a):Prop:=a k ys Γ
def ND (xs:List D)(b:G)(g:On)(h:TG3)(i:TE3)(Q:RV->G->Prop)(_:Tag (g,h,i,Q)):Prop:=∃ c:Nat->List D->G->Prop,c 0 [] (gw b (gA g))/\
 (∀ k d ys a,xs[k]?=some d->ys.length=k->c k ys a->h d a λf=>i f λr e=>c (k + 1) (ys++[r.d]) e)/\∀ ys a,ys.length=xs.length->c xs.length ys a->Q (.fr (.lst ys)) (br g b a)
theorem QN{b:Tag (fr,i3,g3,e3)}{a:Tag Q}:NF fr i3 g3 e3 Γ Q b a=(i3 Γ λxs aa=>xs.length < sizeLine/\ND xs aa fr g3 e3 Q ⟨⟩):=rfl
theorem iz{t:Tag (fr,g3,e3,Q)}(b:Nat->List D->G->Prop)(h:b 0 [] (gw aa (gA fr)))(f:∀ k d ys a,xs[k]?=some d->ys.length=k->b k ys a->g3 d a λe=>e3 e λr c=>hJ b (k + 1) (ys++[r.d]) c ⟨⟩)(g:∀ ys a,ys.length=xs.length->b xs.length ys a->Q (.fr (.lst ys)) (br fr aa a)):ND xs aa fr g3 e3 Q t:=#[b,h,f,g]
def IT (xs:List D)(a:G)(c:On)(d:TG3)(e:pX)(Q:RV->G->Prop)(_:Tag (c,d,e,Q)):Prop:=DS xs d e [] (gw a (gA c)) λys b=>ys.length < sizeLine/\Q (.fr (.lst ys)) (br c a b)
theorem LO{b:Tag (fr,i3,g3,bb)}{a:Tag Q}:IU fr i3 g3 bb Γ Q b a=(i3 Γ λxs aa=>IT xs aa fr g3 bb Q ⟨⟩):=rfl
theorem uw{b3:pX}{t:Tag (fr,g3,b3,Q)}(b:Nat->List D->G->Prop)(f:b 0 [] (gw aa (gA fr)))(c:∀ k d ys Γ,xs[k]?=some d->b k ys Γ->g3 d Γ λΓ'=>b3 ys Γ' λys Γ=>hJ b (k + 1) ys Γ ⟨⟩)(e:∀ ys a,b xs.length ys a->ys.length < sizeLine/\Q (.fr (.lst ys)) (br fr aa a)):IT xs aa fr g3 b3 Q t:=#[b,f,c,e]
theorem Q8:eqN (n + 1) (.lst xs) (.lst [])=some xs.isEmpty:=by cases n <;> cases xs <;> rfl
theorem Q9{a b c:Int}:eqN (n + 1) (.lst [.int a,.int b,.int c]) (.lst [.int a,.int b,.int c])=some true:=by
 have:=xc (n:=n) [a,b,c] [a,b,c];rw[decide_eq_true rfl] at this;exact this
def DY (S:S3)(A:G)(L:On)(a:G)(Q:RV->G->Prop)(_:Tag Q):Prop:=S A (λr Γa=>Q r (br L a Γa))
def Uv (S:S3)(A:G)(a:G)(Q:RV->G->Prop)(_:Tag Q):Prop:=S A (λr Γa=>r=.fz .non/\Bp Γa (λd=>Q (.fr d) a) ⟨⟩)
theorem Ee{b:gy}:Ai n S b Γ Q=(b Γ λa aa=>bT (nH a n) (DY S (gw aa (a.map some)) ((a.map some).map cR) aa Q ⟨⟩) False ⟨⟩ ⟨⟩):=rfl
theorem PZ{m:Str}{c:gy}:lO C m n S o3 c Γ Q=(o3 Γ λx aa=>(∃ ns xs,x.at aa=some (.ins C ns xs)/\m∉ns)/\c aa λb a=>bT (nH (x::b) n) (DY S (gw a ((x::b).map some)) (((x::b).map some).map cR) a Q ⟨⟩) False ⟨⟩ ⟨⟩):=rfl
theorem P0:HM C n S t3 Γ Q=(t3 Γ λds aa=>ds.length + 1=n/\Uv S (some (.ln (.ins C [] []))::ds.map λd=>some (.fz d)) aa Q ⟨⟩):=rfl
theorem WO{s:Tag (t,u,D1)}:bG true t u D1 Γ s=t D1 Γ:=rfl
theorem WQ{s:Tag (t,u,D1)}:bG false t u D1 Γ s=u D1 Γ:=rfl
theorem iC{c:Bool}{s:Tag (t,u,D1)}(h1:c=true->t D1 Γ)(a:c=false->u D1 Γ):bG c t u D1 Γ s:=by
 cases c with
 | true=>exact h1 rfl
 | false=>exact a rfl
theorem UA:Qs A3 t u D1 Γ=(A3 Γ λc aa=>bG c t u D1 aa ⟨⟩):=rfl
theorem Ws{e:D}:nF (t3C e) t3 Γ QA=(t3 Γ λxs a=>QA (e::xs) a):=rfl
theorem Nq{d e:D}:Gd (nF (t3C d) (nF (t3C e) E9)) Γ Q=Q (.fz (.tup [d,e])) Γ:=by
 show (2<=sizeLine/\Q (.fz (.tup [d,e])) Γ)=_;exact propext #[λh=>h.2,λh=>#[by rw[ff];decide,h]]
theorem Wt{d e:D}:nF (Gd (nF (t3C d) (nF (t3C e) E9))) t3 Γ QA=(t3 Γ λxs a=>QA (.tup [d,e]::xs) a):=by
 show Gd (nF (t3C d) (nF (t3C e) E9)) Γ (λx b=>t3 b λxs a=>QA (x.d::xs) a)=_;rw[Nq];rfl
end
theorem ln0{a:Type}{us:List a}(h:us.length=0):us=[]:=List.eq_nil_of_length_eq_zero h
theorem ln1{b:Type}{us:List b}(h:us.length=1):∃ a,us=[a]:=by
 match us,h with
 | [a],_=>exact#[a,rfl]
theorem ln2{c:Type}{us:List c}(h:us.length=2):∃ a b,us=[a,b]:=by
 match us,h with
 | [a,b],_=>exact#[a,b,rfl]
theorem ln3{d:Type}{us:List d}(h:us.length=3):∃ a b c,us=[a,b,c]:=by
 match us,h with
 | [a,b,c],_=>exact#[a,b,c,rfl]
theorem ln4{e:Type}{us:List e}(h:us.length=4):∃ a b c d,us=[a,b,c,d]:=by
 match us,h with
 | [a,b,c,d],_=>exact#[a,b,c,d,rfl]
theorem ln5{f:Type}{us:List f}(h:us.length=5):∃ a b c d e,us=[a,b,c,d,e]:=by
 match us,h with
 | [a,b,c,d,e],_=>exact#[a,b,c,d,e,rfl]
mutual
noncomputable def U8:D->La0
 | .cel p xs=>p::xj xs
 | .lst xs=>xj xs
 | .tup xs=>xj xs
 | .ktup xs=>xj xs
 | .ins _ _ xs=>xj xs
 | .exc _ _ xs=>xj xs
 | _=>[]
noncomputable def xj:List D->La0
 | []=>[]
 | x::xs=>U8 x++xj xs
end
noncomputable def Sl.d:Sl->D
 | .fz d=>d
 | .ow d=>bare d
 | .ln d=>bare d
section
noncomputable def Bs.hid (B:Bs)(p:Addr)(o:HO):Bs:=#[B.F,upd B.H p o,B.own]
theorem En.hide(e:En K B F σ H Γ){p:Addr}{o:HO}(j:F p=none)(f:H p=some o)(g:∀ (i:Nat) (d:D),Hld Γ i d->σ[i]?≠some (some (V.ref p))):En K (B.hid p o) F σ H Γ where
 sub:=e.sub
 len:=e.len
 fz:=e.fz
 hl:=e.hl
 ow:=λi d c h a=>by
  have z:c≠p:=λz=>g i d (.inl h) (z ▸ a);show upd B.H p o c=none;rw[ao z];exact e.ow i d c h a
 ln:=e.ln
 dis:=e.dis
 par:=e.par
 keep:=e.keep
 new:=λb u h=>by
  rcases e.new b u h with q | q
  .exact .inl q
  .have z:b≠p:=λz=>by subst z;rw[j] at h;cases h
   exact .inr (by show upd B.H p o b=none;rw[ao z];exact q)
 rest:=λb u h n=>by
  by_cases z:b=p
  .subst z;have h:upd B.H b o b=some u:=h;rw[aB] at h;cases h;exact f
  .have h:upd B.H p o b=some u:=h;rw[ao z] at h;exact e.rest b u h n
 dom:=λb h=>by
  have z:b≠p:=λz=>by subst z;rw[f] at h;cases h
  show upd B.H p o b=none;rw[ao z];exact e.dom b h
theorem En.N5{p:Addr}{o:HO}(e:En K (B.hid p o) F σ H Γ)(l:B.H p=none)(k:B.F p=none)(j:∀ i,(i,p)∉B.own) :
  En K B F σ H Γ/\H p=some o/\F p=none/\∀ (i:Nat) (d:D),Hld Γ i d->σ[i]?≠some (some (V.ref p)):=by
 have c:(B.hid p o).H p=some o:=aB;have g:∀ {b:Addr},b≠p->(B.hid p o).H b=B.H b:=λz=>ao z;have f:∀ {b:Addr},(B.hid p o).H b=none->B.H b=none:=λ{b} h=>by
  have z:b≠p:=λz=>by subst z;rw[c] at h;cases h
  rw[<- g z];exact h
 refine#[#[e.sub,e.len,e.fz,e.hl,λi d q h a=>f (e.ow i d q h a),e.ln,e.dis,e.par,e.keep,λb u h=>(e.new b u h).imp id f,λb u h n=>e.rest b u ?_ n,λb h=>f (e.dom b h)],e.rest p o c j,?_,λi d h a=>?_]
 .have z:b≠p:=λz=>by subst z;rw[l] at h;cases h
  rw[g z];exact h
 .cases q:F p with
  | none=>rfl
  | some u=>
   rcases e.new p u q with z | z
   .rw[show (B.hid p o).F p=B.F p from rfl,k] at z;cases z
   .rw[c] at z;cases z
 .rcases h with h | h
  .have z:=e.ow i d p h a;rw[c] at z;cases z
  .exact j i (e.ln i d p h a)
set_option backward.eqns.nonrecursive false in
def frL (r:RV)(k:List D->Prop):Prop:=match r with
 | .fr (.lst xs)=>k xs
 | _=>False
theorem Q5{r:RV}{k:List D->Prop}(h:frL r k):∃ xs,r=.fr (.lst xs)/\k xs:=by
 cases r with
 | fz d=>exact h.elim
 | two _ _=>exact h.elim
 | rws _=>exact h.elim
 | fr d=>cases d <;> first | exact h.elim | exact#[_,rfl,h]
variable {b:Expr}{tb:TE}{a3 b3:TE3}
def iT3 (a:TE3)(Γ:G)(Q:List D->G->Prop):Prop:=a Γ λr aa=>∃ xs,r.d=.tup xs/\Q xs aa
theorem Qw{l:Expr}{tl:TE}(E:X.K=K)(h:P3 K X l tl l3):P3I K X tg l (Uo K tl) (iT3 l3):=#[by subst E;exact O5 h.pe,λB F t H u Q R e q k=>
 h.rf B F t H u _ _ e q λv J Z=>by
  let#[P,j,r,s,I,A,w,D,C]:=Z;let#[L,z,o,n]:=I.frozen A;rw[D] at n;let#[p,a,rfl,g,m]:=n;refine#[p,rfl,#[a,SqT.of (o.sub _ _ g)],k _ J L j w (s.trans z) o #[λi f b lt=>?_,λi f b M=>?_,λi f x O d b hd y=>?_] C]
  .rw[<- m.length] at lt;exact#[a,a[i],SqT.of (b _ _ g),by simp [lt]]
  .exact#[a,SqT.of (b _ _ g),by rw[m.length];lia]
  .let#[G,y]:=y;let#[N,c,r]:=m.LQ (y a (SqT.of (b _ _ g)));rw[hd] at c;cases c;exact .inl #[G,r]]
end
open PySem _2 PySem.Spec PyProof.Rows
mutual
noncomputable def pin:D->Bool
 | .cel _ xs=>ES xs
 | .tup xs=>ES xs
 | .ins _ _ xs=>ES xs
 | .lst _=>false
 | .ktup _=>false
 | .scr _=>false
 | .exc _ _ _=>false
 | .dct=>true
 | .dcs _ _=>true
 | .fn _ _ _ _=>false
 | .non=>true
 | .bl _=>true
 | .int _=>true
 | .str _=>true
 | .ty _=>true
 | .adr _=>true
noncomputable def ES:List D->Bool
 | []=>true
 | x::xs=>pin x && ES xs
end
mutual
noncomputable def clr (p:Addr):D->D
 | .cel q xs=>if q=p then .cel q [] else .cel q (Fv p xs)
 | .tup xs=>.tup (Fv p xs)
 | .ins C ns xs=>.ins C ns (Fv p xs)
 | .non=>.non
 | .bl b=>.bl b
 | .int i=>.int i
 | .str s=>.str s
 | .ty n=>.ty n
 | .adr a=>.adr a
 | .lst xs=>.lst xs
 | .ktup xs=>.ktup xs
 | .scr ns=>.scr ns
 | .exc C ns xs=>.exc C ns xs
 | .dct=>.dct
 | .dcs k i=>.dcs k i
 | .fn o f v r=>.fn o f v r
noncomputable def Fv (p:Addr):List D->List D
 | []=>[]
 | x::xs=>clr p x::Fv p xs
end
noncomputable def wd (i:Int):List Nat:=(toString i).toList.map aj1
theorem Hz(s:String):(ah s).cps.toList=s.toList.map aj1:=by rw[Str.ofString_eq_toList]
noncomputable def tl:Li0->List Nat
 | []=>[93]
 | i::is=>44::32::(wd i++tl is)
noncomputable def lt:Li0->List Nat
 | []=>[91,93]
 | i::is=>91::(wd i++tl is)
structure XD where
 C:Addr
 ns:Ls0
 xs:List D
def Vt (K:Fg0)(F:Hp)(cls:Value)(b:Option Addr)(x:XD):Prop:=cls=.ref x.C/\∃ d a,b=some d/\F d=some (XdO d a)/\a.map (·.1)=x.ns/\aN K F x.xs (a.map (·.2))
def XR (K:Fg0)(B:Bs)(a:Hp)(E:_2.St->XK)(W:XD->G->Prop):Prop:=∀ F' ay H' Γ' cls dx x,aS a F'->En K B F' ay H' Γ'->Vt K F' cls dx x->W x Γ'->E ay cls dx H'
def MC (K:Fg0)(B:Bs)(b:Hp)(t:TE)(a:TE3):Prop:=∀ (F:Hp) (σ:_2.St) (H:Hp) (Γ:G) (Q:RV->G->Prop) (QQ:VK),aS b F->En K B F σ H Γ->a Γ Q->(∀ v H',Po K B F σ Q v H'->QQ v H')->t σ H QQ
def nI (K:Fg0)(B:Bs)(b:Hp)(t:TS)(a:TS3):Prop:=∀ (F:Hp) (σ:_2.St) (H:Hp) (Γ:G) (D:Ends) (D3:E3),aS b F->En K B F σ H Γ->qE K B F D D3->a D3 Γ->t D σ H
structure P3X (K:Fg0) (X:Cx) (B:Bs) (F0:Hp) (e:Expr) (t:TE) (t3:TE3):Prop where
 pe:PE X e t
 rf:MC K B F0 t t3
structure pZ (K:Fg0) (X:Cx) (B:Bs) (F0:Hp) (st:Stmt) (t:TS) (t3:TS3):Prop where
 pe:PS X st t
 rf:nI K B F0 t t3
structure kQ (K:Fg0) (X:Cx) (B:Bs) (F0:Hp) (st:List Stmt) (t:TS) (t3:TS3):Prop where
 pe:PSs X st t
 rf:nI K B F0 t t3
section
variable {rest:List Stmt}{t:TS}{t3:TS3}
theorem P3S.x(h:P3S K X st t t3):pZ K X B F0 st t t3:=#[h.pe,λF a H b D c _=>h.rf B F a H b D c]
theorem lB.x(h:lB K X rest t t3):kQ K X B F0 rest t t3:=#[h.pe,λF a H b D c _=>h.rf B F a H b D c]
theorem jx(h:pZ K X B F0 st t t3):kQ K X B F0 [st] t t3:=#[mP h.pe,h.rf]
theorem cP(h:pZ K X B F0 st t t3)(d:kQ K X B F0 rest u u3):kQ K X B F0 (st::rest) (JO t u) (EE t3 u3):=
 #[ij h.pe d.pe,λF f H g D c w e k q=>h.rf F f H g { D with nx:=u D } { c with nx:=u3 c } w e #[λm a l b s j i=>d.rf m a l b D c (w.trans s) j (k.mono s) i,k.rt,k.bk,k.ct] q]
theorem NT(h:P3X K X B F0 e te e3):pZ K X B F0 (.Return (some e) pos) (Oi te) (J9 e3):=#[GY h.pe,λF b H c D l w e k q=>
 h.rf F b H c _ _ w e q λv i ⟨j,a,r,s,g,d,f⟩=>k.rt j b i a v r s g d f]
theorem JE(h:P3X K X B F0 e te e3)(f:autoParam (Xb e none pos.line X.env=pure false) wE):pZ K X B F0 (.Expr e pos) (Gm te) (II e3):=#[mQ h.pe f,λF b H c D m w e k q=>
 h.rf F b H c _ _ w e q λv i ⟨j,a,r,s,g,l,d⟩=>k.nx j b i a s g d]
theorem xW{c:Expr}{a b:List Stmt}(h:P3T K X c tc A3)(j:kQ K X B F0 a t t3)(i:kQ K X B F0 b u u3):pZ K X B F0 (.If c a b pos) (Ol tc t u) (Qs A3 t3 u3):=#[M1 h.pe j.pe i.pe,λF f H p D o w e k q=>
 h.rf B F f H p _ _ e q λb m Z=>by
  let#[n,d,s,l,g]:=Z;cases b with
  | true=>exact j.rf n f m d D o (w.trans s) l (k.mono s) g
  | false=>exact i.rf n f m d D o (w.trans s) l (k.mono s) g]
end
noncomputable abbrev S3X:=G->(RV->G->Prop)->(XD->G->Prop)->Prop
def rK (K:Fg0)(n:Nat)(S:S3X):Sp:=λvs H Q E=>vs.length=n/\∃ F own Γa b a,En K #[F,H,own] F (vs.map some) H Γa/\(∀ (k:Nat) (d:D),Γa[k]?≠some (some (Sl.ow d)))/\S Γa b a/\
 (∀ r Γ',b r Γ'->∀ v H' F',En K #[F,H,own] F' (vs.map some) H' Γ'->nM K #[F,H,own] F' (vs.map some) H' Γ' v r->Q v H')/\
 ∀ x Γ',a x Γ'->∀ H' F' cls dx,En K #[F,H,own] F' (vs.map some) H' Γ'->Vt K F' cls dx x->E cls dx H'
def C_ (n:Nat)(S:S3X)(b:gy)(W:XD->G->Prop)(Γ:G)(Q:RV->G->Prop):Prop:=b Γ λa aa=>a.length=n/\(gf a).Nodup/\S (gw aa (a.map some)) (λr Γa=>Q r (br ((a.map some).map cR) aa Γa)) λx Γa=>W x (br ((a.map some).map cR) aa Γa)
theorem EO{m:gy}{S:S3X}{W:XD->G->Prop}(h:BN K t m)(x:XR K B F0 E W):MC K B F0 (B7 (rK K n S) [] E t) (C_ n S m W):=by
 intro F a H z Q N w e q k;refine h B F a H z _ _ e q λC O Z=>?_;let#[P,u,R,o,i,p,L,J,I]:=Z;show rK K n S (C++[]) O N (E a);rw[nT];refine#[by rw[p.length];exact L,P,_,_,_,_,i.args p J,tV,I,λr b q v s l g D=>?_,λy b q s l j M g A=>?_]
 .let#[c,f,d]:=i.called g D;exact k _ _ #[l,_,r,o.trans c,f,d,q]
 .let#[c,f,_]:=i.called g (v:=.non) (r:=.fz .non) rfl;exact x l a s _ j M y ((w.trans o).trans c) f A q
section
variable {mg:SV0}
theorem E7{d:Bool}{x:Str}{S:S3X}(F:Fun K x qual st f fd)(Sc:aC N ps (aj st))(Z:autoParam (ps.length<=N.length) wP)(hbody:∀ (c:Value) (A:Around) (outer:List Env) (s:Shared) (H:Hp) (E:XK),cy k (A.deeper (envOfC qual (aj st) s.heap.objs.size f c))->
   ∃ (t:TS) (t3:(XD->G->Prop)->TS3),(∀ B F0 W,XR K B F0 (λ_=>E) W->kQ K (lA (CX1 P w base d) P w K mg base N qual (aj st) f c A outer s H E) B F0 (hV st) t (t3 W))/\
    ∀ Γa Q n,S Γa Q n->Γa.length=ps.length->t3 (λx Γ'=>n x (ir Γa Γ')) { nx:=λΓ'=>Q (.fz .non) (ir Γa Γ'),rt:=λr Γ'=>Q r (ir Γa Γ') } (gE N Γa)) :
  aT P w K mg base (CX1 P w base d) (k + 1) f fd ps (rK K ps.length S):=by
 let#[oc,od,kV,a1,pm,an,c,ct,R,rfl,lk,o]:=F.ex;refine Nx lk o Sc (λJ H Q E h=>h.1) λA outer s H J Q E U h=>?_;let#[V,F0,j,Γa,p,n,e,g,Y,y,X]:=h;let#[t,t3,T,O]:=hbody c A outer s H E U;have l:Γa.length=ps.length:=by rw[<- e.len,lM0];exact V
 have I:XR K #[F0,H,j] F0 (λ_=>E) (λx Γ'=>n x (ir Γa Γ')):=λD i C Γ' a2 dx x _ m r q=>by
  let#[a,_]:=e.out g m (v:=.non) (r:=.fz .non) rfl;exact X _ _ q _ _ _ _ a r
 have u:=T #[F0,H,j] F0 _ I;refine#[t,u.pe,u.rf F0 _ H _ _ { nx:=λΓ'=>p (.fz .non) (ir Γa Γ'),rt:=λr Γ'=>p r (ir Γa Γ') } (aS.refl F0) (e.start (N:=N) (by rw[l];exact Z)) #[?_,?_,λ_ _ _ _ _ _ z=>ke z,λ_ _ _ _ _ _ z=>ke z] (O Γa p n Y l)]
 .intro D i C Γ' L m q;let#[a,b]:=e.out g m (v:=.non) (r:=.fz .non) rfl;exact y _ _ q _ _ _ a b
 .intro D i C Γ' v r L m M q;let#[a,b]:=e.out g m M;exact y _ _ q _ _ _ a b
end
theorem NS{x:Str}(p:X.N.Nodup)(o:X.N[i]?=some x)(l:Loc X.env.scope x)(c:P3X K X B F0 e te e3)(m:autoParam (Xb e (some (.Name x pos')) pos.line X.env=pure false) wE)(hf:autoParam (X.fn x=true\/X.env.scope.names.lookup x=some .local) wq0) :
  pZ K X B F0 (.Assign [.Name x pos'] e pos) (pI te (kG i)) (Gy i e3):=#[GX p o l c.pe m hf,λF d H g D G w e k q=>
 c.rf F d H g _ _ w e q λv z Z=>by
  let#[E,f,r,s,y,j,b]:=Z;let#[hf,b]:=rC b;replace hf:=oE hf;let#[A,C,h,u,a,t,n]:=y.norm j;exact k.nx A _ z _ (s.trans h) (by have:=u.set hf a n;rw[t] at this;exact this) b]
section
variable {CX:CXT}{x m:Str}{t3:gy}{S:S3X}{W:XD->G->Prop}
theorem o8(d:XR K B F0 E W)(F:aT X.prog X.w X.K X.mg X.base CX k f fd ps (rK K n S))(g:dM CX X E)(h:cy k X.A)(i:X.mg x=some (.ref f))(hk:kv X.K (.ref f)=true)(m:Binds X.K fd ps [])(c:BO K X (e::es) t t3)(b:autoParam (Vjj x) wP)(l:autoParam (Vjk X e es) wE)(a:autoParam (Vjq pos X es) wE)(o:autoParam (X.K=K) wE)(j:autoParam (Gl X x) wE) :
  P3X K X B F0 (.Call (.Name x p) (e::es) [] pos) (B7 (rK K n S) [] E t) (C_ n S t3 W):=#[Hf F h j i hk m .nil g c.pe b l a,EO c.rf d]
end
def v5 (K:Fg0)(C:Addr)(a:Ls0):Sp:=λvs H Q _=>∃ e ys,vs=.ref e::ys/\ys.length=a.length/\H e=some (df e C none)/\∀ d,H d=none->d≠e->Q .non (upd (upd H d (XdO d (a.zip ys))) e (df e C (some d)))
def Cg (C:Addr)(a:Ls0)(b:TA3)(W:XD->G->Prop)(_:E3)(Γ:G):Prop:=b Γ λds aa=>ds.length=a.length/\W #[C,a,ds] aa
theorem y3:∀ {ns:Ls0} {ys:List V},ys.length=ns.length->(ns.zip ys).map (·.1)=ns
 | [],[],_=>rfl
 | n::ns,y::ys,h=>by simp only[Xo,gr];rw[y3 (by simpa using h)]
 | [],_::_,h=>by cases h
 | _::_,[],h=>by cases h
theorem yZ:∀ {ns:Ls0} {ys:List V},ys.length=ns.length->(ns.zip ys).map (·.2)=ys
 | [],[],_=>rfl
 | n::ns,y::ys,h=>by simp only[Xo,gr];rw[yZ (by simpa using h)]
 | [],_::_,h=>by cases h
 | _::_,[],h=>by cases h
section
variable {CX:CXT}{x:Str}{E:XK}{W:XD->G->Prop}
theorem EL(h:Jt K t t3)(v:XR K B F0 (λ_=>E) W):nI K B F0 (B5 C (v5 K C ns) [] E0 E t) (Cg C ns t3 W):=by
 intro F n H u D P w e O q;refine h B F n H u _ _ e q λc m ⟨s,i,N,x,g,p,I,A⟩ y G=>?_;rw[nT];have j:c.length=ns.length:=by rw[p.length];exact I
 refine#[y,c,rfl,j,aB,λd hd r=>#[rfl,some d,aB,?_]];have a:m d=none:=by rw[ao r] at hd;exact hd
 have J:_2.del (upd (upd (upd m y (df y C none)) d (XdO d (ns.zip c))) y (df y C (some d))) y=upd m d (XdO d (ns.zip c)):=by
  funext b
  by_cases f:b=y
  .subst f;rw[iy,ao (ky r)];exact G.symm
  .rw[dE f,ao f];by_cases l:b=d
   .subst l;rw[aB,aB]
   .rw[ao l,ao l,ao f]
 rw[J];have k:s d=none:=by
  cases z:s d with
  | none=>rfl
  | some o=>rw[g.sub d o z] at a;cases a
 have M:=g.alloc a (XdO d (ns.zip c));have L:=M.freeze k aB (g.dom d a) (g.qY a);refine v _ n _ i _ _ #[C,ns,N] ((w.trans x).trans (a9 k)) L #[rfl,d,_,rfl,aB,y3 j,?_] A;rw[yZ j];exact p.mono (a9 k)
theorem jw(d:XR K B F0 (λ_=>E) W)(M:XMk X.K C f)(F:aT X.prog X.w X.K X.mg X.base CX0 k f fd ps (v5 K C ns))(h:cy (k + 1) X.A)(i:X.mg x=some (.ref C))(m:Binds X.K fd ps [])(hR:Raises X E)(c:P3A K X (e::es) t t3)(b:autoParam (Vjj x) wP)(l:autoParam (Vjk X e es) wE)(a:autoParam ((backTo cpos (bp es X.env)).any (·.1)=false) wE)(n:autoParam (X.K=K) wE)(j:autoParam (Gl X x) wE)(g:autoParam (ps.length<=sizeLine) wP) :
  pZ K X B F0 (.Raise (some (.Call (.Name x p) (e::es) [] cpos)) none pos) (B5 C (v5 K C ns) [] E0 E t) (Cg C ns t3 W):=
 #[GZ M F h j i m .nil yi hR g c.pe b l a,EL c.rf d]
end
noncomputable def E3.xO (D:E3)(i:Nat):E3:=#[λΓ=>bC Γ i/\D.nx (Γ.set i none),D.rt,λΓ=>bC Γ i/\D.bk (Γ.set i none),λΓ=>bC Γ i/\D.ct (Γ.set i none)]
def AB (K:Fg0)(a:Addr)(i:Nat)(b:TS3)(D:E3)(x:XD)(Γ:G):Prop:=ia K x.C (.ref a)=some true/\bC Γ i/\b (D.xO i) (Γ.set i (some (.fz (.exc x.C x.ns x.xs))))
def N_ (K:Fg0)(a:Addr)(i:Nat)(c:(XD->G->Prop)->TS3)(b:TS3)(D:E3)(Γ:G):Prop:=c (AB K a i b D) D Γ
theorem En.gone(e:En K B F σ H Γ)(l:bC Γ i):En K B F (σ.set i none) H (Γ.set i none):=by
 have c:=e.forget l;have il:=lR l;have f:∀ {j:Nat} {s:Sl},(Γ.set i none)[j]?=some (some s)->(σ.set i none)[j]?=σ[j]?:=λ{j s} q=>by
  by_cases z:j=i
  .subst z;rw[aV il] at q;cases q
  .exact aW (ky z)
 have nh:∀ {j:Nat} {d:D},Hld (Γ.set i none) j d->(σ.set i none)[j]?=σ[j]?:=λq=>q.elim f f;refine#[c.sub,by rw[rk];exact c.len,λj d q=>by rw[f q];exact c.fz j d q,λj d q=>by rw[nh q];exact c.hl j d q,λj d p q a=>c.ow j d p q (by rw[<- f q];exact a),λj d p q a=>c.ln j d p q (by rw[<- f q];exact a),
  λj k d m p h g o n=>c.dis j k d m p h g (by rw[<- nh h];exact o) (by rw[<- nh g];exact n),λj p q=>?_,c.keep,c.new,c.rest,c.dom]
 let#[a,d,b]:=c.par j p q;exact#[by rw[f b];exact a,d,b]
theorem qE.xO{D:Ends}(k:qE K B F D D3):qE K B F (D.xO i) (D3.xO i) where
 nx:=λd a c b s e q=>k.nx d _ c _ s (e.gone q.1) q.2
 rt:=λd a c b v r s e f q=>k.rt d a c b v r s e f q
 bk:=λd a c b s e q=>k.bk d _ c _ s (e.gone q.1) q.2
 ct:=λd a c b s e q=>k.ct d _ c _ s (e.gone q.1) q.2
theorem Kb{n:(_2.St->XK)->TS}{p:(XD->G->Prop)->TS3}(N:∀ t E W,XR K B t E W->nI K B t (n E) (p W))(C:nI K B F0 ts s3):nI K B F0 (Oh K az i n ts) (N_ K az i p s3):=by
 intro F v H y D u w e k q;refine N F (AD K az i ts D) (AB K az i s3 u) (λf g U h T V x s c r l=>?_) F v H y D u (aS.refl F) e k q;let#[L,M,l]:=l;let#[rfl,d,O,rfl,hd,J,I]:=r;refine#[x.C,rfl,L,λa b=>?_];have m:f a=none:=by
  cases z:f a with
  | none=>rfl
  | some o=>rw[c.sub a o z] at b;cases b
 have R:=c.alloc b (mf a (.ref x.C) (some d));have Q:=R.freeze m aB (c.dom a b) (c.qY b);have j:=a9 (o:=mf a (.ref x.C) (some d)) m;have S:d≠a:=λz=>by rw[z,m] at hd;cases hd
 have A:nM K B (upd f a (mf a (.ref x.C) (some d))) g (upd U a (mf a (.ref x.C) (some d))) h (.ref a) (.fz (.exc x.C x.ns x.xs)):=by
  show Rep K _ (.exc x.C x.ns x.xs) _;rw[Rep];exact#[a,some d,O,rfl,aB,(by show upd f a _ d=_;rw[ao S];exact hd),J,I.mono j]
 have P:=Q.set M A;exact C _ _ _ _ _ _ ((w.trans s).trans j) P ((k.mono (s.trans j)).xO) l
section
variable {x:Str}{tb:(_2.St->XK)->TS}{b3:(XD->G->Prop)->TS3}
theorem NQ(o:X.K=K)(c:ma X.K az)(b:X.stack=X.env::X.outer)(d:X.env.frame=some L)(m:Gl X x)(k:X.mg x=some (.ref az))(n:X.N.Nodup)(l:X.N[i]?=some nm)(hk:X.env.kindOf nm=some .local)(h:∀ pins a E W,XR K B a E W->kQ K ((X.dD pins).i8 (XP (X.dD pins) E)) B a body (tb E) (b3 W))(g:∀ pins e,kQ K ((X.dD pins).sui e) B F0 (aD::suite) ts s3)(f:autoParam (Vjj x) wP) :
  pZ K X B F0 (.Try body [.ExceptHandler (some (.Name x np)) (some nm) (aD::suite) hpos] [] [] pos) (Oh K az i tb ts) (N_ K az i b3 s3):=by
 subst o;exact#[OY c b d m k n l hk (λpins E=>(h pins F0 E (λ_ _=>False) (λ_ _ _ _ _ _ _ _ _ _ q=>q.elim)).pe) (λpins e=>(g pins e).pe) f,Kb (λa E W j=>(h [] a E W j).rf) (g [] 0).rf]
end
set_option backward.eqns.nonrecursive false in
def FO (P:Addr->Prop)(f:Str)(x:D)(Γ:G)(Q:RV->G->Prop):Prop:=match x with
 | .exc C ns xs=>P C/\∃ d,(ns.zip xs).lookup f=some d/\Q (.fz d) Γ
 | _=>False
theorem DK{f:Str}{P:Addr->Prop}(o:X.K=K)(h:P3B K X a ta a3)(s:∀ C,P C->Di K C/\bK K C f)(m:vr a f X.env (eval a X.env)=eval a X.env) :
  P3 K X (.Attribute a f pos) (MN K ta f) (EB (FO P f) a3):=#[by subst o;exact KL h.pe m,Cf (r:=λx g Q=>∃ e C d fs v,x=.ref e/\g e=some (mf e (.ref C) (some d))/\g d=some (XdO d fs)/\Di K C/\bK K C f/\fs.lookup f=some v/\Q v g) (ta:=ta) (by
 intro B F A H D x E Q G e l q k;unfold FO at q;split at q
 .let#[n,d,hd,q]:=q;let#[p,c,j,rfl,w,i,u,t]:=l;let#[v,b,r]:=aN.lookup u t hd;let#[z,y]:=s _ n;cases c with
  | none=>rw[show j=[] from i] at b;cases b
  | some c=>exact#[p,_,c,j,v,rfl,e.sub _ _ w,e.sub _ _ i,z,y,b,k _ _ (ku e r q)]
 .exact q.elim) h.rf]
set_option backward.eqns.nonrecursive false in
noncomputable def dvv:D->Option Value
 | .adr a=>some (.ref a)
 | .ty n=>some (.type n)
 | _=>none
set_option backward.eqns.nonrecursive false in
def Ql (K:Fg0)(P:Addr->Prop)(ds:List D)(Γ:G)(Q:RV->G->Prop):Prop:=match ds with
 | [.exc C ns xs,c]=>P C/\∃ u b,dvv c=some u/\aw K (.ref C) u=some b/\Q (.fz (.bl b)) Γ
 | _=>False
theorem Va{P:Addr->Prop}(j:X.K=K)(l:∀ C,P C->XIs K C):B3 K X (.builtin "isinstance") (λxs H Q=>∃ e C d fs c b,xs=[.ref e,c]/\H e=some (mf e (.ref C) d)/\XDk H d fs/\XIs K C/\isC c=true/\aw K (.ref C) (vv c)=some b/\Q (.bl b) H) (Ql K P):=#[by subst j;exact IX,by
 intro B F y H z A G Q I e r q k;unfold Ql at q;split at q
 .let#[v,w,rfl,m,h]:=r.two;let#[i,u,b,f,hk,q]:=q;let#[p,x,o,rfl,s,t,E,D]:=m;rename_i c;have g:isC w=true/\vv w=u:=by
   cases c with
   | adr a=>cases h;cases f;exact#[rfl,rfl]
   | ty n=>cases h;cases f;exact#[rfl,rfl]
   | _=>cases f
  exact#[p,_,x,o,w,b,rfl,e.sub _ _ s,t.mono e.sub,l _ i,g.1,by rw[g.2];exact hk,k _ _ (lK e q)]
 .exact q.elim]
end _3
namespace _2
open PySem PySem.Spec PyProof.Rows
noncomputable def SX:V->List V->Hp->VK->Prop:=λx vs H Q=>∃ z y,x=.str z/\vs=[.str y]/\z.length<=sizeLine/\Q (.str (Xe z y)) H
theorem PY:MtR X "str.removeprefix" SX:=by
 intro a s g H x i v j Q I c d h;let#[z,y,rfl,rfl,f,q]:=h;let#[t,rfl]:=c;let#[u,rfl,e]:=d.one;let#[b,rfl]:=e;exact SC.removeprefix (λb k=>#[.str _,H,I.tok _,#[_,rfl],q]) f
theorem xY:∀ (zs:Ls0) (k:Nat),Vals (zs.map V.str) (strsFrom k zs)
 | [],_=>.nil
 | z::zs,k=>.cons #[_,rfl] (xY zs (k + 1))
noncomputable def GQ:V->List V->Hp->VK->Prop:=λx vs H Q=>∃ z y,x=.str z/\vs=[.str y]/\(y.length == 0)=false/\z.length<=sizeLine/\(TH z y).length<=sizeLine/\∀ l,H l=none->Q (.ref l) (upd H l (.lst ((TH z y).map V.str)))
theorem HL:MtR X "str.split" GQ:=by
 intro a s i H x p v w Q I l m h;let#[z,y,rfl,rfl,j,o,g,q]:=h;let#[t,rfl]:=l;let#[u,rfl,n]:=m.one;let#[f,rfl]:=n;have fin:∀ (b:Lv0) (k:Nat),Vals ((TH z y).map V.str) b->EP X a i Q (.ref s.heap.objs.size) { s with heap:=s.heap.push { cls:=.type "list",data:=.seq b.toArray },toks:=k }:=λb k r=>
  #[.ref s.heap.objs.size,_,I.P4 r (by rw[lM0];exact g),rfl,q _ I.fresh]
 have one:TH z y=[z]->EP X a i Q (.ref s.heap.objs.size) { s with heap:=s.heap.push { cls:=.type "list",data:=.seq (Vz9 [.str z t]) } }:=λe=>fin [.str z t] s.toks (by rw[e];exact .cons #[_,rfl] .nil);cases c:(decide (z.length < y.length) || decide (UF z < UF y))
 .cases d:(jY z y 0 z.length (z.length + 1)).isEmpty
  .have e:TH z y=Xa z (jY z y 0 z.length (z.length + 1)) y.length:=by
    unfold TH;rw[c,d];rfl
   rw[e] at g;refine Yn Yx (Ym _ _ _) ZX (ZG _ _) (meets_str_split_sep z y t f c j d o g) ?_;exact fin _ _ (by rw[e];exact xY _ _)
  .refine Yn Yx (Ym _ _ _) ZX (ZG _ _) (meets_str_split_not_found z y t f c j d) ?_;exact one (by unfold TH;rw[c,d];rfl)
 .refine Yn Yx (Ym _ _ _) ZX (ZG _ _) (meets_str_split_cannot_occur z y t f c) ?_;exact one (by unfold TH;rw[c];rfl)
theorem Dx:∀ {zs:Ls0} {us:Lv0},Vals (zs.map V.str) us->∃ l:List (Str×Tok),us=strValues l/\l.map (·.1)=zs
 | [],_,.nil=>#[[],rfl,rfl]
 | z::zs,_,.cons ⟨t,e⟩ r=>by
  let#[l,rfl,h]:=Dx r;subst e;exact#[(z,t)::l,rfl,by rw[gr,h]]
noncomputable def rJoin (K:Fg0):V->List V->Hp->VK->Prop:=λx vs H Q=>∃ z p zs,x=.str z/\vs=[.ref p]/\SqL K H p (zs.map V.str)/\JoinOk z zs=true/\Q (.str (tx z zs)) H
theorem Ln:MtR X "str.join" (rJoin X.K):=by
 intro a s m H x o v w Q I b c h;let#[z,p,n,rfl,rfl,i,g,q]:=h;let#[t,rfl]:=b;let#[u,rfl,d]:=c.one;cases d;let#[f,r,e,_]:=I.list i;let#[l,rfl,j]:=Dx r;exact SC.join e.isList j g λy k=>#[.str _,H,I.tok _,#[_,rfl],q]
theorem Fz:cJ X (.type "int") (λxs H Q=>∃ z n,xs=[.str z]/\ZH z=some n/\z.length<=640/\Q (.int n) H):=by
 intro a s e H xs f Q I r h;let#[z,n,rfl,c,d,q]:=h;let#[u,rfl,b]:=vals1 r;let#[t,rfl]:=b;exact PySem.W.KIN.call_text c d #[.int n,H,I.tok _,#[_,rfl],q]
end _2
namespace _3
open PySem _2
section
variable {b:Expr}{to:TE}{o3 a3:TE3}
theorem aN.AG:∀ {zs:Ls0} {vs:List V},aN K F (zs.map D.str) vs->vs=zs.map V.str
 | [],_,h=>h
 | z::zs,_,Z=>by
  let#[v,d,c,b,a]:=Z;rw[c,aN.AG a];have:v=.str z:=b;rw[this];rfl
def S7 (b c:TE3)(Γ:G)(Q:RV->G->Prop):Prop:=b Γ λx aa=>oSt x.d (λz=>c aa λr a=>oSt r.d (λy=>z.length<=sizeLine/\Q (.fz (.str (Xe z y))) a) ⟨⟩) ⟨⟩
def Sn (b c:TE3)(Γ:G)(Q:RV->G->Prop):Prop:=b Γ λx aa=>oSt x.d (λz=>c aa λr a=>oSt r.d (λy=>((y.length == 0)=false/\z.length<=sizeLine/\(TH z y).length<=sizeLine)/\Q (.fr (.lst ((TH z y).map .str))) a) ⟨⟩) ⟨⟩
def Nh (b:TE3)(c:TB3)(Γ:G)(Q:RV->G->Prop):Prop:=b Γ λx aa=>oSt x.d (λz=>c aa λr a=>∃ zs:Ls0,r.at a=some (.lst (zs.map .str))/\JoinOk z zs=true/\Q (.fz (.str (tx z zs))) a) ⟨⟩
theorem wH{d:D}{k:Str->Prop}{t:Tag k}(h:oSt d k t):∃ z,d=.str z/\k z:=M7 h
theorem zy{g:TE3}{P:Str->Str->(RV->G->Prop)->G->Prop}(t:Ref K to g)(u:Ref K te e3)(h:∀ (B:Bs) (F:Hp) (σ:_2.St) (H:Hp) (Γ:G) (z y:Str) (Q:RV->G->Prop) (QQ:VK),En K B F σ H Γ->P z y Q Γ->(∀ v H',Po K B F σ Q v H'->QQ v H')->r (.str z) [.str y] H QQ) :
  Ref K (tBM K "str" r to (jy te nJ)) λΓ Q=>g Γ λx aa=>oSt x.d (λz=>e3 aa λr c=>oSt r.d (λy=>P z y Q c) ⟨⟩) ⟨⟩:=by
 intro B F σ H Γ Q QQ w q k;refine t B F σ H Γ _ _ w q λx E Z=>?_;let#[N,aa,L,m,D,d,f]:=Z;let#[z,o,f]:=wH f;let#[J,l,C,a]:=D.frozen d;rw[o] at a;cases a;refine#[rfl,u B J σ E aa _ _ C f λv H' Z=>?_];let#[M,b,r,j,e3,n,e]:=Z;let#[y,s,e]:=wH e;let#[I,i,A,a]:=e3.frozen n;rw[s] at a;cases a;exact h B I σ H' b z y Q QQ A e λv H' p=>k v H' (Po.mono (m.trans (l.trans (j.trans i))) p)
section
variable (hbase:∀ m:Str,m="removeprefix"\/m="split"\/m="join"->True)
theorem Pf(j:X.K=K)(h:P3 K X o to o3)(i:P3 K X e te e3)(c:autoParam (vr o "removeprefix" X.env (eval o X.env)=eval o X.env) wE)(d:autoParam (((backTo cpos (bp [e] X.env)).all (λx=>!x.1) && (Wm cpos (DM [] X.env)).all (λx=>x.1.isSome)
   && decide ([e].length + ([]:List Wn).length + (if ([]:List Wn).isEmpty then 0 else 1) < 30))=true) wE)(b:autoParam ((apos.endLine == cpos.line)=true) wE)(g:autoParam (bp [e] X.env=(false,eval e X.env)::bp [] X.env) wE)(a:autoParam ((backTo cpos (bp [] X.env)).any (·.1)=false) wE) :
  P3 K X (.Call (.Attribute o "removeprefix" apos) [e] [] cpos) (tBM K "str" SX to (jy te nJ)) (S7 o3 e3):=
 #[by subst j;exact uL Mg PySem.F.slot_str_removeprefix PySem.F.type_str_removeprefix PY h.pe (cf i.pe fm g) c d b g a,
  zy (P:=λz y Q f=>z.length<=sizeLine/\Q (.fz (.str (Xe z y))) f) h.rf i.rf λB F l H f z y Q m e q k=>#[z,y,rfl,rfl,q.1,k _ _ (eM e q.2)]]
theorem A7(m:X.K=K)(h:P3 K X o to o3)(i:P3 K X e te e3)(c:autoParam (vr o "split" X.env (eval o X.env)=eval o X.env) wE)(d:autoParam (((backTo cpos (bp [e] X.env)).all (λx=>!x.1) && (Wm cpos (DM [] X.env)).all (λx=>x.1.isSome)
   && decide ([e].length + ([]:List Wn).length + (if ([]:List Wn).isEmpty then 0 else 1) < 30))=true) wE)(b:autoParam ((apos.endLine == cpos.line)=true) wE)(g:autoParam (bp [e] X.env=(false,eval e X.env)::bp [] X.env) wE)(a:autoParam ((backTo cpos (bp [] X.env)).any (·.1)=false) wE) :
  P3 K X (.Call (.Attribute o "split" apos) [e] [] cpos) (tBM K "str" GQ to (jy te nJ)) (Sn o3 e3):=
 #[by subst m;exact uL Mg Yx PySem.F.type_str_split HL h.pe (cf i.pe fm g) c d b g a,
  zy (P:=λz y Q f=>((y.length == 0)=false/\z.length<=sizeLine/\(TH z y).length<=sizeLine)/\Q (.fr (.lst ((TH z y).map .str))) f) h.rf i.rf λB F n H f z y Q p e q k=>
   #[z,y,rfl,rfl,q.1.1,q.1.2.1,q.1.2.2,λl j=>k _ _ (kr e j (aN.strs _) q.2)]]
theorem DN(J:X.K=K)(n:P3 K X o to o3)(r:P3B K X e te b3)(c:autoParam (vr o "join" X.env (eval o X.env)=eval o X.env) wE)(d:autoParam (((backTo cpos (bp [e] X.env)).all (λx=>!x.1) && (Wm cpos (DM [] X.env)).all (λx=>x.1.isSome)
   && decide ([e].length + ([]:List Wn).length + (if ([]:List Wn).isEmpty then 0 else 1) < 30))=true) wE)(b:autoParam ((apos.endLine == cpos.line)=true) wE)(m:autoParam (bp [e] X.env=(false,eval e X.env)::bp [] X.env) wE)(a:autoParam ((backTo cpos (bp [] X.env)).any (·.1)=false) wE) :
  P3 K X (.Call (.Attribute o "join" apos) [e] [] cpos) (tBM K "str" (rJoin K) to (jy te nJ)) (Nh o3 b3):=
 #[by subst J;exact uL Mg PySem.F.slot_str_join PySem.F.type_str_join Ln n.pe (cf r.pe fm m) c d b m a,λB F j H u Q W N q k=>by
  refine n.rf B F j H u _ _ N q λx R Z=>?_;let#[F1,f,U,C,P,g,h]:=Z;let#[z,G,h]:=wH h;let#[S,A,O,l]:=P.frozen g;rw[G] at l;cases l;refine#[rfl,r.rf B S j R f _ _ O h λv Y Z=>?_];let#[F3,t,V,y,s,D,w,i,I,E]:=Z;let#[p,T,rfl,M,L]:=s.bo D i;cases aN.AG L;exact#[z,p,w,rfl,rfl,SqL.of M,I,k _ _ (Po.mono (C.trans (A.trans y)) (eM s E))]]
end
set_option backward.eqns.nonrecursive false in
def H9 (ds:List D)(Γ:G)(Q:RV->G->Prop):Prop:=match ds with
 | [.str z]=>∃ n,(ZH z=some n/\z.length<=640)/\Q (.fz (.int n)) Γ
 | _=>False
theorem uA:B3 K X (.type "int") (λxs H Q=>∃ z n,xs=[.str z]/\ZH z=some n/\z.length<=640/\Q (.int n) H) H9:=#[Fz,by
 intro B F b H c d f Q g e r q k;unfold H9 at q;split at q
 .let#[v,rfl,h]:=r.one;let#[n,a,q]:=q;cases h;exact#[_,n,rfl,a.1,a.2,k _ _ (gI e q)]
 .exact q.elim]
noncomputable def itx (i:Int):Str:=ah (toString i)
set_option backward.eqns.nonrecursive false in
def Ov (ds:List D)(Γ:G)(Q:RV->G->Prop):Prop:=match ds with
 | [.int i]=>i.natAbs < 10 ^ 60/\Q (.fz (.str (itx i))) Γ
 | _=>False
theorem rq:B3 K X (.type "str") (λxs H Q=>∃ i,xs=[.int i]/\i.natAbs.log2 < 1920/\Q (.str (toString i)) H) Ov:=#[Ae,by
 intro B F a H b c d Q f e r q k;unfold Ov at q;split at q
 .let#[v,rfl,h]:=r.one;cases h;exact#[_,rfl,of_decide_eq_true (wQ q.1),k _ _ (eM e q.2)]
 .exact q.elim]
noncomputable def inT (i j:Str):Bool:=!(jY j i 0 j.length 1).isEmpty
set_option backward.eqns.nonrecursive false in
def Qr (x y:D)(Γ:G)(Q:RV->G->Prop):Prop:=match x,y with
 | .str i,.str j=>Q (.fz (.bl (inT i j))) Γ
 | _,_=>False
theorem Rk:C3 K X .In (λx y H Q=>∃ i j,x=.str i/\y=.str j/\Q (.bl (!(jY j i 0 j.length 1).isEmpty)) H) Qr:=#[E4,by
 intro B F c H d x y g f Q h e b a q k;unfold Qr at q;split at q
 .cases b;cases a;exact#[_,_,rfl,rfl,k _ _ (lK e q)]
 .exact q.elim]
set_option backward.eqns.nonrecursive false in
noncomputable def isN:D->Bool
 | .non=>true | _=>false
def Qm (a:Bool)(x y:D)(Γ:G)(Q:RV->G->Prop):Prop:=y=.non/\Q (.fz (.bl (a ^^ isN x))) Γ
theorem HZ{d:D}{v:V}(h:jk K F H d v):decide (v=.non)=isN d:=by
 cases d <;> first
  | (cases h;rfl)
  | (let#[p,a,rfl,_]:=h;rfl)
  | (let#[p,rfl,_]:=h;rfl)
  | (let#[rfl,_]:=h;rfl)
  | (let#[p,c,b,rfl,_]:=h;rfl)
theorem Dc:C3 K X .Is (λx y H Q=>y=.non/\Q (.bl (decide (x=.non))) H) (Qm false):=#[Pu,λB F c H d x y g f Q h e b a q k=>by
 let#[rfl,q]:=q;cases a;rw[HZ b];exact#[rfl,k _ _ (lK e (by simpa using q))]]
theorem Mj:C3 K X .IsNot (λx y H Q=>y=.non/\Q (.bl (!decide (x=.non))) H) (Qm true):=#[K6,λB F c H d x y g f Q h e b a q k=>by
 let#[rfl,q]:=q;cases a;rw[HZ b];exact#[rfl,k _ _ (lK e (by simpa using q))]]
theorem KA(e:En K B F σ H Γ){l:Addr}(a:H l=none)(q:Q (.fz .dct) Γ):Po K B F σ Q (.ref l) (upd H l (.dK [])):=
 #[upd F l (.dK []),Γ,.fz .dct,a9 (e.nof a),(e.alloc a _).freeze (e.nof a) aB (e.dom _ a) (e.qY a),#[l,rfl,aB],q]
theorem Pg:P3 K X (.Dict [] [] pos) Gn (t3C .dct):=#[Hd,λB F b H c Q d e q k=>λp a=>k _ _ (KA e a q)]
theorem K0{x:Str}(b:Gl X x)(a:X.mg x=some (.ref C))(hd:autoParam (Vjj x) wP):P3 K X (.Name x pos) (tC (.ref C)) (t3C (.adr C)):=
 #[vK b a rfl hd,λB F c H f Q g e q k=>k _ _ (ku (d:=.adr C) e rfl q)]
end
noncomputable abbrev sg (z:Str):List Nat:=z.cps.toList
theorem dm{x:Str}(h:sg x=sg y):x=y:=Str.ext' (Array.toList_inj.mp h)
theorem aQ(z:Str):(sg z).length=z.length:=XW
theorem dN(x y:Str):sg (x++y)=sg x++sg y:=by simp [sg,Str.cps_append]
noncomputable def jn (sep:List Nat):List (List Nat)->List Nat
 | []=>[]
 | [x]=>x
 | x::y::r=>x++(sep++jn sep (y::r))
theorem km(sep:Str):∀ ws:Ls0,sg (tx sep ws)=jn (sg sep) (ws.map sg):=by
 intro ws;have e:tx sep ws=Str.join sep ws:=ae9 sep ws;rw[e]
 induction ws with
 | nil=>rfl
 | cons x r a=>
  cases r with
  | nil=>rfl
  | cons y r=>
   show sg (x++sep++Str.join sep (y::r))=_;rw[dN,dN,a (ae9 sep _),nR];rfl
theorem z7 {sep:List Nat}{y:List Nat}:∀ {xs:List (List Nat)},xs≠[]->jn sep (xs++[y])=jn sep xs++(sep++y)
 | [],h=>absurd rfl h
 | [x],_=>rfl
 | x::z::r,_=>by
  have:=z7 (sep:=sep) (y:=y) (xs:=z::r) (by simp);show x++(sep++jn sep (z::r++[y]))=x++(sep++jn sep (z::r))++(sep++y);rw[this];simp only[nR]
noncomputable def p7 (s sub:Str)(b a:Nat)(st:Array Nat×Nat)(i:Nat):Array Nat×Nat:=if ((st.1.size < a/\st.2<=i)/\i + sub.length<=b)/\NB s sub i=true then (st.1.push i,i + sub.length) else st
theorem M6 (s sub:Str)(b a:Nat):∀ (l:List Nat) (st:Array Nat×Nat),(forIn l st (ao5 s sub b a)).run=l.foldl (p7 s sub b a) st
 | [],st=>rfl
 | i::l,st=>by
  rw[Xq,Ze,<- M6 s sub b a l];unfold p7 ao5;split <;> rfl
theorem HA(s sub:Str):jY s sub 0 s.length (s.length + 1)=((ZY 0 (s.length + 1)).foldl (p7 s sub s.length (s.length + 1)) (#[],0)).1.toList:=by
 rw[StrLaws.occ_eq,<- M6];rfl
theorem skip {s sub:Str}{b a:Nat}{st:Array Nat×Nat}:∀ {l:List Nat},(∀ i∈l,¬ (st.2<=i/\i + sub.length<=b/\NB s sub i=true))->l.foldl (p7 s sub b a) st=st
 | [],_=>rfl
 | i::l,h=>by
  rw[Ze];have e:p7 s sub b a st i=st:=if_neg λq=>h i (by simp) #[q.1.1.2,q.1.2,q.2];rw[e];exact skip λj c=>h j (cb _ c)
theorem o9{s sub:Str}:NB s sub i=true↔((sg s).drop i).take sub.length=sg sub:=by
 unfold NB;rw[StrLaws.beq_toList,beq_iff_eq,Ji];simp [sg,Su]
noncomputable def uv (n:Nat)(p:Nat):List (List Nat)->List Nat
 | []=>[]
 | [_]=>[]
 | w::a::r=>(p + w.length)::uv n (p + w.length + n) (a::r)
theorem M8{s sub:Str}{c:Nat}{pre w post:List Nat}(b:sg s=pre++(w++post))(d:sg sub=c::cs)(a:c∉w)(h1:pre.length<=i)(f:i < pre.length + w.length):¬ NB s sub i=true:=by
 rw[o9,d];intro q;have g:((sg s).drop i).take sub.length≠[]:=by rw[q];simp
 have hd:(sg s)[i]?=some c:=by
  have e:(((sg s).drop i).take sub.length)[0]?=some c:=by rw[q];rfl
  rw[ZI] at e;split at e
  .rw[Yo] at e;simpa using e
  .cases e
 rw[b,yp h1,eW (by lia)] at hd;exact a (hF hd)
theorem scan {s sub:Str}{c:Nat}{cs:List Nat}(f:sg sub=c::cs):∀ (g:List (List Nat)) (pre:List Nat) (st:Array Nat×Nat),g≠[]->sg s=pre++jn (sg sub) g->(∀ w∈g,c∉w)->st.2<=pre.length->st.1.size<=pre.length->
  ((ZY pre.length (s.length + 1 - pre.length)).foldl (p7 s sub s.length (s.length + 1)) st).1.toList=st.1.toList++uv sub.length pre.length g
 | [],_,_,h,_,_,_,_=>absurd rfl h
 | [w],pre,st,_,d,l,y,x=>by
  have v:s.length=pre.length + w.length:=by rw[<- aQ,d];simp [jn]
  have e:1<=sub.length:=by rw[<- aQ,f];simp
  rw[skip,uv,nT];intro i a q;rw[ad8] at a;let#[j,p,rfl]:=a;exact M8 (pre:=pre) (w:=w) (post:=[]) (by rw[d];simp [jn]) f (l w (by simp)) (by lia) (by lia) q.2.2
 | w::k::r,pre,st,_,d,l,y,x=>by
  have b:sg s=(pre++(w++sg sub))++jn (sg sub) (k::r):=by rw[d];simp only[jn,nR]
  have e:sub.length=(sg sub).length:=(aQ sub).symm;have u:1<=sub.length:=by rw[e,f];simp
  have v:s.length=pre.length + (w.length + sub.length) + (jn (sg sub) (k::r)).length:=by rw[<- aQ,b];simp only[cn,e]
  have m:(pre++(w++sg sub)).length=pre.length + w.length + sub.length:=by simp only[cn,e];lia
  have D:s.length + 1 - pre.length=w.length + (1 + ((sub.length - 1) + (s.length + 1 - (pre.length + w.length + sub.length)))):=by lia
  rw[D,<- Zb,Xw,<- Zb,Xw,<- Zb,Xw];have C:(ZY pre.length w.length).foldl (p7 s sub s.length (s.length + 1)) st=st:=skip λi a q=>by
   rw[ad8] at a;let#[j,p,rfl]:=a;exact M8 (pre:=pre) (w:=w) (post:=sg sub++jn (sg sub) (k::r)) (by rw[d];rfl) f (l w (by simp)) (by lia) (by lia) q.2.2
  rw[C];have n:NB s sub (pre.length + w.length)=true:=by
   rw[o9,b,<- nR,nR (pre++w),show pre.length + w.length=(pre++w).length by simp,List.drop_left,e,ap8]
  have B:(ZY (pre.length + w.length) 1).foldl (p7 s sub s.length (s.length + 1)) st=(st.1.push (pre.length + w.length),pre.length + w.length + sub.length):=by
   show p7 s sub s.length (s.length + 1) st (pre.length + w.length)=_;exact if_pos #[#[#[by lia,by lia],by lia],n]
  rw[B];have A:(ZY (pre.length + w.length + 1) (sub.length - 1)).foldl (p7 s sub s.length (s.length + 1)) (st.1.push (pre.length + w.length),pre.length + w.length + sub.length)=(st.1.push (pre.length + w.length),pre.length + w.length + sub.length):=skip λi a q=>by
   rw[ad8] at a;let#[j,p,rfl]:=a;have:=q.1;simp only at this;lia
  rw[A,show pre.length + w.length + 1 + (sub.length - 1)=pre.length + w.length + sub.length by lia];have o:=scan f (k::r) (pre++(w++sg sub)) (st.1.push (pre.length + w.length),pre.length + w.length + sub.length) (by simp) b (λz t=>l z (cb _ t)) (by rw[m];exact cc _) (by rw[m,Array.size_push];lia);rw[m] at o;rw[o,uv];simp
theorem A6 {s:Str}{sep:List Nat}:∀ (a:List (List Nat)) (pre:List Nat),a≠[]->sg s=pre++jn sep a->
  ((pre.length::(uv sep.length pre.length a).map (· + sep.length)).zip (uv sep.length pre.length a++[s.length])).map (λx=>sg (yt s x.1 x.2))=a
 | [],_,h,_=>absurd rfl h
 | [w],pre,_,b=>by
  have g:s.length=pre.length + w.length:=by rw[<- aQ,b];simp [jn]
  simp only[uv,Wp,Os,Xo,List.zip_nil_left,gr];rw[show sg (yt s pre.length s.length)=(sg s).extract pre.length s.length from Ji,b,g];simp [Su,jn]
 | w::d::r,pre,_,b=>by
  have c:sg s=(pre++(w++sep))++jn sep (d::r):=by rw[b];simp only[jn,nR]
  have f:(pre++(w++sep)).length=pre.length + w.length + sep.length:=by simp only[cn];lia
  have e:=A6 (d::r) (pre++(w++sep)) (by simp) c;rw[f] at e;simp only[uv,gr,Ja,Xo];rw[e]
  congr 1
  rw[show sg (yt s pre.length (pre.length + w.length))=(sg s).extract pre.length (pre.length + w.length) from Ji,b];simp [Su,jn]
theorem vZ{sep:Str}{c:Nat}(m:sg sep=c::cs)(hk:sep.cps.all (· < 256)=true){ws:Ls0}(h:ws≠[])(l:∀ w∈ws,c∉sg w):TH (tx sep ws) sep=ws:=by
 have g:sg (tx sep ws)=[]++jn (sg sep) (ws.map sg):=km sep ws;have i:ws.map sg≠[]:=by simpa using h
 have f:∀ w∈ws.map sg,c∉w:=λw d=>by let#[z,k,rfl]:=ot.mp d;exact l z k
 have b:jY (tx sep ws) sep 0 (tx sep ws).length ((tx sep ws).length + 1)=uv sep.length 0 (ws.map sg):=by
  rw[HA];have:=scan m (ws.map sg) [] (#[],0) i g f (cc _) (cc _);simpa using this
 have j:Xa (tx sep ws) (uv sep.length 0 (ws.map sg)) sep.length=ws:=by
  have:=A6 (s:=tx sep ws) (ws.map sg) [] i g;rw[aQ] at this;have e:(Xa (tx sep ws) (uv sep.length 0 (ws.map sg)) sep.length).map sg=ws.map sg:=by
   unfold Xa;rw[Gc];exact this
  exact(Yp λx y q=>dm q).mp e
 have one:∀ w,ws=[w]->tx sep ws=w:=λw e=>by subst e;rfl
 have two:uv sep.length 0 (ws.map sg)=[]->∃ w,ws=[w]:=λe=>by
  match ws,h with
  | [w],_=>exact#[w,rfl]
  | w::a::r,_=>simp [uv] at e
 unfold TH;rw[b];split
 .rename_i q;rw[Wg,decide_eq_true_eq,decide_eq_true_eq] at q;have:∃ w,ws=[w]:=by
   match ws,h with
   | [w],_=>exact#[w,rfl]
   | w::a::r,_=>
    exfalso;have len:sep.length<=(tx sep (w::a::r)).length:=by
     rw[<- aQ (tx _ _),km,<- aQ sep];simp only[gr,jn,cn];lia
    have o:UF sep=1:=by unfold UF;rw[if_pos hk]
    have n:1<=UF (tx sep (w::a::r)):=by unfold UF;split <;> (try split) <;> lia
    lia
  let#[w,rfl]:=this;rw[one w rfl]
 .split
  .rename_i q;let#[w,rfl]:=two (am7.mp q);rw[one w rfl]
  .exact j
noncomputable def dg (m:Nat):List Nat:=(ad2 10 m).map aj1
theorem tG(h:m < 10):dg m=[48 + m]:=by
 unfold dg;rw[Nat.toDigits_of_lt_base h];have:∀ d:Nat,d < 10->(Nat.digitChar d).toNat=48 + d:=by decide
 rw[List.map_singleton,this m h]
theorem tF(h:10<=m):dg m=dg (m / 10)++[48 + m % 10]:=by
 have t:ad2 10 (m / 10)++ad2 10 (m % 10)=ad2 10 (10 * (m / 10) + m % 10):=Nat.toDigits_append_toDigits (by decide) (by lia) (ap9 _ (by decide));rw[Nat.div_add_mod] at t;have e:=tG (m:=m % 10) (ap9 _ (by decide));unfold dg at e ⊢;rw[<- t,hD,e]
theorem rj(m:Nat):∀ c∈dg m,48<=c/\c<=57:=by
 induction m using ad7 with
 | _ m a=>
  intro c hc;by_cases h:m < 10
  .rw[tG h,ng] at hc;lia
  .rw[tF (by lia),kS,ng] at hc;rcases hc with hc | hc
   .exact a _ (by lia) c hc
   .lia
theorem CW(m:Nat):1<=(dg m).length:=by
 by_cases h:m < 10
 .rw[tG h];simp
 .rw[tF (by lia)];simp
theorem vR:∀ (k m:Nat),m < 10 ^ (k + 1)->(dg m).length<=k + 1
 | 0,m,h=>by rw[tG (by simpa using h)];simp
 | k + 1,m,h=>by
  by_cases q:m < 10
  .rw[tG q];simp
  .rw[tF (by lia),cn];have:=vR k (m / 10) (Nat.div_lt_of_lt_mul (by rw[ak9,Nat.mul_comm] at h;exact h));simp;lia
theorem D_(h:m≠0):∃ c r,dg m=c::r/\c≠48:=by
 induction m using ad7 with
 | _ m a=>
  by_cases q:m < 10
  .exact#[_,_,tG q,by lia]
  .let#[c,r,e,b]:=a (m / 10) (by lia) (by lia);exact#[c,_,by rw[tF (by lia),e];rfl,b]
theorem IK(m:Nat):PySem.NumText.digitsVal (dg m)=m:=PySem.W.KIN.val_back m
theorem oC(n:Int):sg (itx n)=if n < 0 then 45::dg n.natAbs else dg n.natAbs:=by
 cases n with
 | ofNat m=>
  rw[if_neg (by have:(0:Int)<=Int.ofNat m:=ZJ m;lia)];exact PySem.W.KIN.signs_num m
 | negSucc m=>
  rw[if_pos (Int.negSucc_lt_zero m)];have:sg (itx (Int.negSucc m))=("-"++Nat.repr (m + 1)).toList.map aj1:=by
   show (ah (toString (Int.negSucc m))).cps.toList=_;rw[Hz];rfl
  rw[this,String.toList_append,hD,Nat.toList_repr]
  rfl
theorem uo{n:Int}{c:Nat}(h:c∈sg (itx n)):c=45\/(48<=c/\c<=57):=by
 rw[oC] at h;split at h
 .rcases dk.mp h with h | h
  .exact .inl h
  .exact .inr (rj _ c h)
 .exact .inr (rj _ c h)
theorem mY{n:Int}(h:n.natAbs < 10 ^ 15):(itx n).length<=16:=by
 have:=vR 14 _ h;rw[<- aQ,oC];split
 .rw[ed];lia
 .lia
theorem mZ{n:Int}(h:n.natAbs < 10 ^ 15):ZH (itx n)=some n:=by
 have c:=mY h;have e:=oC n;have b:dg n.natAbs≠[]:=λz=>by have:=CW n.natAbs;rw[z] at this;simp at this
 split at e
 .rw[PySem.intText_neg e (rj _) b (by lia),IK]
  congr 1;lia
 .have a:(itx n).cps.toList=dg n.natAbs:=e;rw[PySem.intText_digits (by rw[a];exact rj _) (by rw[a];exact b) (by lia),a,IK]
  congr 1;lia
section
variable {t:TS}{t3:TS3}
theorem P3S.ofX(h:∀ B F0,pZ K X B F0 st t t3):P3S K X st t t3:=#[(h #[λ_=>none,λ_=>none,[]] λ_=>none).pe,λB F a H b D c e k q=>(h B F).rf F a H b D c (aS.refl F) e k q]
def VN (K:Fg0):Sp:=λvs H Q _=>∃ e C dx y,vs=[.ref e,y]/\jt K C "ValueError" "ValueError.__new__"=true/\H e=some (df e C dx)/\Q .non H
end
def fz3 (a:TE3)(Γ:G)(Q:RV->G->Prop):Prop:=a Γ λr aa=>Q (.fz r.d) aa
theorem Hm(h:P3 K X e te e3):P3 K X e te (fz3 e3):=#[h.pe,λB F b H c Q p j q k=>h.rf B F b H c _ _ j q λv n Z=>by
 let#[t,a,r,s,m,f,i]:=Z;let#[o,d,l,g]:=m.frozen f;exact k v n #[o,a,.fz r.d,s.trans d,l,g,i]]
def Uu (S:S3X)(Γa:G)(ls:On)(Γ:G)(Q:RV->G->Prop)(W:XD->G->Prop)(_:Tag (Q,W)):Prop:=S Γa (λr a=>Q r (br ls Γ a)) λx a=>W x (br ls Γ a)
section
variable {W:XD->G->Prop}{D:E3}
theorem Mf{S:S3X}{b:gy}:C_ n S b W Γ Q=(b Γ λa aa=>a.length=n/\(gf a).Nodup/\Uu S (gw aa (a.map some)) ((a.map some).map cR) aa Q W ⟨⟩):=rfl
theorem Kg:Cg C ns t3 W D Γ=(t3 Γ λds aa=>ds.length=ns.length/\W #[C,ns,ds] aa):=rfl
def mC (o:Option Nat)(k:Nat->Prop)(_:Tag k):Prop:=∃ c,o=some c/\k c
theorem T_{i:Int}:ix3 (.str z) (.int i) Γ Q=(z.length<=sizeLine/\mC (atI z.cps.toList i) (λc=>Q (.fz (.str #[(Vz9 [c])])) Γ) ⟨⟩):=rfl
end
end _3
namespace _2
open PySem PySem.Spec PyProof.Rows
section
variable {b:Expr}{tb:TE}{rest:List Expr}
noncomputable def GP:V->List V->Hp->VK->Prop:=λx vs H Q=>∃ z n,x=.str z/\vs=[.int n]/\PadOk n=true/\Q (.str (aq5 z n)) H
theorem HK:MtR X "str.zfill" GP:=by
 intro a s g H x i v j Q I c d h;let#[z,n,rfl,rfl,f,q]:=h;let#[t,rfl]:=c;let#[u,rfl,e]:=d.one;let#[b,rfl]:=e;exact SC.zfill f λb k=>#[.str _,H,I.tok _,#[_,rfl],q]
abbrev TJ:=St->Hp->Str->VK->Prop
def PJ (X:Cx)(b:List Expr)(t:TJ):Prop:=∀ (pins:Pn0) (s:Shared) (σ:St) (H:Hp) (a:Str) (Q:VK),Inv X pins σ H s->t σ H a Q->wpAny (model X.prog X.w) X.A (joinParts a (evalEach b X.env)) (EP X pins σ Q) X.xe s
noncomputable def tJN:TJ:=λ_ H a Q=>a.length<=sizeLine/\Q (.str a) H
noncomputable def tJC (te:TE)(t:TJ):TJ:=λσ H a Q=>te σ H λx H1=>∃ y,x=.str y/\(a++y).length<=sizeLine/\t σ H1 (a++y) Q
theorem O3:PJ X [] tJN:=λb s c H a Q I h=>joinParts_nil #[.str a,H,I.tok _,#[_,rfl],h.2] h.1
theorem KG{t:TJ}(k:PE X e te)(j:PJ X es t):PJ X (e::es) (tJC te t):=λa s c H g Q I h=>by
 refine joinParts_cons (thn (k a s c H _ I h) λv d Z=>?_);let#[x,m,l,f,b]:=Z;let#[y,rfl,i,b]:=b;let#[t,rfl]:=f;exact#[i,j a d c m _ Q l b]
theorem KP{t:TJ}(h:PJ X (a::b::rest) t):PE X (.JoinedStr (a::b::rest) pos) (λσ H Q=>t σ H mu Q):=λc s σ H Q I q=>JoinedStr_many (h c s σ H mu Q I q)
def tFv (te:TE):TE:=λσ H Q=>te σ H λx H1=>(∃ z,x=.str z/\z.length<=sizeLine/\Q (.str z) H1)\/∃ i,x=.int i/\i.natAbs.log2 < 1920/\Q (.str (toString i)) H1
theorem Tc(l:PE X e te):PE X (.FormattedValue e (-1) none pos) (tFv te):=λb s g H Q I h=>by
 refine FormattedValue_plain (thn (l b s g H _ I h) λv o Z=>?_);let#[x,f,d,c,a]:=Z;rcases a with ⟨z,rfl,j,a⟩ | ⟨i,rfl,k,a⟩
 .let#[t,rfl]:=c;exact formatField_str (λn m=>#[.str z,f,d.tok _,#[_,rfl],a]) j
 .let#[t,rfl]:=c;exact formatField_int_small k #[.str _,f,d.tok _,#[_,rfl],a]
theorem C8(j:eK k X.A):cJ X (.builtin "repr") (λxs H Q=>(xs=[.non]/\Q (.str "None") H)\/(∃ c,xs=[.bl c]/\Q (.str (if c then "True" else "False")) H)\/(∃ i,xs=[.int i]/\i.natAbs.log2 < 1920/\Q (.str (toString i)) H)\/∃ z,xs=[.str z]/\(Wz z).length<=sizeLine/\Q (.str (Wz z)) H):=by
 intro b s f H xs g Q I r h;rcases h with ⟨rfl,q⟩ | ⟨c,rfl,q⟩ | ⟨i,rfl,e,q⟩ | ⟨z,rfl,d,q⟩
 .let#[u,rfl,a]:=vals1 r;cases a;exact P.repr_of_none #[.str _,H,I.tok _,#[_,rfl],q]
 .let#[u,rfl,a]:=vals1 r;cases a;exact P.repr_of_bool #[.str _,H,I.tok _,#[_,rfl],q]
 .let#[u,rfl,a]:=vals1 r;let#[t,rfl]:=a;exact P.repr_of_int e #[.str _,H,I.tok _,#[_,rfl],q]
 .let#[u,rfl,a]:=vals1 r;let#[t,rfl]:=a;exact P.repr_of_str #[.str _,H,I.tok _,#[_,rfl],q] d
theorem Kv{t:TS}(h:PS (X.i8 λ_ _=>False) st t):PS X st t:=λd s e H D I q=>by
 refine Bk (h d s e H D (I.i8 _) q) (λf g q=>?_) λ_ _ z=>z.elim;cases f with
 | next=>let#[a,c,b,q]:=q;exact#[a,c,b.bZ,q]
 | brk=>let#[a,c,b,q]:=q;exact#[a,c,b.bZ,q]
 | cont=>let#[a,c,b,q]:=q;exact#[a,c,b.bZ,q]
 | ret u=>let#[v,a,c,b,r,q]:=q;exact#[v,a,c,b.bZ,r,q]
end
end _2
namespace _3
open PySem _2
section
variable {b:Expr}{rest:List Expr}{to tb:TE}{o3 a3 b3:TE3}
set_option backward.eqns.nonrecursive false in
def Pk (ds:List D)(Γ:G)(Q:RV->G->Prop):Prop:=match ds with
 | [.str z]=>z.length=1/\Q (.fz (.int (z.cps.getD 0 0:Nat))) Γ
 | _=>False
theorem Jb:B3 K X (.builtin "ord") (λxs H Q=>∃ x,xs=[.str x]/\x.length=1/\Q (.int (x.cps.getD 0 0:Nat)) H) Pk:=#[IW,by
 intro B F a H b c d Q f e r q k;unfold Pk at q;split at q
 .let#[v,rfl,h]:=r.one;cases h;exact#[_,rfl,q.1,k _ _ (gI e q.2)]
 .exact q.elim]
def oIn (d:D)(k:Int->Prop)(_:Tag k):Prop:=match d with
 | .int i=>k i
 | _=>False
theorem La{i:Int}{k:Int->Prop}{t:Tag k}:oIn (.int i) k t=k i:=rfl
theorem PK{d:D}{k:Int->Prop}{t:Tag k}(h:oIn d k t):∃ i,d=.int i/\k i:=by
 unfold oIn at h;split at h
 .exact#[_,rfl,h]
 .exact h.elim
def zf3 (b c:TE3)(Γ:G)(Q:RV->G->Prop):Prop:=b Γ λx aa=>oSt x.d (λz=>c aa λr a=>oIn r.d (λn=>PadOk n=true/\Q (.fz (.str (aq5 z n))) a) ⟨⟩) ⟨⟩
theorem Hk(I:X.K=K)(n:P3 K X o to o3)(p:P3 K X e te e3)(c:autoParam (vr o "zfill" X.env (eval o X.env)=eval o X.env) wE)(f:autoParam (((backTo cpos (bp [e] X.env)).all (λx=>!x.1) && (Wm cpos (DM [] X.env)).all (λx=>x.1.isSome)
   && decide ([e].length + ([]:List Wn).length + (if ([]:List Wn).isEmpty then 0 else 1) < 30))=true) wE)(b:autoParam ((apos.endLine == cpos.line)=true) wE)(m:autoParam (bp [e] X.env=(false,eval e X.env)::bp [] X.env) wE)(a:autoParam ((backTo cpos (bp [] X.env)).any (·.1)=false) wE) :
  P3 K X (.Call (.Attribute o "zfill" apos) [e] [] cpos) (tBM K "str" GP to (jy te nJ)) (zf3 o3 e3):=
 #[by subst I;exact uL Mg PySem.F.slot_str_zfill PySem.F.type_str_zfill HK n.pe (cf p.pe fm m) c f b m a,λB F l H t Q S J q k=>by
  refine n.rf B F l H t _ _ J q λx O Z=>?_;let#[W,h,R,C,N,i,j]:=Z;let#[z,E,j]:=wH j;let#[P,A,M,d]:=N.frozen i;rw[E] at d;cases d;refine#[rfl,p.rf B P l O h _ _ M j λv T Z=>?_];let#[V,s,r,w,e3,D,g]:=Z;let#[y,G,g]:=PK g;let#[U,u,L,d]:=e3.frozen D;rw[G] at d;cases d;exact#[z,y,rfl,rfl,g.1,k _ _ (Po.mono (C.trans (A.trans (w.trans u))) (eM L g.2))]]
abbrev TJ3:=Str->G->(RV->G->Prop)->Prop
structure P3J (K:Fg0) (X:Cx) (es:List Expr) (t:TJ) (t3:TJ3):Prop where
 pe:PJ X es t
 rf:∀ (B:Bs) (F:Hp) (σ:_2.St) (H:Hp) (Γ:G) (out:Str) (Q:RV->G->Prop) (QQ:VK),En K B F σ H Γ->t3 out Γ Q->(∀ v H',Po K B F σ Q v H'->QQ v H')->t σ H out QQ
def jN3 (a:Str)(Γ:G)(Q:RV->G->Prop):Prop:=a.length<=sizeLine/\Q (.fz (.str a)) Γ
def jC3 (c:TE3)(b:TJ3)(a:Str)(Γ:G)(Q:RV->G->Prop):Prop:=c Γ λx aa=>oSt x.d (λy=>(a++y).length<=sizeLine/\b (a++y) aa Q) ⟨⟩
theorem Qc:P3J K X [] tJN jN3:=#[O3,λB F b H c a Q d e q k=>#[q.1,k _ _ (eM e q.2)]]
theorem gi{t:TJ}{f:TJ3}(i:P3 K X e te e3)(h:P3J K X es t f):P3J K X (e::es) (tJC te t) (jC3 e3 f):=#[KG i.pe h.pe,λB F d H j n Q D s q k=>by
 refine i.rf B F d H j _ _ s q λx z Z=>?_;let#[G,a,C,m,w,b,c]:=Z;let#[y,o,r,c]:=wH c;let#[A,l,u,g]:=w.frozen b;rw[o] at g;cases g;exact#[y,rfl,r,h.rf B A d z a _ _ _ u c λv E p=>k _ _ (p.mono (m.trans l))]]
theorem K1{t:TJ}{c:TJ3}(h:P3J K X (a::b::rest) t c):P3 K X (.JoinedStr (a::b::rest) pos) (λσ H Q=>t σ H mu Q) (c mu):=#[KP h.pe,λB F σ H d Q f e q k=>h.rf B F σ H d _ _ _ e q k]
def oFv (d:D)(k:Str->Prop)(_:Tag k):Prop:=match d with
 | .str z=>z.length<=sizeLine/\k z
 | .int i=>i.natAbs < 10 ^ 60/\k (itx i)
 | _=>False
theorem Lb{k:Str->Prop}{t:Tag k}:oFv (.str z) k t=(z.length<=sizeLine/\k z):=rfl
theorem Lc{i:Int}{k:Str->Prop}{t:Tag k}:oFv (.int i) k t=(i.natAbs < 10 ^ 60/\k (itx i)):=rfl
theorem PM{d:D}{k:Str->Prop}{t:Tag k}(h:oFv d k t):(∃ z,d=.str z/\z.length<=sizeLine/\k z)\/∃ i,d=.int i/\i.natAbs < 10 ^ 60/\k (itx i):=by
 unfold oFv at h;split at h
 .exact .inl #[_,rfl,h]
 .exact .inr #[_,rfl,h]
 .exact h.elim
def fv3 (a:TE3)(Γ:G)(Q:RV->G->Prop):Prop:=a Γ λx aa=>oFv x.d (λz=>Q (.fz (.str z)) aa) ⟨⟩
theorem A8(j:P3 K X e te e3):P3 K X (.FormattedValue e (-1) none pos) (tFv te) (fv3 e3):=#[Tc j.pe,λB F m H o Q u r q k=>by
 refine j.rf B F m H o _ _ r q λx v Z=>?_;let#[y,n,t,h,s,b,p]:=Z;let#[w,g,l,a]:=s.frozen b;rcases PM p with ⟨z,f,d,c⟩ | ⟨i,f,d,c⟩
 .rw[f] at a;cases a;exact .inl #[z,rfl,d,k _ _ (Po.mono (h.trans g) (eM l c))]
 .rw[f] at a;cases a;exact .inr #[i,rfl,of_decide_eq_true (wQ d),k _ _ (Po.mono (h.trans g) (eM l c))]]
noncomputable def scl:D->Option Str
 | .non=>some "None"
 | .bl c=>some (if c then "True" else "False")
 | .int i=>some (itx i)
 | .str z=>some (Wz z)
 | _=>none
noncomputable def rpr (d:D):Str:=(scl d).getD (shw d)
def okR (d:D):Prop:=(OG d=true\/d=.dct)/\Sh 10000000 20 d\/d=.non\/(∃ c,d=.bl c)\/(∃ i,d=.int i/\i.natAbs < 10 ^ 60)\/∃ z,d=.str z/\(Wz z).length<=sizeLine
set_option backward.eqns.nonrecursive false in
def zv (ds:List D)(Γ:G)(Q:RV->G->Prop):Prop:=match ds with
 | [d]=>okR d/\Q (.fz (.str (rpr d))) Γ
 | _=>False
theorem Ak(o:X.K=K)(j:eK k X.A):B3 K X (.builtin "repr") (λxs H Q=>(∃ a d,xs=[.ref a]/\Dt K H (.ref a) d/\Shw d/\Q (.str d.shown) H)\/((xs=[.non]/\Q (.str "None") H)\/(∃ c,xs=[.bl c]/\Q (.str (if c then "True" else "False")) H)\/(∃ i,xs=[.int i]/\i.natAbs.log2 < 1920/\Q (.str (toString i)) H)\/∃ z,xs=[.str z]/\(Wz z).length<=sizeLine/\Q (.str (Wz z)) H)) zv:=
 #[by subst o;exact cJ.or (C9 j) (C8 j),by
 intro B F t H u w x Q y e r q k;unfold zv at q;split at q
 .let#[hd,q]:=q;let#[v,rfl,h]:=r.one;rcases hd with ⟨f,g⟩ | rfl | ⟨c,rfl⟩ | ⟨i,rfl,n⟩ | ⟨z,rfl,m⟩
  .left
   have b:=g.spec;have fin:Shw (dt _):=#[b.sh,b.dp,by rw[ff];have:=b.ln;lia];rename_i d;rcases f with f | rfl
   .let#[a,rfl,hd]:=g.dtB f e.sub h;have s:rpr d=shw d:=by cases d <;> first | rfl | cases f
    rw[s] at q;exact#[a,_,rfl,hd,fin,k _ _ (eM e q)]
   .have l:Rep K F .dct v:=h;have hd:=b.dt e.sub l;let#[p,rfl,_]:=l;exact#[p,_,rfl,hd,fin,k _ _ (eM e q)]
  .cases h;exact .inr (.inl #[rfl,k _ _ (eM e q)])
  .cases h;exact .inr (.inr (.inl #[c,rfl,k _ _ (eM e q)]))
  .cases h;exact .inr (.inr (.inr (.inl #[i,rfl,of_decide_eq_true (wQ n),k _ _ (eM e q)])))
  .cases h;exact .inr (.inr (.inr (.inr #[z,rfl,m,k _ _ (eM e q)])))
 .exact q.elim]
theorem pG(b:cy k X.A)(e:autoParam (X.K=K) wE):B3 K X (.builtin "repr") (λxs H Q=>(∃ a d,xs=[.ref a]/\Dt K H (.ref a) d/\Shw d/\Q (.str d.shown) H)\/((xs=[.non]/\Q (.str "None") H)\/(∃ c,xs=[.bl c]/\Q (.str (if c then "True" else "False")) H)\/(∃ i,xs=[.int i]/\i.natAbs.log2 < 1920/\Q (.str (toString i)) H)\/∃ z,xs=[.str z]/\(Wz z).length<=sizeLine/\Q (.str (Wz z)) H)) zv:=Ak e b.h
theorem P3S.calm{t:TS}{t3:TS3}(h:P3S K (X.i8 λ_ _=>False) st t t3):P3S K X st t t3:=#[Kv h.pe,h.rf]
end
end _3
namespace _2
open PySem PySem.Spec PyProof.Rows
structure uF (K:Fg0) (U C:Addr):Prop where
 mro:∃ cd rest,WV K C=some cd/\cd.mro=.ref C::rest/\rest.all (λv=>match v with | .ref a=>a == U | .type _=>true | _=>false)=true/\(C=U\/fS U∈rest)/\Xi "ValueError"∈rest
 ty:KF K (.ref C)=some (.type "type")
section
variable {U D:Addr}
theorem uF.sub(x:uF K U C)(v:Value):∃ cd rest,WV K C=some cd/\cd.mro=.ref C::rest/\PySem.W.subIn K (.ref C) v=some (cd.mro.contains v):=by
 let#[cd,rest,b,a,_]:=x.mro;refine#[cd,rest,b,a,?_];show ia K C v=_;unfold ia;rw[b,YU,if_neg (by rw[a];simp)]
theorem uF.self:aw K (.ref C) (.ref C)=some true:=by
 unfold aw;rw[if_pos (by simp)]
end
structure FE (K:Fg0) (U C f:Addr) (ns:Ls0):Prop where
 xm:XMk K C f
 cl:Dj K C
 is:XIs K C
 un:uF K U C
 na:∀ n∈ns,bK K C n
 tk:∀ n∈ns,Do K C n=some none
noncomputable def N7 (K:Fg0)(U C:Addr):Bool:=match WV K C with
 | none=>false
 | some cd=>match cd.mro with
  | .ref c::rest=>c == C && rest.all (λv=>match v with | .ref a=>a == U | .type _=>true | _=>false) && (C == U || rest.contains (.ref U)) && rest.contains (.type "ValueError")
  | _=>false
theorem N6{U:Addr}(h:N7 K U C=true)(ty:KF K (.ref C)=some (.type "type")):uF K U C:=by
 unfold N7 at h;cases e:WV K C with
 | none=>rw[e] at h;cases h
 | some g=>
  rw[e] at h;dsimp only at h;split at h
  .rename_i c rest a;simp only[eN,Wg,beq_iff_eq] at h;let#[#[#[rfl,f],d],b]:=h;exact#[#[g,rest,e,a,f,d.imp id YL.mp,YL.mp b],ty]
  .cases h
noncomputable def xoB (K:Fg0)(U C f:Addr)(a:Ls0):Bool:=
 jt K C "ValueError" "ValueError.__new__" && dV K (.ref C) "__init__" == some (some (.ref f)) && YC K (.ref f) && kv K (.ref C) && ov K C && (WV K C).any (λcd=>t5 cd.mro)
 && dV K (.ref C) "__setattr__" == some (some (.builtin "object.__setattr__")) && dV K (.ref C) "__getattribute__" == some (some (.builtin "BaseException.__getattribute__")) && dV K (.ref C) "__getattr__" == some none
 && ia K C (.type "BaseException") == some true && dV K (.ref C) "__class__" == some (some (.builtin "object.__class__")) && VC K (.builtin "object.__class__") "__get__" == some (some (.builtin "getset_descriptor.__get__"))
 && ad4 K (.builtin "object.__class__") == some true && ia K C (.type "object") == some true && N7 K U C && KF K (.ref C) == some (.type "type")
 && a.all (λn=>dV K (.ref C) n == some none && Do K C n == some none)
theorem Ax{U:Addr}(h:xoB K U C f ns=true):FE K U C f ns:=by
 unfold xoB at h;simp only[eN,beq_iff_eq,XO] at h;let#[#[#[#[#[#[#[#[#[#[#[#[#[#[#[#[u,t],s],r],l],q],p],o],m],k],j],i],g],e],d],c],a]:=h;exact#[#[u,t,s,r],#[l,q,p],#[#[o,m,l,k],j,i,g,e],N6 d c,λn b=>(a n b).1,λn b=>(a n b).2]
noncomputable def PR:La0->Bool
 | []=>true
 | x::xs=>xs.all (λy=>!(x == y)) && PR xs
end _2
namespace _3
open PySem _2 PySem.Spec PyProof.Rows
section
variable {b:Expr}{tb:TE}
theorem aN.times(r:aN K F xs vs):∀ n:Nat,aN K F (bw n xs).flatten (bw n vs).flatten
 | 0=>rfl
 | n + 1=>by
  rw[rd,rd,Tf,Tf];exact r.append (aN.times r n)
set_option backward.eqns.nonrecursive false in
def DP (x y:D)(Γ:G)(Q:RV->G->Prop):Prop:=match x,y with
 | .lst xs,.int n=>(0<=n/\n<=1000/\xs.length * n.toNat<=sizeLine)/\Q (.fr (.lst (bw n.toNat xs).flatten)) Γ
 | _,_=>False
theorem Ll:oX K OR DP:=by
 intro B F h H i x y o n Q s e c b q k;unfold DP at q;split at q
 .let#[#[m,j,f],q]:=q;cases b;let#[p,a,rfl,g,r]:=c;exact#[p,_,a,rfl,rfl,g,by lia,by lia,by rw[r.length];exact f,λl d=>k _ _ (kr e d (r.times _) q)]
 .exact q.elim
theorem je(d:P3B K X a ta a3)(c:P3B K X b tb b3):P3 K X (.BinOp a .Mult b pos) (tOp OR ta tb) (nP DP a3 b3):=#[rW Pn d.pe c.pe,jF Ll d.rf c.rf]
end
end _3
namespace _2
open PySem PySem.Spec PyProof.Rows
def MF (X:Cx)(L:Nat):Prop:=∀ (i:Nat) (x:Str),L<=i->X.N[i]?=some x->¬ Vis X.env.scope x
def Gh (L:Nat)(σ a:St):Prop:=a.length=σ.length/\∀ i,i < L->a[i]?=σ[i]?
def tGh (L:Nat)(t:TS):TS:=λD σ H=>∃ ay,Gh L σ ay/\t D ay H
section
variable {pins:Pn0}{s:Shared}{L:Nat}{t:TS}
theorem Inv.ghost(I:Inv X pins σ H s)(P:MF X L)(g:Gh L σ ay):Inv X pins ay H s:=
 #[I.ok,I.os,I.bare,I.base,let ⟨m,d,a⟩:=I.loc;#[m,d,λi x v c e b=>by
  by_cases lt:i < L
  .exact a i x v c (by rw[<- g.2 i lt];exact e) b
  .exact absurd b (P i x (am4 lt) c)],I.cell,I.free,I.freeC,I.pin,I.hok,g.1.trans I.len]
theorem OX(P:MF X L)(h:PSs X ss t):PSs X ss (tGh L t):=λa s c H D I ⟨b,g,q⟩=>h a s b H D (I.ghost P g) q
noncomputable def G8 (N:Ls0)(a:Scope)(L:Nat):Bool:=(N.drop L).all λx=>(a.names.lookup x).isNone
theorem KJ(b:X.N=N)(h:G8 N X.env.scope L=true):MF X L:=λi x a e v=>by
 subst b;unfold G8 at h;rw[XO] at h;have m:x∈X.N.drop L:=by
  have:(X.N.drop L)[i - L]?=some x:=by rw[Yo,Nat.add_sub_cancel' a];exact e
  exact hF this
 have:=h x m;rcases v with v | v | v <;> rw[v] at this <;> cases this
end
end _2
namespace _3
open PySem _2 PySem.Spec PyProof.Rows
section
def Wk (K:Fg0)(Γ Γ':G):Prop:=∀ (B:Bs) (F:Hp) (σ:_2.St) (H:Hp),En K B F σ H Γ->∃ F',aS F F'/\En K B F' σ H Γ'
def wk3 (K:Fg0)(a:TS3)(D:E3)(Γ:G):Prop:=∃ Γ',Wk K Γ Γ'/\a D Γ'
theorem S4{t:TS}{c:TS3}(h:lB K X ss t c):lB K X ss t (wk3 K c):=#[h.pe,λB F b H j D i e k Z=>by
 let#[a,w,q]:=Z;let#[g,d,f]:=w B F b H e;exact h.rf B g b H a D i f (k.mono d) q]
theorem En.VQ(e:En K B F σ H Γ){d d':D}(h:Γ[i]?=some (some (Sl.fz d)))(r:∀ v,σ[i]?=some (some v)->Rep K F d' v):En K B F σ H (Γ.set i (some (Sl.fz d'))):=by
 have il:i < Γ.length:=(gS0 h).1;have f:∀ {j:Nat} {s:Sl},(Γ.set i (some (Sl.fz d')))[j]?=some (some s)->(j=i/\s=.fz d')\/(j≠i/\Γ[j]?=some (some s)):=λ{j s} q=>by
  by_cases z:j=i
  .subst z;rw[aV il] at q;cases q;exact .inl #[rfl,rfl]
  .rw[aW (ky z)] at q;exact .inr #[z,q]
 have c:∀ {j:Nat} {x:D},Hld (Γ.set i (some (Sl.fz d'))) j x->Hld Γ j x:=λ{j x} q=>by
  rcases q with q | q <;> rcases f q with ⟨_,z⟩ | ⟨_,z⟩
  .cases z
  .exact .inl z
  .cases z
  .exact .inr z
 refine#[e.sub,by rw[rk];exact e.len,λj x q=>?_,λj x q=>e.hl j x (c q),λj x p q a=>?_,λj x p q a=>?_,λj k x y p l g=>e.dis j k x y p (c l) (c g),λj p q=>?_,e.keep,e.new,e.rest,e.dom]
 .rcases f q with ⟨rfl,z⟩ | ⟨_,z⟩
  .cases z;let#[v,a,_]:=e.fz _ _ h;exact#[v,a,r v a]
  .exact e.fz j x z
 .rcases f q with ⟨_,z⟩ | ⟨_,z⟩
  .cases z
  .exact e.ow j x p z a
 .rcases f q with ⟨_,z⟩ | ⟨_,z⟩
  .cases z
  .exact e.ln j x p z a
 .let#[a,x,b]:=e.par j p q;have z:i≠j:=λz=>by subst z;rw[h] at b;cases b
  exact#[a,x,by rw[aW z];exact b]
theorem En.adr(e:En K B F σ H Γ)(h:Hld Γ i (.cel q xs)):σ[i]?=some (some (V.ref q))/\F q=none/\∃ vs,H q=some (.lst vs)/\aN K F xs vs:=by
 let#[p,a,b,rfl,vs,c,d]:=e.hl i _ h;exact#[a,b,vs,c,d]
def MB (r:RV)(k:Addr->Prop):Prop:=match r with
 | .fz (.adr q)=>k q
 | _=>False
theorem MA{r:RV}{k:Addr->Prop}(h:MB r k):∃ q,r=.fz (.adr q)/\k q:=by
 cases r with
 | fz d=>cases d <;> first | exact h.elim | exact#[_,rfl,h]
 | fr _=>exact h.elim
 | two _ _=>exact h.elim
 | rws _=>exact h.elim
def J3 (r:RV)(k:List (List D)->Prop):Prop:=match r with
 | .rws xss=>k xss
 | _=>False
theorem J2{r:RV}{k:List (List D)->Prop}(h:J3 r k):∃ xss,r=.rws xss/\k xss:=by
 cases r with
 | rws xss=>exact#[_,rfl,h]
 | fz _=>exact h.elim
 | fr _=>exact h.elim
 | two _ _=>exact h.elim
def vB (b:Bo)(k:Nat->Prop):Prop:=match b with
 | .v j=>k j
 | .d _=>False
def Vf (a:TE3)(Γ:G)(Q:Bo->G->Prop):Prop:=a Γ λr aa=>MB r λq=>∃ j xs,Hld aa j (.cel q xs)/\Q (.v j) aa
theorem bA(h:P3 K X e te e3):P3B K X e te (Vf e3):=#[h.pe,by
 intro B F d H f Q s n q k;refine h.rf B F d H f _ _ n q λv t Z=>?_;let#[o,a,r,g,c,i,b]:=Z;let#[q',rfl,j,p,m,b]:=MA b;have l:v=.ref q':=i;subst l;exact k _ _ #[o,a,.v j,g,c,(c.adr m).1,b]]
noncomputable def xE (Γ:G)(j:Nat)(xs:List D):G:=match Γ[j]? with
 | some (some (.ow (.cel q _)))=>Γ.set j (some (.ow (.cel q xs)))
 | some (some (.ln (.cel q _)))=>Γ.set j (some (.ln (.cel q xs)))
 | _=>Γ
theorem Kk(h:Hld Γ j (.cel q xs)):xE Γ j ys=putD Γ j (.cel q ys):=by
 rcases h with h | h <;> unfold xE putD <;> rw[h]
theorem En.Wa(e:En K B F σ H Γ){ws:List V}(h:Hld Γ j (.cel q xs))(r:aN K F ys ws):En K B F σ (upd H q (.lst ws)) (xE Γ j ys):=by
 rw[Kk h];exact e.Lj h (e.adr h).1 #[rfl,ws,aB,r]
variable {k:Expr}{to tk:TE}
def MV (d e:TB3)(f:TE3)(D:E3)(Γ:G):Prop:=f Γ λr aa=>d aa λg c=>vB g λj=>e c λb a=>∃ q xs k n,Hld a j (.cel q xs)/\b.at a=some (.int k)/\ixN xs.length k=some n/\D.nx (xE a j (xs.set n r.d))
theorem JZ(p:P3B K X o to o3)(hk:P3B K X k tk k3)(x:P3 K X e te e3)(V:autoParam (∀ v,assign (.Subscript o k p2) X.env v=(do
   let I <- holding [v] (eval o X.env)
   let O <- holding [v,I] (eval k X.env)
   VS p2
   holding [v,I,O] (setItem I O v)
   release [v,I,O] [])) wT)(S:autoParam (Ri [.Subscript o k p2] e pos.line X.env=pure false) wE)(b:autoParam (Rj [.Subscript o k p2] e X.env=pure none) wE)(h1:autoParam ((lg [.Subscript o k p2] X.env).map (·.2)=[assign (.Subscript o k p2) X.env]) wE) :
  P3S K X (.Assign [.Subscript o k p2] e pos) (pI te (Io to tk A2)) (MV o3 k3 e3):=#[wo x.pe (G9 p.pe hk.pe set_list V) S b h1,λB F a H A D D3 W Q q=>
 x.rf B F a H A _ _ W q λv H' Z=>by
  let#[F',f,r,s,e',G,P]:=Z;let#[F2,E,Y,L]:=e'.frozen G;refine p.rf B F2 a H' f _ _ Y P λw H2 Z=>?_;let#[F3,c,bo,l,e3,J,m]:=Z;cases bo with
  | d _=>exact m.elim
  | v j=>
   refine hk.rf B F3 a H2 c _ _ e3 m λu H3 Z=>?_;let#[F4,z,b4,i,h,g,N,xs,kk',n,t,U,T,M]:=Z;let#[a1,a2,C,a3,y]:=h.adr t;have b:a[j]?=some (some w):=J;rw[a1] at b;cases b;have R:u=.int kk':=h.bo g U;exact#[N,C,kk',n,rfl,R,a3,by rw[y.length];exact T,Q.nx F4 a _ _ (((s.trans E).trans l).trans i) (h.Wa t (aN.set (L.mono (l.trans i)) n y)) M]]
noncomputable def v9 (σ:_2.St)(g:Nat):La0->_2.St
 | []=>σ
 | q::qs=>v9 (σ.set g (some (V.ref q))) (g + 1) qs
noncomputable def nu (Γ:G)(g:Nat):La0->List (List D)->G
 | q::qs,xs::xss=>nu (Γ.set g (some (.ow (.cel q xs)))) (g + 1) qs xss
 | _,_=>Γ
theorem yb:∀ {qs:La0} {σ:_2.St} {g:Nat},(v9 σ g qs).length=σ.length
 | [],_,_=>rfl
 | q::qs,σ,g=>by unfold v9;rw[yb,rk]
theorem AI:∀ {qs:La0} {σ:_2.St} {g i:Nat},i < g->(v9 σ g qs)[i]?=σ[i]?
 | [],_,_,_,_=>rfl
 | q::qs,σ,g,i,h=>by unfold v9;rw[AI (Wu h),aW (wh h)]
theorem Gu{L:Nat}(h:L<=g):Gh L σ (v9 σ g qs):=#[yb,λi lt=>AI (da lt h)]
theorem En.Ik:∀ {qs:La0} {xss:List (List D)} {g:Nat} {σ:_2.St} {Γ:G},En K B F σ H Γ->eQ K F H qs xss->qs.Nodup->(∀ z,z∈qs->F z=none/\B.H z=none/\∀ (i:Nat) (e:D),Hld Γ i e->σ[i]?≠some (some (V.ref z)))->
  (∀ k,k < qs.length->Γ[g + k]?=some none)->En K B F (v9 σ g qs) H (nu Γ g qs xss)
 | [],_,_,_,_,e,h,_,_,_=>by cases h;exact e
 | q::qs,_,g,σ,Γ,e,⟨l,M,m,x,v,u,t⟩,n,c,f=>by
  subst x;let#[p,o]:=tj.mp n;let#[L,J,I]:=c q (.head _);have fg:Γ[g]?=some none:=f 0 (Nat.succ_pos _);have j:bC Γ g:=by unfold bC;rw[fg];trivial
  have A:=e.set (r:=.fr (.cel q l)) j #[q,rfl,L,#[rfl,m,v,u],J,I];have il:=lR j;have s:g < σ.length:=by rw[e.len];exact il
  refine En.Ik (qs:=qs) A t o (λz b=>?_) λk hk=>?_
  .let#[E,b2,C]:=c z (.tail _ b);refine#[E,b2,λi d a=>?_];by_cases w:i=g
   .subst w;rw[aV s];intro y;cases y;exact p b
   .rw[aW (ky w)];exact C i d (by unfold Hld at a ⊢;rw[aW (ky w)] at a;exact a)
  .rw[aW (by lia),show g + 1 + k=g + (k + 1) by lia];exact f (k + 1) (Nat.succ_lt_succ hk)
theorem AS:∀ {qs:La0},aN K F (qs.map D.adr) (qs.map V.ref)
 | []=>rfl
 | _::_=>#[_,_,rfl,rfl,AS]
theorem eQ.length:∀ {qs:La0} {xss:List (List D)},eQ K F H qs xss->qs.length=xss.length
 | [],_,h=>by cases h;rfl
 | _::_,_,Z=>by let#[d,c,e,b,_,_,a]:=Z;subst b;simp [a.length]
def MT (g i:Nat)(b:TE3)(a:TS3)(D:E3)(Γ:G):Prop:=b Γ λr aa=>J3 r λxss=>bC aa i/\(∀ k,k < xss.length + 1->aa[g + k]?=some none)/\∀ p qs,qs.length=xss.length->a D (nu (aa.set i (some (.fz (.adr p)))) g (p::qs) (qs.map .adr::xss))
theorem Kh{x:Str}{rest:List Stmt}{A:TS3}(L g i:Nat)(I:L<=g)(T:i < L)(P:MF X L)(E:P3S K X (.Assign [.Name x px] e pos) (pI te (kG i)) A)(G:P3 K X e te e3)(n:lB K X rest u u3) :
  lB K X (.Assign [.Name x px] e pos::rest) (JO (pI te (kG i)) (tGh L u)) (MT g i e3 u3):=#[ij E.pe (OX P n.pe),λB F o H y D S e k q=>G.rf B F o H y _ _ e q λv Q Z=>by
  let#[R,t,r,s,O,C,b]:=Z;let#[xss,rfl,m,a,b]:=J2 b;let#[p,qs,rfl,J,l,h,f]:=C;have N:=O.set (r:=.fz (.adr p)) m rfl;have il:=lR m;have M:=N.Ik (g:=g) (qs:=p::qs) (xss:=qs.map .adr::xss) #[_,_,_,rfl,J,AS,h] l (λz c=>#[(f z c).1,(f z c).2.1,λj d hj=>by
   by_cases w:j=i
   .subst w;rcases hj with hj | hj <;> rw[aV il] at hj <;> cases hj
   .rw[aW (ky w)];exact(f z c).2.2 j d (by unfold Hld at hj ⊢;rw[aW (ky w)] at hj;exact hj)]) λk hk=>by
   rw[aW (by lia)];exact a k (by rw[<- h.length];exact hk)
  exact#[_,Gu I,n.rf B R _ Q _ D S M (k.mono s) (b p qs h.length)]]
end
noncomputable def Bs.xN (B:Bs):List (Addr×HO)->Bs
 | []=>B
 | (q,o)::l=>(Bs.xN B l).hid q o
theorem Ig:∀ {l:List (Addr×HO)},(B.xN l).F=B.F
 | []=>rfl
 | _::l=>Ig (l:=l)
theorem Bl:∀ {l:List (Addr×HO)},(B.xN l).own=B.own
 | []=>rfl
 | _::l=>Bl (l:=l)
theorem DZ:∀ {l:List (Addr×HO)} {q:Addr},(B.xN l).H q=none->B.H q=none/\q∉l.map (·.1)
 | [],q,h=>#[h,by simp]
 | (z,o)::l,q,h=>by
  have h:upd (B.xN l).H z o q=none:=h;have c:q≠z:=λw=>by rw[w,aB] at h;cases h
  rw[ao c] at h;let#[a,b]:=DZ h;exact#[a,by rw[gr,dk,not_or];exact#[c,b]]
theorem yA:∀ {l:List (Addr×HO)} {q:Addr},B.H q=none->q∉l.map (·.1)->(B.xN l).H q=none
 | [],q,h,_=>h
 | (z,o)::l,q,h,n=>by
  rw[gr,dk,not_or] at n;show upd (B.xN l).H z o q=none;rw[ao n.1];exact yA h n.2
theorem En.Dp:∀ {l:List (Addr×HO)},En K (B.xN l) F σ H Γ->(l.map (·.1)).Nodup->(∀ z,z∈l->B.H z.1=none/\B.F z.1=none/\∀ i,(i,z.1)∉B.own)->
  En K B F σ H Γ/\∀ z,z∈l->H z.1=some z.2/\F z.1=none/\∀ (i:Nat) (d:D),Hld Γ i d->σ[i]?≠some (some (V.ref z.1))
 | [],e,_,_=>#[e,λ_ h=>nomatch h]
 | (q,o)::l,e,a,b=>by
  rw[gr,tj] at a;let#[p,b2,n]:=b (q,o) (.head _);let#[m,g,j,c]:=En.N5 (B:=B.xN l) e (yA p a.1) (by rw[Ig];exact b2) (by rw[Bl];exact n);let#[k,f]:=En.Dp m a.2 λz hz=>b z (.tail _ hz);refine#[k,λz hz=>?_];rcases dk.mp hz with rfl | hz
  .exact#[g,j,c]
  .exact f z hz
def Aa (f:On)(g:TI3)(h:TG3)(i:TE3)(Γ:G)(Q:RV->G->Prop):Prop:=g Γ λxs aa=>xs.length < sizeLine/\∃ b:Nat->List (List D)->G->Prop,b 0 [] (gw aa (gA f))/\
 (∀ k d ys a,xs[k]?=some d->ys.length=k->b k ys a->h d a λe=>i e λr c=>frL r λzs=>b (k + 1) (ys++[zs]) c)/\∀ ys a,ys.length=xs.length->b xs.length ys a->Q (.rws ys) (br f aa a)
theorem eQ.snoc:∀ {qs:La0} {xss:List (List D)} {q:Addr} {xs:List D} {vs:List V},eQ K F H qs xss->H q=some (.lst vs)->aN K F xs vs->eQ K F H (qs++[q]) (xss++[xs])
 | [],_,q,xs,vs,h,b,a=>by cases h;exact#[xs,[],vs,rfl,b,a,rfl]
 | _::_,_,q,xs,vs,⟨c,j,d,i,g,f,e⟩,b,a=>by subst i;exact#[c,_,d,rfl,g,f,eQ.snoc e b a]
noncomputable def tY (K:Fg0)(F:Hp):List (Addr×HO)->List (List D)->Prop
 | [],xss=>xss=[]
 | z::l,xss=>∃ xs a vs,xss=a++[xs]/\z.2=.lst vs/\aN K F xs vs/\tY K F l a
theorem tY.mono(s:aS F F'):∀ {l:List (Addr×HO)} {xss:List (List D)},tY K F l xss->tY K F' l xss
 | [],_,h=>h
 | _::_,_,⟨b,a,c,g,f,e,d⟩=>#[b,a,c,g,f,e.mono s,tY.mono s d]
theorem tY.at:∀ {l:List (Addr×HO)} {xss:List (List D)},tY K F l xss->(∀ z,z∈l->H z.1=some z.2)->eQ K F H (l.map (·.1)).reverse xss
 | [],_,h,_=>h
 | z::l,_,⟨i,g,j,f,e,d,c⟩,a=>by
  subst f;rw[gr,List.reverse_cons];exact(tY.at c λy b=>a y (.tail _ b)).snoc (by rw[a z (.head _),e]) d
theorem EN{g:TG}(nd:(fr.filterMap id).Nodup)(hi:Js K wi i3)(hg:FF K g g3)(he:Ref K te e3):Ref K (kT fr wi g (qC te)) (Aa fr i3 g3 e3):=by
 intro B F σ H Γ Q QQ e q k;refine hi B F σ H Γ _ _ e q λJ L M a u s1 I R Z=>?_;let#[hz,Iv,i0,it,ie]:=Z;have eb:=I.blk nd;refine#[λi m ys t H=>m=u.length - i/\i<=u.length/\∃ F' N n l,aS M F'/\En K ((Bs.mk M L (ownOf a σ (gA fr))).xN l) F' t H N/\ys=((l.map (·.1)).reverse).map V.ref/\(l.map (·.1)).Nodup/\(∀ z,z∈l->L z.1=none)/\tY K F' l n/\l.length=i/\n.length=i/\Iv i n N,
  #[_,rfl,rx _,M,_,[],[],aS.refl _,eb,rfl,by simp,(λ_ h=>nomatch h),rfl,rfl,rfl,i0],?_]
 rintro i m ys t H2 ⟨rfl,a4,F2,c,n,l,O,U,rfl,v,f,r2,P,hl,iv⟩;have zz:(((l.map (·.1)).reverse).map V.ref).length < sizeLine:=by simp [P];lia
 have cond:∀ z,z∈l->(Bs.mk M L (ownOf a σ (gA fr))).H z.1=none/\(Bs.mk M L (ownOf a σ (gA fr))).F z.1=none/\∀ j,(j,z.1)∉(Bs.mk M L (ownOf a σ (gA fr))).own:=λz hz=>by
  have G:=f z hz;refine#[G,I.nof G,λj hj=>?_];let#[i',d,_,h5,h6]:=pj.mp hj;exact I.qY G i' d h5 h6
 by_cases lt:i < u.length
 .refine .inr #[R.go i H2 (O.trans U.sub) lt,λx H3 y=>?_];have hd:u[i]?=some u[i]:=gE0 lt;let#[F3,s3,a2,r3]:=R.turn O U hd y;refine hg _ F3 t H3 c x _ _ _ a2 r3 (it i _ n c hd hl iv) λW Y e4 q4=>?_;refine#[zz,he _ F3 W H3 Y _ _ e4 q4 λy H5 Z=>?_];let#[F5,X,r,s5,e5,rv,C]:=Z;let#[zs,rfl,C]:=Q5 C;let#[p,rfl,f5,#[vs,h5,r5],b5,n5]:=rv;let#[b6,b7]:=DZ b5;refine#[u.length - (i + 1),by lia,rfl,lt,F5,X,n++[zs],(p,.lst vs)::l,((O.trans s3).trans s5),e5.hide f5 h5 n5,by simp,?_,?_,#[zs,n,vs,rfl,rfl,r5,r2.mono (s3.trans s5)],by simp [P],by simp [hl],C]
  .rw[gr,tj];exact#[b7,v]
  .intro z hz;rcases dk.mp hz with rfl | hz
   .exact b6
   .exact f z hz
 .have z:i=u.length:=by lia
  subst z;refine .inl #[R.stop _ H2 (O.trans U.sub) rfl,zz,λl' b=>k _ _ ?_];let#[e3,S]:=U.Dp v cond;have T:En K B F2 σ H2 (br fr a c):=I.back (ls:=fr) e3 (by have:=r8 (Γ:=a) (σ:=σ) (bs:=gA fr);rw[wN] at this;exact this);have nh:∀ {p:Addr},L p=none->∀ (i:Nat) (x:D),Hld (br fr a c) i x->σ[i]?≠some (some (V.ref p)):=λ{p} a1 i x hx hp=>by
   obtain⟨d0,w⟩:∃ d0,Hld a i d0:=by
    rcases hx with hx | hx <;> rw[bU] at hx
    .cases w:a[i]? with
     | none=>rw[w] at hx;cases hx
     | some s=>rw[w] at hx;cases s with
      | none=>cases hx
      | some s=>cases s with
       | fz d=>cases hx
       | ow d=>exact#[d,.inl w]
       | ln d=>cases hx
    .cases w:a[i]? with
     | none=>rw[w] at hx;cases hx
     | some s=>rw[w] at hx;cases s with
      | none=>cases hx
      | some s=>cases s with
       | fz d=>cases hx
       | ow d=>cases hx
       | ln d=>exact#[d,.inr w]
   exact I.qY a1 i d0 w hp
  have A:∀ {z:Addr},z∈(l.map (·.1)).reverse->∃ o,(z,o)∈l:=λ{z} hz=>by
   rw[List.mem_reverse,ot] at hz;let#[#[y,o],hy,rfl]:=hz;exact#[o,hy]
  refine#[F2,_,.rws n,s1.trans O,T.alloc b _,#[l',(l.map (·.1)).reverse,rfl,aB,?_,?_,λz hz=>?_],ie n c hl iv]
  .rw[tj];refine#[λhz=>?_,List.pairwise_reverse.mpr (v.imp λh=>ky h)];let#[o,E]:=A hz;rw[(S _ E).1] at b;cases b
  .refine(r2.at λz hz=>(S z hz).1).mono (aS.refl F2) λz hz=>?_;let#[o,E]:=A hz;exact ao (bS (S _ E).1 b)
  .rcases dk.mp hz with rfl | hz
   .exact#[T.nof b,T.dom _ b,T.qY b]
   .let#[o,E]:=A hz;have G:=f _ E;exact#[(S _ E).2.1,I.dom _ G,nh G]
theorem Hn{g:TG}(o:X.calm=true)(i:P3I K X tg iter wi i3)(p:Blk X.N X.env.scope sc Nc fr)(j:∀ ab ar C ex f,P3G K (cv X sc Nc ab ar C ex f) tg g g3)(k:∀ ab ar C ex f,P3 K (cv X sc Nc ab ar C ex f) elt te e3)(l:autoParam ((fr.filterMap id).Nodup) wP)(n:autoParam (∀ x,pk iter X.env x=pure x) wT) :
  P3 K X (.ListComp elt [#[tg,iter,[],0]] sc pos) (kT fr wi g (qC te)) (Aa fr i3 g3 e3):=
 #[rX (m:=λD h=>xg elt D h) o i.pe p (λa b c d e=>(j a b c d e).pe) (λa b c d e D=>rZ rfl (k a b c d e).pe) (λ_ _ _=>rfl) n,EN l i.rf (j X.ab X.ar 0 [] []).rf (k X.ab X.ar 0 [] []).rf]
noncomputable def p6 (Γ:G)(g:Nat):Nat->G
 | 0=>Γ
 | n + 1=>p6 (Γ.set g none) (g + 1) n
theorem AK:∀ {n:Nat} {Γ:G} {g i:Nat},i < g->(p6 Γ g n)[i]?=Γ[i]?
 | 0,_,_,_,_=>rfl
 | n + 1,Γ,g,i,h=>by unfold p6;rw[AK (Wu h),aW (wh h)]
theorem En.m4:∀ {qs:La0} {xss:List (List D)} {g:Nat} {F:Hp} {Γ:G},En K B F σ H Γ->xss.length=qs.length->(∀ k q xs,qs[k]?=some q->xss[k]?=some xs->Γ[g + k]?=some (some (Sl.ow (.cel q xs))))->
  ∃ F',aS F F'/\En K B F' σ H (p6 Γ g qs.length)/\aN K F' (xss.map .lst) (qs.map V.ref)/\∀ b o,F' b=some o->F b=some o\/(b∈qs/\∃ vs,o=.lst vs)
 | [],[],g,F,Γ,e,_,_=>#[F,aS.refl F,e,rfl,λb o h=>.inl h]
 | q::qs,xs::xss,g,F,Γ,e,A,h=>by
  have a:Γ[g]?=some (some (Sl.ow (.cel q xs))):=h 0 q xs rfl rfl;let#[r,n,vs,M,L]:=e.adr (.inl a);let#[p,O,b2,N]:=e.hl g _ (.inl a);have I:=e.forget (i:=g) (by unfold bC;rw[a];trivial);have nh:∀ (i:Nat) (d:D),Hld (Γ.set g none) i d->σ[i]?≠some (some (V.ref q)):=λi d hi z=>by
   have il:g < Γ.length:=(gS0 a).1;have m:i≠g:=λw=>by subst w;rcases hi with hi | hi <;> rw[aV il] at hi <;> cases hi
   have j:Hld Γ i d:=by unfold Hld at hi ⊢;rw[aW (ky m)] at hi;exact hi
   exact m (e.dis i g d _ q j (.inl a) z r)
  have E:=I.freeze n M (e.ow g _ q a r) nh;have l:=a9 (o:=.lst vs) n;let#[F',f,J,s,u]:=En.m4 (qs:=qs) (xss:=xss) (g:=g + 1) E (by simpa using A) λk t c y x=>by
   rw[aW (by lia),show g + 1 + k=g + (k + 1) by lia];exact h (k + 1) t c (by simpa using y) (by simpa using x)
  refine#[F',l.trans f,J,#[_,_,rfl,#[q,vs,rfl,f _ _ aB,L.mono (l.trans f)],s],λb o C=>?_];rcases u b o C with w | ⟨w,v⟩
  .by_cases z:b=q
   .subst z;rw[aB] at w;cases w;exact .inr #[.head _,vs,rfl]
   .rw[ao z] at w;exact .inl w
  .exact .inr #[.tail _ w,v]
structure Ju (Γ:G) (i g:Nat) (p:Addr) (qs:La0) (xss:List (List D)):Prop where
 nm:Γ[i]?=some (some (Sl.fz (.adr p)))
 lt:i < g
 at0:Γ[g]?=some (some (Sl.ow (.cel p (qs.map .adr))))
 len:xss.length=qs.length
 ats:∀ k q xs,qs[k]?=some q->xss[k]?=some xs->Γ[g + 1 + k]?=some (some (Sl.ow (.cel q xs)))
noncomputable def Fs (Γ:G)(i g n:Nat)(xss:List (List D)):G:=(p6 Γ g (n + 1)).set i (some (.fz (.lst (xss.map .lst))))
theorem En.Fs {i g:Nat}{p:Addr}{qs:La0}{xss:List (List D)}(e:En K B F σ H Γ)(h:Ju Γ i g p qs xss) :
  ∃ F',aS F F'/\En K B F' σ H (Fs Γ i g qs.length xss)/\∀ b o,F' b=some o->F b=some o\/(b∈p::qs/\∃ vs,o=.lst vs):=by
 have il:g < Γ.length:=(gS0 h.at0).1;let#[m,l,vs,Q,P]:=e.adr (.inl h.at0);let#[u,O,b2]:=e.fz i _ h.nm;cases (show u=V.ref p from b2);have M:=e.forget (i:=g) (by unfold bC;rw[h.at0];trivial);have nh:∀ (i:Nat) (d:D),Hld (Γ.set g none) i d->σ[i]?≠some (some (V.ref p)):=λi d hi z=>by
  have f:i≠g:=λw=>by subst w;rcases hi with hi | hi <;> rw[aV il] at hi <;> cases hi
  have a:Hld Γ i d:=by unfold Hld at hi ⊢;rw[aW (ky f)] at hi;exact hi
  exact f (e.dis i g d _ p a (.inl h.at0) z m)
 have L:=M.freeze l Q (e.ow g _ p h.at0 m) nh;have s:=a9 (o:=.lst vs) l;let#[F',c,N,y,A]:=L.m4 (qs:=qs) (xss:=xss) (g:=g + 1) h.len λk q n G E=>by
  rw[aW (by lia)];exact h.ats k q n G E
 have r:vs=qs.map V.ref:=by
  have J:∀ {qs:La0} {vs:List V},aN K F (qs.map D.adr) vs->vs=qs.map V.ref:=by
   intro qs
   induction qs with
   | nil=>intro vs h;exact h
   | cons q qs C=>
    intro vs h;let#[v,R,rfl,x,t]:=h;rw[show v=V.ref q from x,C t];rfl
  exact J P
 refine#[F',s.trans c,?_,λb o I=>?_]
 .refine N.VQ (i:=i) (d:=.adr p) ?_ λv j=>?_
  .rw[AK (Wu h.lt),aW (wh h.lt)];exact h.nm
  .rw[O] at j;cases j;exact#[p,vs,rfl,c _ _ aB,by rw[r];exact y]
 .rcases A b o I with w | ⟨w,v⟩
  .by_cases z:b=p
   .subst z;rw[aB] at w;cases w;exact .inr #[.head _,vs,rfl]
   .rw[ao z] at w;exact .inl w
  .exact .inr #[.tail _ w,v]
theorem NY{p:Addr}(h:Ju Γ i g p qs xss):Wk K Γ (Fs Γ i g qs.length xss):=λB F c H e=>by
 let#[b,s,a,_]:=e.Fs h;exact#[b,s,a]
open PySem _2 PySem.Spec PyProof.Rows
theorem Jf:bare (.lst xs)=.lst xs:=rfl
theorem Jg:bare (.ins C ns xs)=.ins C ns xs:=rfl
theorem Jh:bare (.cel q xs)=.lst xs:=rfl
noncomputable def tlG (T:G):G:=T
noncomputable def nn (m:Nat):G:=bw m none
noncomputable def tlE:G:=[]
noncomputable def phs (m:Nat):Ls0:=(gs m).map λi=>#[(Vz9 [0,i])]
theorem B9(h:Γa.length<=N.length):gE (N++phs m) Γa=Γa++(bw (N.length - Γa.length) none++tlG (nn m++tlE)):=by
 unfold gE phs nn tlG tlE;rw[nT,cn,lM0,YH,YJ,show N.length + m - Γa.length=N.length - Γa.length + m by lia]
section
variable {cs T:G}{ls:On}{s:Option Sl}
theorem WH:br [] Γ cs=Γ:=rfl
theorem WE:br (none::ls) Γ cs=br ls Γ cs.tail:=rfl
theorem WG{d:D}:br (some k::ls) Γ (some (.ln d)::cs)=xF (br ls Γ cs) k d:=rfl
theorem WC{d:D}:br (some k::ls) Γ (some (.fz d)::cs)=br ls Γ cs:=rfl
theorem WD{d:D}:br (some k::ls) Γ (some (.ow d)::cs)=br ls Γ cs:=rfl
theorem VV{d:D}:xF (s::Γ) 0 d=dJ (some d) s::Γ:=rfl
theorem VU{d:D}:xF (s::Γ) (k + 1) d=s::xF Γ k d:=rfl
theorem VM:List.tail (s::Γ)=Γ:=rfl
theorem Wc{b c:Type}{f:b->c}{a:b}{l:List b}:ZK f (a::l)=f a::ZK f l:=rfl
theorem Wb{b a:Type}{f:b->a}:ZK f []=[]:=rfl
end
section
variable {b3 t3:TS3}
def IS (c:On)(a:TI3)(b:TG3)(d:TE3)(Γ:G)(Q:RV->G->Prop)(_:Tag (c,a,b,d))(_:Tag Q):Prop:=Aa c a b d Γ Q
theorem L_:Aa fr i3 g3 e3 Γ Q=IS fr i3 g3 e3 Γ Q ⟨⟩ ⟨⟩:=rfl
abbrev hR (a:Nat->List (List D)->G->Prop)(k:Nat)(ys:List (List D))(Γ:G)(_:Tag a):Prop:=a k ys Γ
def IQ (xs:List D)(b:G)(g:On)(h:TG3)(i:TE3)(Q:RV->G->Prop)(_:Tag (g,h,i,Q)):Prop:=∃ c:Nat->List (List D)->G->Prop,c 0 [] (gw b (gA g))/\
 (∀ k d ys a,xs[k]?=some d->ys.length=k->c k ys a->h d a λf=>i f λr e=>frL r λzs=>c (k + 1) (ys++[zs]) e)/\∀ ys a,ys.length=xs.length->c xs.length ys a->Q (.rws ys) (br g b a)
theorem LN{b:Tag (fr,i3,g3,e3)}{a:Tag Q}:IS fr i3 g3 e3 Γ Q b a=(i3 Γ λxs aa=>xs.length < sizeLine/\IQ xs aa fr g3 e3 Q ⟨⟩):=rfl
theorem Fu{t:Tag (fr,g3,e3,Q)}(b:Nat->List (List D)->G->Prop)(h:b 0 [] (gw aa (gA fr)))(f:∀ k d ys a,xs[k]?=some d->ys.length=k->b k ys a->g3 d a λe=>e3 e λr c=>frL r λzs=>hR b (k + 1) (ys++[zs]) c ⟨⟩)(g:∀ ys a,ys.length=xs.length->b xs.length ys a->Q (.rws ys) (br fr aa a)):IQ xs aa fr g3 e3 Q t:=#[b,h,f,g]
def Vq (j:Nat)(a:Option D)(d:D)(Γ:G)(N:G->Prop)(_:Tag N):Prop:=∃ q xs k n,Hld Γ j (.cel q xs)/\a=some (.int k)/\ixN xs.length k=some n/\N (xE Γ j (xs.set n d))
theorem QH:MV o3 k3 e3 D1 Γ=(e3 Γ λr aa=>o3 aa λd c=>vB d λj=>k3 c λb a=>Vq j (b.at a) r.d a D1.nx ⟨⟩):=rfl
theorem Rt{k:Addr->Prop}:MB (.fz (.adr q)) k=k q:=rfl
theorem OI{k:List (List D)->Prop}:J3 (.rws xss) k=k xss:=rfl
theorem VI{k:Nat->Prop}:vB (.v j) k=k j:=rfl
def Ms (q:Addr)(Γ:G)(Q:Bo->G->Prop)(_:Tag Q):Prop:=∃ j xs,Hld Γ j (.cel q xs)/\Q (.v j) Γ
theorem QP:Vf e3 Γ QB=(e3 Γ λr aa=>MB r λq=>Ms q aa QB ⟨⟩):=rfl
theorem Jn{t:Tag QB}(j:Nat)(h:Hld Γ j (.cel q xs))(a:QB (.v j) Γ):Ms q Γ QB t:=#[j,xs,h,a]
def S6 (g i:Nat)(xss:List (List D))(a:G)(b:TS3)(c:E3)(_:Tag (b,c)):Prop:=bC a i/\(∀ k,k < xss.length + 1->a[g + k]?=some none)/\∀ p qs,qs.length=xss.length->b c (nu (a.set i (some (.fz (.adr p)))) g (p::qs) (qs.map .adr::xss))
theorem QD:MT g i e3 u3 D1 Γ=(e3 Γ λr aa=>J3 r λxss=>S6 g i xss aa u3 D1 ⟨⟩):=rfl
def wkH (K:Fg0)(a:TS3)(b:E3)(Γ:G)(_:Tag (a,b)):Prop:=wk3 K a b Γ
theorem Wo:wk3 K t3 D1 Γ=wkH K t3 D1 Γ ⟨⟩:=rfl
theorem R7{t:Tag (t3,D1)}(h:Wk K Γ Γ')(q:t3 D1 Γ'):wkH K t3 D1 Γ t:=#[Γ',h,q]
end
noncomputable def gh (c:D->Sl)(p:Addr)(ds:List D)(qs:La0)(xss:List (List D)):G:=some (c (.cel p ds))::ad3 (λq xs=>some (c (.cel q xs))) qs xss
section
variable {c:D->Sl}{p:Addr}{ds:List D}{T T' pre:G}{L y:Nat}
theorem QS(h:qs.length=xss.length):(gh c p ds qs xss).length=qs.length + 1:=by
 unfold gh;rw[ed,Zl,<- h,ad1]
theorem D5(b:qs[y]?=some q)(a:xss[y]?=some xs):(gh c p ds qs xss++T)[1 + y]?=some (some (c (.cel q xs))):=by
 rw[ak3];unfold gh;rw[Ja,ab6,eW (by
  rw[Zl];have:=(gS0 b).1;have:=(gS0 a).1;lia),List.getElem?_zipWith,b,a]
theorem tW(h:pre.length=L):(pre++T)[L + j]?=T[j]?:=by
 subst h;rw[yp (am8 _ _),ab7]
theorem Ap{d:D}(h:pre.length=L)(a:Hld T j d):Hld (pre++tlG T) (L + j) d:=by
 unfold Hld tlG at *;rw[tW h];exact a
theorem vI{s:Option Sl}(h:pre.length=L):(pre++T).set (L + j) s=pre++T.set j s:=by
 subst h;rw[YM _ _ (am8 _ _),ab7]
theorem GU(h:pre.length=L):xE (pre++tlG T) (L + j) ys=pre++tlG (xE T j ys):=by
 unfold xE tlG;rw[tW h];split
 .rw[vI h]
 .rw[vI h]
 .rfl
theorem FH {f:Addr->List D->Option Sl}:∀ {qs:La0} {xss:List (List D)} {y:Nat} {q:Addr},qs[y]?=some q->(ad3 f qs xss).set y (f q ys)=ad3 f qs (xss.set y ys)
 | [],_,_,_,h=>by simp at h
 | a::qs,[],y,q,h=>by simp
 | a::qs,x::xss,0,q,h=>by simp at h;subst h;rfl
 | a::qs,x::xss,y + 1,q,h=>by
  simp only[List.zipWith_cons_cons,ZL];rw[FH (qs:=qs) (by simpa using h)]
theorem QR(a:qs[y]?=some q)(d:y < xss.length):(gh c p ds qs xss++T).set (1 + y) (some (c (.cel q ys)))=gh c p ds qs (xss.set y ys)++T:=by
 rw[ak3];unfold gh;rw[Ja,ZL,Zc _ _ (by
  rw[Zl];have:=(gS0 a).1;lia),<- FH (f:=λq b=>some (c (.cel q b))) a]
 rfl
theorem Kl(d:c=Sl.ow\/c=Sl.ln)(b:qs[y]?=some q)(a:y < xss.length):xE (gh c p ds qs xss++T) (1 + y) ys=gh c p ds qs (xss.set y ys)++T:=by
 unfold xE;rw[D5 b (gE0 a)];rcases d with rfl | rfl <;> exact QR b a
theorem yd:∀ {qs:La0} {xss:List (List D)} {T:G} {g:Nat},pre.length=L->nu (pre++T) (L + g) qs xss=pre++nu T g qs xss
 | [],_,_,_,_=>by unfold nu;rfl
 | _::_,[],_,_,_=>by unfold nu;rfl
 | q::qs,x::xss,T,g,h=>by
  unfold nu;rw[vI h,show L + g + 1=L + (g + 1) by lia,yd h]
theorem AL:∀ {qs:La0} {xss:List (List D)} {m:Nat} {A:G},qs.length=xss.length->qs.length<=m->nu (A++(nn m++T)) A.length qs xss=A++(ad3 (λq xs=>some (Sl.ow (.cel q xs))) qs xss++(nn (m - qs.length)++T))
 | [],[],m,A,_,_=>rfl
 | q::qs,x::xss,0,A,_,h=>by simp at h
 | q::qs,x::xss,m + 1,A,a,h=>by
  unfold nu;have e:(A++(nn (m + 1)++T)).set A.length (some (Sl.ow (.cel q x)))=(A++[some (Sl.ow (.cel q x))])++(nn m++T):=by
   rw[YM _ _ (cc _),XN];unfold nn;rw[rd];simp
  rw[e,show A.length + 1=(A++[some (Sl.ow (D.cel q x))]).length by simp,AL (by simpa using a) (by simpa using h)];simp
theorem Gv(h:pre.length=L)(b:qs.length=xss.length)(a:qs.length + 1<=m):nu (pre++tlG (nn m++T)) L (p::qs) (qs.map .adr::xss)=pre++tlG (gh .ow p (qs.map .adr) qs xss++(nn (m - (qs.length + 1))++T)):=by
 unfold tlG;have:=yd (pre:=pre) (L:=L) (g:=0) (T:=nn m++T) (qs:=p::qs) (xss:=qs.map .adr::xss) h;rw[al0] at this;rw[this];have e:=AL (T:=T) (A:=[]) (qs:=p::qs) (xss:=qs.map .adr::xss) (m:=m) (by simp [b]) (by simpa using a);simp only[Os,rp] at e;rw[e];simp [gh]
theorem TL(h:k < m):(nn m++T)[k]?=some none:=by
 unfold nn;rw[eW (by simpa using h),IR,if_pos h]
theorem Lf(h:pre.length=L)(a:n<=m):∀ k,k < n->(pre++tlG (nn m++T))[L + k]?=some none:=λk hk=>by
 unfold tlG;rw[tW h];exact TL (da hk a)
theorem yc:∀ {n:Nat} {T:G} {g:Nat},pre.length=L->p6 (pre++T) (L + g) n=pre++p6 T g n
 | 0,_,_,_=>rfl
 | n + 1,T,g,h=>by
  unfold p6;rw[vI h,show L + g + 1=L + (g + 1) by lia,yc h]
theorem AJ:∀ {n:Nat} {A Z:G},Z.length=n->p6 (A++(Z++T)) A.length n=A++(nn n++T)
 | 0,A,[],_=>rfl
 | n + 1,A,[],h=>by simp at h
 | 0,A,z::Z,h=>by simp at h
 | n + 1,A,z::Z,h=>by
  unfold p6;have e:(A++(z::Z++T)).set A.length none=(A++[none])++(Z++T):=by
   rw[YM _ _ (cc _),XN];simp
  rw[e,show A.length + 1=(A++[none]).length by simp,AJ (by simpa using h)];unfold nn;rw[rd];simp
theorem PU{a b:Nat}:nn a++(nn b++T)=nn (a + b)++T:=by
 unfold nn;rw[<- nR,YJ]
theorem LS(h:pre.length=L)(c:i < L)(b:qs.length=xss.length):Fs (pre++tlG (gh .ow p ds qs xss++(nn m++T))) i L qs.length xss=pre.set i (some (.fz (.lst (xss.map .lst))))++tlG (nn (qs.length + 1 + m)++T):=by
 unfold Fs tlG;have e:=yc (pre:=pre) (L:=L) (g:=0) (T:=gh .ow p ds qs xss++(nn m++T)) (n:=qs.length + 1) h;rw[al0] at e;rw[e];have a:=AJ (T:=nn m++T) (A:=[]) (Z:=gh .ow p ds qs xss) (n:=qs.length + 1) (QS b);simp only[Os,rp] at a;rw[a,PU,Zc _ _ (by rw[h];exact c)]
theorem Ju.of(h:pre.length=L)(a:i < L)(d:pre[i]?=some (some (Sl.fz (.adr p))))(e:qs.length=xss.length):Ju (pre++tlG (gh .ow p (qs.map .adr) qs xss++T)) i L p qs xss where
 nm:=by rw[eW (by rw[h];exact a)];exact d
 lt:=a
 at0:=by
  have:=tW (pre:=pre) (T:=tlG (gh .ow p (qs.map .adr) qs xss++T)) (j:=0) h;rw[al0] at this;rw[this];rfl
 len:=e.symm
 ats:=λk q f c b=>by
  rw[Nat.add_assoc,tW h];exact D5 c b
theorem ON{R:LL0}:ZK D.lst (ZK (λr=>ZK D.int r) R)=ZK (λns=>D.lst (ns.map D.int)) R:=by rw[Gc];rfl
theorem Oe:(tlG (gh c p ds qs xss++T))[0]?=some (some (c (.cel p ds))):=rfl
theorem LP(a:c=Sl.ow\/c=Sl.ln):Hld (gh c p ds qs xss++T) 0 (.cel p ds):=by
 rcases a with rfl | rfl
 .exact .inl rfl
 .exact .inr rfl
theorem Il(d:c=Sl.ow\/c=Sl.ln)(b:qs[y]?=some q)(a:xss[y]?=some xs):Hld (gh c p ds qs xss++T) (1 + y) (.cel q xs):=by
 rcases d with rfl | rfl
 .exact .inl (D5 b a)
 .exact .inr (D5 b a)
section
variable {t:Tag QB}
theorem Jp(h:Γ=pre++tlG (gh c p ds qs xss++T))(a:pre.length=L)(b:c=Sl.ow\/c=Sl.ln)(d:QB (.v L) Γ):Ms p Γ QB t:=by
 subst h;exact Jn L (Ap (j:=0) a (LP b)) d
theorem Jq(h:Γ=pre++tlG (gh c p ds qs xss++T))(d:pre.length=L)(e:c=Sl.ow\/c=Sl.ln)(b:qs[y]?=some q)(a:xss[y]?=some xs)(f:QB (.v (L + (1 + y))) Γ):Ms q Γ QB t:=by
 subst h;exact Jn _ (Ap d (Il e b a)) f
end
theorem Jo{N:G->Prop}{t:Tag N}{a:Option D}{d:D}{k:Int}(h:Γ=pre++tlG (gh c p ds qs xss++T))(f:pre.length=L)(g:c=Sl.ow\/c=Sl.ln)(e:qs[y]?=some q)(b:xss[y]?=some xs)(hk:a=some (.int k))(i:ixN xs.length k=some n)(j:N (pre++tlG (gh c p ds qs (xss.set y (xs.set n d))++T))):Vq (L + (1 + y)) a d Γ N t:=by
 subst h;refine#[q,xs,k,n,Ap f (Il g e b),hk,i,?_];rw[GU f,Kl g e (gS0 b).1];exact j
theorem Kj{t:Tag (u3,E1)}(h:aa=pre++tlG (nn m++T))(a:pre.length=L)(d:i < L)(e:bC pre i)(c:xss.length + 1<=m)(f:∀ p qs,qs.length=xss.length->u3 E1 (pre.set i (some (.fz (.adr p)))++tlG (gh .ow p (qs.map .adr) qs xss++(nn (m - (qs.length + 1))++T)))):S6 L i xss aa u3 E1 t:=by
 subst h;refine#[?_,Lf a c,λp qs b=>?_]
 .unfold bC at e ⊢;rw[eW (by rw[a];exact d)];exact e
 .rw[Zc _ _ (by rw[a];exact d),Gv (by rw[rk];exact a) b (by rw[b];exact c)];exact f p qs b
theorem wkR(a:pre.length=L)(c:i < L)(d:pre[i]?=some (some (Sl.fz (.adr p))))(b:qs.length=xss.length):Wk K (pre++tlG (gh .ow p (qs.map .adr) qs xss++(nn m++T))) (pre.set i (some (.fz (.lst (xss.map .lst))))++tlG (nn (qs.length + 1 + m)++T)):=by
 rw[<- LS (p:=p) (ds:=qs.map .adr) a c b];exact NY (Ju.of a c d b)
end
section
variable {c:D->Sl}{p:Addr}{ds:List D}{T T' T0 A Z pre:G}{L y:Nat}
def hX (L:Nat)(A T:G)(m:Nat)(p:Addr)(qs:La0)(a:Nat->G->List (List D)->Prop)(k:Nat)(Γ:G)(_:Tag a):Prop:=∃ pre X,pre.length=L/\X.length=qs.length/\a k pre X/\Γ=pre++tlG (A++(gh .ow p (qs.map .adr) qs X++(nn (m - (qs.length + 1))++T)))
end
end _3
namespace _2
open PySem PySem.Spec PyProof.Rows
noncomputable def f_ (n:Nat)(g:Addr->Option Obj)(m:Addr->Option Str):Heap:={ objs:=Array.ofFn (n:=n) λi=>(g i.1).getD { cls:=(m i.1).elim .none λq=>.str q 0,data:=.freed } }
section
variable {g:Addr->Option Obj}{m:Addr->Option Str}{b:Addr}{o:Obj}{h:Heap}
theorem CS(e:h.get? b=some o):o.data≠.freed:=by
 unfold aq6 at e;cases q:h.objs[b]? with
 | none=>rw[q] at e;cases e
 | some x=>
  rw[q] at e;let#[c,d,dt,a]:=x;cases dt with
  | freed=>cases e
  | _=>cases e;intro y;cases y
theorem ou:(f_ n g m).objs.size=n:=by unfold f_;exact ao6
theorem pq(a:b < n):(f_ n g m).objs[b]?=some ((g b).getD { cls:=(m b).elim .none λq=>.str q 0,data:=.freed }):=by
 unfold f_;rw[Array.getElem?_eq_getElem (by rw[ao6];exact a),Array.getElem_ofFn]
theorem Cz(h:b < n)(f:g b=some o)(e:o.data≠.freed):(f_ n g m).get? b=some o:=by
 unfold aq6;rw[pq h,f];let#[c,d,dt,a]:=o;show (match some (Obj.mk c d dt a) with | some ⟨_,_,.freed,_⟩=>none | o=>o)=_;split
 .rename_i z;cases z;exact absurd rfl e
 .rfl
theorem yo(e:(f_ n g m).get? b=some o):b < n/\g b=some o:=by
 have a:b < n:=by have:=dw e;rw[ou] at this;exact this
 refine#[a,?_];have d:=CS e;unfold aq6 at e;rw[pq a] at e;cases q:g b with
 | none=>rw[q] at e;cases e
 | some c=>
  rw[q] at e;split at e
  .cases e
  .cases e;rfl
theorem Cy{q:Str}(d:b < n)(c:g b=none)(a:m b=some q):Aq (f_ n g m) b q:=by
 unfold Aq;rw[pq d,c,a]
 rfl
theorem Hy{q:Str}(h:∀ o,g b=some o->o.data≠.freed)(e:Aq (f_ n g m) b q):g b=none/\m b=some q:=by
 unfold Aq at e;have i:b < n:=by
  let#[z,_]:=VE.mp e;rw[ou] at z;exact z
 rw[pq i] at e;cases c:g b with
 | some o=>
  rw[c] at e;have a:o={ cls:=.str q 0,data:=.freed }:=gT e;exact absurd (by rw[a]) (h o c)
 | none=>
  refine#[rfl,?_];rw[c] at e;have a:=gT e;cases d:m b with
  | none=>rw[d] at a;have:=congrArg Obj.cls a;cases this
  | some f=>
   rw[d] at a;have:=congrArg Obj.cls a;have y:XH f 0=XH q 0:=this;cases y
   rfl
end
noncomputable def pick (h:Heap)(p:Addr->Bool):Heap:=f_ h.objs.size (λb=>if p b=true then h.get? b else none) λ_=>none
theorem sE {c:Type}{a:Addr}{v:c}:∀ {l:List (Addr×c)},l.lookup a=some v->(a,v)∈l
 | [],h=>by cases h
 | (b,u)::l,h=>by
  rw[eS] at h;cases q:a == b with
  | true=>
   rw[q] at h;cases h;have e:a=b:=by simpa using q
   rw[e];exact eH
  | false=>rw[q] at h;exact cb _ (sE h)
def Vv (K:Fg0)(h:Heap)(P:Addr):Prop:=h.get? P=some { cls:=.none,data:=.fields #[] }/\K.lookup P=none/\∃ c a vs,h.get? c=some a/\a.cls=.type "code"/\a.data=.fields vs/\vs[11]?=some (.ref P)
theorem Fl{Q mb:SV0}{CX:CXT}{fa a:Addr}{x:Str}{sp:Sp}{aa:Shared}{vs:Lv0}{R:Li0}{tabs:List (Addr×Str)}(KX:K.In aa.heap)(T:aa.heap.Ns eB Q)(j:aa.heap.Ns YO mb)(a7:∀ x:Str,x≠"__name__"->mb x=Jv x)(U:aa.heap.NoLimit)(a6:∃ Y B,Q "__builtins__"=some (.ref Y)/\Y≠YO/\aa.heap.get? Y=some B/\B.cls=.type "module"/\B.dict=some YO/\B.data=.plain)(hg:aa.gens=#[])(O:aa.heap.get? a=some { cls:=.type "list",data:=.seq vs.toArray })(hi:ap1 vs R)(hl:R.length<=sizeLine)(hr:cy k ah0)(hT:∀ p∈tabs,Vv K aa.heap p.1)(F:∀ base:Heap,K.In base->base.Ns eB Q->(∀ P q,tabs.lookup P=some q->Aq base P q)->aT P w K Q base CX k fa fd [x] sp)(N:∀ (s:Shared) (u:Value),ag9 s fd #[[u],[]] [(x,u)])(a5:∀ H:Hp,Ry H->SqL K H a (R.map V.int)->sp [.ref a] H (λv _=>v=.bl true) λ_ _ _=>False)(a0:∀ H e s',CX [] H aa (λ_ _ _=>False) e s'->False) :
  FU (model P w) ah0 (.call (.ref fa) #[[.ref a],[]]) (λr s'=>r=.ok (.ret (.bool true))/\OldK aa.heap s'.heap/\s'.os=aa.os/\Yy s'.gens) aa:=by
 have rv:=xZ hi;have S:=hi.length;have i:∀ {b:Addr} {q:Str},tabs.lookup b=some q->aa.heap.get? b=some { cls:=.none,data:=.fields #[] }:=λ{b q} e=>(hT _ (sE e)).1;have A:tabs.lookup a=none:=by
  cases q:tabs.lookup a with
  | none=>rfl
  | some y=>have z:=i q;rw[O] at z;cases z
 have I:∀ H:Hp,Ry H->SqL K H a (R.map V.int)->HOk P w H aa.heap->(∀ b u,H b=some u->b=a\/∃ q,tabs.lookup b=some q)->(H a≠none->K.lookup a=none)->(∀ b q,tabs.lookup b=some q->H b=some (.tbl (Vz9 [.str q 0])))->
   FU (model P w) ah0 (.call (.ref fa) #[[.ref a],[]]) (λr s'=>r=.ok (.ret (.bool true))/\OldK aa.heap s'.heap/\s'.os=aa.os/\Yy s'.gens) aa:=by
  intro H hO hS M hA hK W;have g:∀ {b:Addr} {o:Obj},aa.heap.get? b=some o->H b=none->(f_ aa.heap.objs.size (λb=>if (H b).isNone then aa.heap.get? b else none) λb=>tabs.lookup b).get? b=some o:=λe n=>Cz (dw e) (by rw[n];exact e) (CS e);have a1:∀ {b:Addr} {o:Obj},aa.heap.get? b=some o->o.cls≠.type "list"->o≠{ cls:=.none,data:=.fields #[] }->H b=none:=λ{b o} e d1 d2=>by
   cases q:H b with
   | none=>rfl
   | some u=>
    rcases hA b u q with z | ⟨y,z⟩
    .subst z;rw[O] at e;cases e;exact absurd rfl d1
    .rw[i z] at e;cases e;exact absurd rfl d2
  have a2:∀ {b:Addr} {o:Obj} {es:Array DictEntry} {ep:Nat},aa.heap.get? b=some o->o.data=.dict es ep->H b=none:=λ{b o es ep} e d=>by
   cases q:H b with
   | none=>rfl
   | some u=>
    rcases hA b u q with z | ⟨y,z⟩
    .subst z;rw[O] at e;cases e;cases d
    .rw[i z] at e;cases e;cases d
  have t:∀ {b:Addr} {m:SV0},aa.heap.Ns b m->(f_ aa.heap.objs.size (λb=>if (H b).isNone then aa.heap.get? b else none) λb=>tabs.lookup b).Ns b m:=λ{b m} ⟨o,es,ep,e,d,r⟩=>#[o,es,ep,g e (a2 e d),d,r];have X:K.In (f_ aa.heap.objs.size (λb=>if (H b).isNone then aa.heap.get? b else none) λb=>tabs.lookup b):=λb o e=>by
   refine g (KX b o e) ?_;cases q:H b with
   | none=>rfl
   | some u=>
    rcases hA b u q with z | ⟨y,z⟩
    .subst z;rw[hK (by rw[q];simp)] at e;cases e
    .have z2:=(hT _ (sE z)).2.1;rw[z2] at e;cases e
  have L:∀ {b:Addr} {o:Obj},(if (H b).isNone then aa.heap.get? b else none)=some o->aa.heap.get? b=some o/\H b=none:=λ{b o} e=>by
   split at e
   .rename_i z;exact#[e,by simpa using z]
   .cases e
  have hM:Mod K Q (f_ aa.heap.objs.size (λb=>if (H b).isNone then aa.heap.get? b else none) λb=>tabs.lookup b):=#[X,t T,#[mb,t j,a7],let ⟨mc,h1,h2⟩:=U;#[mc,t h1,h2],let ⟨Y,B,h1,h2,h3,h4,h5⟩:=a6;#[Y,B,h1,h2,g h3 (a1 h3 (by rw[h4];decide) (by intro z;rw[z] at h4;cases h4)),h4,h5]];have e0:Av P w K Q (f_ aa.heap.objs.size (λb=>if (H b).isNone then aa.heap.get? b else none) λb=>tabs.lookup b) ah0 [] aa H:=#[rfl,hM,λb o e=>#[(L (yo e).2).1,.inl (L (yo e).2).2],Zn ou,trivial,λb j=>absurd (show b∈([]:La0) from j) (by simp),M,.of_eq hg,
   λP q z=>#[_,0,W P q (Hy (λo e=>CS (L e).1) z).2,rfl]]
  refine Sa ((F _ X (t T) λP q z=>Cy (dw (i z)) (by rw[W P q z];rfl) z).run ah0 [] aa H #[[.ref a],[]] [.ref a] [.ref a] _ _ hr e0 (N aa (.ref a)) (.cons rfl .nil) (a5 H hO hS)) λr s' h=>?_;cases r with
  | error e=>exact(a0 H e s' h).elim
  | ok fl=>
   cases fl with
   | next=>exact ke h
   | brk=>exact ke h
   | cont=>exact ke h
   | ret u=>
    let#[v,H',os,bare,Z,E,r',q]:=h;have q':v=.bl true:=q;subst q';obtain rfl:u=ac4 true:=r';refine#[rfl,#[λb o e=>?_,λb o e=>Z.there b o e (by simp)],os,bare];cases q:H b with
    | none=>exact .inl (Z.keep b o e q (by intro z;exact absurd (show b∈([]:La0) from z) (by simp)) (by simp))
    | some u=>
     rcases hO b with z | ⟨B,xs,z⟩ | ⟨ps,z⟩
     .rw[q] at z;cases z
     .have z2:=Z.m4 b B _ z;let#[G,_]:=M b _ z;let#[e2,_]:=E b _ z2;rw[e] at G;cases G;exact .inl e2
     .rcases hA b u q with y | ⟨y,hy⟩
      .subst y;let#[_,_,_,_,G,_]:=M b _ z;rw[O] at G;cases G
      .let#[m,z2]:=Z.tbls b ps z;let#[_,_,qs,_,e2,_]:=E b _ z2;have G:=i hy;rw[e] at G;cases G;let#[c,oc,ws,c1,c2,c3,c4]:=(hT _ (sE hy)).2.2;exact .inr (.inl #[#[c,oc,ws,c1,c2,c3,c4],rfl,#[],qs,rfl,by rw[Array.empty_append];exact e2])
 let J:Hp:=λb=>(tabs.lookup b).map λq=>.tbl (Vz9 [.str q 0])
 have C:∀ {b:Addr} {u:HO} {H:Hp},J b=some u->cQ P w H aa.heap b u:=λ{b u H} z=>by
  cases q:tabs.lookup b with
  | none=>have l:(tabs.lookup b).map (λq=>HO.tbl (Vz9 [.str q 0]))=some u:=z;rw[q] at l;cases l
  | some y=>
   have l:(tabs.lookup b).map (λq=>HO.tbl (Vz9 [.str q 0]))=some u:=z;rw[q] at l;cases l;exact#[y,0,#[],rfl,i q,trivial,λ_ _ r=>by simp [codeAmong] at r]
 have f:∀ {b:Addr} {u:HO},J b=some u->∃ q,tabs.lookup b=some q/\u=.tbl (Vz9 [.str q 0]):=λ{b u} z=>by
  have l:(tabs.lookup b).map (λq=>HO.tbl (Vz9 [.str q 0]))=some u:=z;cases q:tabs.lookup b with
  | none=>rw[q] at l;cases l
  | some y=>rw[q] at l;cases l;exact#[y,rfl,rfl]
 have a4:J a=none:=by show (tabs.lookup a).map _=none;rw[A];rfl
 have D:∀ b q,tabs.lookup b=some q->J b=some (.tbl (Vz9 [.str q 0])):=λb q z=>by show (tabs.lookup b).map _=_;rw[z];rfl
 cases hk:K.lookup a with
 | some o=>
  have e:=KX a o hk;rw[O] at e;cases e;refine I J (λb=>?_) (.inr #[_,vs.toArray,_,hk,rfl,rfl,rfl,by rw[eR,S];exact hl,by simpa using rv]) (λb u z=>C z) (λb u z=>.inr (let ⟨q,h,_⟩:=f z;#[q,h])) (λz=>absurd a4 z) D;cases z:J b with
  | none=>exact .inl rfl
  | some u=>let#[q,_,rfl]:=f z;exact .inr (.inr #[_,rfl])
 | none=>
  refine I (upd J a (.frz { cls:=.type "list",data:=.seq vs.toArray } (.lst (R.map V.int)))) (λb=>?_) (.inl (.inr #[{ cls:=.type "list",data:=.seq vs.toArray },aB])) (λb u z=>?_) (λb u z=>?_) (λ_=>hk) λb q z=>?_
  .by_cases j:b=a
   .subst j;exact .inr (.inl #[_,_,aB])
   .rw[ao j];cases z:J b with
    | none=>exact .inl rfl
    | some u=>let#[q,_,rfl]:=f z;exact .inr (.inr #[_,rfl])
  .by_cases j:b=a
   .subst j;rw[aB] at z;cases z;exact#[O,by rw[lM0];exact hl,vs,_,rv,O]
   .rw[ao j] at z;exact C z
  .by_cases j:b=a
   .exact .inl j
   .rw[ao j] at z;exact .inr (let ⟨q,h,_⟩:=f z;#[q,h])
  .rw[ao (λy=>by rw[y,A] at z;cases z)];exact D b q z
theorem FW{l:Za}{q:Pv}{g:Ls0}{XP:(SV0)->Heap->Prop}{E:World->Heap->Prop}{d:DefRec}{K:Params->Fg0}{CX:World->CXT}{sp:Fg0->Sp}{x:Str}{ts:La0}(M:l.most=some n)(z:n<=sizeLine)(B:d.params.defaults=[])(J:cy k ah0)(R:∀ (w:World) (h:Heap),E w h->(K w.params).In h/\∀ P∈ts,h.get? P=some (aq0 #[]))(F:∀ (w:World) (mg:SV0) (r:Addr) (h:Heap),(K w.params).In h->h.Ns eB mg->mg d.name=some (.ref r)->
   ∃ (fd:et) (tabs:List (Addr×Str)),(∀ (s:Shared) (u:Value),ag9 s fd #[[u],[]] [(x,u)])/\(∀ p∈tabs,p.1∈ts/\(K w.params).lookup p.1=none/\∃ c,ag1 h c p.1)/\
    ∀ base:Heap,(K w.params).In base->base.Ns eB mg->(∀ P q,tabs.lookup P=some q->Aq base P q)->aT l.prog w (K w.params) mg base (CX w) k r fd [x] (sp (K w.params)))(y:∀ (K:Fg0) (H:Hp) (a:Addr) (ns:Li0),ns.length<=n->Ry H->SqL K H a (ns.map V.int)->sp K [.ref a] H (λv _=>v=.bl true) λ_ _ _=>False)(C:∀ (w:World) (H:Hp) (s:Shared) (e:Value) (s':Shared),CX w [] H s (λ_ _ _=>False) e s'->False) :
  aq3 q g XP E l.row.toRowW d [] (λf vs=>ap5 f vs):=by
 refine _a.BL M B λw D j mg mb r o pm cd a1 a vs ns G Y ho hd O A m i b N=>?_;let#[I,t]:=R w _ Y;let#[fd,tabs,Q,S,W]:=F w mg r _ I G.T.g A;refine Fl I G.T.g G.T.b G.T.builtins G.T.nolimit G.T.bmain N m i (eC b z) J (λp L=>?_) W Q (λH U T=>y _ H a ns b U T) λH e s'=>C w H j e s';let#[Z,X,c,o,vs,_,_,_,_,_,_,_,c1,c2,c3,c4,_]:=S p L;exact#[t _ Z,X,c,o,vs,c1,c2,c3,c4]
end _2
namespace _3
open PySem _2 PySem.Spec PyProof.Rows
section
variable {p:Addr}{xss:NR}
variable {rest:List Stmt}{t:TS}{n3 m3:TN}
theorem LG(h:k < n):ixN n (k:Int)=some k:=by
 unfold ixN;rw[if_pos (by lia),if_pos (by lia),ks]
end
end _3
namespace _2
open PySem
structure FN (K:Fg0) (x q:Str) (st:Stmt) (f:Addr) (d:et):Prop where
 n:fC K eB x=some (some (.ref f))
 F:Fun K x q st f d
structure FM (K:Fg0) (C:Addr) (x q:Str) (st:Stmt) (f:Addr) (d:et):Prop where
 m:dV K (.ref C) x=some (some (.ref f))
 i:YC K (.ref f)=true
 F:Fun K x q st f d
structure FY (K:Fg0) (x q:Str) (st:Stmt) (f:Addr) (d:et) (ps:Ls0):Prop where
 F:Fun K x q st f d
 b:Binds K d ps []
structure FX (K:Fg0) (mg:SV0) (x q:Str) (st:Stmt) (f:Addr) (d:et) (ps:Ls0):Prop where
 F:Fun K x q st f d
 b:Binds K d ps []
 m:mg x=some (.ref f)
section
variable {mg:SV0}{h:Heap}{x q:Str}{d:et}
theorem fx(X:K.In h)(G:h.Ns eB mg)(F:FN K x q st f d)(b:∀ (kV a e:Value) (i:Option Addr) (c g:Value) (us:Lv0),us.length=ps.length->bindArgs (Xl x q (pE st) (hV st) (aj st) .none kV a e i c g) #[us,[]]=pure (ps.zip us)):FX K mg x q st f d ps:=#[F.F,F.F.binds b,lx X G F.n]
theorem fy(F:FM K C x q st f d)(b:∀ (kV a e:Value) (h:Option Addr) (c g:Value) (us:Lv0),us.length=ps.length->bindArgs (Xl x q (pE st) (hV st) (aj st) .none kV a e h c g) #[us,[]]=pure (ps.zip us)):FY K x q st f d ps:=#[F.F,F.F.binds b]
theorem cy.dn(r:cy k A)(h:autoParam (j<=k) wP):cy j A:=r.mono h
theorem FM.me(F:FM K C x q st f d):Meth K C x f:=#[F.m,F.i,F.F.kp]
end
open PySem PySem.Spec PyProof.Rows
open PySem PySem.Spec PyProof.Rows
abbrev eL (h:Heap)(T:Addr)(a b c:Value):Prop:=h.get? T=some { cls:=.type "tuple",data:=.seq (Vz9 [a,b,c]) }
structure Z3A (z TI TO i1 i2 i3:Addr):Prop where
 Iz:TI≠z
 Oz:TO≠z
 az:i1≠z
 bz:i2≠z
 cz:i3≠z
 IO:TI≠TO
 Ia:TI≠i1
 Ib:TI≠i2
 Ic:TI≠i3
 Oa:TO≠i1
 Ob:TO≠i2
 Oc:TO≠i3
 ab:i1≠i2
 ac:i1≠i3
 bc:i2≠i3
structure Z3L (l z TO i1 i2 i3:Addr):Prop where
 z:l≠z
 O:l≠TO
 a:l≠i1
 b:l≠i2
 c:l≠i3
structure Z3I (h:Heap) (TI i1 i2 i3 l1 l2 l3:Addr) (k:Nat):Prop where
 I:eL h TI (.ref i1) (.ref i2) (.ref i3)
 a:h.IsListIter i1 l1 k
 b:h.IsListIter i2 l2 k
 c:h.IsListIter i3 l3 k
structure Z3M (h:Heap) (l1 l2 l3:Addr) (xs ys zs:Array Value):Prop where
 a:h.IsList l1 xs
 b:h.IsList l2 ys
 c:h.IsList l3 zs
section
variable {E:VS0}{s:Shared}{z TI TO i1 i2 i3 l1 l2 l3:Addr}{xs ys zs:Array Value}
theorem rH{T:Addr}{a b c x:Value}{Q:Unit->Shared->Prop}(d:eL s.heap T a b c)(h:∀ h',h'.get? T=some { cls:=.type "tuple",data:=.seq (((Vz9 [a,b,c]):Array Value).setIfInBounds k x) }->Yz T s.heap h'->Q () { s with heap:=h' }):wpAny (model prog w) A (updateSeq T (·.setIfInBounds k x)) Q E s:=by
 refine wpAny_updateSeq d rfl (h _ ?_ (Heap.SameBut.update ..));rw[pL _ d rfl];simp [ZA]
theorem BR{x y a b c:Value}{Q:VS0}(D:Z3A z TI TO i1 i2 i3)(L1:Z3L l1 z TO i1 i2 i3)(I:Z3L l2 z TO i1 i2 i3)(r:Z3L l3 z TO i1 i2 i3)(q:IsZip s.heap z TI TO .none)(eO:eL s.heap TO a b c)(J:Z3I s.heap TI i1 i2 i3 l1 l2 l3 k)(M:Z3M s.heap l1 l2 l3 xs ys zs)(hx:xs[k]?=some x)(hy:ys[k]?=some y)(hv:zs[k]?=some v)(hQ:∀ h',Dl h' z TI TO s.heap.objs.size false->eL h' TO x y v->h'.IsListIter i1 l1 (k + 1)->h'.IsListIter i2 l2 (k + 1)->h'.IsListIter i3 l3 (k + 1)->eL h' s.heap.objs.size x y v->(∀ c o,c∉[z,TO,i1,i2,i3]->s.heap.get? c=some o->h'.get? c=some o)->Q (.ref s.heap.objs.size) { s with heap:=h' }) :
  wpAny (model prog w) A (Zp.«zip.__next__» #[[.ref z],[]]) (λfin s'=>∃ v,fin=.done (.ret v)/\Q v s') E s:=by
 let#[eI,j1,j2,j3]:=J;let#[m1,Z,Y]:=M;show wpAny _ _ (field (.ref z) 2 >>= λa=>_) _ _ _;refine au (qd q rfl (x:=.bool false) rfl ?_);show wpAny _ _ (field (.ref z) 3 >>= λa=>_) _ _ _;refine au (qd q rfl (x:=.ref TI) rfl (au (SL eI rfl ?_)));show wpAny _ _ (FT (.ref z) >>= λa=>_) _ _ _;refine au ?_;unfold FT;refine au (qd q rfl (x:=.none) rfl (bh ?_));simp only[if_true];refine au (Zt (au (qd q rfl (x:=.ref TO) rfl (au (Xp q (by simp) λg1 H f=>?_)))));replace H:IsZip g1 z TI TO .ellipsis:=H;refine au ?_;simp only[am9,ao7,Xq,af6];refine au (au (Yf ?_));show wpAny _ _ (AC (.ref i1) >>= λa=>_) _ _ _;refine au (Vr (j1.extBut f.extBut D.az) (m1.extBut f.extBut L1.z) hx λg2 d1 h=>bh ?_);have T:eL g2 TO a b c:=h.extBut _ _ D.Oa (f.extBut _ _ D.Oz eO);refine au (SL T rfl (au (rH T λg3 F g=>au (ZZ (bh ?_)))));replace F:eL g3 TO x b c:=F;refine au (au (Yf ?_));show wpAny _ _ (AC (.ref i2) >>= λa=>_) _ _ _;refine au (Vr (((j2.extBut f.extBut D.bz).extBut h.extBut D.ab.symm).extBut g.extBut D.Ob.symm) (((Z.extBut f.extBut I.z).extBut h.extBut I.a).extBut g.extBut I.O) hy λg4 d2 j=>bh ?_);have S:eL g4 TO x b c:=j.extBut _ _ D.Ob F;refine au (SL S rfl (au (rH S λg5 C i=>au (ZZ (bh ?_)))));replace C:eL g5 TO x y c:=C;refine au (au (Yf ?_));show wpAny _ _ (AC (.ref i3) >>= λa=>_) _ _ _;refine au (Vr (((((j3.extBut f.extBut D.cz).extBut h.extBut D.ac.symm).extBut g.extBut D.Oc.symm).extBut j.extBut D.bc.symm).extBut i.extBut D.Oc.symm) (((((Y.extBut f.extBut r.z).extBut h.extBut r.a).extBut g.extBut r.O).extBut j.extBut r.b).extBut i.extBut r.O) hv λg6 d3 m=>bh ?_);have R:eL g6 TO x y c:=m.extBut _ _ D.Oc C;refine au (SL R rfl (au (rH R λd t l=>au (ZZ (bh (bh ?_))))));replace t:eL d TO x y v:=t;refine au (SL t rfl (au (wpAny_newTuple ?_)));have N:d.objs.size=s.heap.objs.size:=by rw[l.1,m.1,i.1,j.1,g.1,h.1,f.1]
 have U:IsZip d z TI TO .ellipsis:=l.extBut _ _ D.Oz.symm (m.extBut _ _ D.cz.symm (i.extBut _ _ D.Oz.symm (j.extBut _ _ D.bz.symm (g.extBut _ _ D.Oz.symm (h.extBut _ _ D.az.symm H)))));have k7:∀ c o,c∉[z,TO,i1,i2,i3]->s.heap.get? c=some o->d.get? c=some o:=λc o n e=>by
  simp only[dk,fT,or_false,not_or] at n;exact l.extBut _ _ n.2.1 (m.extBut _ _ n.2.2.2.2 (i.extBut _ _ n.2.1 (j.extBut _ _ n.2.2.2.1 (g.extBut _ _ n.2.1 (h.extBut _ _ n.2.2.1 (f.extBut _ _ n.1 e))))))
 have X:d.IsListIter i1 l1 (k + 1):=((((d1.extBut g.extBut D.Oa.symm).extBut j.extBut D.ab).extBut i.extBut D.Oa.symm).extBut m.extBut D.ac).extBut l.extBut D.Oa.symm;have W:d.IsListIter i2 l2 (k + 1):=((d2.extBut i.extBut D.Ob.symm).extBut m.extBut D.bc).extBut l.extBut D.Ob.symm;have V:d.IsListIter i3 l3 (k + 1):=d3.extBut l.extBut D.Oc.symm;have K:z < d.objs.size:=dw U;show wpAny _ _ (XZ (.ref z) (.ref d.objs.size) >>= λa=>_) _ _ _;refine au ?_;unfold XZ;have e8:IsZip (d.push { cls:=.type "tuple",data:=.seq (Vz9 [x,y,v]) }) z TI TO .ellipsis:=av _ U;refine au (Xp e8 (by simp) λg9 G P=>?_);replace G:IsZip g9 z TI TO (rawInt d.objs.size):=G;refine Xp G (by simp) λu B O=>?_;replace B:Dl u z TI TO d.objs.size false:=B;have p:∀ c o,c≠z->d.get? c=some o->u.get? c=some o:=λc o n e=>O.extBut _ _ n (P.extBut _ _ n (av _ e));have L:eL u d.objs.size x y v:=O.extBut _ _ (wh K) (P.extBut _ _ (wh K) (er _ rfl));rw[N] at B L;refine bh #[_,rfl,?_];show Q (.ref d.objs.size) _;rw[N];exact hQ u B (p _ _ D.Oz t) (X.at λo e=>p _ o D.az e) (W.at λo e=>p _ o D.bz e) (V.at λo e=>p _ o D.cz e) L λc o n e=>p c o (λy=>n (by simp [y])) (k7 c o n e)
abbrev Vw (s:Shared)(ch:La0)(E:VS0):Prop:=∀ h' e,(∀ c o,c∉ch->s.heap.get? c=some o->h'.get? c=some o)->(∃ o,h'.get? e=some o/\o.cls=.type "StopIteration")->E (.ref e) { s with heap:=h' }
theorem Es{a b c:Value}{Q:Fin->Shared->Prop}(K:A.handled=none)(D:Z3A z TI TO i1 i2 i3)(L1:Z3L l1 z TO i1 i2 i3)(N:Z3L l2 z TO i1 i2 i3)(u:Z3L l3 z TO i1 i2 i3)(t:IsZip s.heap z TI TO .none)(eO:eL s.heap TO a b c)(J:Z3I s.heap TI i1 i2 i3 l1 l2 l3 k)(M:Z3M s.heap l1 l2 l3 xs ys zs)(h:xs[k]?=none\/ys[k]?=none\/zs[k]?=none)(hE:Vw s [z,TO,i1,i2,i3] E):wpAny (model prog w) A (Zp.«zip.__next__» #[[.ref z],[]]) Q E s:=by
 let#[eI,V,j2,j3]:=J;let#[m1,m2,m3]:=M;show wpAny _ _ (field (.ref z) 2 >>= λa=>_) _ _ _;refine au (qd t rfl (x:=.bool false) rfl ?_);show wpAny _ _ (field (.ref z) 3 >>= λa=>_) _ _ _;refine au (qd t rfl (x:=.ref TI) rfl (au (SL eI rfl ?_)));show wpAny _ _ (FT (.ref z) >>= λa=>_) _ _ _;refine au ?_;unfold FT;refine au (qd t rfl (x:=.none) rfl (bh ?_));simp only[if_true];refine au (Zt (au (qd t rfl (x:=.ref TO) rfl (au (Xp t (by simp) λZ C f=>?_)))));replace C:IsZip Z z TI TO .ellipsis:=C;refine au ?_;simp only[am9,ao7,Xq,af6];have fin:∀ {i:Addr} {g p:Heap} {e:Addr},i≠z->IsZip g z TI TO .ellipsis->i∈[z,TO,i1,i2,i3]->(∀ c o,c∉[z,TO,i1,i2,i3]->s.heap.get? c=some o->g.get? c=some o)->(∀ c o,c≠i->g.get? c=some o->p.get? c=some o)->(∃ o,p.get? e=some o/\o.cls=.type "StopIteration")->
   wpAny (model prog w) A (setField (.ref z) 0 .none) (λ_=>E (.ref e)) E { s with heap:=p }:=λ{i g p e} nz eg hi hk m h=>by
  let#[oe,I,W]:=h;have r:IsZip p z TI TO .ellipsis:=m _ _ nz.symm eg;have ez:e≠z:=λx=>by subst x;rw[r] at I;cases I;simp at W
  exact Xp r (by simp) λB _ d=>hE B e (λc o n x=>d.extBut _ _ (λy=>n (by simp [y])) (m c o (λy=>n (y ▸ hi)) (hk c o n x))) #[oe,d.extBut _ _ ez I,W]
 have U:∀ c o,c∉[z,TO,i1,i2,i3]->s.heap.get? c=some o->Z.get? c=some o:=λc o n x=>f.extBut _ _ (λy=>n (by simp [y])) x;refine au (au (Yf ?_));show wpAny _ _ (AC (.ref i1) >>= λa=>_) _ _ _;cases H:xs[k]? with
 | none=>exact au (YN K (V.extBut f.extBut D.az) (m1.extBut f.extBut L1.z) H λB e d h=>fin D.az C (by simp) U d h)
 | some x=>
  refine au (Vr (V.extBut f.extBut D.az) (m1.extBut f.extBut L1.z) H λB d1 d=>bh ?_);have R:eL B TO a b c:=d.extBut _ _ D.Oa (f.extBut _ _ D.Oz eO);refine au (SL R rfl (au (rH R λL F l=>au (ZZ (bh ?_)))));replace F:eL L TO x b c:=F;have e3:IsZip L z TI TO .ellipsis:=l.extBut _ _ D.Oz.symm (d.extBut _ _ D.az.symm C);have T:∀ c o,c∉[z,TO,i1,i2,i3]->s.heap.get? c=some o->L.get? c=some o:=λc o n x=>l.extBut _ _ (λy=>n (by simp [y])) (d.extBut _ _ (λy=>n (by simp [y])) (U c o n x));refine au (au (Yf ?_));show wpAny _ _ (AC (.ref i2) >>= λa=>_) _ _ _;have O:=((j2.extBut f.extBut D.bz).extBut d.extBut D.ab.symm).extBut l.extBut D.Ob.symm;have S:=((m2.extBut f.extBut N.z).extBut d.extBut N.a).extBut l.extBut N.O;cases G:ys[k]? with
  | none=>exact au (YN K O S G λY e j h=>fin D.bz e3 (by simp) T j h)
  | some y=>
   refine au (Vr O S G λY d2 j=>bh ?_);have P:eL Y TO x b c:=j.extBut _ _ D.Ob F;refine au (SL P rfl (au (rH P λX o5 v=>au (ZZ (bh ?_)))));have e5:IsZip X z TI TO .ellipsis:=v.extBut _ _ D.Oz.symm (j.extBut _ _ D.bz.symm e3);have k5:∀ c o,c∉[z,TO,i1,i2,i3]->s.heap.get? c=some o->X.get? c=some o:=λc o n x=>v.extBut _ _ (λy=>n (by simp [y])) (j.extBut _ _ (λy=>n (by simp [y])) (T c o n x));have hv:zs[k]?=none:=by
    rcases h with q | q | q
    .rw[H] at q;cases q
    .rw[G] at q;cases q
    .exact q
   refine au (au (Yf ?_));show wpAny _ _ (AC (.ref i3) >>= λa=>_) _ _ _;exact au (YN K (((((j3.extBut f.extBut D.cz).extBut d.extBut D.ac.symm).extBut l.extBut D.Oc.symm).extBut j.extBut D.bc.symm).extBut v.extBut D.Oc.symm) (((((m3.extBut f.extBut u.z).extBut d.extBut u.a).extBut l.extBut u.O).extBut j.extBut u.b).extBut v.extBut u.O) hv λg6 e s6 h=>fin D.cz e5 (by simp) k5 s6 h)
theorem vE{a f1:Value}(e:s.heap.get? z=some { cls:=.type "zip",dict:=none,data:=.fields (Vz9 [a,f1,.bool false,.ref TI,.ref TO]),slots:=#[] }):s.TypeIs (.ref z) "zip":=#[_,e,rfl]
theorem Bg{x y a b c:Value}{Q:Option Value->Shared->Prop}(D:Z3A z TI TO i1 i2 i3)(B:Z3L l1 z TO i1 i2 i3)(u:Z3L l2 z TO i1 i2 i3)(t:Z3L l3 z TO i1 i2 i3)(d:IsZip s.heap z TI TO .none)(i:eL s.heap TO a b c)(J:Z3I s.heap TI i1 i2 i3 l1 l2 l3 k)(M:Z3M s.heap l1 l2 l3 xs ys zs)(f:xs[k]?=some x)(e:ys[k]?=some y)(g:zs[k]?=some v)(h:∀ h',Dl h' z TI TO s.heap.objs.size false->eL h' TO x y v->h'.IsListIter i1 l1 (k + 1)->h'.IsListIter i2 l2 (k + 1)->h'.IsListIter i3 l3 (k + 1)->eL h' s.heap.objs.size x y v->(∀ c o,c∉[z,TO,i1,i2,i3]->s.heap.get? c=some o->h'.get? c=some o)->Q (some (.ref s.heap.objs.size)) { s with heap:=h' }) :
  wpAny (model prog w) A (pyNext (.ref z)) Q E s:=by
 unfold pyNext;exact au (YY (Yt (name:=ah "__next__") (vE d) Zg (YQ Zg (vE d) F.entry_zip_next
  (BR D B u t d i J M f e g λh' r q p n m l j=>bh (h h' r q p n m l j)) (al1 _))))
theorem Ct{a b c:Value}{Q:Option Value->Shared->Prop}(g:A.handled=none)(D:Z3A z TI TO i1 i2 i3)(p:Z3L l1 z TO i1 i2 i3)(n:Z3L l2 z TO i1 i2 i3)(m:Z3L l3 z TO i1 i2 i3)(d:IsZip s.heap z TI TO .none)(l:eL s.heap TO a b c)(J:Z3I s.heap TI i1 i2 i3 l1 l2 l3 k)(M:Z3M s.heap l1 l2 l3 xs ys zs)(h:xs[k]?=none\/ys[k]?=none\/zs[k]?=none)(j:∀ h',(∀ c o,c∉[z,TO,i1,i2,i3]->s.heap.get? c=some o->h'.get? c=some o)->Q none { s with heap:=h' }):wpAny (model prog w) A (pyNext (.ref z)) Q E s:=by
 unfold pyNext;refine au (YY (Yt (name:=ah "__next__") (vE d) Zg (YQ Zg (vE d) F.entry_zip_next (Es g D p n m d l J M h λh' e hk ⟨o,f,i⟩=>?_) (al1 _))));exact au (wpAny_isInstance (T:="StopIteration") (b:=true) #[o,f,i] isSubtype_stop (bh (j _ hk)))
noncomputable abbrev z3H (h:Heap)(l:Addr):Heap:=h.push { cls:=.type "list_iterator",data:=.fields (Vz9 [.ref l,.int 0 0]) }
noncomputable abbrev z3a (h:Heap)(c b a:Addr):Heap:=z3H (z3H (z3H h c) b) a
noncomputable abbrev z3b (h:Heap)(a b c:Addr):Heap:=(z3a h a b c).push { cls:=.type "tuple",data:=.seq (Vz9 [.ref h.objs.size,.ref (z3H h a).objs.size,.ref (z3H (z3H h a) b).objs.size]) }
noncomputable abbrev z3c (h:Heap)(c b a:Addr):Heap:=(z3b h c b a).push { cls:=.type "tuple",data:=.seq (Vz9 [.none,.none,.none]) }
noncomputable abbrev z3d (h:Heap)(c b a:Addr):Heap:=(z3c h c b a).push { cls:=.type "zip",data:=.fields (Vz9 [.none,.bool false,.bool false,.ref (z3a h c b a).objs.size,.ref (z3b h c b a).objs.size]) }
set_option maxHeartbeats 4000000 in
theorem CA(a b c:Addr)(xs ys zs:Array Value) :
  Meets (Zp.«zip.__new__» #[[.type "zip",.ref a,.ref b,.ref c],[]]) (λ_ R s=>s.heap.IsList a xs/\s.heap.IsList b ys/\s.heap.IsList c zs/\R (.ok (.ret (.ref (z3c s.heap a b c).objs.size))) { s with heap:=z3d s.heap a b c }):=
 .of_wp λo w A R s h=>by
  let#[f,g,d,e,os]:=s;let#[k,j,i,h]:=h;have p:=sub_zip;have n:an8 (an9 #[f,g,d,e,os]) a xs:=k;have m:an8 (an9 #[f.push { cls:=.type "list_iterator",data:=.fields (Vz9 [.ref a,.int 0 0]) },g,d,e,os]) b ys:=ab8 j _;have l:an8 (an9 #[(f.push { cls:=.type "list_iterator",data:=.fields (Vz9 [.ref a,.int 0 0]) }).push { cls:=.type "list_iterator",data:=.fields (Vz9 [.ref b,.int 0 0]) },g,d,e,os]) c zs:=ab8 (ab8 i _) _
  wp_walk using Wl n,Wl m,Wl l
  exact#[_,rfl,h]
theorem RD(a b c:Value):checkTypeCall "zip" #[[a,b,c],[]]=pure ():=by kernel_rfl
theorem RE(a b c:Value):YT "zip.__new__" #[[.type "zip",a,b,c],[]]=pure ():=by kernel_rfl
theorem RF(a b c d:Value):argsOk "object.__init__" #[[a,b,c,d],[]]:=by
 unfold argsOk;rw[signature?_of (id:="object.__init__") (n:=['_','_','t','i','n','i','_','_']) (o:=['t','c','e','j','b','o']) (by kernel_rfl) F.owner_object];kernel_rfl
theorem Fw{Q:VS0}(M:Z3M s.heap l1 l2 l3 xs ys zs)(h:∀ h',IsZip h' (s.heap.objs.size + 5) (s.heap.objs.size + 3) (s.heap.objs.size + 4) .none->eL h' (s.heap.objs.size + 4) .none .none .none->Z3I h' (s.heap.objs.size + 3) s.heap.objs.size (s.heap.objs.size + 1) (s.heap.objs.size + 2) l1 l2 l3 0->
   (∀ c o,s.heap.get? c=some o->h'.get? c=some o)->Q (.ref (s.heap.objs.size + 5)) { s with heap:=h' }):wpAny (model prog w) A (call (.type "zip") [.ref l1,.ref l2,.ref l3]) Q E s:=by
 refine callType_new F.called_zip (by decide) (RD _ _ _) (RE _ _ _) (λd=>RF d _ _ _) F.entry_zip_new (CA l1 l2 l3 xs ys zs) #[M.a,M.b,M.c,?_];have p:∀ (g:Heap) (o:Obj),(g.push o).objs.size=g.objs.size + 1:=λg o=>yn ..;have l:(z3H s.heap l1).objs.size=s.heap.objs.size + 1:=p _ _;have k:(z3H (z3H s.heap l1) l2).objs.size=s.heap.objs.size + 2:=by rw[p,l]
 have j:(z3a s.heap l1 l2 l3).objs.size=s.heap.objs.size + 3:=by rw[p,k]
 have i:(z3b s.heap l1 l2 l3).objs.size=s.heap.objs.size + 4:=by rw[p,j]
 have t:(z3c s.heap l1 l2 l3).objs.size=s.heap.objs.size + 5:=by rw[p,i]
 have a:∀ {g:Heap} {o u:Obj} {b:Addr},g.get? b=some u->(g.push o).get? b=some u:=λe=>av _ e;have f:(z3d s.heap l1 l2 l3).get? (z3c s.heap l1 l2 l3).objs.size=some _:=er _ rfl;have m:(z3d s.heap l1 l2 l3).get? (z3b s.heap l1 l2 l3).objs.size=some _:=a (er _ rfl);have n:(z3d s.heap l1 l2 l3).get? (z3a s.heap l1 l2 l3).objs.size=some _:=a (a (er _ rfl));have q:(z3d s.heap l1 l2 l3).get? (z3H (z3H s.heap l1) l2).objs.size=some _:=a (a (a (er _ rfl)));have r:(z3d s.heap l1 l2 l3).get? (z3H s.heap l1).objs.size=some _:=a (a (a (a (er _ rfl))));have v:(z3d s.heap l1 l2 l3).get? s.heap.objs.size=some _:=a (a (a (a (a (er _ rfl)))));show _/\_;rw[j,i,t] at f;rw[i] at m;rw[l,k,j] at n;rw[k] at q;rw[l] at r;rw[t];exact#[#[_,f,rfl],h _ f m #[n,#[_,v,rfl,rfl],#[_,r,rfl,rfl],#[_,q,rfl,rfl]] λc o x=>a (a (a (a (a (a x)))))]
end
section
variable {pins:Pn0}{s:Shared}
theorem Inv.Od{T:Addr}{x y w:V}{u q:Value}(I:Inv X pins σ H s)(d:∀ b∈ch,md X pins H b)(j:s.heap.objs.size<=T)(hk:∀ b o,b∉ch->s.heap.get? b=some o->h'.get? b=some o)(t:IsTup h' T (Vz9 [u,v,q]))(p:RelV x u)(l:RelV y v)(rw:RelV w q):Inv X pins σ (upd H T (.tup [x,y,w])) { s with heap:=h',toks:=t' }:=by
 have i:∀ {b:Addr} {u:HO},H b=some u->b∉ch:=λe f=>by rw[(d _ f).1] at e;cases e
 have C:H T=none:=I.hok.fresh j;have neT:∀ {b:Addr} {o:Obj},s.heap.get? b=some o->b≠T:=λe=>jz (da (dw e) j);have a:∀ {b:Addr} {u:HO},H b=some u->b≠T:=λe z=>by rw[z,C] at e;cases e
 refine I.step (g':=s.gens) (d':=s.drawn) (ch:=ch) (λb f=>#[(d b f).2.2.2.1,(d b f).2.1,(d b f).2.2.2.2.1,(d b f).2.2.2.2.2]) (λb o _ _ g e _=>hk b o g e) (λb o _ _ g e _=>#[o.slots,hk b o g e]) (λb o _ e n=>by rw[ao (neT e)];exact n)
  (λb o g e=>#[o,hk b o g e]) (λb h e=>by rw[ao (a e)];exact e) (λb o h e=>by rw[ao (a e)];exact e) (λb G e=>#[#[],by rw[ao (a e),e];simp]) (λm B=>?_) (λb o e=>?_) I.bare
 .let#[o,D,E,A,r]:=B;exact#[o,D,E,hk _ o (λf=>(d _ f).2.1 rfl) A,r]
 .by_cases f:b=T
  .subst f;rw[aB] at e;cases e;exact#[(by show 3<=sizeLine;decide),[u,v,q],.cons p (.cons l (.cons rw .nil)),t]
  .rw[ao f] at e;exact(I.hok b o e).pJ (λc k g q=>hk c k (by rcases g with z | z <;> first | (rw[z];exact i e) | exact i z) q) (λc q=>by rw[ao (a q)];exact q) (λc h q=>by rw[ao (a q)];exact q) λc o F q=>by rw[ao (a q)];exact q
theorem vals3{a b c:V}(h:Vals [a,b,c] us):∃ u v w,us=[u,v,w]/\RelV a u/\RelV b v/\RelV c w:=by
 cases h with | cons f t=>cases t with | cons e t=>cases t with | cons d t=>cases t;exact#[_,_,_,rfl,f,e,d]
end
end _2
namespace _3
open PySem _2 PySem.Spec PyProof.Rows
open PySem _2 PySem.Spec PySem.SeqAt
section
variable {b:Expr}{tb:TE}
theorem Cn(d:P3B K X a ta a3)(c:P3B K X b tb b3):P3 K X (.BinOp a .LShift b pos) (tOp (rI BQ λi j=>.int (i * 2 ^ j.toNat)) ta tb) (nP (i2 BQ λi j=>.int (i * 2 ^ j.toNat)) a3 b3):=#[rW Pm d.pe c.pe,jF (opI λ_ _ _=>rfl) d.rf c.rf]
end
open PySem _2 PySem.Spec PyProof.Rows
def tgL (i j k:Nat)(d:D)(Γ:G)(Q:G->Prop):Prop:=∃ x y z,d=.tup [.tup [x,y],z]/\bC Γ i/\bC (Γ.set i (some (.fz x))) j/\bC ((Γ.set i (some (.fz x))).set j (some (.fz y))) k/\Q (((Γ.set i (some (.fz x))).set j (some (.fz y))).set k (some (.fz z)))
theorem Ip{f c b:Expr}{kt a:Nat}(J:X.K=K)(n:X.calm=true)(h1:PGs X [f,c] (iO [i,j]))(N:PG X b (kG k))(E:autoParam ((lg [f,c] X.env).length=2) wE)(h:autoParam ((lg [f,c] X.env).findIdx? (·.1)=none) wE)(l:autoParam ((lg [.Tuple [f,c] a pos',b] X.env).length=2) wE)(g:autoParam ((lg [.Tuple [f,c] a pos',b] X.env).findIdx? (·.1)=none) wE)(I:autoParam ((lg [.Tuple [f,c] a pos',b] X.env).map (·.2)=assign (.Tuple [f,c] a pos') X.env::(lg [b] X.env).map (·.2)) wE)(G:autoParam ((lg [b] X.env).map (·.2)=assign b X.env::(lg [] X.env).map (·.2)) wE) :
  P3G K X (.Tuple [.Tuple [f,c] a pos',b] kt pos) (Fq K 2 (D6 (Fq K 2 (iO [i,j])) (D6 (kG k) QU))) (tgL i j k):=#[by subst J;exact wt n (aR (wt n h1 E h) (aR N eE G) I) l g,λB F T H U v d Q Z e r q D=>by
 let#[x,y,z,rfl,R,P,O,q]:=q;let#[p,V,rfl,M,Y,t,rfl,#[C,u,rfl,L,m],W,s,rfl,A,w]:=r;cases w;refine#[p,_,rfl,.inl (.inl (e.sub _ _ M)),rfl,_,_,rfl,?_];refine#[C,_,rfl,.inl (.inl (e.sub _ _ L)),by rw[m.length];rfl,?_];exact jN (is:=[i,j]) (ds:=[x,y]) e m rfl #[R,P,trivial] λo S=>#[_,_,rfl,rfl,D _ _ (S.set (r:=.fz z) O A) q]]
open PySem _2 PySem.Spec PyProof.Rows
theorem NV{g:TG}{L:TS}{S:TS3}(hp:am1 (model X.prog X.w) X.A X.env X.xe)(hc:X.calm=true)(O:P3I K X tg iter wi i3)(P:P3G K X tg g g3)(Q:kQ K X B F0 body L S)(hs:autoParam (∀ x,pk iter X.env x=pure x) wT) :
  pZ K X B F0 (.For tg iter body [] pos) (Om wi g L) (LV i3 g3 S):=#[G1 hp hc O.pe P.pe Q.pe hs,λF w H W D V Y e k q=>by
 refine O.rf B F w H W _ _ e q λJ H1 I A n M e1 R Z=>?_;let#[u,i0,it,ie]:=Z;refine#[λi m w H=>m=n.length - i/\i<=n.length/\∃ h d,aS I h/\En K B h w H d/\u i d,#[_,rfl,rx _,I,A,aS.refl _,e1,i0],?_];rintro i m o G ⟨rfl,a1,F2,j,p,t,N⟩;by_cases lt:i < n.length
 .refine .inr #[R.go i G (p.trans t.sub) lt,λf l=>∃ h d,aS I h/\En K B h f l d/\u (i + 1) d,λf l ⟨h,d,a,b,c⟩=>#[n.length - (i + 1),by lia,rfl,lt,h,d,a,b,c],λx T y=>?_];have hd:n[i]?=some n[i]:=gE0 lt;let#[U,s3,e3,r3]:=R.turn p t hd y;refine P.rf B U o T j x _ _ _ e3 r3 (it i _ j hd N) λf d e4 q4=>?_;have E:=p.trans s3;have C:=M.trans E;refine Q.rf U f T d _ { V with nx:=u (i + 1),ct:=u (i + 1),bk:=V.nx } (Y.trans C) e4 #[λh f l d s e q=>#[h,d,E.trans s,e,q],λh f l d v r s e rv q=>k.rt h f l d v r (C.trans s) e rv q,λh f l d s e q=>k.nx h f l d (C.trans s) e q,λh f l d s e q=>#[h,d,E.trans s,e,q]] q4
 .have z:i=n.length:=by lia
  subst z;exact .inl #[R.stop _ G (p.trans t.sub) rfl,k.nx F2 o G j (M.trans p) t (ie j N)]]
end _3
namespace _2
open PySem PySem.Spec PyProof.Rows
def MQ (i j l:Nat)(ta:TA):TS:=λD σ H=>ta σ H λvs H1=>∃ v w z,vs=[v,w,z]/\D.nx (((σ.set l (some z)).set j (some w)).set i (some v)) H1
theorem Ku{l:Nat}{x:Str}{b c:Expr}{ta:TA}{r n u:Pos}{kt k2 O}(hc:X.calm=true)(B:X.N.Nodup)(Y:X.N[i]?=some x)(W:X.N[j]?=some y)(V:X.N[l]?=some z)(G:X.env.scope.names.lookup x=some .local)(F:X.env.scope.names.lookup y=some .local)(E:X.env.scope.names.lookup z=some .local)(ha:PA X [a,b,c] ta)(T:Rj [.Tuple [.Name x px,.Name y r,.Name z n] kt u] (.Tuple [a,b,c] k2 O) X.env=pure (some [x,y,z]))(U:autoParam (Ri [.Tuple [.Name x px,.Name y r,.Name z n] kt u] (.Tuple [a,b,c] k2 O) pos.line X.env=pure false) wE) :
  PS X (.Assign [.Tuple [.Name x px,.Name y r,.Name z n] kt u] (.Tuple [a,b,c] k2 O) pos) (MQ i j l ta):=by
 intro d s C H D I h;rw[exec_Assign_arm];refine au (yv ?_);rw[U];refine au (bh ?_);rw[if_neg (by decide)];refine au (Tuple_ (thn (ha _ d s C H _ I h) λK g Z=>?_));let#[vs,J,I1,N,m]:=Z;let#[v,w,t,e1,m]:=m;subst e1;obtain⟨f,u2,u3,rfl,L,k,M⟩:∃ f u2 u3,K=[f,u2,u3]/\RelV v f/\RelV w u2/\RelV t u3:=by
  cases N with
  | cons p q=>
   cases q with
   | cons S Q=>
    cases Q with
    | cons R P=>
     cases P;exact#[_,_,_,rfl,p,S,R]
 refine vx ?_ (by show 3<=sizeLine;decide);have I2:Inv X d C J { g with heap:=g.heap.push { cls:=.type "tuple",data:=.seq [f,u2,u3].toArray } }:=I1.kept (t':=g.toks) λb o e=>av _ e;rw[T];refine au (bh ?_);show wpAny (model X.prog X.w) X.A (do rule "assign.swapped-stores";let items <- af1 (.ref g.heap.objs.size) 3 none;Yb [λv=>Yc X.env z v,λv=>Yc X.env y v,λv=>Yc X.env x v] items.reverse;pure al9) _ _ _;refine au (Zt (au (unpackItems_tuple (items:=(Vz9 [f,u2,u3])) (I.ok.hd hc) (am0 g.heap _) λh' A=>?_)));have I3:=I2.kept (h':=h') (t':=g.toks) λb o e=>A b o (jz (dw e)) e;show wpAny _ _ (Yb [λv=>Yc X.env z v,λv=>Yc X.env y v,λv=>Yc X.env x v] [u3,u2,f] >>= λ_=>pure al9) _ _ _;refine au (VJ (YA (h_ I3 B V (.inl E) M (λs2 I4=>?_) (.inr E))));refine VJ (YA (h_ I4 B W (.inl F) k (λs3 I5=>?_) (.inr F)));refine VJ (YA (h_ I5 B Y (.inl G) L (λs4 I6=>ZR (bh ?_)) (.inr G)));exact#[_,J,I6,m]
end _2
namespace _3
open PySem _2
def M5 (i j l:Nat)(a:TA3)(D:E3)(Γ:G):Prop:=a Γ λds aa=>∃ d d' d2,ds=[d,d',d2]/\bC aa l/\bC (aa.set l (some (.fz d2))) j/\bC ((aa.set l (some (.fz d2))).set j (some (.fz d'))) i/\D.nx (((aa.set l (some (.fz d2))).set j (some (.fz d'))).set i (some (.fz d)))
theorem J1{l:Nat}{x:Str}{b c:Expr}{ta:TA}{n:TA3}{g f h:Pos}{kt k2 I}(W:X.calm=true)(Y:X.N.Nodup)(V:X.N[i]?=some x)(U:X.N[j]?=some y)(T:X.N[l]?=some z)(Q:X.env.scope.names.lookup x=some .local)(P:X.env.scope.names.lookup y=some .local)(O:X.env.scope.names.lookup z=some .local)(m:P3A K X [a,b,c] ta n)(R:Rj [.Tuple [.Name x px,.Name y g,.Name z f] kt h] (.Tuple [a,b,c] k2 I) X.env=pure (some [x,y,z]))(S:autoParam (Ri [.Tuple [.Name x px,.Name y g,.Name z f] kt h] (.Tuple [a,b,c] k2 I) pos.line X.env=pure false) wE) :
  P3S K X (.Assign [.Tuple [.Name x px,.Name y g,.Name z f] kt h] (.Tuple [a,b,c] k2 I) pos) (MQ i j l ta) (M5 i j l n):=#[Ku W Y V U T Q P O m.pe R S,λB F o H u D D3 e k q=>
 m.rf B F o H u _ _ e q λvs H' Z=>by
  let#[F',p,ds,s,e',E,d,d',d2,h1,h2,h3,h4,N]:=Z;subst h1;let#[v,ws,rfl,M,w,C,rfl,L,t,A,rfl,J,G]:=E;cases G;exact#[v,w,t,rfl,k.nx F' _ H' _ s (((e'.set (r:=.fz d2) h2 J).set (r:=.fz d') h3 L).set (r:=.fz d) h4 M) N]]
end _3
namespace _2
open PySem PySem.Spec PyProof.Rows
section
variable {h:Int}
noncomputable def fw (m x:Nat):Nat:=(x * 5 + 1) % (m + 1)
end
open PySem PySem.Spec PyProof.Rows
noncomputable def kl:Li0->Int
 | [y,z]=>y * 1048576 + z
 | _=>0
open PySem PySem.Spec PyProof.Rows
noncomputable def Ends.els (D:Ends)(te:TS):Ends:=#[λσ H=>te D σ H,D.rt,D.bk,D.ct]
def Gj (K:Fg0)(a:Addr)(i:Nat)(b:(St->XK)->TS)(ts te:TS):TS:=λD σ H=>b (AD K a i ts D) (D.els te) σ H
section
variable {x:Str}{el:List Stmt}{tb:(St->XK)->TS}{te:TS}
theorem Kt(c:ma X.K az)(m:X.stack=X.env::X.outer)(o:X.env.frame=some L)(F:Gl X x)(C:X.mg x=some (.ref az))(K:X.N.Nodup)(E:X.N[i]?=some nm)(hk:X.env.kindOf nm=some .local)(J:∀ pins W,PSs ((X.dD pins).i8 (XP (X.dD pins) W)) body (tb W))(B:∀ pins e,PSs ((X.dD pins).sui e) (aD::suite) ts)(G:PSs X el te)(p:autoParam (Vjj x) wP) :
  PS X (.Try body [.ExceptHandler (some (.Name x np)) (some nm) (aD::suite) hpos] el [] pos) (Gj X.K az i tb ts te):=by
 intro pins s z H D I h;have N:=J pins (AD X.K az i ts D) [] s z H (D.els te) (I.dD.i8 _) h;refine ab2 (Bk N (λf t q=>?_) λQ t q=>?_)
 .cases f with
  | next=>
   let#[b,k,j,q]:=q;exact G pins t b k D j.bZ.cK q
  | brk=>
   let#[b,k,j,q]:=q;exact#[b,k,j.bZ.cK,q]
  | cont=>
   let#[b,k,j,q]:=q;exact#[b,k,j.bZ.cK,q]
  | ret u=>
   let#[v,b,k,j,r,q]:=q;exact#[v,b,k,j.bZ.cK,r,q]
 .let#[e,M,R,k,b,n,rfl,j,a,y,w]:=q;refine land j a y m o λP g A=>?_;have r:=BD (X:=X.dD pins) (np:=np) (hpos:=hpos) (D:=D) c F C K E hk (B pins) g a A w p;refine thn r λf O q=>?_;cases f with
  | next=>
   let#[d,l,g,q]:=q;exact#[d,l,g.cK,q]
  | brk=>
   let#[d,l,g,q]:=q;exact#[d,l,g.cK,q]
  | cont=>
   let#[d,l,g,q]:=q;exact#[d,l,g.cK,q]
  | ret u=>
   let#[v,d,l,g,r,q]:=q;exact#[v,d,l,g.cK,r,q]
end
end _2
namespace _3
open PySem _2 PySem.Spec PyProof.Rows
noncomputable def E3.els (D:E3)(a:TS3):E3:=#[λΓ=>a D Γ,D.rt,D.bk,D.ct]
def Gf (K:Fg0)(a:Addr)(i:Nat)(d:(XD->G->Prop)->TS3)(b c:TS3)(D:E3)(Γ:G):Prop:=d (AB K a i b D) (D.els c) Γ
theorem NO{D:Ends}(n:nI K B F0 ts s3)(w:aS F0 F)(k:qE K B F D D3):XR K B F (AD K az i ts D) (AB K az i s3 D3):=by
 intro e f H g G I x s c r j;let#[t,u,j]:=j;let#[rfl,d,v,rfl,hd,q,p]:=r;refine#[x.C,rfl,t,λa b=>?_];have l:e a=none:=by
  cases z:e a with
  | none=>rfl
  | some o=>rw[c.sub a o z] at b;cases b
 have C:=c.alloc b (mf a (.ref x.C) (some d));have A:=C.freeze l aB (c.dom a b) (c.qY b);have h:=a9 (o:=mf a (.ref x.C) (some d)) l;have E:d≠a:=λz=>by rw[z,l] at hd;cases hd
 have m:nM K B (upd e a (mf a (.ref x.C) (some d))) f (upd H a (mf a (.ref x.C) (some d))) g (.ref a) (.fz (.exc x.C x.ns x.xs)):=by
  show Rep K _ (.exc x.C x.ns x.xs) _;rw[Rep];exact#[a,some d,v,rfl,aB,(by show upd e a _ d=_;rw[ao E];exact hd),q,p.mono h]
 have y:=A.set u m;exact n _ _ _ _ _ _ ((w.trans s).trans h) y ((k.mono (s.trans h)).xO) j
theorem GH{f:(_2.St->XK)->TS}{g:(XD->G->Prop)->TS3}{te:TS}{c:TS3}(p:∀ h E W,XR K B h E W->nI K B h (f E) (g W))(n:nI K B F0 ts s3)(o:nI K B F0 te c):nI K B F0 (Gj K az i f ts te) (Gf K az i g s3 c):=by
 intro F j H l D d w e k q;have m:qE K B F (D.els te) (d.els c):=#[λt a r b s e q=>o t a r b D d (w.trans s) e (k.mono s) q,k.rt,k.bk,k.ct];exact p F (AD K az i ts D) (AB K az i s3 d) (NO n w k) F j H l _ _ (aS.refl F) e m q
section
variable {x:Str}{el:List Stmt}{tb:(_2.St->XK)->TS}{b3:(XD->G->Prop)->TS3}{te:TS}{e3:TS3}
theorem JB(p:X.K=K)(c:ma X.K az)(b:X.stack=X.env::X.outer)(d:X.env.frame=some L)(n:Gl X x)(l:X.mg x=some (.ref az))(o:X.N.Nodup)(m:X.N[i]?=some nm)(hk:X.env.kindOf nm=some .local)(j:∀ pins a E W,XR K B a E W->kQ K ((X.dD pins).i8 (XP (X.dD pins) E)) B a body (tb E) (b3 W))(g:∀ pins e,kQ K ((X.dD pins).sui e) B F0 (aD::suite) ts s3)(h:kQ K X B F0 el te e3)(f:autoParam (Vjj x) wP) :
  pZ K X B F0 (.Try body [.ExceptHandler (some (.Name x np)) (some nm) (aD::suite) hpos] el [] pos) (Gj K az i tb ts te) (Gf K az i b3 s3 e3):=by
 subst p;exact#[Kt c b d n l o m hk (λpins E=>(j pins F0 E (λ_ _=>False) (λ_ _ _ _ _ _ _ _ _ _ q=>q.elim)).pe) (λpins e=>(g pins e).pe) h.pe f,GH (λa E W k=>(j [] a E W k).rf) (g [] 0).rf h.rf]
end
end _3
namespace _2
open PySem PySem.Spec PyProof.Rows
noncomputable abbrev E8 (A:Around):Around:={ A with handled:=none }
theorem eK.off(r:eK k A):cy k (E8 A):=#[rfl,r.dp,r.un,r.gd]
theorem eK.deeper(r:eK (k + 1) A)(a:Env):eK k (A.deeper a):=let q:=(r.off.deeper a);#[q.dp,q.un,q.gd]
theorem eK.make(r:eK (k + 1) A)(C:Addr)(us:Lv0)(kw:List (Str×Value)):eK k (A.under (.builtin "type.__call__" #[.ref C::us,kw])):=let q:=(r.off.make C us kw);#[q.dp,q.un,q.gd]
structure qD (P:Pv) (w:World) (K:Fg0) (mg:SV0) (base:Heap) (k:Nat) (f:Addr) (fd:et) (ps:Ls0) (sp:Sp):Prop where
 len:∀ vs H Q E,sp vs H Q E->vs.length=ps.length
 run:∀ (A:Around) (outer:List Env) (s:Shared) (H:Hp) (args:Args) (us:Lv0) (vs:List V) (Q:VK) (E:XK),eK k A->Av P w K mg base A outer s H->ag9 s fd args (ps.zip us)->Vals vs us->sp vs H Q E->
  FU (model P w) A (.call (.ref f) args) (CR CX0 outer P w H s Q E) s
theorem qD.ok{b:SV0}{sp:Sp}(F:qD P w K b base k f fd ps sp):aT P w K b base CX0 k f fd ps sp:=
 #[F.len,λA a s H args d c Q E e=>F.run A a s H args d c Q E e.h]
noncomputable abbrev Cx.hnd (X:Cx)(A:Around):Cx:={ X with A:=A,calm:=false,xe:=λ_ _=>False }
theorem Inv.hnd{a:Pn0}{s:Shared}(I:Inv X a σ H s)(h:A.frames=X.A.frames):Inv (X.hnd A) a σ H s:=
 have ok:=I.ok
 #[#[ok.mod,ok.kind,ok.glob,ok.blt,ok.above,ok.inj,ok.has,ok.cab,λz=>(YV z),h.trans ok.frames,ok.stk,ok.exf,ok.bs,ok.bsz,ok.noex,ok.exfs,ok.lQ,ok.frf,ok.tb],I.os,I.bare,I.base,I.loc,I.cell,I.free,I.freeC,I.pin,I.hok,I.len]
section
variable {mg:SV0}
theorem Fun.okH{x:Str}{sp:Sp}(F:Fun K x qual st f fd)(S:aC N ps (aj st))(len:∀ vs H Q E,sp vs H Q E->vs.length=ps.length)(hbody:∀ (a:Value) (A:Around) (outer:List Env) (s:Shared) (H:Hp) (vs:List V) (Q:VK) (E:XK),eK k (A.deeper (envOfC qual (aj st) s.heap.objs.size f a))->sp vs H Q E->
   ∃ t,PSs ((lA CX0 P w K mg base N qual (aj st) f a (E8 A) outer s H E).hnd (A.deeper (envOfC qual (aj st) s.heap.objs.size f a))) (hV st) t/\t { nx:=λ_ H'=>Q .non H',rt:=Q } (start N vs) H):qD P w K mg base (k + 1) f fd ps sp:=by
 let#[oc,od,kV,X,Z,an,a,ct,C,rfl,lk,m]:=F.ex;refine#[len,λA outer s H args B vs Q E p c R r i=>?_];have M:=len _ _ _ _ i;have z:K.In s.heap:=c.mod.kin.keeps λb o e=>(c.bs b o e).1;have l:s.heap.NoLimit:=c.mod.nolimit.keeps λb o e=>(c.bs b o e).1;have g:∀ y∈ps.zip B,(aj st).names.lookup y.1=some .local\/((aj st).names.lookup y.1=some .cell/\((Ht (s.heap.objs.size + 1) (aj st).names []).lookup y.1).isSome=true):=λ⟨n,v⟩ D=>by
  rcases S.par n (Zd D).1 with q | q
  .exact .inl q
  .exact .inr #[q,Xk _ _ _ (.inl q)]
 refine ae3 p.off.depth (z _ _ lk) rfl S.co S.gen rfl (ai5 z m) (R _ _ _ _ ?_);refine Zy S.kind g λU O s1 x=>?_;subst O;refine#[l.keeps x.toInCall.keep,codeAny_func ?_];let#[t,G,L]:=hbody a A outer s H vs Q E (p.deeper _) i;have W:Av P w K mg base (E8 A) outer s H:=#[c.frames,c.mod,c.bs,c.bsz,c.lQ,c.frf,c.hok,c.bare,c.tb];have Y:Inv (lA CX0 P w K mg base N qual (aj st) f a (E8 A) outer s H E) [] (start N vs) H s1:=yy S rfl W M r x;have I:Inv ((lA CX0 P w K mg base N qual (aj st) f a (E8 A) outer s H E).hnd (A.deeper (envOfC qual (aj st) s.heap.objs.size f a))) [] (start N vs) H s1:=Y.hnd rfl;refine Bk (G [] s1 (start N vs) H _ I L) (λT s' h=>?_) λe s' h=>h.elim;have fin:∀ {d:St} {H':Hp} {v:V} {u:Value},Inv ((lA CX0 P w K mg base N qual (aj st) f a (E8 A) outer s H E).hnd (A.deeper (envOfC qual (aj st) s.heap.objs.size f a))) [] d H' s'->RelV v u->Q v H'->CE outer P w H s Q u s':=
  λ{d H' v u} J j q=>#[v,H',J.os,J.bare,J.base,J.hok,j,q]
 cases T with
 | ret u=>
  let#[v,d,H',J,j,q]:=h;exact fin J j q
 | next=>
  let#[d,H',J,q]:=h;exact fin (v:=V.non) (u:=pF) J rfl q
 | brk=>
  let#[_,_,_,q]:=h;exact ke q
 | cont=>
  let#[_,_,_,q]:=h;exact ke q
end
section
variable {g:Addr}{sp:Sp}{x m:Str}{mc:Value}
theorem J5{a:Pn0}{s:Shared}{Q:VK}(F:qD X.prog X.w X.K X.mg X.base k f fd ps sp)(d:eK k X.A)(i:Binds X.K fd ps [])(I:Inv X a σ H s)(r:Vals vs us)(h:sp vs H Q E0):wpAny (model X.prog X.w) X.A (call (.ref f) us) (EP X a σ Q) X.xe s:=by
 have g:us.length=ps.length:=by rw[<- r.length];exact F.len _ _ _ _ h
 have c:=i s us I.kIn (by rw[nT];exact g);rw[nT] at c;refine PP (Sa (F.run X.A X.stack s H #[us,[]] us vs Q E0 d I.CU c r h) λr l b=>?_);cases r with
 | error e=>exact b.elim
 | ok j=>
  cases j with
  | ret u=>exact I.after b
  | next=>exact ke b
  | brk=>exact ke b
  | cont=>exact ke b
theorem rY{pl:Sem Bool}(c:ad9 X.K C mc=true)(i:VC X.K (.ref C) "__getattribute__"=some (some (.builtin "type.__getattribute__")))(y:aa2 X.K (.ref C) mc m=some (.val (.ref g)))(o:kv X.K (.ref g)=true)(v:X.mg x=some (.ref C))(F:qD X.prog X.w X.K X.mg X.base k g fd ps sp)(u:eK k X.A)(z:Binds X.K fd ps [])(A:PA X (e::es) t)(j:autoParam (Vjj x) wP)(b:autoParam (Vjk X e es) wE)(d:autoParam (Vjq pos X es) wE)(q:autoParam (eval (.Call (.Attribute (.Name x p) m apos) (e::es) [] pos) X.env=(do
   let O <- eval (.Name x p) X.env
   VS apos.atName
   let (f,first) <- holding [O] (XJ O m pl)
   af3 pos f first (backTo pos (bp (e::es) X.env)) (Wm pos (DM [] X.env)))) wE)(w:autoParam (Gl X x) wE) :
  PE X (.Call (.Attribute (.Name x p) m apos) (e::es) [] pos) (λσ H Q=>t σ H λvs H1=>sp vs H1 Q E0):=by
 intro a s σ H Q I h;refine Xt (pl:=pl) (dG I w v ?_ j) q;refine PySem.W.method_cls I.kIn i (PySem.W.cls_value I.kIn c y rfl ?_);have B:=I.tok (s.toks + 1);refine GM (first:=[]) (h₀:=X.base) I.ok.mod.kin o (thn (A pos a _ σ H _ B h) λus D ⟨vs,E,l,r,n⟩=>#[l.kIn,?_]) b d;exact J5 (us:=us) (vs:=vs) F u z l r n
theorem Cd{c:Pn0}{s:Shared}{Q:Addr->Hp->Prop}(M:XMk X.K C f)(F:qD X.prog X.w X.K X.mg X.base k f fd ps sp)(q:eK (k + 1) X.A)(w:Binds X.K fd ps [])(D:ps.length<=sizeLine)(I:Inv X c σ H s)(r:Vals vs us)(h:∀ x,H x=none->sp (.ref x::vs) (upd H x (df x C none)) (λv H2=>v=.non/\Q x H2) E0) :
  wpAny (model X.prog X.w) X.A (call (.ref C) us) (λu s'=>∃ e H',u=.ref e/\X.ab.heap.objs.size<=e/\s.heap.objs.size<=e/\Inv X c σ H' s'/\Q e H') X.xe s:=by
 have m:=h (s.heap.objs.size + 1) (I.hok.fresh (Xf _));have B:=I.kept (t':=s.toks) (h':=s.heap.push (eF us)) λb u e=>av _ e;have j:Inv X c σ (upd H (s.heap.objs.size + 1) (df (s.heap.objs.size + 1) C none)) { s with heap:=(s.heap.push (eF us)).push (iT C s.heap.objs.size),toks:=s.toks }:=
  B.laid (t':=s.toks) (h':=(s.heap.push (eF us)).push (iT C s.heap.objs.size)) (a:=s.heap.objs.size + 1) (λb u e=>av _ e) (by rw[yn];exact cc _)
   (vQ (t:=s.heap.objs.size) (by heap_get))
 have l:Vals (V.ref (s.heap.objs.size + 1)::vs) (fS (s.heap.objs.size + 1)::us):=.cons rfl r;have n:(fS (s.heap.objs.size + 1)::us).length=ps.length:=by
  have e:=l.length;rw[F.len _ _ _ _ m] at e;exact e.symm
 have i:us.length<=sizeLine:=by
  simp only[ed] at n;lia
 have g:=w { s with heap:=(s.heap.push (eF us)).push (iT C s.heap.objs.size),toks:=s.toks } (fS (s.heap.objs.size + 1)::us) j.kIn (by rw[nT];exact n);rw[nT] at g;refine PP (xV (f:=f) I.kIn M.makes i M.init (beq_iff_eq.mp M.fn) (Sa (F.run _ X.stack _ _ #[fS (s.heap.objs.size + 1)::us,[]] (fS (s.heap.objs.size + 1)::us) _ _ E0 (q.make C us [])
  (j.CU.make C us []) g l m) λr s' d=>?_))
 cases r with
 | error e=>exact d.elim
 | ok y=>
  cases y with
  | ret u=>
   let#[v,H',A,o,z,p]:=j.after d;subst z;exact#[o,s.heap.objs.size + 1,H',rfl,eC I.sz (Xf _),Xf _,A,p]
  | next=>exact ke d
  | brk=>exact ke d
  | cont=>exact ke d
end
theorem xQ:entryFor table "proto.unchain"=some Zp.«proto.unchain»:=entryFor_of_fast (by kernel_rfl)
section
variable {E:VS0}{s:Shared}
theorem B0{o:Value}{a:Addr}{b:Obj}{vs:Array Value}{Q:VS0}(g:s.heap.get? a=some b)(hd:b.data=.fields vs)(c:vs[2]?=some .none)(h:Q .none s):wpAny (model prog w) A (runValue (.builtin "proto.unchain" #[[v,.ref a,o,.bool false],[]])) Q E s:=by
 refine wpAny_runValue (codeAny_builtin xQ ?_);show wpAny _ _ (field (.ref a) 2 >>= _) _ _ s;refine au (qd g hd c ?_);rw[if_pos (by decide)];exact bh h
theorem xD{b:Type}{Q:b->Shared->Prop}{e a:Addr}{c:Obj}{vs ws:Array Value}(j:A.handled=some (.ref a))(f:a≠e)(g:s.heap.get? a=some c)(hd:c.data=.fields vs)(l:vs[2]?=some .none)(m:s.heap.get? e=some oe)(k:oe.data=.fields ws)(i:2 < ws.size)(h:E (.ref e) { s with heap:=s.heap.update e (FS (·.setIfInBounds 2 (.ref a))) }):wpAny (model prog w) A (raiseNew (.ref e):Sem b) Q E s:=by
 unfold raiseNew;refine au (wpAny_handled ?_);rw[j];dsimp only;rw[if_pos (show (fS a != fS e)=true by simp [f])];refine au (pb (B0 g hd l ?_));show wpAny _ _ (updateField e 2 (.ref a) >>= _) _ _ s;refine au ?_;have:=XC (M:=model prog w) (A:=A) (E:=E) (s:=s) (x:=.ref a) (Q:=λ_ d=>wpAny (model prog w) A (throw (.ref e):Sem b) Q E d) m k i (wpAny_throw h);exact this
theorem Wx{e p j i C3:Addr}{b1 b2 b3:Bool}{Q:Bool->Shared->Prop}(X:K.In s.heap)(q:ma K j)(o:ma K i)(n:ma K C3)(t:s.heap.get? e=some oe)(u:oe.cls=.ref C)(r:s.heap.get? p=some { cls:=.type "tuple",data:=.seq (Vz9 [.ref j,.ref i,.ref C3]) })(h1:ia K C (.ref j)=some b1)(g:ia K C (.ref i)=some b2)(v:ia K C (.ref C3)=some b3)(h:Q (b1 || (b2 || b3)) s) :
  wpAny (model prog w) A (aj0 (.ref e) (.ref p)) Q E s:=by
 have D:nr (model prog w) s.heap (typeOf (.ref e)) (.ref C):=by rw[<- u];exact(Sb t).andThen .now
 have f:=tc_notTuple;have H:=tc_sub;have P:nr (model prog w) s.heap (typeOf (.ref j)) (.type "type"):=XF X q.ty;have O:nr (model prog w) s.heap (typeOf (.ref i)) (.type "type"):=XF X o.ty;have N:nr (model prog w) s.heap (typeOf (.ref C3)) (.type "type"):=XF X n.ty;have M:nr (model prog w) s.heap (PQ (.ref j) (.type "BaseException")) true:=td X q.ex;have L:nr (model prog w) s.heap (PQ (.ref i) (.type "BaseException")) true:=td X o.ex;have J:nr (model prog w) s.heap (PQ (.ref C3) (.type "BaseException")) true:=td X n.ex;have m:∃ c b d a,s.heap.get? j=some #[c,b,.cls d,a]:=by
  let#[d,h1,_]:=Ti.mp q.ex;let#[c,b,a,g]:=ux h1;exact#[c,b,d,a,X _ _ g]
 have l:∃ c b d a,s.heap.get? i=some #[c,b,.cls d,a]:=by
  let#[d,h1,_]:=Ti.mp o.ex;let#[c,b,a,g]:=ux h1;exact#[c,b,d,a,X _ _ g]
 have k:∃ c b d a,s.heap.get? C3=some #[c,b,.cls d,a]:=by
  let#[d,h1,_]:=Ti.mp n.ex;let#[c,b,a,g]:=ux h1;exact#[c,b,d,a,X _ _ g]
 let#[_,_,_,_,m]:=m;let#[_,_,_,_,l]:=l;let#[_,_,_,_,k]:=k;have B:nr (model prog w) s.heap (PQ (.ref C) (.ref j)) b1:=td X h1;have z:nr (model prog w) s.heap (PQ (.ref C) (.ref i)) b2:=td X g;have y:nr (model prog w) s.heap (PQ (.ref C) (.ref C3)) b3:=td X v;unfold aj0;refine au (wpAny_isInstance #[_,r,rfl] isSubtype_tuple_tuple ?_);rw[if_pos rfl];refine au (SL r rfl ?_);dsimp only[aa9,Option.getD];let#[F,G,I,x,os]:=s
 repeat (first | with_reducible refine xo m ?_ | with_reducible refine xo l ?_ | with_reducible refine xo k ?_ | lk | wp_step)
 cases b1 with
 | true=>wp_walk;exact h
 | false=>
  repeat (first | lk | wp_step)
  cases b2 with
  | true=>wp_walk;exact h
  | false=>
   repeat (first | lk | wp_step)
   cases b3 <;> (wp_walk;exact h)
end
noncomputable def uH (e:Addr)(cls:Value)(a:Option Addr):HO:=HO.ext λh=>∃ o vs,h.get? e=some o/\o.cls=cls/\o.dict=a/\o.data=.fields vs/\vs[2]?=some .none
theorem Br{h:Heap}{e:Addr}{cls:Value}(ok:HOk P w H h)(q:H e=some (uH e cls dx)):∃ o vs,h.get? e=some o/\o.cls=cls/\o.dict=dx/\o.data=.fields vs/\vs[2]?=some .none:=
 (show cQ P w H h e (uH e cls dx) from ok e _ q).1
theorem ExcAt.keeps{d:Bool}{h:Heap}{e:Addr}{cls:Value}(x:ExcAt d n H h e cls dx)(k:∀ b o,h.get? b=some o->h'.get? b=some o):ExcAt d n H h' e cls dx:=by
 let#[q,r,i,c,m,p,hd,a,l,g]:=x;refine#[q,r,i,c,k _ _ m,p,hd,a,l,g.imp id ?_];rintro⟨T,j,f,y,w,v,u,t,s⟩;exact#[T,j,f,y,w,v,u,k _ _ t,s]
section
variable {pins:Pn0}{s:Shared}{e:Addr}{cls:Value}
theorem Inv.Mc(I:Inv X pins σ H s)(a:XAt X pins n)(x:ExcAt false n H s.heap e cls dx):Inv X pins σ (upd H e (uH e cls dx)) s:=by
 let#[g,C,t,h,v,B,hd,l,#[E,m],_]:=x;have m:=m rfl;have d:∀ b,H b≠none->b≠e:=λb f z=>f (by rw[z];exact C);have j:HOk X.prog X.w (upd H e (uH e cls dx)) s.heap:=λb o q=>by
  by_cases z:b=e
  .subst z;rw[aB] at q;cases q;exact#[#[t,h,v,B,hd,l,m],#[t,v],λ_ _ ⟨o,h,q,r⟩ k=>#[o,h,k _ q,r]]
  .rw[ao z] at q;exact(I.hok b o q).pJ (λ_ _ _ r=>r) (λc r=>by rw[ao (d c (by rw[r];simp))];exact r) λc w r=>by rw[ao (d c (by rw[r];simp))];exact r
 refine I.BG (ch:=[e]) rfl #[λb o q _ _ _=>q,λb o q _ _ _=>#[o.slots,q],λb o q nn i=>?_,λb o q _=>#[o,q],λb w r=>?_,λb o u r=>?_,λb D r=>#[#[],?_]] j I.bare λb f=>?_
 .rw[ao (λz=>i (by simp [z]))];exact nn
 .rw[ao (d b (by rw[r];simp))];exact r
 .rw[ao (d b (by rw[r];simp))];exact r
 .rw[ao (d b (by rw[r];simp)),Xn];exact r
 .have f:b=e:=by simpa using f
  subst f;refine#[.inr (eC a.s0 g),λy=>?_,λx c q y=>?_,λp A y=>?_]
  .exact hY b (da (by rw[y];exact a.loc) g)
  .exact hY b (da (by rw[<- y];exact a.cel x c q) g)
  .exact hY b (da (by rw[<- y];exact a.pin p A) g)
end
def Ar (X:Cx)(E:XK):Prop:=∀ (pins:Pn0) (σ:St) (H2:Hp) (s':Shared) (h':Heap) (e C:Addr) (dx:Option Addr) (vs:Array Value),Inv X pins σ H2 s'->X.ab.heap.objs.size<=e->H2 e=some (df e C dx)->
 (∀ b,b≠e->h'.get? b=s'.heap.get? b)->h'.get? e=some { cls:=.ref C,dict:=dx,data:=.fields vs }->2 < vs.size->vs[1]?=some .none->E (.ref C) dx (del H2 e)->X.xe (.ref e) { s' with heap:=h' }
section
variable {mg:SV0}{s:Shared}{E:XK}
theorem GO:Ar (lA (CX1 P w base true) P w K mg base N qual scope f cd A outer s H E) E:=λj F D M R e C S G I B q d l t y x=>by
 have Q:∀ b o,D b=some o->(∀ i,o≠HO.ext i)->b≠e:=λb o h n z=>by rw[z,q] at h;cases h;exact n _ rfl
 refine BW (CX:=CX0) I rfl I.bare #[λb o g nn _ _=>?_,λb o g nn _ _=>?_,λb o g nn _=>?_,λb o g _=>?_,λb m r=>?_,λb o u r=>?_,λb O r=>#[#[],?_]] (λb u a=>?_) ?_ #[B,iy,_,_,l,rfl,rfl,rfl,#[t,λz=>nomatch z],.inl y] x
 .have:b≠e:=λz=>by rw[z,q] at nn;cases nn
  exact(d b this).trans g
 .have:b≠e:=λz=>by rw[z,q] at nn;cases nn
  exact#[o.slots,(d b this).trans g]
 .by_cases z:b=e
  .rw[z,iy]
  .rw[dE z];exact nn
 .by_cases z:b=e
  .exact#[_,by rw[z];exact l]
  .exact#[o,(d b z).trans g]
 .rw[dE (lN r q (by intro z;cases z))];exact r
 .rw[dE (lN r q (by intro z;cases z))];exact r
 .rw[dE (lN r q (by intro z;cases z)),Xn];exact r
 .have k:b≠e:=λz=>by rw[z,iy] at a;cases a
  rw[dE k] at a;refine(I.hok b u a).pJ (λc J v g=>?_) (λc r=>?_) (λc m r=>?_) λc o i r=>?_
  .have:c≠e:=by
    rcases v with z | z
    .rw[z];exact k
    .exact lN z q (by intro z;cases z)
   exact(d c this).trans g
  .rw[dE (lN r q (by intro z;cases z))];exact r
  .rw[dE (lN r q (by intro z;cases z))];exact r
  .rw[dE (lN r q (by intro z;cases z))];exact r
 .let#[L,g]:=jX I.hok q;refine I.stack.of_keeps λb o a p=>?_;have:b≠e:=λz=>by
   subst z;rw[g] at a;cases a;exact p _ rfl
  exact#[o,(d b this).trans a,rfl]
end
theorem Gw{E:VS0}{s:Shared}{z:Nat}{cls:Value}{vs:Array Value}{Q:Unit->Shared->Prop}(g:s.heap.get? z=some { cls:=cls,dict:=dx,data:=.fields vs })(a:i < vs.size)(h:∀ h',(∀ b,b≠z->h'.get? b=s.heap.get? b)->h'.get? z=some { cls:=cls,dict:=dx,data:=.fields (vs.setIfInBounds i v) }->Q () { s with heap:=h' }):wpAny M A (setField (.ref z) i v) Q E s:=
 XC g rfl a (h _ (λb c=>gm _ _ (ky c)) (pL _ g rfl))
def XPn (X:Cx)(W:St->XK)(b:Value)(a:Shared):Prop:=∃ e cls dx H' ay n,b=.ref e/\Inv X [] ay H' a/\XAt X [] n/\ExcAt false n H' a.heap e cls dx/\W ay cls dx H'
theorem Pe:dM (CX1 X.prog X.w X.base) (X.i8 (XPn X W)) W:=by
 intro a b H s k s' I h;have j:CX1 X.prog X.w X.base false X.stack H s (W b) k s':=h;let#[e,d,m,f,l,os,bare,g,c,p,x,i]:=j;have o:Inv X a b f s':=I.bZ.BG (ch:=[]) os g c bare λ_ z=>nomatch z
 have n:Inv X [] b f s':=o.mR λ_ z=>nomatch z
 exact#[e,d,m,f,b,s.heap.objs.size,l,n,I.bZ.xat.forget,x,i]
noncomputable def Ge (K:Fg0)(d c C3 C:Addr)(sp:Sp)(ta:TA)(E:XK):St->XK:=λay cls dx H'=>∃ D b b2 b3,cls=.ref D/\ia K D (.ref d)=some b/\ia K D (.ref c)=some b2/\ia K D (.ref C3)=some b3/\(b || (b2 || b3))=true/\
 ∀ e,H' e=none->ta ay (upd H' e (uH e cls dx)) λvs H1=>H1 e=some (uH e cls dx)/\∀ x,H1 x=none->sp (.ref x::vs) (upd H1 x (df x C none)) (λv H2=>v=.non/\H2 e=some (uH e cls dx)/\∃ a,H2 x=some (df x C a)/\E (.ref C) a (del H2 x)) E0
def MO (K:Fg0)(c b C3 C:Addr)(sp:Sp)(a:(St->XK)->TS)(ta:TA)(E:XK):TS:=λD σ H=>a (Ge K c b C3 C sp ta E) D σ H
section
variable {C1 C2 C3:Addr}{sp:Sp}{E:XK}{x x1 x2 x3:Str}{p1 p3 rpos:Pos}{tb:(St->XK)->TS}{ta:TA}{ctx:Nat}
theorem Ks(c1:ma X.K C1)(c2:ma X.K C2)(c3:ma X.K C3)(a0:X.stack=X.env::X.outer)(c4:X.env.frame=some L)(b':Gl X x1)(b6:X.mg x1=some (.ref C1))(b0:Gl X x2)(b5:X.mg x2=some (.ref C2))(b9:Gl X x3)(b4:X.mg x3=some (.ref C3))(M:XMk X.K C f)(F:qD X.prog X.w X.K X.mg X.base k f fd ps sp)(hr:eK (k + 1) X.A)(hg:Gl X x)(hm:X.mg x=some (.ref C))(d3:Binds X.K fd ps [])(hR:Ar X E)(hpO:∀ e,PassesOwnAt (model X.prog X.w) (X.A.mark (some (.ref e))) X.A X.env X.xe)(hz:ps.length<=sizeLine)(l:∀ pins W,PSs ((X.dD pins).i8 (XPn (X.dD pins) W)) body (tb W))(ha:∀ pins e,PA ((X.dD pins).sui e) (e0::es) ta)(c0:autoParam (Vjj x) wP)(P:autoParam ((x1 == ("__debug__":Str))=false) wP)(O:autoParam ((x2 == ("__debug__":Str))=false) wP)(N:autoParam ((x3 == ("__debug__":Str))=false) wP)(he:autoParam (bp (e0::es) X.env=(false,eval e0 X.env)::bp es X.env) wE)(a':autoParam ((backTo cpos (bp es X.env)).any (·.1)=false) wE) :
  PS X (.Try body [.ExceptHandler (some (.Tuple [.Name x1 p1,.Name x2 p2,.Name x3 p3] ctx tp)) none [.Raise (some (.Call (.Name x p) (e0::es) [] cpos)) (some (.Constant .none j np)) rpos] hpos] [] [] pos) (MO X.K C1 C2 C3 C sp tb ta E):=by
 intro pins s σ H D I h;have bd:=l pins (Ge X.K C1 C2 C3 C sp ta E) [] s σ H D (I.dD.i8 _) h;refine ab2 (Bk bd (λf s1 q=>?_) λev s1 q=>?_)
 .cases f with
  | next=>
   let#[d,A,t,q]:=q;exact Yh #[d,A,t.bZ.cK,q]
  | brk=>
   let#[d,A,t,q]:=q;exact#[d,A,t.bZ.cK,q]
  | cont=>
   let#[d,A,t,q]:=q;exact#[d,A,t.bZ.cK,q]
  | ret u=>
   let#[v,d,A,t,r,q]:=q;exact#[v,d,A,t.bZ.cK,r,q]
 .let#[e,cls,dx,A,d,n,rfl,t,a,y,w]:=q;refine land t a y a0 c4 λh' I2 y2=>?_;let#[D1,b1,b2,b3,rfl,m1,m2,m3,b7,ht]:=w;refine ah6 (ae7 (ah2 ?_)) (by intro q;cases q);have I3:=I2.sui e;show wpAny _ _ (spliced [(false,eval (.Name x1 p1) X.env),(false,eval (.Name x2 p2) X.env),(false,eval (.Name x3 p3) X.env)]) _ _ _;refine Xj (dG (X:=(X.dD pins).sui e) I3 b' b6 ?_ P);refine Xj (dG (X:=(X.dD pins).sui e) I3 b0 b5 ?_ O);refine Xj (dG (X:=(X.dD pins).sui e) I3 b9 b4 ?_ N);refine ZU #[(show 3<=sizeLine by rw[ff];decide),?_];have kp:=λb o (q:h'.get? b=some o)=>av { cls:=.type "tuple",data:=.seq [fS C1,.ref C2,.ref C3].toArray } q;have I4:=I2.kept (t':=s1.toks) (h':=h'.push { cls:=.type "tuple",data:=.seq [fS C1,.ref C2,.ref C3].toArray }) kp;have y4:=y2.keeps kp;let#[oe,vs,ge,hc,_]:=id y4.rcd;refine Wx (p:=h'.objs.size) I4.kIn c1 c2 c3 ge hc (er _ rfl) m1 m2 m3 ?_;rw[b7];refine codeAny_handlers_suite (yD I4 a y4 λh5 I5 y5=>?_);have I6:=(I5.Mc a y5).sui e;refine Bk (Q:=λ_ _=>False) (E:=X.xe) ?_ (λ_ _ z=>z.elim) (λx U z=>hpO e x U z);refine aa5 (Bk (Q:=λ_ _=>False) (E:=X.xe) ?_ (λ_ _ z=>z.elim) λ_ _ z=>z);rw[arm_exec_Raise];simp only[evalOpt,ai8];refine au (yv ?_);unfold raiseStmt;dsimp only;refine au (Bk (E:=λ_ _=>False) (Q:=λu V=>∃ x i c,u=.ref x/\X.ab.heap.objs.size<=x/\x≠e/\Inv ((X.dD pins).sui e) [] d i V/\i e=some (uH e (.ref D1) dx)/\i x=some (df x C c)/\E (.ref C) c (del i x)) ?_ (λu U hu=>?_) λ_ _ z=>z.elim)
  .refine au (thn (Q:=λu V=>∃ x i c,u=.ref x/\X.ab.heap.objs.size<=x/\x≠e/\Inv ((X.dD pins).sui e) [] d i V/\i e=some (uH e (.ref D1) dx)/\i x=some (df x C c)/\E (.ref C) c (del i x)) ?_ λu s1 hu=>au (yv (bh hu)));refine tT (dG (X:=(X.dD pins).sui e) I6 hg hm ?_ c0);refine GM (h₀:=X.base) I6.ok.mod.kin M.kp (thn (ha pins e cpos [] _ d _ _ I6 (ht e y5.free)) λus s3 ⟨vs,H1,I1,r,q1,q⟩=>#[I1.kIn,?_]) he a';refine thn (Cd (X:=(X.dD pins).sui e) (Q:=λx i=>i e=some (uH e (.ref D1) dx)/\∃ c,i x=some (df x C c)/\E (.ref C) c (del i x)) M F #[hr.dp,hr.un,hr.gd] d3 hz I1 r λx hx=>q x hx) λu V ⟨x,i,a1,a2,a3,a4,a5,c,a6,a7⟩=>#[x,i,c,a1,a2,?_,a4,a5,a6,a7];let#[_,_,g0,_]:=Br I1.hok q1;exact wh (da (dw g0) a3)
  .let#[z,i,c,rfl,d5,ne,T,qe,qx,hE]:=hu;let#[tt,g]:=jX T.hok qx;let#[d8,d7,g7,d9,_,c',d4]:=Br T.hok qe;have Y:=lE (M:=model X.prog X.w) T.kIn M.makes;have d6:=Y.exc;let#[#[oc,od,cd,sl,hC,rfl,e2,e4],J,base,_,dunder,K]:=Y;have f1:nr (model X.prog X.w) U.heap (typeOf (.ref z)) (.ref C):=(Sb g).andThen .now;let#[Z,R,S,B,os]:=U;refine au (pb (au (Constant_none (au (yv (bh ?_))))));have xv:∀ {Q:VS0},Q (.ref z) #[Z,R,S,B,os]->wpAny (model X.prog X.w) (X.A.mark (some (.ref e))) (excFromValue (.ref z) "exceptions must derive from BaseException") Q X.xe #[Z,R,S,B,os]:=λ{Q} hq=>by
    unfold excFromValue
    repeat (first | with_reducible exact hq | with_reducible refine xo g ?_ | lk | wp_step)
   refine au (bh (au (pb (xv ?_))));dsimp only;rw[if_pos (show (pF == pF)=true by decide)];refine au (bh (au (Gw g (show 3 < 6 by decide) ?_)));intro h3 k3 g3;refine au (Gw g3 (show 4 < 6 by decide) λG k4 m=>?_);replace m:G.get? z=some { cls:=.ref C,dict:=c,data:=.fields (Vz9 [.ref tt,.none,.none,.none,.bool true,.none]) }:=m;have kk:∀ b,b≠z->G.get? b=Z.get? b:=λb l=>(k4 b l).trans (k3 b l);have I8:=T.write (t':=B) (h':=G) (x:=z) (e:=z) (o:=mf z (.ref C) c) (by rw[qx];exact TQ) (.inl rfl) (λb o l q=>(kk b l).trans q) #[_,m] #[#[_,_,m,rfl,rfl,rfl],#[_,m],λ_ _ ⟨o,vs,q,r⟩ k=>#[o,vs,k _ q,r]];have Y:=lE (M:=model X.prog X.w) I8.kIn M.makes;have d6:=Y.exc;let#[#[oc,od,cd,sl,hC,rfl,e2,e4],J,base,_,dunder,K]:=Y;have f1:nr (model X.prog X.w) G (typeOf (.ref z)) (.ref C):=(Sb m).andThen .now;have done:X.xe (.ref z) { heap:=G.update z (FS (·.setIfInBounds 2 (.ref e))),gens:=R,drawn:=S,toks:=B,os:=os }:=
    hR pins d i #[Z,R,S,B,os] _ z C c (Vz9 [.ref tt,.none,.ref e,.none,.bool true,.none]) (T.Az I2.ok).cK d5 qx (λb l=>(gm _ _ (ky l)).trans (kk b l)) (pL _ m rfl) (show 2 < 6 by decide) rfl hE
   have last:∀ {Q:Flow->Shared->Prop},wpAny (model X.prog X.w) (X.A.mark (some (.ref e))) (raiseNew (.ref z):Sem Flow) Q X.xe { heap:=G,gens:=R,drawn:=S,toks:=B,os:=os }:=λ{Q}=>
    xD rfl (ky ne) ((kk e (ky ne)).trans g7) c' d4 m rfl (show 2 < 6 by decide) done
   repeat (first | with_reducible exact last | with_reducible refine xo m ?_ | lk | wp_step)
end
end _2
namespace _3
open PySem _2 PySem.Spec PyProof.Rows
def MI (K:Fg0)(D c b C3:Addr):Prop:=∃ a b2 b3,ia K D (.ref c)=some a/\ia K D (.ref b)=some b2/\ia K D (.ref C3)=some b3/\(a || (b2 || b3))=true
def MM (K:Fg0)(f e C3 C:Addr)(b:Ls0)(d:(XD->G->Prop)->TS3)(c:TA3)(W:XD->G->Prop)(D:E3)(Γ:G):Prop:=
 d (λx aa=>MI K x.C f e C3/\c aa λds a=>ds.length=b.length/\W #[C,b,ds] a) D Γ
section
variable {C1 C2 C3:Addr}{E:XK}{W:XD->G->Prop}
theorem Jx(h:Jt K t t3)(Q:XR K B F0 (λ_=>E) W)(w:aS F0 F):XR K B F (Ge K C1 C2 C3 C (v5 K C ns) t E) (λx aa=>MI K x.C C1 C2 C3/\t3 aa λds p=>ds.length=ns.length/\W #[C,ns,ds] p):=by
 intro P e H' u a1 I x s m r T;let#[#[b1,b2,b3,m1,V,U,D],q]:=T;let#[rfl,_]:=r;refine#[x.C,b1,b2,b3,rfl,m1,V,U,D,λa g=>?_];have i:P a=none:=by
  cases z:P a with
  | none=>rfl
  | some o=>rw[m.sub a o z] at g;cases g
 have e2:=m.alloc g (uH a (.ref x.C) I);have e3:=e2.freeze i aB (m.dom a g) (m.qY g);have R:=a9 (o:=uH a (.ref x.C) I) i;refine h B _ e _ u _ _ e3 q λf n Z=>?_;let#[O,aa,ds,L,j,M,X,S]:=Z;have l:n a=some (uH a (.ref x.C) I):=j.sub a _ (L a _ aB);refine#[l,λy v=>?_];have A:f.length=ns.length:=by rw[M.length];exact X
 have J:a≠y:=λz=>by rw[<- z,l] at v;cases v
 refine#[y,f,rfl,A,aB,λd hd N=>#[rfl,?_,some d,aB,?_]]
 .have ad:a≠d:=λz=>by rw[<- z,ao J,l] at hd;cases hd
  rw[ao J,ao ad,ao J];exact l
 have c:n d=none:=by rw[ao N] at hd;exact hd
 have Y:_2.del (upd (upd (upd n y (df y C none)) d (XdO d (ns.zip f))) y (df y C (some d))) y=upd n d (XdO d (ns.zip f)):=by
  funext b
  by_cases k:b=y
  .subst k;rw[iy,ao (ky N)];exact v.symm
  .rw[dE k,ao k];by_cases H:b=d
   .subst H;rw[aB,aB]
   .rw[ao H,ao H,ao k]
 rw[Y];have G:O d=none:=by
  cases z:O d with
  | none=>rfl
  | some o=>rw[j.sub d o z] at c;cases c
 have e4:=j.alloc c (XdO d (ns.zip f));have e5:=e4.freeze G aB (j.dom d c) (j.qY c);refine Q _ e _ aa _ _ #[C,ns,ds] ((((w.trans s).trans R).trans L).trans (a9 G)) e5 #[rfl,d,_,rfl,aB,y3 A,?_] S;rw[yZ A];exact M.mono (a9 G)
end
section
variable {C1 C2 C3:Addr}{E:XK}{W:XD->G->Prop}{x x1 x2 x3:Str}{p1 p3 rpos:Pos}{tb:(_2.St->XK)->TS}{b3:(XD->G->Prop)->TS3}{ta:TA}{ctx:Nat}
theorem JA(R:X.K=K)(G:XR K B F0 (λ_=>E) W)(U:ma X.K C1)(T:ma X.K C2)(S:ma X.K C3)(d:X.stack=X.env::X.outer)(r:X.env.frame=some L)(o:Gl X x1)(l:X.mg x1=some (.ref C1))(n:Gl X x2)(i:X.mg x2=some (.ref C2))(m:Gl X x3)(h:X.mg x3=some (.ref C3))(M:XMk X.K C f)(F:qD X.prog X.w X.K X.mg X.base k f fd ps (v5 K C ns))(N:eK (k + 1) X.A)(P:Gl X x)(O:X.mg x=some (.ref C))(t:Binds X.K fd ps [])(hR:Ar X E)(hpO:∀ e,PassesOwnAt (model X.prog X.w) (X.A.mark (some (.ref e))) X.A X.env X.xe)(J:ps.length<=sizeLine)(u:∀ pins y E W,XR K B y E W->kQ K ((X.dD pins).i8 (XPn (X.dD pins) E)) B y body (tb E) (b3 W))(v:∀ pins e,P3A K ((X.dD pins).sui e) (e0::es) ta t3)(s:autoParam (Vjj x) wP)(c:autoParam ((x1 == ("__debug__":Str))=false) wP)(b:autoParam ((x2 == ("__debug__":Str))=false) wP)(a:autoParam ((x3 == ("__debug__":Str))=false) wP)(Q:autoParam (bp (e0::es) X.env=(false,eval e0 X.env)::bp es X.env) wE)(g:autoParam ((backTo cpos (bp es X.env)).any (·.1)=false) wE) :
  pZ K X B F0 (.Try body [.ExceptHandler (some (.Tuple [.Name x1 p1,.Name x2 p2,.Name x3 p3] ctx tp)) none [.Raise (some (.Call (.Name x p) (e0::es) [] cpos)) (some (.Constant .none j np)) rpos] hpos] [] [] pos) (MO K C1 C2 C3 C (v5 K C ns) tb ta E) (MM K C1 C2 C3 C ns b3 t3 W):=by
 subst R;exact#[Ks U T S d r o l n i m h M F N P O t hR hpO J (λpins E=>(u pins F0 E (λ_ _=>False) (λ_ _ _ _ _ _ _ _ _ _ q=>q.elim)).pe) (λpins e=>(v pins e).pe) s c b a Q g,
  λF z H A D V w e I q=>(u [] F _ _ (Jx (v [] 0).rf G w)).rf F z H A D V (aS.refl F) e I q]
end
end _3
namespace _2
open PySem PySem.Spec PyProof.Rows
noncomputable def M0:V->List V->Hp->VK->Prop:=λx vs H Q=>∃ z y,x=.str z/\vs=[.str y]/\Q (.int (ag2 z y)) H
theorem Lo:MtR X "str.find" M0:=by
 intro a s f H x g v i Q I c d h;let#[z,y,rfl,rfl,q]:=h;let#[t,rfl]:=c;let#[u,rfl,e]:=d.one;let#[b,rfl]:=e;exact call_gives aj2 (Ym _ _ _) F.entry_str_find (F.args_str_find_2 _ _) (gives_str_find z y t b) #[.int _,H,I.tok _,#[_,rfl],q]
noncomputable def prt (z y:Str):List V:=[.str (rA z y).1,.str (rA z y).2.1,.str (rA z y).2.2]
noncomputable def MZ:V->List V->Hp->VK->Prop:=λx vs H Q=>∃ z y,x=.str z/\vs=[.str y]/\(y.length == 0)=false/\z.length<=sizeLine/\∀ l,H l=none->Q (.ref l) (upd H l (.tup (prt z y)))
theorem Lm:MtR X "str.partition" MZ:=by
 intro c s d H x w v a Q I f g h;let#[z,y,rfl,rfl,n,m,q]:=h;let#[t,rfl]:=f;let#[u,rfl,j]:=g.one;let#[t',rfl]:=j;have p:H s.heap.objs.size=none:=I.hok.fresh (cc _);have l:=q _ p;have fin:∀ (a:Lv0) (k:Nat),a.length<=sizeLine->Vals (prt z y) a->EP X c d Q (.ref s.heap.objs.size) { s with heap:=s.heap.push { cls:=.type "tuple",data:=.seq a.toArray },toks:=k }:=λa k o r=>
  #[.ref s.heap.objs.size,upd H s.heap.objs.size (.tup (prt z y)),I.laid (t':=k) (λb u e=>av _ e) (cc _) #[by rw[r.length];exact o,a,r,#[_,er _ rfl,rfl,_,rfl]],rfl,l]
 refine Yn ab9 (Ym _ _ _) F.entry_str_partition (F.args_str_partition_2 _ _) (meets_str_partition z y t t' n m) ?_;unfold prt rA at fin
 revert fin
 have z3:3<=sizeLine:=by rw[ff];decide
 cases jY z y 0 z.length 1 with
 | nil=>intro fin;exact fin [_,_,_] _ z3 (.cons #[_,rfl] (.cons #[_,rfl] (.cons #[_,rfl] .nil)))
 | cons i r=>intro fin;exact fin [_,_,_] _ z3 (.cons #[_,rfl] (.cons #[_,rfl] (.cons #[_,rfl] .nil)))
end _2
namespace _3
open PySem _2
section
variable {to:TE}{o3:TE3}
def find3 (b c:TE3)(Γ:G)(Q:RV->G->Prop):Prop:=b Γ λx aa=>oSt x.d (λz=>c aa λr a=>oSt r.d (λy=>Q (.fz (.int (ag2 z y))) a) ⟨⟩) ⟨⟩
noncomputable def zC (z y:Str):List D:=[.str (rA z y).1,.str (rA z y).2.1,.str (rA z y).2.2]
def part3 (b c:TE3)(Γ:G)(Q:RV->G->Prop):Prop:=b Γ λx aa=>oSt x.d (λz=>c aa λr a=>oSt r.d (λy=>((y.length == 0)=false/\z.length<=sizeLine)/\Q (.fz (.tup (zC z y))) a) ⟨⟩) ⟨⟩
theorem K2(j:X.K=K)(h:P3 K X o to o3)(i:P3 K X e te e3)(c:autoParam (vr o "find" X.env (eval o X.env)=eval o X.env) wE)(d:autoParam (((backTo cpos (bp [e] X.env)).all (λx=>!x.1) && (Wm cpos (DM [] X.env)).all (λx=>x.1.isSome)
   && decide ([e].length + ([]:List Wn).length + (if ([]:List Wn).isEmpty then 0 else 1) < 30))=true) wE)(b:autoParam ((apos.endLine == cpos.line)=true) wE)(g:autoParam (bp [e] X.env=(false,eval e X.env)::bp [] X.env) wE)(a:autoParam ((backTo cpos (bp [] X.env)).any (·.1)=false) wE) :
  P3 K X (.Call (.Attribute o "find" apos) [e] [] cpos) (tBM K "str" M0 to (jy te nJ)) (find3 o3 e3):=
 #[by subst j;exact uL Mg aj2 PySem.F.type_str_find Lo h.pe (cf i.pe fm g) c d b g a,
  zy (P:=λz y Q f=>Q (.fz (.int (ag2 z y))) f) h.rf i.rf λB F l H f z y Q m e q k=>#[z,y,rfl,rfl,k _ _ (gI e q)]]
theorem zF(h:P3 K X o to o3)(i:P3 K X e te e3)(c:autoParam (vr o "partition" X.env (eval o X.env)=eval o X.env) wE)(d:autoParam (((backTo cpos (bp [e] X.env)).all (λx=>!x.1) && (Wm cpos (DM [] X.env)).all (λx=>x.1.isSome)
   && decide ([e].length + ([]:List Wn).length + (if ([]:List Wn).isEmpty then 0 else 1) < 30))=true) wE)(b:autoParam ((apos.endLine == cpos.line)=true) wE)(g:autoParam (bp [e] X.env=(false,eval e X.env)::bp [] X.env) wE)(a:autoParam ((backTo cpos (bp [] X.env)).any (·.1)=false) wE)(m:autoParam (X.K=K) wE) :
  P3 K X (.Call (.Attribute o "partition" apos) [e] [] cpos) (tBM K "str" MZ to (jy te nJ)) (part3 o3 e3):=
 #[by subst m;exact uL Mg ab9 PySem.F.type_str_partition Lm h.pe (cf i.pe fm g) c d b g a,
  zy (P:=λz y Q f=>((y.length == 0)=false/\z.length<=sizeLine)/\Q (.fz (.tup (zC z y))) f) h.rf i.rf λB F n H f z y Q p e q k=>
   #[z,y,rfl,rfl,q.1.1,q.1.2,λl j=>k _ _ (vJ e j (aN.strs [_,_,_]) q.2)]]
end
open PySem _2 PySem.Spec PyProof.Rows
def Ie (S:S3X)(A:G)(a:G)(Q:RV->G->Prop)(W:XD->G->Prop)(_:Tag (Q,W)):Prop:=S A (λr Γa=>r=.fz .non/\Bp Γa (λd=>Q (.fr d) a) ⟨⟩) λx Γa=>Bp Γa (λ_=>W x a) ⟨⟩
def CF (C:Addr)(n:Nat)(S:S3X)(a:TA3)(W:XD->G->Prop)(Γ:G)(Q:RV->G->Prop):Prop:=a Γ λds aa=>ds.length + 1=n/\Ie S (some (.ln (.ins C [] []))::ds.map λd=>some (.fz d)) aa Q W ⟨⟩
theorem Lp{S:S3X}{W:XD->G->Prop}:CF C n S t3 W Γ Q=(t3 Γ λds aa=>ds.length + 1=n/\Ie S (some (.ln (.ins C [] []))::ds.map λd=>some (.fz d)) aa Q W ⟨⟩):=rfl
theorem D7{k:D->Prop}{t:Tag k}(h:Bp Γa k t):∃ d a,Γa=some (.ln d)::a/\k d:=by
 cases Γa with
 | nil=>exact h.elim
 | cons s a=>
  cases s with
  | none=>exact h.elim
  | some s=>
   cases s with
   | fz d=>exact h.elim
   | ow d=>exact h.elim
   | ln d=>exact#[d,a,rfl,h]
theorem yX{a:G}{b d:D}(ds:List D):br (((Bo.v aa.length::ds.map Bo.d).map some).map cR) (aa++[some (Sl.ow b)]) (some (.ln d)::a)=aa++[some (Sl.ow d)]:=by
 refine WB λj=>?_;rw[bU];show ai8 (dJ (if aa.length=j then some d else newD (((ds.map Bo.d).map some).map cR) a j)) _=_;by_cases c:aa.length=j
 .subst c;rw[if_pos rfl,iN,iN];rfl
 .rw[if_neg c,zY];have:(aa++[some (Sl.ow d)])[j]?=(aa++[some (Sl.ow b)])[j]?:=by
   rcases XM j aa.length with z | z
   .rw[eW z,eW z]
   .rw[nA (by simp;lia),nA (by simp;lia)]
  rw[this];cases (aa++[some (Sl.ow b)])[j]? with
  | none=>rfl
  | some s=>cases s with
   | none=>rfl
   | some s=>cases s <;> rfl
section
variable {CX:CXT}{x:Str}{S:S3X}{W:XD->G->Prop}
theorem EM(h:Jt K t t3)(X:XR K B F0 E W):MC K B F0 (B6 C (rK K n S) [] E t) (CF C n S t3 W):=by
 intro F c H U Q QQ w e q k;refine h B F c H U _ _ e q λN L Z=>?_;let#[m,aa,g,O,G,P,hn,q1]:=Z;intro y f R u ne;rw[nT];have J:=G.alloc u (.own y);have b:(upd L f (.own y)) y=none:=by rw[ao (ky ne)];exact R
 have e2:En K B m c (upd (upd L f (.own y)) y (.ins C f [])) aa:=J.alloc b _;have rv:nM K B m c (upd (upd L f (.own y)) y (.ins C f [])) aa (.ref y) (.fr (.ins C [] [])):=#[y,rfl,J.nof b,#[f,[],aB,rfl,rfl],G.dom _ R,J.qY b];have x:=e2.push rv;have hl:c.length=aa.length:=G.len;have rb:cO K m (c++[some (V.ref y)]) (Bo.v aa.length::g.map Bo.d) (.ref y::N):=#[_,_,rfl,by rw[<- hl];exact iN,(cO.ds P).push];have nd:(gf (Bo.v aa.length::g.map Bo.d)).Nodup:=by
  show (aa.length::gf (g.map Bo.d)).Nodup;rw[wM];simp
 have eG:gw (aa++[some (Sl.ow (.ins C [] []))]) ((Bo.v aa.length::g.map Bo.d).map some)=some (.ln (.ins C [] []))::g.map λd=>some (.fz d):=by
  rw[gr,<- El g (aa++[some (Sl.ow (.ins C [] []))])];show (some (Bo.v aa.length)).bind (uE _)::_=_
  congr 1
  show kP (aa++[some (Sl.ow (.ins C [] []))])[aa.length]?=_;rw[iN];rfl
 have len:(V.ref y::N).length=n:=by rw[<- hn,ed,P.length]
 refine#[len,m,_,_,_,_,x.args rb nd,tV,by rw[eG];exact q1,λr p a v T M D j=>?_,λz p a T M I dx D Y=>?_]
 .let#[rfl,a]:=a;let#[s,l,_]:=x.called D j;have ev:v=.non:=j;let#[d,o,rfl,a]:=D7 a;rw[yX] at l;let#[A,i]:=l.pop;exact#[ev,k _ _ #[M,aa,.fr d,O.trans s,A,i,a]]
 .let#[s,l,_]:=x.called D (v:=.non) (r:=.fz .non) rfl;let#[d,o,rfl,a]:=D7 a;rw[yX] at l;let#[A,i]:=l.pop;exact X M c T aa I dx z ((w.trans O).trans s) A Y a
theorem JD(o:X.K=K)(d:XR K B F0 E W)(M:Mk X.K C f)(F:aT X.prog X.w X.K X.mg X.base CX k f fd ps (rK K n S))(g:dM CX X E)(h:cy (k + 1) X.A)(j:Gl X x)(i:X.mg x=some (.ref C))(m:Binds X.K fd ps [])(c:P3A K X (e::es) t t3)(b:autoParam (Vjj x) wP)(l:autoParam (Vjk X e es) wE)(a:autoParam (Vjq pos X es) wE) :
  P3X K X B F0 (.Call (.Name x p) (e::es) [] pos) (B6 C (rK K n S) [] E t) (CF C n S t3 W):=#[Hb M F h j i m .nil g c.pe b l a,EM c.rf d]
theorem JC{kt:Nat}{a:Pos}{is:List Nat}(G:X.K=K)(g:P3X K X B F0 e te e3)(C:PGs X es (iO is))(E:X.calm=true)(A:autoParam ((lg es X.env).length=is.length) wE)(d:autoParam ((lg es X.env).findIdx? (·.1)=none) wE)(z:autoParam (Ri [.Tuple es kt a] e pos.line X.env=pure false) wE)(y:autoParam (Rj [.Tuple es kt a] e X.env=pure none) wE)(h1:autoParam ((lg [.Tuple es kt a] X.env).map (·.2)=[assign (.Tuple es kt a) X.env]) wE) :
  pZ K X B F0 (.Assign [.Tuple es kt a] e pos) (pI te (Fq K is.length (iO is))) (Gx is e3):=#[by subst G;exact wo g.pe (wt E C A d) z y h1,λF l H n D Q w e k q=>
 g.rf F l H n _ _ w e q λv O Z=>by
  let#[P,m,r,s,L,u,Z]:=Z;let#[N,h1,Z]:=oA.1 Z;replace h1:=tup_is h1;let#[c,i,J,x]:=wR Z;let#[M,t,j,f]:=L.frozen u;rw[h1] at f;let#[p,o,rfl,I,h]:=f;refine#[p,o,rfl,.inl (.inl (j.sub _ _ I)),by rw[h.length,pC i],jN j h i J λb e3=>k.nx M b _ c (s.trans t) e3 x]]
end
end _3
namespace _2
open PySem PySem.Spec PyProof.Rows
noncomputable def VA (a b c:Addr):It:=
 #[λi H=>∃ xs ys zs x y v,H a=some (.lst xs)/\H b=some (.lst ys)/\H c=some (.lst zs)/\xs[i]?=some x/\ys[i]?=some y/\zs[i]?=some v,
  λi H v H'=>∃ t xs ys zs x y u,H t=none/\H a=some (.lst xs)/\H b=some (.lst ys)/\H c=some (.lst zs)/\xs[i]?=some x/\ys[i]?=some y/\zs[i]?=some u/\v=.ref t/\H'=upd H t (.tup [x,y,u]),
  λi H=>∃ xs ys zs,H a=some (.lst xs)/\H b=some (.lst ys)/\H c=some (.lst zs)/\(xs.length<=i\/ys.length<=i\/zs.length<=i)]
def Ru (z TI TO j i2 g f e d:Addr)(i:Nat)(h:Heap):Prop:=IsZip h z TI TO .none/\(∃ a b c,eL h TO a b c)/\Z3I h TI j i2 g f e d i
theorem Ey{kt:Nat}(z TI TO g i2 i3 l1 l2 l3:Addr)(D:Z3A z TI TO g i2 i3) :
  Turn P w K (.Tuple es kt tp) (VA l1 l2 l3) [z,TI,TO,g,i2,i3] z (Ru z TI TO g i2 i3 l1 l2 l3) where
 mem:=by simp
 obj:=λi h st b p=>by
  let#[t,#[a,b0,c,f],m,#[o1,e1,_,d1],#[o2,e2,_,d2],#[o3,e3,_,d3]]:=st;simp only[dk,fT,or_false] at p;rcases p with rfl | rfl | rfl | rfl | rfl | rfl
  .exact#[_,t,λv q=>by cases q]
  .exact#[_,m,λv q=>by cases q]
  .exact#[_,f,λv q=>by cases q]
  .exact#[_,e1,λv q=>by rw[d1] at q;cases q]
  .exact#[_,e2,λv q=>by rw[d2] at q;cases q]
  .exact#[_,e3,λv q=>by rw[d3] at q;cases q]
 keep:=λi h h' st k=>by
  let#[t,#[a,b,c,f],m,h1,h2,h3]:=st;exact#[k z (by simp) _ t,#[a,b,c,k TO (by simp) _ f],k TI (by simp) _ m,h1.at λo e=>k g (by simp) o e,h2.at λo e=>k i2 (by simp) o e,h3.at λo e=>k i3 (by simp) o e]
 item:=by
  intro X hP Y hK hc i C s σ H E I F st hg;subst hP Y hK;let#[xs,ys,zs,x,y,v,A,p,hd,hx,hy,hv]:=hg;let#[t,#[a0,b0,c0,f],J]:=st;let#[U,na,R,ea,_]:=I.lst A;let#[T,nb,Q,eb,_]:=I.lst p;let#[S,nc,O,ec,_]:=I.lst hd;have G:∀ b∈[z,TI,TO,g,i2,i3],H b=none:=λb p=>(F b p).1;have n:∀ {l:Addr} {B:List V},H l=some (.lst B)->Z3L l z TO g i2 i3:=λ{l B} e=>by
   have r:∀ b∈[z,TI,TO,g,i2,i3],l≠b:=λb d q=>by rw[q,G b d] at e;cases e
   exact#[r z (by simp),r TO (by simp),r g (by simp),r i2 (by simp),r i3 (by simp)]
  let#[u1,a',N]:=R.get hx;let#[u2,a7,M]:=Q.get hy;let#[u3,Z,L]:=O.get hv;have ext:∀ b∈[z,TI,TO,g,i2,i3],∃ o,s.heap.get? b=some o:=λb d=>by
   let#[m,#[o1,e1,_],#[o2,e2,_],#[o3,e3,_]]:=J;simp only[dk,fT,or_false] at d;rcases d with rfl | rfl | rfl | rfl | rfl | rfl
   .exact#[_,t]
   .exact#[_,m]
   .exact#[_,f]
   .exact#[_,e1]
   .exact#[_,e2]
   .exact#[_,e3]
  have m:=J.I;refine Bg D (n A) (n p) (n hd) t f J (xs:=U.toArray) (ys:=T.toArray) (zs:=S.toArray) #[#[_,ea,rfl,_,rfl],#[_,eb,rfl,_,rfl],#[_,ec,rfl,_,rfl]] (x:=u1) (y:=u2) (v:=u3) (by simpa using a') (by simpa using a7) (by simpa using Z) λh' a1 a2 a3 a4 a5 a6 hk=>?_;refine#[_,rfl,ZO a1 λb1 W j=>?_];have zT:s.heap.objs.size≠z:=wh (dw t);refine#[.ref s.heap.objs.size,upd H s.heap.objs.size (.tup [x,y,v]),?_,rfl,#[_,xs,ys,zs,x,y,v,I.hok.fresh (cc _),A,p,hd,hx,hy,hv,rfl,rfl],?_,λb d=>?_]
  .refine I.Od (s:=s) (t':=s.toks) (ch:=[z,TO,g,i2,i3]) (u:=u1) (v:=u2) (q:=u3) (λb d=>F b (by simp at d ⊢;rcases d with e | e | e | e | e <;> simp [e])) (cc _) (λb o d e=>?_) #[_,j.extBut _ _ zT a6,rfl,_,rfl] N M L;have nz:b≠z:=λq=>d (by simp [q]);exact j.extBut b o nz (hk b o d e)
  .exact#[W,#[_,_,_,j.extBut _ _ D.Oz a2],j.extBut _ _ D.Iz (hk _ _ (by simp [D.Iz,D.IO,D.Ia,D.Ib,D.Ic]) m),a3.extBut j.extBut D.az,a4.extBut j.extBut D.bz,a5.extBut j.extBut D.cz]
  .rw[ao]
   .exact G b d
   .let#[o,e]:=ext b d;exact jz (dw e)
 done:=by
  intro X hP Y hK hc i C s σ H E I F st hg;subst hP Y hK;let#[xs,ys,zs,A,p,hd,hl]:=hg;let#[t,#[a0,b0,c0,f],J]:=st;let#[U,na,R,ea,_]:=I.lst A;let#[T,nb,Q,eb,_]:=I.lst p;let#[S,nc,O,ec,_]:=I.lst hd;have G:∀ b∈[z,TI,TO,g,i2,i3],H b=none:=λb p=>(F b p).1;have n:∀ {l:Addr} {B:List V},H l=some (.lst B)->Z3L l z TO g i2 i3:=λ{l B} e=>by
   have r:∀ b∈[z,TI,TO,g,i2,i3],l≠b:=λb d q=>by rw[q,G b d] at e;cases e
   exact#[r z (by simp),r TO (by simp),r g (by simp),r i2 (by simp),r i3 (by simp)]
  have la:=R.length;have lb:=Q.length;have lc:=O.length;refine Ct (I.ok.hd hc) D (n A) (n p) (n hd) t f J (xs:=U.toArray) (ys:=T.toArray) (zs:=S.toArray) #[#[_,ea,rfl,_,rfl],#[_,eb,rfl,_,rfl],#[_,ec,rfl,_,rfl]] ?_ λh' hk=>#[rfl,I.moved (t':=s.toks) (ch:=[z,TO,g,i2,i3]) (λb d=>F b (by simp at d ⊢;rcases d with e | e | e | e | e <;> simp [e])) hk];rcases hl with hl | hl | hl
  .left;simp;lia
  .right;left;simp;lia
  .right;right;simp;lia
 self:=λ_ _ _ _ _ st h=>YR st.1 h
def Nl (ta:TA):TI:=λσ H R=>ta σ H λvs H1=>∃ (p q r:Addr) (xs ys zs:List V),vs=[.ref p,.ref q,.ref r]/\H1 p=some (.lst xs)/\H1 q=some (.lst ys)/\H1 r=some (.lst zs)/\R (VA p q r) H1
theorem KH{b c:Expr}{ta:TA}{kt:Nat}(M:Gl X "zip")(L:X.mg "zip"=none)(N:PA X [a,b,c] ta)(K:autoParam (bp [a,b,c] X.env=[(false,eval a X.env),(false,eval b X.env),(false,eval c X.env)]) wE)(k:autoParam (bp [b,c] X.env=[(false,eval b X.env),(false,eval c X.env)]) wE) :
  PI X (.Tuple es kt tp) (.Call (.Name "zip" p) [a,b,c] [] pos) (Nl ta):=by
 intro f s o H R I h;refine Call_ (k9 I M L (by decide +kernel:Jv "zip"=some (.type "zip")) (sm (thn (N pos f s o H _ I h) λus d ⟨Z,w,g,z,A⟩=>?_) (by rw[K,k]) (by rw[k];rfl)));let#[E,C,B,xs,ys,zs,e,Q,P,O,q]:=A;subst e;let#[u,v,Y,rfl,y,x,m]:=vals3 z;cases y;cases x;cases m;let#[J,na,ra,V,_]:=g.lst Q;let#[G,nb,rb,U,_]:=g.lst P;let#[F,nc,rc,T,_]:=g.lst O;refine Fw (xs:=J.toArray) (ys:=G.toArray) (zs:=F.toArray) #[#[_,V,rfl,_,rfl],#[_,U,rfl,_,rfl],#[_,T,rfl,_,rfl]] λS r n st hk=>YR r ?_;have W:Inv X f o w { d with heap:=S }:=g.kept (t':=d.toks) hk;have lt:∀ i j:Nat,i < j->d.heap.objs.size + i≠d.heap.objs.size + j:=λi j h e=>by lia
 have D:Z3A (d.heap.objs.size + 5) (d.heap.objs.size + 3) (d.heap.objs.size + 4) d.heap.objs.size (d.heap.objs.size + 1) (d.heap.objs.size + 2):=
  #[lt 3 5 (by decide),lt 4 5 (by decide),lt 0 5 (by decide),lt 1 5 (by decide),lt 2 5 (by decide),lt 3 4 (by decide),(lt 0 3 (by decide)).symm,(lt 1 3 (by decide)).symm,(lt 2 3 (by decide)).symm,(lt 0 4 (by decide)).symm,(lt 1 4 (by decide)).symm,(lt 2 4 (by decide)).symm,lt 0 1 (by decide),lt 0 2 (by decide),lt 1 2 (by decide)]
 refine#[_,_,_,_,w,rfl,W,Ey _ _ _ _ _ _ E C B D,#[r,#[_,_,_,n],st],λb t=>?_,q];have l:d.heap.objs.size<=b:=by
  simp only[dk,fT,or_false] at t;rcases t with rfl | rfl | rfl | rfl | rfl | rfl <;> lia
 exact g.xP l (g.hok.fresh l)
end _2
namespace _3
open PySem _2
noncomputable def trD:List D->List D->List D->List D
 | x::xs,y::ys,z::zs=>.tup [x,y,z]::trD xs ys zs
 | _,_,_=>[]
theorem vF:∀ {xs ys zs:List D} {i:Nat} {d:D},(trD xs ys zs)[i]?=some d->∃ x y z,xs[i]?=some x/\ys[i]?=some y/\zs[i]?=some z/\d=.tup [x,y,z]
 | x::xs,y::ys,z::zs,0,d,h=>#[x,y,z,rfl,rfl,rfl,by cases h;rfl]
 | x::xs,y::ys,z::zs,i + 1,d,h=>vF (xs:=xs) (ys:=ys) (zs:=zs) (i:=i) h
 | [],_,_,_,_,h=>by simp [trD] at h
 | _::_,[],_,_,_,h=>by simp [trD] at h
 | _::_,_::_,[],_,_,h=>by simp [trD] at h
theorem zb:∀ {xs ys zs:List D},(trD xs ys zs).length=min xs.length (min ys.length zs.length)
 | x::xs,y::ys,z::zs=>by rw[trD,ed,zb (xs:=xs) (ys:=ys) (zs:=zs)];simp only[ed];lia
 | [],_,_=>by simp [trD]
 | _::_,[],_=>by simp [trD]
 | _::_,_::_,[]=>by simp [trD]
def Um (a:TA3)(Γ:G)(Q:List D->G->Prop):Prop:=a Γ λds aa=>∃ xs ys zs,ds=[.lst xs,.lst ys,.lst zs]/\Q (trD xs ys zs) aa
theorem LJ{b c:Expr}{ta:TA}{l:TA3}{kt:Nat}(hg:Gl X "zip")(hm:X.mg "zip"=none)(U:P3A K X [a,b,c] ta l)(hs:autoParam (bp [a,b,c] X.env=[(false,eval a X.env),(false,eval b X.env),(false,eval c X.env)]) wE)(T:autoParam (bp [b,c] X.env=[(false,eval b X.env),(false,eval c X.env)]) wE) :
  P3I K X (.Tuple es kt tp) (.Call (.Name "zip" p) [a,b,c] [] pos) (Nl ta) (Um l):=#[KH hg hm U.pe hs T,λB F Y H Γ Q R e q k=>
 U.rf B F Y H Γ _ _ e q λvs H' Z=>by
  let#[F',G,ds,s,E,J,xs,ys,zs,h1,q']:=Z;subst h1;let#[v,ws,rfl,#[p1,j,rfl,D,N],w,a0,rfl,#[p2,h,rfl,C,M],w2,a7,rfl,#[p3,g,rfl,A,L],r4]:=J;cases r4;refine#[p1,p2,p3,j,h,g,rfl,E.sub _ _ D,E.sub _ _ C,E.sub _ _ A,k _ H' F' G _ s E #[λi m f lt=>?_,λi m f ei=>?_,λi m x H3 d f hd y=>?_] q']
  .let#[x,y,z,S,P,O,_]:=vF (gE0 lt);let#[v,o,_]:=N.get S;let#[w,n,_]:=M.get P;let#[u,r,_]:=L.get O;exact#[j,h,g,v,w,u,f _ _ D,f _ _ C,f _ _ A,o,n,r]
  .refine#[j,h,g,f _ _ D,f _ _ C,f _ _ A,?_];subst ei;rw[zb,N.length,M.length,L.length];lia
  .let#[t,a6,a5,a4,x1,y1,z1,ht,W,V,l,b1,b2,b3,rfl,rfl]:=y;rw[f _ _ D] at W;cases W;rw[f _ _ C] at V;cases V;rw[f _ _ A] at l;cases l;let#[dx,dy,dz,S,P,O,rfl]:=vF hd;let#[v,o,J]:=N.get S;let#[w,n,I]:=M.get P;let#[u,r,ru]:=L.get O;rw[b1] at o;cases o;rw[b2] at n;cases n;rw[b3] at r;cases r;exact .inr #[t,_,[dx,dy,dz],ht,rfl,rfl,#[_,_,rfl,J,_,_,rfl,I,_,_,rfl,ru,rfl],rfl]]
set_option backward.eqns.nonrecursive false in
def HG (x y:D)(Γ:G)(Q:RV->G->Prop):Prop:=match x,y with
 | .str i,.str j=>Q (.fz (.bl (!inT i j))) Γ
 | _,_=>False
theorem Al:C3 K X .NotIn (λx y H Q=>∃ i j,x=.str i/\y=.str j/\Q (.bl (!(!(jY j i 0 j.length 1).isEmpty))) H) HG:=#[zM,by
 intro B F c H d x y g f Q h e b a q k;unfold HG at q;split at q
 .cases b;cases a;exact#[_,_,rfl,rfl,k _ _ (lK e q)]
 .exact q.elim]
section
variable {f:Str}
theorem EK(N:Cls K C0)(L:bK K C0 f)(h:MC K B F0 te e3):nI K B F0 (GA K (i9 i) te f) (AM C0 i f e3):=by
 intro F s H y D S z e k q;refine h F s H y _ _ z e q λv R Z=>?_;let#[U,d,r,E,O,G,c]:=Z;let#[x,A,u,I]:=O.frozen G;replace c:oI (sG d i) λC g l=>C=C0/\(f∉g/\g.length < 1000)/\S.nx (putD d i (.ins C (g++[f]) (l++[r.d]))):=c;cases w:sG d i with
 | none=>rw[w] at c;exact c.elim
 | some t=>
  let#[C,g,l]:=t;rw[w] at c;let#[rfl,#[M,T],c]:=c;let#[p,a,b,n,j,Q,o,P]:=u.hl i _ (pA w);refine#[_,a,p,C,n,j,rfl,Q,N,L,?_,?_]
  .have:=congrArg YZ o;rw[lM0] at this;lia
  .have m:f∉j.map (·.1):=by rw[o];exact M
   rw[wm m];have J:Own K x (upd R p (.ins C n (j++[(f,v)]))) p (.ins C (g++[f]) (l++[r.d])):=#[n,j++[(f,v)],aB,by rw[hD,o];rfl,by rw[hD];exact P.snoc I];exact k.nx x s _ _ (E.trans A) (u.Lj (pA w) a J) c
theorem Dm(i:Nat){x f:Str}(g:X.K=K)(h:Cls K C0)(d:bK K C0 f)(b:P3B K X (.Name x px) (i9 i) (bor i))(a:P3X K X B F0 e te e3)(c:autoParam (Xb e (some (.Attribute (.Name x px) f p2)) pos.line X.env=pure false) wE) :
  pZ K X B F0 (.Assign [.Attribute (.Name x px) f p2] e pos) (GA K (i9 i) te f) (AM C0 i f e3):=#[by subst g;exact G2 b.pe a.pe c,EK h d a.rf]
end
end _3
namespace _2
open PySem PySem.Spec PyProof.Rows
section
variable {E:VS0}{s:Shared}
theorem yM {it t:Addr}{items:Array Value}(g:t≠it):∀ (n i:Nat) (s:Shared) (Q:Lv0->Shared->Prop),s.heap.IsListIter it t i->s.heap.IsList t items->i + n<=items.size->
  (∀ h',h'.IsListIter it t (i + n)->Yz it s.heap h'->Q ((items.toList.drop i).take n) { s with heap:=h' })->wpAny (model prog w) A (draw (.ref it) n) Q E s
 | 0,i,s,Q,e,_,_,j=>by
  show wpAny _ _ (pure []) Q E s;exact bh (by simpa using j s.heap e (Heap.SameBut.refl ..))
 | n + 1,i,s,Q,e,l,m,j=>by
  have h:i < items.size:=by lia
  show wpAny _ _ (pyNext (.ref it) >>= _) Q E s;refine au (ac5 e l (x:=items[i]) (by simp [h]) λk c a=>?_);refine au (pb (yM g n (i + 1) _ _ c (l.extBut a.extBut g) (by lia) λf b d=>bh ?_));have hd:items.toList.drop i=items[i]::items.toList.drop (i + 1):=by simp [XU,h]
  have:=j f (by rw[show i + (n + 1)=i + 1 + n by lia];exact b) (a.trans d);rw[hd,ah7] at this;exact this
theorem t6{t:Addr}{Q:Lv0->Shared->Prop}(n:A.handled=none)(i:s.heap.IsList t items)(p:∀ h',Heap.ExtBut s.heap.objs.size s.heap h'->Q items.toList { s with heap:=h' }):wpAny (model prog w) A (af1 (.ref t) items.size none) Q E s:=by
 have j:t≠s.heap.objs.size:=by let#[o,m,_]:=i;exact jz (dw m)
 unfold af1;refine au ?_
 .unfold notIterableAtAll;refine au (wpAny_specialOf i.typeIs slot_list_iter.lookup ?_);refine bh ?_;simp only[ry,if_false];refine au (pb (Wl i ?_));refine au (pb (yM j items.size 0 _ _ #[_,er _ rfl,rfl,rfl] (i.push _) (by lia) λh c a=>?_));have k:an0 items.size (an1 0 items.toList)=items.toList:=by
   rw[ag3];exact pa (by simp)
  rw[k];rw[if_neg (by simp)];have d:h.IsList t items:=(i.push _).extBut a.extBut j;refine au (pb (ae2 n c d (by simp) λg f=>?_));simp only[Option.isSome_none,ry,if_false];refine bh (p g λb o l e=>f b o l (a.extBut b o l (av _ e)))
theorem tS{a:List Expr}{x1}{t:Addr}{Q:Unit->Shared->Prop}(e:A.handled=none)(c:s.heap.IsList t items)(d:(lg a env).length=items.size)(b:(lg a env).findIdx? (·.1)=none)(h:∀ h',Heap.ExtBut s.heap.objs.size s.heap h'->wpAny (model prog w) A (Yb ((lg a env).map (·.2)) items.toList) Q E { s with heap:=h' }) :
  wpAny (model prog w) A (assign (.Tuple a x1 pos) env (.ref t)) Q E s:=by
 rw[assign_Tuple];refine au (yv ?_);unfold unpack;rw[d,b];exact au (pb (t6 e c h))
end
def UH (K:Fg0)(n:Nat)(t:TGs):TG:=λv σ H Q=>∃ a xs,v=.ref a/\SqL K H a xs/\xs.length=n/\t xs σ H Q
theorem O8{t:TGs}(y:X.calm=true)(h:PGs X es t)(w:autoParam ((lg es X.env).length=n) wE)(f:autoParam ((lg es X.env).findIdx? (·.1)=none) wE):PG X (.Tuple es k pos) (UH X.K n t):=by
 intro c s g H v u Q I r d;let#[a,j,A,q,x,d]:=d;subst A;cases r;let#[l,i,p,C]:=I.list q;refine tS (I.ok.hd y) p.isList (by simp [w,<- x,i.length]) f λz m=>?_;have B:Inv X c g H { s with heap:=z }:=I.kept (t':=s.toks) λb o e=>m b o (jz (dw e)) e;exact h c _ g H j _ Q B (by simpa using i) d
end _2
namespace _3
open PySem _2
section
def MU (is:List Nat)(a:TE3)(D:E3)(Γ:G):Prop:=a Γ λr aa=>mL (HP r.d) (λds=>gvF aa is ds D.nx) ⟨⟩
theorem QE{is:List Nat}:MU is e3 D1 Γ=(e3 Γ λr aa=>mL (HP r.d) (λds=>gvF aa is ds D1.nx) ⟨⟩):=rfl
theorem JX{kt:Nat}{a:Pos}{is:List Nat}(E:X.K=K)(g:P3 K X e te e3)(A:PGs X es (iO is))(C:X.calm=true)(z:autoParam ((lg es X.env).length=is.length) wE)(d:autoParam ((lg es X.env).findIdx? (·.1)=none) wE)(y:autoParam (Ri [.Tuple es kt a] e pos.line X.env=pure false) wE)(x:autoParam (Rj [.Tuple es kt a] e X.env=pure none) wE)(h1:autoParam ((lg [.Tuple es kt a] X.env).map (·.2)=[assign (.Tuple es kt a) X.env]) wE) :
  P3S K X (.Assign [.Tuple es kt a] e pos) (pI te (UH K is.length (iO is))) (MU is e3):=#[by subst E;exact wo g.pe (O8 C A z d) y x h1,λB F l H n D P e k q=>
 g.rf B F l H n _ _ e q λv N Z=>by
  let#[O,m,r,s,J,u,Z]:=Z;let#[M,h1,Z]:=oA.1 Z;replace h1:=lst_is h1;let#[c,i,I,w]:=wR Z;let#[L,t,j,f]:=J.frozen u;rw[h1] at f;let#[p,o,rfl,G,h]:=f;refine#[p,o,rfl,.inl (.inl (j.sub _ _ G)),by rw[h.length,pC i],jN j h i I λb e3=>k.nx L b _ c (s.trans t) e3 w]]
variable {te2:TE}
theorem NU{x:Str}{b:Expr}{h l:Pos}{kt k2 I}(hc:X.calm=true)(hN:X.N.Nodup)(hi:X.N[i]?=some x)(Y:X.N[j]?=some y)(m:i≠j)(T:X.env.scope.names.lookup x=some .local)(S:X.env.scope.names.lookup y=some .local)(C:P3X K X B F0 a te e3)(A:P3A K X [b] t t3)(U:Rj [.Tuple [.Name x px,.Name y h] kt l] (.Tuple [a,b] k2 I) X.env=pure (some [x,y]))(W:autoParam (Ri [.Tuple [.Name x px,.Name y h] kt l] (.Tuple [a,b] k2 I) pos.line X.env=pure false) wE)(he:autoParam (bp [a,b] X.env=(false,eval a X.env)::bp [b] X.env) wE) :
  pZ K X B F0 (.Assign [.Tuple [.Name x px,.Name y h] kt l] (.Tuple [a,b] k2 I) pos) (Sg i j (jy te t)) (Tg i j (nF e3 t3)):=#[OZ hc hN hi Y m T S (cf C.pe A.pe he) U W,λF p H J D D3 L e k q=>by
 refine C.rf F p H J _ _ L e q (λv H1 Z=>?_);let#[F1,c,r,N,e1,P,R]:=Z;let#[o,f,n,g]:=e1.frozen P;refine A.rf B o p H1 c _ _ n R (λs H2 Z=>?_);let#[E,G,ds,u,e2,O,d,d',h1,h2,h3,Q]:=Z;have z:aN K E (r.d::ds) (v::s):=#[v,s,rfl,g.mono u,O];rw[h1] at z;let#[v',ws,V,z1,w,M,rfl,z2,z3]:=z;cases V;cases z3;refine#[v,w,rfl,k.nx E _ H2 _ ((N.trans f).trans u) ?_ Q];exact(e2.set (r:=.fz d) h2 z1).set (r:=.fz d') h3 z2]
theorem RM(h:P3X K X B F0 e te e3):P3X K X B F0 e te (fz3 e3):=#[h.pe,λF b H c Q t d l q k=>h.rf F b H c _ _ d l q λv o Z=>by
 let#[u,a,r,s,n,g,j]:=Z;let#[p,f,m,i]:=n.frozen g;exact k v o #[p,a,.fz r.d,s.trans f,m,i,j]]
end
end _3
set_option maxHeartbeats 4000000
namespace _k
open PySem _2 _3
local macro_rules|`(tactic|walk_at "p")=>`(tactic|exact ⟨rfl,rfl,rfl,by decide +kernel,rfl,by decide +kernel,by decide +kernel⟩)
local macro_rules|`(tactic|walk_at "m")=>`(tactic|exact ⟨rfl,by decide +kernel,by decide +kernel,by decide +kernel,by decide +kernel,rfl,by decide +kernel⟩)
noncomputable def fw (b:Option D):Option Sl:=b.map Sl.ow
theorem QY{s:Option D}:bC (fw s::Γ) 0=True:=by cases s <;> rfl
theorem UL{s:Option D}:frB (fw s::Γ) 0=true:=by cases s <;> rfl
theorem Vh{n:Option D}:dJ n none=none:=rfl
theorem WK{n:Option D}{d:D}:dJ n (some (.fz d))=some (.fz d):=rfl
theorem WL{n:Option D}{d:D}:dJ n (some (.ow d))=some (.ow (n.getD d)):=rfl
theorem Vi{n:Option D}{d:D}:dJ n (some (.ln d))=some (.ln (n.getD d)):=rfl
theorem WN{n:Option D}{s:Option D}:dJ n (fo s)=fo s:=by cases s <;> rfl
theorem WM{n:Option D}{s:Option D}:dJ n (fw s)=fw (s.map λd=>n.getD d):=by cases s <;> rfl
noncomputable def qZ:G->Bool
 | []=>true
 | some (.ln _)::_=>false
 | _::Γ=>qZ Γ
theorem PV:qZ []=true:=rfl
theorem V4:qZ (none::Γ)=qZ Γ:=rfl
theorem V1{d:D}:qZ (some (.fz d)::Γ)=qZ Γ:=rfl
theorem V2{d:D}:qZ (some (.ow d)::Γ)=qZ Γ:=rfl
theorem V3{s:Option D}:qZ (fo s::Γ)=qZ Γ:=by cases s <;> rfl
theorem zX:∀ {cs:G} {k:Nat} {d:D},qZ cs=true->cs[k]?≠some (some (Sl.ln d))
 | [],_,_,_,h=>by simp at h
 | s::cs,0,d,a,h=>by
  simp at h;subst h;cases a
 | s::cs,k + 1,d,a,h=>by
  have b:qZ cs=true:=by
   cases s with
   | none=>exact a
   | some s=>cases s with
    | fz _=>exact a
    | ow _=>exact a
    | ln _=>cases a
  exact zX (cs:=cs) (k:=k) b (by simpa using h)
theorem Dd{ls:On}{cs:G}(h:qZ cs=true):br ls Γ cs=Γ:=by
 apply WB;intro j;rw[bU];have:newD ls cs j=none:=by
  cases q:newD ls cs j with
  | none=>rfl
  | some d=>
   let#[k,_,b]:=jo q;exact absurd b (zX h)
 rw[this];cases Γ[j]? with
 | none=>rfl
 | some s=>cases s with
  | none=>rfl
  | some s=>cases s <;> rfl
theorem Fb{ls:On}{cs:G}(h:qZ cs=true):newD ls cs j=none:=by
 cases q:newD ls cs j with
 | none=>rfl
 | some d=>
  let#[k,_,b]:=jo q;exact absurd b (zX h)
theorem UP{b:TS3}{D:E3}{e:Tag (i3,g3,b)}{c:Tag D}:Q6 i3 g3 b D Γ e c=(i3 Γ λxs aa=>∃ a:Nat->G->Prop,a 0 aa/\(∀ k d Γ,xs[k]?=some d->a k Γ->g3 d Γ λΓ'=>b { D with nx:=a (k + 1),ct:=a (k + 1),bk:=D.nx } Γ')/\∀ Γ,a xs.length Γ->D.nx Γ):=rfl
inductive Lt where
 | r | p | b
deriving DecidableEq
noncomputable def Lt.c:Lt->Nat
 | .r=>114 | .p=>112 | .b=>98
noncomputable def Lt.s (l:Lt):Str:=sgn l.c
theorem Lt.sp:Lt.s .p=("p":Str):=by decide +kernel
theorem Lt.sb:Lt.s .b=("b":Str):=by decide +kernel
noncomputable def wy (ls:List Lt):Str:=#[(ls.map Lt.c).toArray]
theorem RN(ls:List Lt):signs (wy ls)=ls.map λl=>D.str l.s:=by
 unfold signs wy;rw[Gc]
 rfl
theorem VG(ls:List Lt):asc (wy ls)=true:=by
 unfold asc wy;rw[Array.all_eq_true_iff_forall_mem];intro x a;simp only[List.mem_toArray,ot] at a;let#[l,_,rfl]:=a;cases l <;> decide
theorem kR(ls:List Lt):(wy ls).length=ls.length:=by simp [ap3,wy]
noncomputable def nh (l:Lt)(h:Int):Int:=if l=.r then h else (h + 1) / 2
noncomputable def nw (l:Lt)(w:Int):Int:=if l=.p then w else (w + 1) / 2
noncomputable def pQ (h w:Int):List Lt->List (Int×Int)
 | []=>[(h,w)]
 | l::ls=>(h,w)::pQ (nh l h) (nw l w) ls
theorem tH (h w:Int):∀ ls:List Lt,(pQ h w ls).length=ls.length + 1
 | []=>rfl
 | l::ls=>by rw[pQ,ed,tH];rfl
noncomputable def cD (c:Int×Int):D:=.tup [.int c.1,.int c.2]
def Can (l:Lt)(h w:Int):Prop:=(l≠.p->2<=w)/\(l≠.r->2<=h)
noncomputable def Good (h w:Int):List Lt->Prop
 | []=>True
 | l::ls=>Can l h w/\Good (nh l h) (nw l w) ls
structure gQ (h w:Int):Prop where
 h1:1<=h
 w1:1<=w
 h2:h<=64
 w2:w<=64
 m:h * w<=512
noncomputable def cat (h w:Int)(ls:List Lt)(k:Nat):Int×Int:=(pQ h w ls).getD k (0,0)
theorem Md{h w:Int}{ls:List Lt}(hk:k<=ls.length):(pQ h w ls)[k]?=some (cat h w ls k):=by
 unfold cat
 have:k < (pQ h w ls).length:=by rw[tH];lia
 rw[ZM,gE0 this];rfl
theorem NH{h w:Int}{ls:List Lt}(hk:k<=ls.length):((pQ h w ls).map cD)[k]?=some (cD (cat h w ls k)):=by rw[ef,Md hk];rfl
theorem qz(h w:Int)(ls:List Lt):cat h w ls 0=(h,w):=by cases ls <;> rfl
theorem BE{h w:Int}{l:Lt}{ls:List Lt}:cat h w (l::ls) (k + 1)=cat (nh l h) (nw l w) ls k:=rfl
theorem tK:∀ {ls:List Lt} {h w:Int} {k:Nat} {l:Lt},ls[k]?=some l->cat h w ls (k + 1)=(nh l (cat h w ls k).1,nw l (cat h w ls k).2)
 | [],_,_,k,l,e=>by simp at e
 | l0::ls,h,w,0,l,e=>by
  have:l0=l:=by simpa using e
  subst this;rw[BE,qz,qz]
 | l0::ls,h,w,k + 1,l,e=>by
  rw[BE,BE];exact tK (by simpa using e)
theorem vO:∀ {ls:List Lt} {h w:Int} {k:Nat} {l:Lt},Good h w ls->ls[k]?=some l->Can l (cat h w ls k).1 (cat h w ls k).2
 | [],_,_,k,l,_,e=>by simp at e
 | l0::ls,h,w,0,l,g,e=>by
  have:l0=l:=by simpa using e
  subst this;rw[qz];exact g.1
 | l0::ls,h,w,k + 1,l,g,e=>by
  rw[BE];exact vO g.2 (by simpa using e)
theorem Me{l:Lt}{h w:Int}(c:Can l h w)(h1:1<=h)(a:1<=w):1<=nh l h/\1<=nw l w/\nh l h<=h/\nw l w<=w:=by
 cases l <;> simp [nh,nw] <;> lia
theorem kO:∀ {ls:List Lt} {h w:Int} {k:Nat},Good h w ls->1<=h->1<=w->k<=ls.length->1<=(cat h w ls k).1/\1<=(cat h w ls k).2/\(cat h w ls k).1<=h/\(cat h w ls k).2<=w
 | ls,h,w,0,_,f,e,_=>by rw[qz];exact#[f,e,Yv _,Yv _]
 | [],_,_,k + 1,_,_,_,hk=>by simp at hk
 | l::ls,h,w,k + 1,g,f,e,hk=>by
  rw[BE];let#[a,b,c,d]:=Me g.1 f e;let#[n,m,j,i]:=kO (k:=k) g.2 a b (by simpa using hk);exact#[n,m,al2 j c,al2 i d]
theorem vS{h w:Int}{ls:List Lt}(hk:k<=ls.length):atI ((pQ h w ls).map cD) (k:Int)=some (cD (cat h w ls k)):=iD (by lia) (by rw[ks];exact NH hk)
theorem Mq{a:Type}{xs:List a}{d:a}(e:xs[xs.length - 1]?=some d):atI xs (-1)=some d:=by
 have lt:=(gS0 e).1;have b:ixN xs.length (-1)=some (xs.length - 1):=by
  unfold ixN;rw[if_neg (by decide),if_pos (by lia)]
  congr 1
  lia
 unfold _2.atI;rw[b];exact e
theorem Ui{l:Lt}:inV (V.str l.s) [V.str "r",V.str "b"]=!(l == .p):=by cases l <;> decide +kernel
theorem Uk{l:Lt}:inV (V.str l.s) [V.str "p",V.str "b"]=!(l == .r):=by cases l <;> decide +kernel
theorem Ud{l:Lt}:in3 false (.str l.s) (kt ["r","b"]) Γ Q=Q (.fz (.bl (!(l == .p)))) Γ:=by
 refine propext #[λ⟨a,b,_,_,q⟩=>?_,λq=>#[_,rfl,rfl,rfl,?_]]
 .have e:a=[D.str "r",D.str "b"]:=(gT b).symm;subst e;have q:Q (.fz (.bl (inV (V.str l.s) [V.str "r",V.str "b"]))) Γ:=q;rw[Ui] at q;exact q
 .show Q (.fz (.bl (inV (V.str l.s) [V.str "r",V.str "b"]))) Γ;rw[Ui];exact q
theorem Ug{l:Lt}:in3 false (.str l.s) (kt ["p","b"]) Γ Q=Q (.fz (.bl (!(l == .r)))) Γ:=by
 refine propext #[λ⟨a,b,_,_,q⟩=>?_,λq=>#[_,rfl,rfl,rfl,?_]]
 .have e:a=[D.str "p",D.str "b"]:=(gT b).symm;subst e;have q:Q (.fz (.bl (inV (V.str l.s) [V.str "p",V.str "b"]))) Γ:=q;rw[Uk] at q;exact q
 .show Q (.fz (.bl (inV (V.str l.s) [V.str "p",V.str "b"]))) Γ;rw[Uk];exact q
theorem Jk{b a:Type}{f:b->a}{xs:List b}{i:Int}{c:a}(e:atI (xs.map f) i=some c):∃ l,atI xs i=some l/\c=f l:=by
 unfold _2.atI at e ⊢;rw[lM0] at e;cases q:ixN xs.length i with
 | none=>rw[q] at e;cases e
 | some j=>
  rw[q] at e;have e:(xs.map f)[j]?=some c:=e;rw[ef] at e;cases z:xs[j]? with
  | none=>rw[z] at e;cases e
  | some l=>rw[z] at e;cases e;exact#[l,z,rfl]
def VH (ls:List Lt)(i:Int)(k:Lt->Prop)(_:Tag k):Prop:=(wy ls).length<=sizeLine/\∃ l,atI ls i=some l/\k l
theorem W6{ls:List Lt}{i:Int}:ix3 (.str (wy ls)) (.int i) Γ Q=VH ls i (λl=>Q (.fz (.str l.s)) Γ) ⟨⟩:=by
 refine propext #[λ⟨b,c,a,q⟩=>#[b,?_],λ⟨b,l,a,q⟩=>#[b,l.c,?_,q]]
 .let#[l,d,rfl]:=Jk (f:=Lt.c) (xs:=ls) (by simpa [wy] using a);exact#[l,d,q]
 .have:=Am (f:=Lt.c) a;simpa [wy] using this
theorem atL{ls:List Lt}{l:Lt}(h:ls[k]?=some l):atI ls (k:Int)=some l:=iD (by lia) (by rw[ks];exact h)
theorem sEb{l:Lt}:(l.s == ("b":Str))=(l == .b):=by cases l <;> decide +kernel
theorem sEr{l:Lt}:(l.s == ("r":Str))=(l == .r):=by cases l <;> decide +kernel
theorem sEp{l:Lt}:(l.s == ("p":Str))=(l == .p):=by cases l <;> decide +kernel
theorem Wy{a b c d e f:D}:cut [a,b,c,d,e,f] (some 2) none=[c,d,e,f]:=rfl
theorem V_:(("corners":Str) == ("chosen":Str))=false:=by decide +kernel
theorem V8:(("letters":Str) == ("chosen":Str))=false:=by decide +kernel
theorem V6:(("letters":Str) == ("corners":Str))=false:=by decide +kernel
theorem TV:(Lt.r == Lt.r)=true:=rfl
theorem TY:(Lt.r == Lt.p)=false:=rfl
theorem T1:(Lt.p == Lt.r)=false:=rfl
theorem T2:(Lt.p == Lt.p)=true:=rfl
theorem T4:(Lt.b == Lt.r)=false:=rfl
theorem T5:(Lt.b == Lt.p)=false:=rfl
theorem TZ:(Lt.r == Lt.b)=false:=rfl
theorem T3:(Lt.p == Lt.b)=false:=rfl
theorem T6:(Lt.b == Lt.b)=true:=rfl
theorem Vj{c:Bool}{x y:D}:atI [x,y] (if c=true then 1 else 0)=some (if c=true then y else x):=by cases c <;> rfl
theorem Vx:ah "rpb"=wy [.r,.p,.b]:=by decide +kernel
noncomputable def isR (c:Nat):Bool:=c == 114 || c == 98
noncomputable def isP (c:Nat):Bool:=c == 112 || c == 98
theorem zj{c d:Nat}:(sgn c == sgn d)=(c == d):=by
 rw[TM,beq_iff_eq,beq_iff_eq];refine#[λh=>?_,λh=>by rw[h]];have:(sgn c).cps.toList=(sgn d).cps.toList:=by rw[h]
 simpa [sgn] using this
theorem s_r:ah "r"=sgn 114:=by decide +kernel
theorem s_p:ah "p"=sgn 112:=by decide +kernel
theorem s_b:ah "b"=sgn 98:=by decide +kernel
theorem Uh{c:Nat}:inV (V.str (sgn c)) [V.str (ah "r"),V.str (ah "b")]=isR c:=by
 rw[s_r,s_b];show (sgn 114 == sgn c || (sgn 98 == sgn c || false))=isR c;rw[zj,zj,aa0,isR,al3 (a:=c) (b:=114),al3 (a:=c) (b:=98)]
theorem Uj{c:Nat}:inV (V.str (sgn c)) [V.str (ah "p"),V.str (ah "b")]=isP c:=by
 rw[s_p,s_b];show (sgn 112 == sgn c || (sgn 98 == sgn c || false))=isP c;rw[zj,zj,aa0,isP,al3 (a:=c) (b:=112),al3 (a:=c) (b:=98)]
theorem Uc{c:Nat}:in3 false (.str (sgn c)) (kt ["r","b"]) Γ Q=Q (.fz (.bl (isR c))) Γ:=by
 refine propext #[λ⟨a,b,_,_,q⟩=>?_,λq=>#[_,rfl,rfl,rfl,?_]]
 .have e:a=[D.str "r",D.str "b"]:=(gT b).symm;subst e;have q:Q (.fz (.bl (inV (V.str (sgn c)) [V.str "r",V.str "b"]))) Γ:=q;rw[Uh] at q;exact q
 .show Q (.fz (.bl (inV (V.str (sgn c)) [V.str "r",V.str "b"]))) Γ;rw[Uh];exact q
theorem Ue{c:Nat}:in3 false (.str (sgn c)) (kt ["p","b"]) Γ Q=Q (.fz (.bl (isP c))) Γ:=by
 refine propext #[λ⟨a,b,_,_,q⟩=>?_,λq=>#[_,rfl,rfl,rfl,?_]]
 .have e:a=[D.str "p",D.str "b"]:=(gT b).symm;subst e;have q:Q (.fz (.bl (inV (V.str (sgn c)) [V.str "p",V.str "b"]))) Γ:=q;rw[Uj] at q;exact q
 .show Q (.fz (.bl (inV (V.str (sgn c)) [V.str "p",V.str "b"]))) Γ;rw[Uj];exact q
def or4 (i h C3 g:Addr)(m:Str)(n:Nat)(f e d c:S3)(b:TB3)(a:gy)(Γ:G)(Q:RV->G->Prop)(_:Tag (m,n,f,e,d,c))(_:Tag (b,a,Q)):Prop:=lO i m n f b a Γ Q\/lO h m n e b a Γ Q\/lO C3 m n d b a Γ Q\/lO g m n c b a Γ Q
theorem Ts{h g C3 f:Addr}{m:Str}{e d c b:S3}{a:gy}:(lO h m n e o3 a Γ Q\/lO g m n d o3 a Γ Q\/lO C3 m n c o3 a Γ Q\/lO f m n b o3 a Γ Q)=or4 h g C3 f m n e d c b o3 a Γ Q ⟨⟩ ⟨⟩:=rfl
theorem SM:(ah "many_planes" == ah "halver")=false:=by decide +kernel
theorem SK:(ah "numbers_read" == ah "halver")=false:=by decide +kernel
theorem SJ:(ah "numbers_read" == ah "many_planes")=false:=by decide +kernel
theorem SI:(ah "numbers_unread" == ah "halver")=false:=by decide +kernel
theorem SH:(ah "numbers_unread" == ah "many_planes")=false:=by decide +kernel
theorem SG:(ah "numbers_unread" == ah "numbers_read")=false:=by decide +kernel
theorem SE:(ah "all_read" == ah "halver")=false:=by decide +kernel
theorem SD:(ah "all_read" == ah "many_planes")=false:=by decide +kernel
theorem SA:(ah "all_read" == ah "numbers_read")=false:=by decide +kernel
theorem Sy:(ah "all_read" == ah "numbers_unread")=false:=by decide +kernel
theorem R6:(ah "here" == ah "text")=false:=by decide +kernel
theorem R5:(ah "marks" == ah "text")=false:=by decide +kernel
theorem R4:(ah "marks" == ah "here")=false:=by decide +kernel
theorem R3:(ah "sizes" == ah "text")=false:=by decide +kernel
theorem R1:(ah "sizes" == ah "here")=false:=by decide +kernel
theorem R0:(ah "sizes" == ah "marks")=false:=by decide +kernel
theorem RZ:(ah "counts" == ah "text")=false:=by decide +kernel
theorem RY:(ah "counts" == ah "here")=false:=by decide +kernel
theorem RX:(ah "counts" == ah "marks")=false:=by decide +kernel
theorem RW:(ah "counts" == ah "sizes")=false:=by decide +kernel
theorem RU:(ah "ends" == ah "text")=false:=by decide +kernel
theorem RT:(ah "ends" == ah "here")=false:=by decide +kernel
theorem RS:(ah "ends" == ah "marks")=false:=by decide +kernel
theorem RQ:(ah "ends" == ah "sizes")=false:=by decide +kernel
theorem RP:(ah "ends" == ah "counts")=false:=by decide +kernel
theorem U5{a b c d e f g:D}:cut [a,b,c,d,e,f,g] (some 1) (some 5)=[b,c,d,e]:=rfl
set_option bootstrap.genMatcherCode true in
def mkL(s:String):Lean.MacroM (Array (Lean.TSyntax [`Lean.Parser.Tactic.simpStar,`Lean.Parser.Tactic.simpErase,`Lean.Parser.Tactic.simpLemma])):=do
 let mut xs:=#[]
 for w in s.splitOn " " do
  let n:=(w.dropWhile (·=='↓')).toString.toName
  let i:=match (<-Lean.Macro.resolveGlobalName n) with
   |(c,[])::_=>Lean.mkCIdent c
   |_=>Lean.mkIdent n
  let t<-if w.startsWith "↓" then `(Lean.Parser.Tactic.simpLemma|↓$i:ident) else `(Lean.Parser.Tactic.simpLemma|$i:ident)
  xs:=xs.push ⟨t.raw⟩
 return xs
set_option bootstrap.genMatcherCode true in
local macro_rules | `(tactic| walk_at "w")=>do `(tactic| try simp -dsimp only [$(<-mkL "gE WH WE WG WC WD VV VU VM Wc Wb Tn Tp Tj To UM UO UJ UK UN Mv Mu Mt Ld Le cond_false Nat.reduceBEq T7 Tx Sd UE UG List.length_cons List.length_nil Nat.reduceAdd Nat.reduceSub Nat.zero_add List.replicate List.cons_append List.nil_append List.append_nil ↓D2 ↓QK ↓D0 ↓Nt ↓QM ↓UA ↓WO ↓WQ ↓Mo ↓WJ Tg ↓QC ↓B8 ↓Ou vG ↓Ij ↓Nw ↓Mh ↓D4 ↓Ih ↓Nq ↓Wt ↓Ws ↓Ii ↓Nu ↓h_c Dw JP ↓Uy ↓UD ↓Wq ↓Uz NN Tr ↓Nv ↓Nr Gat Bo.at ats RV.d RV.sl BM i2 i2' Mb ↓Nj ↓T9 DR Lr Lq Ls P5 Lz mx3 Qn Lh QZ Q1 QW QX Q0 sl3 ↓QJ ↓Qz HR wO B4 is3 knD dB dI dL dT ↓UC beq_self_eq_true GF Ir List.zip_cons_cons List.lookup_cons List.lookup_nil ↓JW HC sG ↓P0 LR ↓Uq K_ dS OG RV.fz.injEq ↓JV c7 putD tgN tgT iL3 iR1 iZ3 Rr ↓Ee ↓Ma ↓IV ↓Q7 List.isEmpty_nil List.isEmpty_cons ↓QN ↓LO Q8 Q9 ↓UB ↓PZ gw uE kP gf cR Option.bind_some Option.bind_none List.nodup_nil List.nodup_cons List.getElem?_cons_zero List.getElem?_cons_succ List.getElem?_nil List.set_cons_zero List.set_cons_succ exists_eq_left' exists_eq_left exists_eq' exists_eq exists_and_left exists_and_right Option.some.injEq D.int.injEq D.lst.injEq D.str.injEq D.tup.injEq D.bl.injEq D.ins.injEq D.ty.injEq List.cons.injEq and_true true_and and_false false_and true_or false_or or_false or_true and_assoc List.not_mem_nil not_false_eq_true Bx Mm L4 UX UW UY xc Bool.false_xor Bool.not_true Bool.not_false Bool.true_xor Nat.reduceLT decide_true Jf Jg Jh ite_self Option.getD_some Option.getD_none Vn Vm Vl Vk Qi Qh Qg if_pos if_true if_false List.all_cons List.all_nil Option.isNone_none Bool.and_true Bool.true_and decide_eq_true_eq not_true not_false_iff reduceCtorEq eq_self Bool.false_eq_true reduceIte Int.reduceEq Vh WK WL Vi WN WM QY frL iT3 Nat.reduceEqDiff H9 Qr ↓fz3 D.exc.injEq D.adr.injEq zv ON Oe ↓L_ ↓LN ↓QH Rt OI VI ↓QP ↓QD ↓Wo sEb sEr sEp Wy ↓Ud ↓Ug V_ V8 V6 TV TY T1 T2 T4 T5 TZ T3 T6 Vj Vx So iR2 Ur ext3 DP ↓Wr ↓Mf ↓Kg FO Ql dvv N_ E3.xO Qm isN ↓Dd PV V4 V1 V2 V3 UL eq3 eqS ↓OC HB ↓S7 ↓Sn ↓Nh Ov ↓T_ Pk ↓zf3 La jN3 ↓jC3 ↓fv3 Lb Lc ↓Ts find3 part3 zC HG ↓Lp Um Gf E3.els MM ↓Uc ↓Ue U5 QE M5 SM SK SJ SI SH SG SE SD SA Sy R6 R5 R4 R3 R1 R0 RZ RY RX RW RU RT RS RQ RP"),*])
local macro_rules|`(tactic|ext)=>`(tactic|walk_at "w")
noncomputable def top (i:Nat):Stmt:=Zr.main.body.getD i (.Pass #[0,0,0,0])
noncomputable abbrev dr:Stmt:=inClass (top 2) 0
noncomputable abbrev fR:Stmt:=inClass (top 6) 0
noncomputable abbrev fQ:Stmt:=inClass (top 7) 0
noncomputable abbrev gH:Stmt:=inClass (top 8) 0
noncomputable abbrev fU:Stmt:=inClass (top 10) 0
noncomputable abbrev qL:Stmt:=top 16
noncomputable abbrev nQ:Stmt:=top 17
noncomputable abbrev rR:Stmt:=top 18
noncomputable abbrev ud:Stmt:=top 19
noncomputable abbrev jB:Stmt:=top 22
noncomputable abbrev eu:Stmt:=inClass (top 23) 0
noncomputable abbrev jd:Stmt:=inClass (top 23) 3
noncomputable abbrev my:Stmt:=top 27
noncomputable abbrev jA:Stmt:=top 29
noncomputable abbrev qM:Stmt:=top 32
noncomputable abbrev ue:Stmt:=top 33
noncomputable abbrev n4:Stmt:=inClass (top 35) 0
noncomputable abbrev kY:Stmt:=inClass (top 36) 0
noncomputable abbrev jE:Stmt:=inClass (top 38) 0
noncomputable abbrev jD:Stmt:=inClass (top 39) 0
noncomputable abbrev nV:Stmt:=top 40
noncomputable abbrev uc:Stmt:=top 41
noncomputable abbrev nU:Stmt:=top 45
noncomputable abbrev mz:Stmt:=top 46
noncomputable abbrev ko:Stmt:=top 47
noncomputable abbrev iH:Stmt:=inClass (top 48) 0
noncomputable abbrev kX:Stmt:=inClass (top 48) 1
noncomputable abbrev mH:Stmt:=inClass (top 48) 2
noncomputable abbrev n6:Stmt:=inClass (top 48) 3
noncomputable abbrev qP:Stmt:=inClass (top 48) 4
noncomputable abbrev mJ:Stmt:=inClass (top 48) 5
noncomputable abbrev mK:Stmt:=inClass (top 48) 7
noncomputable abbrev dO:Stmt:=inClass (top 48) 8
noncomputable abbrev jc:Stmt:=inClass (top 48) 9
noncomputable abbrev fj:Stmt:=inClass (top 50) 0
noncomputable abbrev jC:Stmt:=inClass (top 50) 1
noncomputable abbrev gG:Stmt:=inClass (top 50) 2
noncomputable abbrev fP:Stmt:=inClass (top 50) 3
noncomputable abbrev gF:Stmt:=inClass (top 50) 4
noncomputable abbrev iG:Stmt:=inClass (top 50) 5
noncomputable abbrev iF:Stmt:=inClass (top 51) 0
noncomputable abbrev n0:Stmt:=inClass (top 51) 1
noncomputable abbrev fi:Stmt:=inClass (top 51) 2
noncomputable abbrev fN:Stmt:=inClass (top 51) 3
noncomputable abbrev fO:Stmt:=inClass (top 51) 4
noncomputable abbrev d_:Stmt:=inClass (top 51) 5
noncomputable abbrev nS:Stmt:=top 52
noncomputable abbrev ig:Stmt:=top 53
noncomputable abbrev c_:Stmt:=top 54
noncomputable abbrev mx:Stmt:=top 55
noncomputable abbrev nZ:Stmt:=top 57
noncomputable abbrev qO:Stmt:=top 58
noncomputable abbrev nW:Stmt:=top 59
noncomputable abbrev nX:Stmt:=top 60
noncomputable abbrev qN:Stmt:=top 61
noncomputable abbrev mF:Stmt:=top 62
noncomputable abbrev jb:Stmt:=top 63
noncomputable abbrev mG:Stmt:=top 64
noncomputable abbrev nY:Stmt:=top 65
noncomputable abbrev mB:Stmt:=top 66
noncomputable abbrev mE:Stmt:=top 67
noncomputable abbrev kU:Stmt:=top 68
noncomputable abbrev kW:Stmt:=top 69
noncomputable abbrev mD:Stmt:=top 70
noncomputable abbrev Gz:Stmt:=top 71
theorem lJ:aC ["self","words"] ["self","words"] (aj dr):=by walk_at "p"
theorem qJ:aC ["self","found"] ["self","found"] (aj fR):=by walk_at "p"
theorem qI:aC ["self","one","other"] ["self","one","other"] (aj fQ):=by walk_at "p"
theorem rP:aC ["self","found"] ["self","found"] (aj gH):=by walk_at "p"
theorem qK:aC ["self","found"] ["self","found"] (aj fU):=by walk_at "p"
theorem AN:aC ["thing","low","high"] ["thing","low","high"] (aj qL):=by walk_at "p"
theorem zk:aC ["thing"] ["thing"] (aj nQ):=by walk_at "p"
theorem EH:aC ["thing","least"] ["thing","least"] (aj rR):=by walk_at "p"
abbrev Vjx(n:List (PySem.Str×PySem.NameKind)):PySem.Scope:={ kind:=.function,names:=n,isGenerator:=false,isCoroutine:=false,more:=[] }
noncomputable def vC:Scope:=Vjx [(".0",.local),("number",.local),("is_number",.globalImplicit)]
theorem tM:Blk ["thing","least"] (aj rR) vC ["number"] [none]:=by walk_at "m"
theorem Cb:aC ["height","width"] ["height","width"] (aj ud):=by walk_at "p"
theorem uJ:aC ["thing","width"] ["thing"] (aj jB):=by walk_at "p"
noncomputable def tP:Scope:=Vjx [(".0",.local),("row",.local),("len",.globalImplicit),("width",.free)]
theorem oW:Blk ["thing","width"] (aj jB) tP ["row","width"] [none,some 1]:=by walk_at "m"
noncomputable def tO:Scope:=Vjx [(".0",.local),("row",.local),("is_row",.globalImplicit)]
theorem oV:Blk ["thing","width"] (aj jB) tO ["row"] [none]:=by walk_at "m"
theorem rQ:aC ["self","rows"] ["self","rows"] (aj eu):=by walk_at "p"
noncomputable def l8:Scope:=Vjx [(".0",.local),("row",.local),("tuple",.globalImplicit)]
theorem iB:Blk ["self","rows"] (aj eu) l8 ["row"] [none]:=by walk_at "m"
theorem xC:aC ["self"] ["self"] (aj jd):=by walk_at "p"
noncomputable def pW:Scope:=Vjx [(".0",.local),("row",.local),("list",.globalImplicit)]
theorem lZ:Blk ["self"] (aj jd) pW ["row"] [none]:=by walk_at "m"
theorem uI:aC ["word","most","figures"] ["word","most"] (aj my):=by walk_at "p"
noncomputable def tN:Scope:=Vjx [(".0",.local),("sign",.local),("FIGURES",.globalImplicit)]
theorem oU:Blk ["word","most","figures"] (aj my) tN ["sign"] [none]:=by walk_at "m"
theorem vj:aC ["thing","most"] ["thing","most"] (aj jA):=by walk_at "p"
theorem kn:aC ["text","number","sign"] ["text"] (aj qM):=by walk_at "p"
theorem qG:aC ["plan","planes","way","told"] ["plan","planes"] (aj ue):=by walk_at "p"
theorem zr:aC ["self"] ["self"] (aj n4):=by walk_at "p"
theorem wc:aC ["self"] ["self"] (aj kY):=by walk_at "p"
theorem vn:aC ["self"] ["self"] (aj jE):=by walk_at "p"
theorem vm:aC ["self"] ["self"] (aj jD):=by walk_at "p"
theorem zo:aC [] [] (aj nV):=by walk_at "p"
theorem wa:aC ["word","rule"] ["word"] (aj uc):=by walk_at "p"
theorem zm:aC ["letter","height","width"] ["letter","height","width"] (aj nU):=by walk_at "p"
theorem eT:aC ["height","width","way","corners","letter"] ["height","width","way"] (aj mz):=by walk_at "p"
theorem fL:aC ["part","top","left","height","width"] ["part"] (aj ko):=by walk_at "p"
noncomputable def rB:Scope:=Vjx [(".0",.local),("y",.local),("x",.local),("range",.globalImplicit),("left",.free),("width",.free)]
theorem iV:Blk ["part","top","left","height","width"] (aj ko) rB ["y","x","left","width"] [none,none,some 2,some 4]:=by walk_at "m"
theorem ub:aC ["self","height","width","word","way"] ["self","height","width","word","way"] (aj iH):=by walk_at "p"
theorem wb:aC ["self"] ["self"] (aj kX):=by walk_at "p"
theorem xy:aC ["self"] ["self"] (aj mH):=by walk_at "p"
theorem zt:aC ["self"] ["self"] (aj n6):=by walk_at "p"
theorem AQ:aC ["self"] ["self"] (aj qP):=by walk_at "p"
theorem xA:aC ["self"] ["self"] (aj mJ):=by walk_at "p"
theorem eU:aC ["self","height","width","parts","step"] ["self"] (aj mK):=by walk_at "p"
theorem bu:aC ["self","step","height","width","many_down","many_along","letter","parts"] ["self","step"] (aj dO):=by walk_at "p"
theorem xB:aC ["self"] ["self"] (aj jc):=by walk_at "p"
noncomputable def pV:Scope:=Vjx [(".0",.local),("part",.local),("place",.local),("places_of",.globalImplicit)]
theorem gP:Blk ["self"] (aj jc) pV ["part","place"] [none,none]:=by walk_at "m"
theorem pK:aC ["self","plan","planes","numbers","unread","whole"] ["self","plan","planes","numbers","unread","whole"] (aj fj):=by walk_at "p"
theorem vk:aC ["self"] ["self"] (aj jC):=by walk_at "p"
theorem rO:aC ["self"] ["self"] (aj gG):=by walk_at "p"
theorem qH:aC ["self"] ["self"] (aj fP):=by walk_at "p"
theorem rN:aC ["self"] ["self"] (aj gF):=by walk_at "p"
theorem ua:aC ["self"] ["self"] (aj iG):=by walk_at "p"
theorem t_:aC ["self","text","start","many"] ["self","text","start","many"] (aj iF):=by walk_at "p"
theorem zq:aC ["self","among","sign"] ["self","among"] (aj n0):=by walk_at "p"
theorem iW:aC ["self","at","bit"] ["self","at"] (aj fi):=by walk_at "p"
theorem cL:aC ["self","start","at","behind","figures"] ["self"] (aj fN):=by walk_at "p"
theorem b8:aC ["self","planes","found","mark","size","count","number"] ["self","planes"] (aj fO):=by walk_at "p"
theorem rM:aC ["self","planes"] ["self","planes"] (aj d_):=by walk_at "p"
noncomputable def lY:Scope:=Vjx [(".0",.local),("count",.local),("planes",.free)]
theorem iA:Blk ["self","planes"] (aj d_) lY ["count","planes"] [none,some 1]:=by walk_at "m"
theorem fM:aC ["text","words","height","width","word","way"] ["text","words"] (aj nS):=by walk_at "p"
theorem i_:aC ["text","head","words","plan","planes"] ["text"] (aj ig):=by walk_at "p"
noncomputable def rz:Scope:=Vjx [(".0",.local),("at",.local),("is_plain",.globalImplicit),("MOST_FIGURES",.globalImplicit),("words",.free)]
theorem nG:Blk ["text","head","words","plan","planes"] (aj ig) rz ["at","words"] [none,some 2]:=by walk_at "m"
noncomputable abbrev dF:Ls0:=(["plan","numbers","rows","y","x","number"]:Ls0)++phs 65
theorem rV:G8 dF (aj c_) 6=true:=by decide +kernel
theorem rJ{b a:Option Sl}:gE dF [b,a]=b::a::none::none::none::none::tlG (nn 65++tlE):=B9 (N:=["plan","numbers","rows","y","x","number"]) (Γa:=[b,a]) (by decide:2<=6)
theorem cV:aC dF ["plan","numbers"] (aj c_):=by walk_at "p"
noncomputable def lW:Scope:=Vjx [(".0",.local),("line",.local),("plan",.free)]
theorem cZ:Blk dF (aj c_) lW ["line","plan"] [none,some 0]:=by walk_at "m"
theorem c5:aC ["text","head","plan","planes","walk","plane","numbers"] ["text"] (aj mx):=by walk_at "p"
theorem zp:aC ["_law_script","_law_k"] ["_law_script","_law_k"] (aj nZ):=by walk_at "p"
theorem AO:aC ["_law_cell_here"] ["_law_cell_here"] (aj qO):=by walk_at "p"
theorem ja:aC ["_law_box_here","_law_many","_law_digit","_law_number"] ["_law_box_here","_law_many"] (aj nW):=by walk_at "p"
theorem rL:aC ["_law_box_here","_law_height"] ["_law_box_here"] (aj nX):=by walk_at "p"
theorem cW:aC ["_law_box_here","_law_size_here","_law_height","_law_width","_law_way_here","_law_lap","_law_letter"] ["_law_box_here","_law_size_here"] (aj qN):=by walk_at "p"
theorem gY:aC ["_law_text","_law_found","_law_sign"] ["_law_text"] (aj mF):=by walk_at "p"
theorem xx:aC ["_law_word","_law_low","_law_high"] ["_law_word","_law_low","_law_high"] (aj jb):=by walk_at "p"
noncomputable def pU:Scope:=Vjx [(".0",.local),("_law_sign",.local)]
theorem lX:Blk ["_law_word","_law_low","_law_high"] (aj jb) pU ["_law_sign"] [none]:=by walk_at "m"
theorem dC:aC ["_law_size_here","_law_way_here","_law_height","_law_width","_law_letter"] ["_law_size_here","_law_way_here"] (aj mG):=by walk_at "p"
theorem dq:aC ["_law_text","_law_head_here","_law_colon","_law_body","_law_said","_law_height","_law_width","_law_planes","_law_way_here"] ["_law_text"] (aj nY):=by walk_at "p"
theorem gW:aC ["_law_box_here","_law_size_here","_law_way_here","_law_word"] ["_law_box_here"] (aj mB):=by walk_at "p"
theorem gX:aC ["_law_box_here","_law_word","_law_some"] ["_law_box_here","_law_word"] (aj mE):=by walk_at "p"
theorem cp:aC ["_law_box_here","_law_said","_law_found","_law_lap","_law_way_here","_law_at"] ["_law_box_here","_law_said"] (aj kU):=by walk_at "p"
theorem c9:aC ["_law_box_here","_law_said","_law_head_here","_law_check_here","_law_way_here","_law_other_here"] ["_law_box_here","_law_said"] (aj kW):=by walk_at "p"
theorem bN:aC ["_law_text","_law_due","_law_found","e","_law_size_here","_law_word","_law_way_here","_law_planes","_law_body","_law_plan","_law_left"] ["_law_text"] (aj mD):=by walk_at "p"
theorem iE:aC ["_law_script","_law_k","_law_box_here","_law_said","_law_good","_law_lap","_law_text","_law_thing","_law_caught","e"] ["_law_script"] (aj Gz):=by walk_at "p"
set_option genInjectivity false in
set_option genSizeOf false in
structure Ad where
 bO:Addr
 cA:Addr
 cx:Addr
 bR:Addr
 cu:Addr
 bQ:Addr
 bq:Addr
 aI:Addr
 dY:Addr
 a_:Addr
 aD:Addr
 bX:Addr
 bI:Addr
 bH:Addr
 bW:Addr
 cG:Addr
 fH:et
 gq:Addr
 jS:et
 gp:Addr
 jR:et
 gN:Addr
 kM:et
 dH:Addr
 ft:et
 wZ:Addr
 uQ:et
 uZ:Addr
 sM:et
 Bq:Addr
 yF:et
 yH:Addr
 wX:et
 w_:Addr
 uT:et
 gO:Addr
 kN:et
 m9:Addr
 qv:et
 w8:Addr
 uR:et
 oM:Addr
 nB:et
 w9:Addr
 uS:et
 yI:Addr
 wY:et
 oO:Addr
 sV:et
 lq:Addr
 oK:et
 jW:Addr
 nE:et
 jV:Addr
 nD:et
 u7:Addr
 sP:et
 yG:Addr
 wW:et
 u6:Addr
 sO:et
 sY:Addr
 qi:et
 uY:Addr
 sL:et
 iS:Addr
 lU:et
 k_:Addr
 oJ:et
 m5:Addr
 qq:et
 oP:Addr
 sW:et
 rh:Addr
 uW:et
 m6:Addr
 qr:et
 m7:Addr
 qt:et
 dW:Addr
 gB:et
 m8:Addr
 qu:et
 fv:Addr
 i4:et
 jU:Addr
 nC:et
 gM:Addr
 kK:et
 gn:Addr
 jQ:et
 gL:Addr
 kJ:et
 iQ:Addr
 lT:et
 iP:Addr
 lS:et
 oN:Addr
 sU:et
 fu:Addr
 iZ:et
 gj:Addr
 jO:et
 gk:Addr
 jP:et
 gK:Addr
 kI:et
 u5:Addr
 sN:et
 uX:Addr
 sJ:et
 lV:Addr
 kH:et
 sX:Addr
 qh:et
 vb:Addr
 sT:et
 xb:Addr
 uV:et
 u9:Addr
 sQ:et
 u_:Addr
 sR:et
 xa:Addr
 uU:et
 tw:Addr
 qo:et
 tm:Addr
 ql:et
 tE:Addr
 qp:et
 va:Addr
 sS:et
 sZ:Addr
 qj:et
 tu:Addr
 qm:et
 qw:Addr
 oG:et
 qy:Addr
 oH:et
 s_:Addr
 qk:et
 Iw:Addr
 CT:et
structure Txt (K:Fg0) (mg:SV0) (a:Ad):Prop where
 tJ:Cls K a.cx
 HN:mg "Field"=some (.ref a.cx)
 rm:Cls K a.bR
 CI:mg "Guessed"=some (.ref a.bR)
 mk_Guessed:Mk0 K a.bR
 uy:Cls K a.cu
 Fh:mg "Halves"=some (.ref a.cu)
 mk_Halves:Mk0 K a.cu
 rl:Cls K a.bQ
 CH:mg "Leaning"=some (.ref a.bQ)
 mk_Leaning:Mk0 K a.bQ
 aY:Cls K a.bq
 Lx:mg "Plan"=some (.ref a.bq)
 bP:Cls K a.aI
 CG:mg "Reading"=some (.ref a.aI)
 Ac:Cls K a.dY
 Lw:mg "Sums"=some (.ref a.dY)
 mk_Sums:Mk0 K a.dY
 bE:Cls K a.a_
 Lu:mg "Walk"=some (.ref a.a_)
 dU:mg "HalvedError"=some (.ref a.aD)
 jq:mg "NoHead"=some (.ref a.bX)
 yr:mg "NoRule"=some (.ref a.bI)
 yq:mg "NoSize"=some (.ref a.bH)
 wJ:mg "NoWay"=some (.ref a.bW)
 qb:bK K a.cx "grid"
 oo:bK K a.bq "chosen"
 cS:bK K a.bq "corners"
 e_:bK K a.bq "letters"
 iY:bK K a.aI "all_read"
 kE:bK K a.aI "halver"
 fZ:bK K a.aI "many_planes"
 fE:bK K a.aI "numbers_read"
 eJ:bK K a.aI "numbers_unread"
 jH:bK K a.a_ "counts"
 sv:bK K a.a_ "ends"
 ji:bK K a.a_ "here"
 g_:bK K a.a_ "marks"
 qa:bK K a.a_ "sizes"
 mV:bK K a.a_ "text"
 fe:Rz K mg "ALONG_PILLARS" a.bO ["p","b"]
 jj:Rz K mg "ALONG_ROWS" a.cA ["r","b"]
 tys:TyS K
 aU:FY K "__init__" "HalvedError.__init__" dr a.cG a.fH ["self","words"]
 ki:FY K "__init__" "NoRule.__init__" fR a.gq a.jS ["self","found"]
 kh:FY K "__init__" "NoSize.__init__" fQ a.gp a.jR ["self","one","other"]
 gD:FY K "__init__" "NoWay.__init__" gH a.gN a.kM ["self","found"]
 cU:FY K "__init__" "NoHead.__init__" fU a.dH a.ft ["self","found"]
 bJ:FX K mg "is_whole" "is_whole" qL a.wZ a.uQ ["thing","low","high"]
 j6:FX K mg "is_number" "is_number" nQ a.uZ a.sM ["thing"]
 rE:FX K mg "is_row" "is_row" rR a.Bq a.yF ["thing","least"]
 gC:FX K mg "is_size" "is_size" ud a.yH a.wX ["height","width"]
 mi:FX K mg "are_rows" "are_rows" jB a.w_ a.uT ["thing"]
 lI:FY K "__init__" "Field.__init__" eu a.gO a.kN ["self","rows"]
 mr:FY K "rows" "Field.rows" jd a.m9 a.qv ["self"]
 mh:FX K mg "is_plain" "is_plain" my a.w8 a.uR ["word","most"]
 fI:FX K mg "check_number" "check_number" jA a.oM a.nB ["thing","most"]
 fh:FX K mg "check_of" "check_of" qM a.w9 a.uS ["text"]
 oZ:FX K mg "head_of" "head_of" ue a.yI a.wY ["plan","planes"]
 kf:FY K "word" "Sums.word" n4 a.oO a.sV ["self"]
 gU:FY K "word" "Halves.word" kY a.lq a.oK ["self"]
 fK:FY K "word" "Guessed.word" jE a.jW a.nE ["self"]
 fJ:FY K "word" "Leaning.word" jD a.jV a.nD ["self"]
 j9:FX K mg "all_rules" "all_rules" nV a.u7 a.sP []
 oY:FX K mg "rule_of" "rule_of" uc a.yG a.wW ["word"]
 j8:FX K mg "can_halve" "can_halve" nU a.u6 a.sO ["letter","height","width"]
 i5:FX K mg "corners_of" "corners_of" mz a.sY a.qi ["height","width","way"]
 j5:FX K mg "places_of" "places_of" ko a.uY a.sL ["part"]
 nq:FY K "__init__" "Plan.__init__" iH a.iS a.lU ["self","height","width","word","way"]
 dA:FY K "height" "Plan.height" kX a.k_ a.oJ ["self"]
 dZ:FY K "width" "Plan.width" mH a.m5 a.qq ["self"]
 cT:FY K "rule" "Plan.rule" n6 a.oP a.sW ["self"]
 mn:FY K "way" "Plan.way" qP a.rh a.uW ["self"]
 mq:FY K "steps" "Plan.steps" mJ a.m6 a.qr ["self"]
 rF:FY K "parts" "Plan.parts" mK a.m7 a.qt ["self"]
 hZ:FY K "parts_of_step" "Plan.parts_of_step" dO a.dW a.gB ["self","step"]
 rG:FY K "order" "Plan.order" jc a.m8 a.qu ["self"]
 jv:FY K "__init__" "Reading.__init__" fj a.fv a.i4 ["self","plan","planes","numbers","unread","whole"]
 nN:FY K "plan" "Reading.plan" jC a.jU a.nC ["self"]
 lH:FY K "planes" "Reading.planes" gG a.gM a.kK ["self"]
 kg:FY K "numbers" "Reading.numbers" fP a.gn a.jQ ["self"]
 lG:FY K "unread" "Reading.unread" gF a.gL a.kJ ["self"]
 nk:FY K "whole" "Reading.whole" iG a.iQ a.lT ["self"]
 nj:FY K "__init__" "Walk.__init__" iF a.iP a.lS ["self","text","start","many"]
 fA:FY K "take" "Walk.take" n0 a.oN a.sU ["self","among"]
 ju:FY K "read_number" "Walk.read_number" fi a.fu a.iZ ["self","at"]
 kb:FY K "read_plane" "Walk.read_plane" fN a.gj a.jO ["self"]
 kc:FY K "numbers_of" "Walk.numbers_of" fO a.gk a.jP ["self","planes"]
 lF:FY K "unread_of" "Walk.unread_of" d_ a.gK a.kI ["self","planes"]
 j7:FX K mg "head_plan" "head_plan" nS a.u5 a.sN ["text","words"]
 j4:FX K mg "read_head" "read_head" ig a.uX a.sJ ["text"]
 bY:FX K mg "field_in_order" "field_in_order" c_ a.lV a.kH ["plan","numbers"]
 dh:FX K mg "read_signs" "read_signs" mx a.sX a.qh ["text"]
 ka:FX K mg "_law_cell" "_law_cell" nZ a.vb a.sT ["_law_script","_law_k"]
 mm:FX K mg "_law_box" "_law_box" qO a.xb a.uV ["_law_cell_here"]
 ar:FX K mg "_law_take" "_law_take" nW a.u9 a.sQ ["_law_box_here","_law_many"]
 j_:FX K mg "_law_size" "_law_size" nX a.u_ a.sR ["_law_box_here"]
 mj:FX K mg "_law_way" "_law_way" qN a.xa a.uU ["_law_box_here","_law_size_here"]
 bj:FX K mg "_law_check" "_law_check" mF a.tw a.qo ["_law_text"]
 b_:FX K mg "_law_plain" "_law_plain" jb a.tm a.ql ["_law_word","_law_low","_law_high"]
 i7:FX K mg "_law_bears" "_law_bears" mG a.tE a.qp ["_law_size_here","_law_way_here"]
 cH:FX K mg "_law_head" "_law_head" nY a.va a.sS ["_law_text"]
 i6:FX K mg "_law_words" "_law_words" mB a.sZ a.qj ["_law_box_here"]
 dj:FX K mg "_law_other" "_law_other" mE a.tu a.qm ["_law_box_here","_law_word"]
 gR:FX K mg "_law_spoilt" "_law_spoilt" kU a.qw a.oG ["_law_box_here","_law_said"]
 gS:FX K mg "_law_headed" "_law_headed" kW a.qy a.oH ["_law_box_here","_law_said"]
 b9:FX K mg "_law_right" "_law_right" mD a.s_ a.qk ["_law_text"]
 RK:FX K mg "law" "law" Gz a.Iw a.CT ["_law_script"]
 vU:ma K a.aD
 Ew:ma K a.bX
 Et:ma K a.bH
 Eu:ma K a.bI
 FQ:ma K a.bW
 FK:FE K a.aD a.aD a.cG []
 lD:FE K a.aD a.bI a.gq ["found"]
 tZ:FE K a.aD a.bH a.gp ["one","other"]
 lC:FE K a.aD a.bW a.gN ["found"]
 bM:FE K a.aD a.bX a.dH ["found"]
 xnd:PR [a.aD,a.bI,a.bH,a.bW,a.bX]=true
 z_ValueError:mg "ValueError"=none
 LK:ad9 K a.aD (.type "type")=true
 LL:VC K (.ref a.aD) "__getattribute__"=some (some (.builtin "type.__getattribute__"))
 LM:aa2 K (.ref a.aD) (.type "type") "__init__"=some (.val (.ref a.cG))
 mk_Field:Mk K a.cx a.gO
 mk_Plan:Mk K a.bq a.iS
 mk_Reading:Mk K a.aI a.fv
 mk_Walk:Mk K a.a_ a.iP
 qf:Meth K a.cx "rows" a.m9
 iM:Meth K a.bR "word" a.jW
 jI:Meth K a.cu "word" a.lq
 iL:Meth K a.bQ "word" a.jV
 dR:Meth K a.bq "height" a.k_
 eZ:Meth K a.bq "width" a.m5
 cY:Meth K a.bq "rule" a.oP
 oz:Meth K a.bq "way" a.rh
 qc:Meth K a.bq "steps" a.m6
 xK:Meth K a.bq "parts" a.m7
 nL:Meth K a.bq "parts_of_step" a.dW
 xM:Meth K a.bq "order" a.m8
 vz:Meth K a.aI "plan" a.jU
 sD:Meth K a.aI "planes" a.gM
 rg:Meth K a.aI "numbers" a.gn
 sC:Meth K a.aI "unread" a.gL
 ui:Meth K a.aI "whole" a.iQ
 mX:Meth K a.dY "word" a.oO
 gc:Meth K a.a_ "take" a.oN
 pO:Meth K a.a_ "read_number" a.fu
 q8:Meth K a.a_ "read_plane" a.gj
 q_:Meth K a.a_ "numbers_of" a.gk
 sA:Meth K a.a_ "unread_of" a.gK
 xk:∃ t,mg "MOST_FIGURES"=some (.int 15 t)
 qB:∃ t,mg "MOST_NUMBER"=some (.int 999999999999999 t)
 xT:∃ t,mg "MOST_PLACES"=some (.int 512 t)
 qA:∃ t,mg "MOST_PLANES"=some (.int 30 t)
 oQ:∃ t,mg "MOST_SIDE"=some (.int 64 t)
 uB:∃ t,mg "FIGURES"=some (.str (ah "0123456789") t)
 z_all:mg "all"=none
 z_bool:mg "bool"=none
 z_int:mg "int"=none
 z_isinstance:mg "isinstance"=none
 z_len:mg "len"=none
 z_list:mg "list"=none
 z_max:mg "max"=none
 z_min:mg "min"=none
 z_ord:mg "ord"=none
 z_range:mg "range"=none
 z_repr:mg "repr"=none
 z_reversed:mg "reversed"=none
 z_str:mg "str"=none
 z_tuple:mg "tuple"=none
 z_zip:mg "zip"=none
 ty:m_ K
noncomputable abbrev il (a:Li0):D:=.lst (a.map .int)
def Fig (a:Li0):Prop:=∀ n∈a,-1000000000000000 < n/\n < 1000000000000000
theorem snoc{f:Nat->D}{d:D}(h:d=f k):(gs k).map f++[d]=(gs (k + 1)).map f:=by
 rw[Yj,hD,h];rfl
theorem ints_get{a:Li0}{d:D}(h:(a.map D.int)[k]?=some d):k < a.length/\d=.int (a.getD k 0):=by
 have lt:k < a.length:=by have:=(gS0 h).1;simpa using this
 rw[ef,gE0 lt] at h;cases h;exact#[lt,by simp [am6,lt]]
theorem DQ{f:Nat->D}{d:D}(h:((gs n).map f)[k]?=some d):k < n/\d=f k:=by
 have lt:k < n:=by have:=(gS0 h).1;simpa using this
 rw[ef,XX lt] at h;cases h;exact#[lt,rfl]
theorem LY{a:Li0}(f:Fig a)(h:k < a.length):-1000000000000000 < a.getD k 0/\a.getD k 0 < 1000000000000000:=by
 have:a.getD k 0=a[k]:=by simp [am6,h]
 rw[this];exact f _ (YW h)
theorem small(h:n<=1000):n < sizeLine:=by rw[ff];lia
theorem W4(f:Nat->Int)(n:Nat):(gs n).map (λj=>D.int (f j))=((gs n).map f).map D.int:=by rw[Gc];rfl
theorem xq{a:Type}{f:a->D}{l:List a}{d:D}(h:(l.map f)[k]?=some d):∃ x,l[k]?=some x/\d=f x:=by
 rw[ef] at h;cases q:l[k]? with
 | none=>rw[q] at h;cases h
 | some x=>rw[q] at h;cases h;exact#[x,rfl,rfl]
theorem take_snoc{a:Type}{xs:List a}{x:a}(h:xs[k]?=some x):xs.take (k + 1)=xs.take k++[x]:=by rw[aq1,h];rfl
theorem Gr(h:n<=200000):n < sizeLine:=by rw[ff];lia
theorem zh(h:n<=200000):n<=sizeLine:=Wh (Gr h)
theorem z1:1<=sizeLine:=by rw[ff];decide
theorem z2:2<=sizeLine:=by rw[ff];decide
theorem z3:3<=sizeLine:=by rw[ff];decide
theorem z4:4<=sizeLine:=by rw[ff];decide
theorem z5:5<=sizeLine:=by rw[ff];decide
theorem z6:6<=sizeLine:=by rw[ff];decide
theorem z0:0<=sizeLine:=rx _
theorem fW{i:Int}{d:D}(h:(rng i n)[k]?=some d):k < n/\d=.int (i + (k:Int)):=by
 unfold rng at h;exact DQ h
theorem yE{f:Nat->List D}:((gs k).map f).flatten++f k=((gs (k + 1)).map f).flatten:=by
 rw[Yj,hD,Zm];simp
theorem oF {f:Nat->List D}{m:Nat}(a:∀ k,(f k).length=m):∀ n:Nat,((gs n).map f).flatten.length=n * m
 | 0=>by simp
 | n + 1=>by rw[<- yE,cn,oF a n,a,an7,Nat.one_mul]
section
variable {mg:SV0}{a:Ad}
noncomputable def whD (d:D)(lo a:Int):Bool:=match d with
 | .int i=>decide (lo<=i) && decide (i<=a)
 | _=>false
def JH:S3:=λΓ Q=>∃ (d:D) (lo hi:Int),Γ=[some (.fz d),some (.fz (.int lo)),some (.fz (.int hi))]/\knD d=true/\Q (.fz (.bl (whD d lo hi))) Γ
theorem iu(T:Txt K mg a):aT P w K mg base CX0 1 a.wZ a.uQ ["thing","low","high"] (sp3 K 3 JH):=by
 refine ok3 T.bJ.F AN (hbody:=λe A b s H E f=>#[_,_,(ak (bL (P3W.pt (cM (cC (aJ (Vc T.ty) T.z_isinstance (af (bv 0) (af (P3.opd (yk (n:="bool") T.z_bool)) ag)))) (cB (cj (cC (aJ (Vb T.ty) T.z_isinstance (af (bv 0) (af (P3.opd (yk (n:="int") T.z_int)) ag)))))))) (ax (aG fB)) aX)
   (ax (aG (Hq oR oR (bv 1) (bv 0) (bv 2))))),λc Q h g=>?_])
 let#[d,lo,j,rfl,hk,q]:=h;cases d <;> (try cases hk) <;> ext <;> (try exact q)
 rename_i i;by_cases h:lo<=i
 .simp only[jT,h,decide_true];simpa only[whD,h,decide_true,Bool.true_and] using q
 .simp only[jT,h,decide_false];simpa only[whD,h,decide_false,ap2] using q
def HD:S3:=λΓ Q=>∃ (d:D),Γ=[some (.fz d)]/\knD d=true/\Q (.fz (.bl (whD d (-999999999999999) 999999999999999))) Γ
theorem zR(T:Txt K mg a):aT P w K mg base CX0 2 a.uZ a.sM ["thing"] (sp3 K 1 HD):=by
 refine ok3 T.j6.F zk (hbody:=λf A b s H E e=>#[_,_,(ax (aG (aH (iu T) e.dn T.bJ.m T.bJ.F.kp T.bJ.b (af (P3.opd (p3v 0)) (af (P3.opd (zH (P3.opd (jg (i:=999999999999999) T.qB)))) (af (P3.opd (jg (i:=999999999999999) T.qB)) ag)))))),λc Q h g=>?_]);let#[d,rfl,hk,q]:=h;ext;exact#[d,_,_,rfl,hk,q]
theorem JI{n:Int}(h:-1000000000000000 < n/\n < 1000000000000000):whD (.int n) (-999999999999999) 999999999999999=true:=by
 simp only[whD,eN,decide_eq_true_eq];lia
def SQ:S3:=λΓ Q=>∃ (ns:Li0) (a:Int),Γ=[some (.fz (il ns)),some (.fz (.int a))]/\Fig ns/\ns.length<=64/\a<=(ns.length:Int)/\Q (.fz (.bl true)) Γ
theorem E6(T:Txt K mg a):aT P w K mg base CX0 3 a.Bq a.yF ["thing","least"] (sp3 K 2 SQ):=by
 refine ok3 T.rE.F EH (hbody:=λp A g s H E l=>#[_,_,(ak (bL (P3W.pt (cM (cj (cC (aJ (NM T.ty) T.z_isinstance (af (bv 0) (af (P3.opd (yk (n:="list") T.z_list)) ag))))) (cB (cj (pf oR oR (bv 1) (P3.opd (aJ (gv) T.z_len (af (bv 0) ag))) (P3.opd (jg (i:=64) T.oQ))))))) (ax (aG fB)) aX)
   (ax (aG (aJ (BH rfl) T.z_all (af (P3.opd (kB rfl (hU (p3v 0)) tM (λ_ _ _ _ _=>(bB (i:=0) tM.nd rfl (ek rfl))) (λ_ _ _ _ _=>(aH (zR T) l.dn T.j6.m T.j6.F.kp T.j6.b (af (P3.opd (p3v 0)) ag))))) ag))))),λj Q h r=>?_])
 let#[e,c,rfl,m,t,o,q]:=h;ext;rw[lM0,show jT c (e.length:Int)=true by simp only[jT,o,decide_true],show jT (e.length:Int) 64=true by simp only[jT,decide_eq_true_eq];lia];ext;refine#[small (by rw[lM0];lia),iz (λk f b=>f=(gs k).map (λ_=>D.bl true)/\∃ s,b=[fo s]) #[rfl,none,rfl] ?_ ?_]
 .rintro k d f b hd hk ⟨rfl,s,rfl⟩;let#[lt,rfl]:=ints_get hd;ext;refine#[_,rfl,rfl,?_];rw[JI (LY m lt)];ext;exact#[snoc rfl,some _,rfl]
 .rintro f b hk ⟨rfl,s,rfl⟩;ext;refine#[(gs e.length).map λ_=>true,by rw[lM0,Gc];rfl,?_];have:((gs e.length).map λ_=>true).all id=true:=by simp
  rw[this];exact q
inductive Rl where
 | sum | half | guess | lean
noncomputable def Rl.cls (a:Ad):Rl->Addr
 | .sum=>a.dY | .half=>a.cu | .guess=>a.bR | .lean=>a.bQ
noncomputable abbrev Rl.ob (a:Ad)(R:Rl):D:=.ins (R.cls a) [] []
noncomputable def Rl.num:Rl->Nat
 | .sum=>0 | .half=>1 | .guess=>2 | .lean=>3
noncomputable def Rl.word:Rl->Str
 | .sum=>"sum" | .half=>"half" | .guess=>"guess" | .lean=>"lean"
def mv (x:Str):S3:=λΓ Q=>∃ d,Γ=[some (.fz d)]/\Q (.fz (.str x)) Γ
theorem mU(T:Txt K mg a):aT P w K mg base CX0 1 a.oO a.sV ["self"] (sp3 K 1 (mv "sum")):=by
 refine ok3 T.kf.F zr (hbody:=λe A b s H E f=>#[_,_,(ax (aG aq)),λc Q h g=>?_]);let#[d,rfl,q]:=h;ext;exact q
theorem jG(T:Txt K mg a):aT P w K mg base CX0 1 a.lq a.oK ["self"] (sp3 K 1 (mv "half")):=by
 refine ok3 T.gU.F wc (hbody:=λe A b s H E f=>#[_,_,(ax (aG aq)),λc Q h g=>?_]);let#[d,rfl,q]:=h;ext;exact q
theorem iK(T:Txt K mg a):aT P w K mg base CX0 1 a.jW a.nE ["self"] (sp3 K 1 (mv "guess")):=by
 refine ok3 T.fK.F vn (hbody:=λe A b s H E f=>#[_,_,(ax (aG aq)),λc Q h g=>?_]);let#[d,rfl,q]:=h;ext;exact q
theorem iJ(T:Txt K mg a):aT P w K mg base CX0 1 a.jV a.nD ["self"] (sp3 K 1 (mv "lean")):=by
 refine ok3 T.fJ.F vm (hbody:=λe A b s H E f=>#[_,_,(ax (aG aq)),λc Q h g=>?_]);let#[d,rfl,q]:=h;ext;exact q
def J6 (a:Ad):S3:=λΓ Q=>Γ=[]/\Q (.fr (.lst [Rl.sum.ob a,Rl.half.ob a,Rl.guess.ob a,Rl.lean.ob a])) Γ
theorem zU(T:Txt K mg a):aT P w K mg base CX0 1 a.u7 a.sP [] (sp3 K 0 (J6 a)):=by
 refine ok3 T.j9.F zo (hbody:=λd A b s H E e=>#[_,_,(ax (aG (bx (ae (ph T.mk_Sums T.Lw) (ae (ph T.mk_Halves T.Fh) (ae (ph T.mk_Guessed T.CI) (ae (ph T.mk_Leaning T.CH) aA))))))),λc Q h f=>?_]);let#[rfl,q]:=h;ext;exact#[by rw[ff];lia,q]
def Rl.sel (R:Rl)(d c b a:S3):S3:=match R with
 | .sum=>d | .half=>c | .guess=>b | .lean=>a
theorem uf{m:Str}{x1 x2 x3 b:S3}{t3:gy}{s:Tag (m,n,x1,x2,x3,b)}{t:Tag (o3,t3,Q)}(R:Rl)(h:lO (R.cls a) m n (R.sel x1 x2 x3 b) o3 t3 Γ Q):or4 a.dY a.cu a.bR a.bQ m n x1 x2 x3 b o3 t3 Γ Q s t:=by
 cases R
 .exact .inl h
 .exact .inr (.inl h)
 .exact .inr (.inr (.inl h))
 .exact .inr (.inr (.inr h))
theorem EF(R:Rl):R.sel (mv (ah "sum")) (mv (ah "half")) (mv (ah "guess")) (mv (ah "lean"))=mv R.word:=by cases R <;> rfl
def OE:S3:=λΓ Q=>∃ h w:Int,Γ=[some (.fz (.int h)),some (.fz (.int w))]/\((gQ h w/\Q (.fz (.bl true)) Γ)\/(¬ gQ h w/\Q (.fz (.bl false)) Γ))
theorem wC(T:Txt K mg a):aT P w K mg base CX0 2 a.yH a.wX ["height","width"] (sp3 K 2 OE):=by
 refine ok3 T.gC.F Cb (hbody:=λl A d s H E e=>#[_,_,(ak (bL (P3W.pt (cM (cj (cC (aH (iu T) e.dn T.bJ.m T.bJ.F.kp T.bJ.b (af (P3.opd (p3v 0)) (af V5 (af (P3.opd (jg (i:=64) T.oQ)) ag)))))) (cB (cj (cC (aH (iu T) e.dn T.bJ.m T.bJ.F.kp T.bJ.b (af (P3.opd (p3v 1)) (af V5 (af (P3.opd (jg (i:=64) T.oQ)) ag))))))))) (ax (aG fB)) aX)
   (ax (aG (dP oR (P3.opd (oh (bv 0) (bv 1))) (P3.opd (jg (i:=512) T.xT)) (aL _))))),λk Q h m=>?_])
 let#[h,w,rfl,q]:=h;have b:∀ c:Bool,(c=true↔gQ h w)->Q (.fz (.bl c)) [some (.fz (.int h)),some (.fz (.int w))]:=λc f=>by
  rcases q with ⟨z,q⟩ | ⟨z,q⟩
  .rw[f.mpr z];exact q
  .have:c=false:=by cases c with
    | false=>rfl
    | true=>exact absurd (f.mp rfl) z
   rw[this];exact q
 clear q
 ext;refine#[_,_,_,rfl,rfl,?_];cases j:whD (.int h) 1 64
 .ext;refine b false #[λz=>YV z,λz=>?_];have:whD (.int h) 1 64=true:=by have:=z.h1;have:=z.h2;simp only[whD,eN,decide_eq_true_eq];lia
  rw[j] at this;cases this
 ext;refine#[_,_,_,rfl,rfl,?_];cases g:whD (.int w) 1 64
 .ext;refine b false #[λz=>YV z,λz=>?_];have:whD (.int w) 1 64=true:=by have:=z.w1;have:=z.w2;simp only[whD,eN,decide_eq_true_eq];lia
  rw[g] at this;cases this
 ext;simp only[whD,eN,decide_eq_true_eq] at j g;refine#[.inl #[by lia,by lia],b _ #[λz=>#[by lia,by lia,by lia,by lia,by simpa only[jT,decide_eq_true_eq] using z],λz=>by simpa only[jT,decide_eq_true_eq] using z.m]]
theorem W0:(gs n).map (λ_=>D.bl true)=((gs n).map λ_=>true).map D.bl:=by rw[Gc];rfl
theorem all_true:((gs n).map λ_=>true).all id=true:=by simp
structure GR (w:Nat) (R:LL0):Prop where
 h1:1<=R.length
 h2:R.length<=64
 w1:1<=w
 w2:w<=64
 all:R.length * w<=512
 len:∀ r∈R,r.length=w
 fig:∀ r∈R,Fig r
noncomputable abbrev rD (R:LL0):D:=.lst (R.map il)
noncomputable abbrev tD (r:Li0):D:=.tup (r.map .int)
noncomputable abbrev fD (a:Ad)(R:LL0):D:=.ins a.cx ["grid"] [.tup (R.map tD)]
def OK:S3:=λΓ Q=>∃ (w:Nat) (R:LL0),Γ=[some (.fz (rD R))]/\GR w R/\Q (.fz (.bl true)) Γ
theorem GR.at0{w:Nat}{R:LL0}(g:GR w R):∃ r,R[0]?=some r/\r∈R/\r.length=w:=by
 have h:=g.h1;exact#[R[0],gE0 (by lia),YW _,g.len _ (YW _)]
theorem Bb(T:Txt K mg a):aT P w K mg base CX0 4 a.w_ a.uT ["thing"] (sp3 K 1 OK):=by
 refine ok3 T.mi.F uJ (hbody:=λu A l s H E e=>#[_,_,(ak (bL (P3W.pt (cM (cj (cC (aJ (NM T.ty) T.z_isinstance (af (bv 0) (af (P3.opd (yk (n:="list") T.z_list)) ag))))) (cB (aE (bF e) (P3.opd (aJ (gv) T.z_len (af (bv 0) ag))) V5 (aL _))))) (ax (aG fB)) aX)
   (ak (bL (cj (cC (aJ (BH rfl) T.z_all (af (P3.opd (kB rfl (hU (p3v 0)) oV (λ_ _ _ _ _=>(bB (i:=0) oV.nd rfl (ek rfl))) (λ_ _ _ _ _=>(aH (E6 T) e.dn T.rE.m T.rE.F.kp T.rE.b (af (P3.opd (p3v 0)) (af V5 ag)))))) ag)))) (ax (aG fB)) aX)
   (ak (aM (i:=1) uJ.nd rfl (al7 rfl) (aJ (gv) T.z_len (af (P3.opd (bg (bv 0) V5)) ag)))
   (ax (aG (zK (aH (wC T) e.dn T.gC.m T.gC.F.kp T.gC.b (af (P3.opd (aJ (gv) T.z_len (af (bv 0) ag))) (af (P3.opd (p3v 1)) ag))) (zG (aJ (BH rfl) T.z_all (af (P3.opd (kB rfl (hU (p3v 0)) oW (λ_ _ _ _ _=>(bB (i:=0) oW.nd rfl (ek rfl))) (λ_ _ _ _ _=>(dP (bF e) (P3.opd (aJ (gv) T.z_len (af (bv 0) ag))) (bv 1) (aL _))))) ag))))))))),λm Q h v=>?_])
 let#[w,R,rfl,g,q]:=h;have y:=g.h1;have x:=g.h2;let#[o,t,p,c]:=g.at0;ext;rw[lM0,show ((R.length:Int) == 0)=false by rw[beq_eq_false_iff_ne];lia];ext;refine#[small (by rw[lM0];lia),iz (λk f b=>f=(gs k).map (λ_=>D.bl true)/\∃ s,b=[fo s]) #[rfl,none,rfl] ?_ ?_]
 .rintro k d f b hd hk ⟨rfl,s,rfl⟩;let#[r,e,rfl]:=xq hd;have j:=hF e;ext;refine#[r,1,rfl,g.fig r j,by rw[g.len r j];exact g.w2,by rw[g.len r j];have:=g.w1;lia,?_];ext;exact#[snoc rfl,some _,rfl]
 .rintro f b hk ⟨rfl,s,rfl⟩;ext;refine#[(gs R.length).map λ_=>true,by rw[lM0,Gc];rfl,?_];rw[all_true];ext;refine jJ.mpr #[il o,iD (by decide) (by rw[ef,show (an2 0)=0 from rfl,t];rfl),?_];ext;refine#[_,_,rfl,.inl #[#[by rw[lM0];lia,by rw[lM0,c];have:=g.w1;lia,by rw[lM0];lia,by rw[lM0,c];have:=g.w2;lia,by rw[lM0,lM0,c];have:=g.all;exact_mod_cast this],?_]];ext;refine#[small (by rw[lM0];lia),iz (λk f b=>f=(gs k).map (λ_=>D.bl true)/\∃ s,b=[fo s,some (.fz (.int w))]) #[rfl,none,by rw[lM0,c];rfl] ?_ ?_]
  .rintro k d f b hd hk ⟨rfl,s,rfl⟩;let#[r,e,rfl]:=xq hd;have j:=hF e;ext;rw[lM0,g.len r j];ext;exact#[snoc rfl,some _,rfl]
  .rintro f b hk ⟨rfl,s,rfl⟩;ext;refine#[(gs R.length).map λ_=>true,by rw[lM0,Gc];rfl,?_];rw[all_true];exact q
def Qo (a:Ad):S3:=λΓ Q=>∃ (w:Nat) (R:LL0),Γ=[some (.ln (.ins a.cx [] [])),some (.fz (rD R))]/\GR w R/\Q (.fz .non) [some (.ln (fD a R)),some (.fz (rD R))]
theorem sk(T:Txt K mg a):aT P w K mg base CX0 5 a.gO a.kN ["self","rows"] (sp3 K 2 (Qo a)):=by
 refine ok3 T.lI.F rQ (hbody:=λl A e s H E f=>#[_,_,(ak (bL (cj (cC (aH (Bb T) f.dn T.mi.m T.mi.F.kp T.mi.b (af (P3.opd (p3v 1)) ag)))) (ax dv) aX)
   (ax (eD (C0:=a.cx) 0 T.tJ T.qb (bv 0) (ba (Aj) T.z_tuple (af (P3.opd (kB rfl (hU (p3v 1)) iB (λ_ _ _ _ _=>(bB (i:=0) iB.nd rfl (ek rfl))) (λ_ _ _ _ _=>(ba (Aj) T.z_tuple (af (bv 0) ag))))) ag))))),λj Q h m=>?_])
 let#[w,R,rfl,g,q]:=h;have n:=g.h2;ext;refine#[w,R,rfl,g,?_];ext;refine#[small (by rw[lM0];lia),iz (λk c b=>c=(R.take k).map tD/\∃ s,b=[fo s]) #[rfl,none,rfl] ?_ ?_]
 .rintro k d c b hd hk ⟨rfl,s,rfl⟩;let#[r,f,rfl]:=xq hd;ext;exact#[by rw[take_snoc f,hD];rfl,some _,rfl]
 .rintro c b hk ⟨rfl,s,rfl⟩;ext;rw[pa (by rw[lM0];exact cc _)];exact q
def LU (a:Ad):S3:=λΓ Q=>∃ (w:Nat) (R:LL0),Γ=[some (.fz (fD a R))]/\GR w R/\Q (.fr (rD R)) Γ
theorem p_(T:Txt K mg a):aT P w K mg base CX0 1 a.m9 a.qv ["self"] (sp3 K 1 (LU a)):=by
 refine ok3 T.mr.F xC (hbody:=λm A e s H E j=>#[_,_,(ax (aG (kB rfl (Qw (by rfl) (bD (f:="grid") (bv 0) T.tJ T.qb)) lZ (λ_ _ _ _ _=>(bB (i:=0) lZ.nd rfl (ek rfl))) (λ_ _ _ _ _=>(ba (Jc (by rfl)) T.z_list (af (bv 0) ag)))))),λl Q h n=>?_]);let#[w,R,rfl,g,q]:=h;have o:=g.h2;ext;refine#[Gr (by rw[lM0];lia),iz (λk c b=>c=(R.take k).map il/\∃ s,b=[fo s]) #[rfl,none,rfl] ?_ ?_]
 .rintro k d c b hd hk ⟨rfl,s,rfl⟩;let#[r,j,rfl]:=xq hd;ext;exact#[by rw[take_snoc j,hD];rfl,some _,rfl]
 .rintro c b hk ⟨rfl,s,rfl⟩;ext;rw[pa (by rw[lM0];exact cc _)];exact q
theorem P6{ys:List V}(h:ys.length=1):∃ y,ys=[y]:=by
 match ys,h with
 | [y],_=>exact#[y,rfl]
theorem We{ys:List V}(h:ys.length=2):∃ y z,ys=[y,z]:=by
 match ys,h with
 | [y,z],_=>exact#[y,z,rfl]
theorem cm(T:Txt K mg a):qD P w K mg base 1 a.cG a.fH ["self","words"] (VN K):=by
 refine T.aU.F.okH lJ (λd H Q E h=>by let#[e,C,c,y,rfl,_]:=h;rfl) λg A b s H d Q E j h=>#[_,mP (mQ (G_ (by rfl) T.z_ValueError (cf (du (i:=0) rfl (.inl rfl)) (cf (du (i:=1) rfl (.inl rfl)) fm)))),?_];let#[e,C,c,y,rfl,mk,q,f]:=h;exact#[.ref e,rfl,y,rfl,e,C,c,y,rfl,mk,q,f]
theorem iX(T:Txt K mg a):qD P w K mg base 2 a.dH a.ft ["self","found"] (v5 K a.bX ["found"]):=by
 refine T.cU.F.okH qK (λg H Q E h=>by let#[e,f,rfl,c,_]:=h;simpa using c) λm A b s H g Q E k h=>#[_,ij (mQ (rY T.LK T.LL T.LM T.aU.F.kp T.dU (cm T) k T.aU.b (cf (du (i:=0) rfl (.inl rfl)) (cf wu fm))))
  (mP (rS (du (i:=0) rfl (.inl rfl)) (du (i:=1) rfl (.inl rfl)))),?_]
 let#[e,f,rfl,c,q,l]:=h;let#[y,rfl]:=P6 c;exact#[.ref e,rfl,e,a.bX,none,_,rfl,T.bM.xm.makes,q,y,rfl,.ref e,rfl,e,a.bX,rfl,T.bM.cl,T.bM.tk _ (.head _),.inl #[q,λd hd j=>l d hd j]]
theorem fq(T:Txt K mg a):aT P w K mg base CX0 2 a.dH a.ft ["self","found"] (v5 K a.bX ["found"]):=(iX T).ok
theorem qW(T:Txt K mg a):aT P w K mg base CX0 2 a.gq a.jS ["self","found"] (v5 K a.bI ["found"]):=by
 refine(T.ki.F.okH qJ (λg H Q E h=>by let#[e,f,rfl,c,_]:=h;simpa using c) λm A b s H g Q E k h=>#[_,ij (mQ (rY T.LK T.LL T.LM T.aU.F.kp T.dU (cm T) k T.aU.b (cf (du (i:=0) rfl (.inl rfl)) (cf wu fm))))
  (mP (rS (du (i:=0) rfl (.inl rfl)) (du (i:=1) rfl (.inl rfl)))),?_]).ok
 let#[e,f,rfl,c,q,l]:=h;let#[y,rfl]:=P6 c;exact#[.ref e,rfl,e,a.bI,none,_,rfl,T.lD.xm.makes,q,y,rfl,.ref e,rfl,e,a.bI,rfl,T.lD.cl,T.lD.tk _ (.head _),.inl #[q,λd hd j=>l d hd j]]
theorem kD(T:Txt K mg a):aT P w K mg base CX0 2 a.gN a.kM ["self","found"] (v5 K a.bW ["found"]):=by
 refine(T.gD.F.okH rP (λg H Q E h=>by let#[e,f,rfl,c,_]:=h;simpa using c) λm A b s H g Q E k h=>#[_,ij (mQ (rY T.LK T.LL T.LM T.aU.F.kp T.dU (cm T) k T.aU.b (cf (du (i:=0) rfl (.inl rfl)) (cf wu fm))))
  (mP (rS (du (i:=0) rfl (.inl rfl)) (du (i:=1) rfl (.inl rfl)))),?_]).ok
 let#[e,f,rfl,c,q,l]:=h;let#[y,rfl]:=P6 c;exact#[.ref e,rfl,e,a.bW,none,_,rfl,T.lC.xm.makes,q,y,rfl,.ref e,rfl,e,a.bW,rfl,T.lC.cl,T.lC.tk _ (.head _),.inl #[q,λd hd j=>l d hd j]]
theorem JL{d e:Addr}{f g:Str}{y z:V}(h:d≠e)(i:j0 g z [(f,y)]=[(f,y),(g,z)]):upd (upd (upd H d (XdO d [(f,y)])) e (df e C (some d))) d (XdO d (j0 g z [(f,y)]))=upd (upd H d (XdO d [(f,y),(g,z)])) e (df e C (some d)):=by
 funext b
 by_cases a:b=d
 .subst a;rw[aB,ao h,aB,i]
 .rw[ao a];by_cases c:b=e
  .subst c;rw[aB,aB]
  .rw[ao c,ao c,ao a,ao a]
theorem qV(T:Txt K mg a):aT P w K mg base CX0 2 a.gp a.jR ["self","one","other"] (v5 K a.bH ["one","other"]):=by
 refine(T.kh.F.okH qI (λj H Q E h=>by let#[e,g,rfl,f,_]:=h;simpa using f) λm A c s H j Q E k h=>#[_,ij (mQ (rY T.LK T.LL T.LM T.aU.F.kp T.dU (cm T) k T.aU.b (cf (du (i:=0) rfl (.inl rfl)) (cf wu fm))))
  (ij (rS (du (i:=0) rfl (.inl rfl)) (du (i:=1) rfl (.inl rfl))) (mP (rS (du (i:=0) rfl (.inl rfl)) (du (i:=2) rfl (.inl rfl))))),?_]).ok
 let#[e,g,rfl,f,q,l]:=h;let#[y,z,rfl]:=We f;have x:=T.tZ;refine#[.ref e,rfl,e,a.bH,none,_,rfl,x.xm.makes,q,y,rfl,.ref e,rfl,e,a.bH,rfl,x.cl,x.tk _ (.head _),.inl #[q,λd hd b=>#[z,rfl,.ref e,rfl,e,a.bH,rfl,x.cl,x.tk _ (.tail _ (.head _)),.inr #[d,[("one",y)],aB,?_,b,(show 1 < 1000 by decide),?_]]]]
 .rw[ao b,aB]
 .have:=l d hd b;rw[JL b rfl];exact this
theorem hpO{Q₁:VS0}{a:VS0}:am1 M A env (λe s'=>wpAny M A (leaving env e) (λ_ b=>Q₁ e b) a s'):=PassesOwn.leaving
def As (z:Str):Prop:=∀ c∈sg z,32<=c/\c<=126
theorem uD(h:As z):asc z=true:=by
 unfold asc;rw[<- Array.all_toList,XO];intro k hk;let#[_,b]:=h k hk;simp;lia
theorem Rl.vV{R S:Rl}(h:R.word=S.word):R=S:=by
 cases R <;> cases S <;> first | rfl | exact absurd h (by decide +kernel)
noncomputable def J7 (a:Ad):S3X:=λΓ Q W=>∃ z:Str,Γ=[some (.fz (.str z))]/\(∀ R:Rl,z=R.word->Q (.fz (R.ob a)) Γ)/\((∀ R:Rl,z≠R.word)->W #[a.bI,["found"],[.str z]] Γ)
theorem zP(T:Txt K mg a):aT P w K mg base (CX1 P w base) 5 a.yG a.wW ["word"] (rK K 1 (J7 a)):=by
 refine E7 T.oY.F wa (hbody:=λm A f s H E b=>#[_,_,(λB p W j=>(cP (P3S.x (P3S.calm (fV rr rfl (hU (Hr (by rfl) (zU T) b.dn (by rfl) T.j9.m T.j9.F.kp T.j9.b)) (bB (i:=1) wa.nd rfl (ek rfl))
   (ax (bL (aE (bF b) (P3.opd (P3.or (aK (bv 1) T.Ac T.mX (mU T) b.dn T.kf.b) (P3.or (aK (bv 1) T.uy T.jI (jG T) b.dn T.gU.b) (P3.or (aK (bv 1) T.rm T.iM (iK T) b.dn T.fK.b) (aK (bv 1) T.rl T.iL (iJ T) b.dn T.fJ.b))))) (bv 0) (aL _)) (ax (aG (Cm 1))) aX)))))
   (jx (jw j T.lD.xm (qW T) b.dn T.yr T.ki.b mO (ae (p3v 0) aA))))),λg Q o h n=>?_])
 let#[z,rfl,q,l]:=h;ext;refine#[rfl,?_];ext;refine cN (λk c=>(∀ R:Rl,R.num < k->z≠R.word)/\∃ s,c=[some (.fz (.str z)),fo s]) #[λ_ h=>absurd h (ao8 _),none,rfl] ?_ ?_
 .rintro k d c hd ⟨hk,s,rfl⟩
  match k,hd with
  | 0,hd=>
   cases hd;ext;refine uf .sum ?_;rw[EF];ext;refine#[_,rfl,?_];ext;refine iC (λe=>?_) (λe=>?_)
   .ext;exact q .sum (beq_iff_eq.mp e).symm
   .ext;exact#[λR hR y=>by cases R <;> first | exact absurd hR (by decide) | exact absurd (beq_iff_eq.mpr y.symm) (by rw[e];decide),some _,rfl]
  | 1,hd=>
   cases hd;ext;refine uf .half ?_;rw[EF];ext;refine#[_,rfl,?_];ext;refine iC (λe=>?_) (λe=>?_)
   .ext;exact q .half (beq_iff_eq.mp e).symm
   .ext;exact#[λR hR y=>by cases R <;> first | exact absurd hR (by decide) | exact hk _ (by decide) y | exact absurd (beq_iff_eq.mpr y.symm) (by rw[e];decide),some _,rfl]
  | 2,hd=>
   cases hd;ext;refine uf .guess ?_;rw[EF];ext;refine#[_,rfl,?_];ext;refine iC (λe=>?_) (λe=>?_)
   .ext;exact q .guess (beq_iff_eq.mp e).symm
   .ext;exact#[λR hR y=>by cases R <;> first | exact absurd hR (by decide) | exact hk _ (by decide) y | exact absurd (beq_iff_eq.mpr y.symm) (by rw[e];decide),some _,rfl]
  | 3,hd=>
   cases hd;ext;refine uf .lean ?_;rw[EF];ext;refine#[_,rfl,?_];ext;refine iC (λe=>?_) (λe=>?_)
   .ext;exact q .lean (beq_iff_eq.mp e).symm
   .ext;exact#[λR hR y=>by cases R <;> first | exact hk _ (by decide) y | exact absurd (beq_iff_eq.mpr y.symm) (by rw[e];decide),some _,rfl]
 .rintro c ⟨hk,s,rfl⟩;ext;exact l λR=>hk R (by show R.num < 4;cases R <;> decide)
noncomputable def rn (c:Nat)(h w:Int):Bool:=!(isR c && pP w 2) && (!(isP c && pP h 2) && (isR c || isP c))
def U_:S3:=λΓ Q=>∃ (c:Nat) (h w:Int),Γ=[some (.fz (.str (sgn c))),some (.fz (.int h)),some (.fz (.int w))]/\Q (.fz (.bl (rn c h w))) Γ
theorem zS(T:Txt K mg a):aT P w K mg base CX0 1 a.u6 a.sO ["letter","height","width"] (sp3 K 3 U_):=by
 refine ok3 T.j8.F zm (hbody:=λm A d s H E n=>#[_,_,(ak (bL (P3W.pt (kz (aE (tL) (bv 0) (P3.opd (kA (p:=a.cA) (zs:=["r","b"]) T.jj)) (by with_unfolding_all rfl)) (iq (aE yR (bv 2) V5 (aL _))))) (ax (aG fB)) aX)
   (ak (bL (P3W.pt (kz (aE (tL) (bv 0) (P3.opd (kA (p:=a.bO) (zs:=["p","b"]) T.fe)) (by with_unfolding_all rfl)) (iq (aE yR (bv 1) V5 (aL _))))) (ax (aG fB)) aX)
   (ax (aG (Th (dP (tL) (bv 0) (P3.opd (kA (p:=a.cA) (zs:=["r","b"]) T.jj)) (by with_unfolding_all rfl)) (zG (dP (tL) (bv 0) (P3.opd (kA (p:=a.bO) (zs:=["p","b"]) T.fe)) (by with_unfolding_all rfl)))))))),λl Q h o=>?_])
 let#[c,h,w,rfl,q]:=h;have b:∀ f:Bool,rn c h w=f->Q (.fz (.bl f)) [some (.fz (.str (sgn c))),some (.fz (.int h)),some (.fz (.int w))]:=λf e=>by rw[<- e];exact q
 clear q
 unfold rn at b;obtain⟨r,g⟩:∃ r,isR c=r:=#[_,rfl];obtain⟨p,i⟩:∃ p,isP c=p:=#[_,rfl];obtain⟨x,k⟩:∃ x,pP w 2=x:=#[_,rfl];obtain⟨y,j⟩:∃ y,pP h 2=y:=#[_,rfl];rw[g,i,k,j] at b;cases r <;> cases p <;> cases x <;> cases y <;> (repeat (ext;first | rw[g] | rw[i] | rw[k] | rw[j])) <;> (ext;exact b _ rfl)
theorem Rh{c:Nat}{h w:Int}(e:rn c h w=true):∃ l:Lt,c=l.c/\Can l h w:=by
 unfold rn at e;simp only[eN,al4,Wg,Bool.and_eq_false_iff] at e;let#[h1,h2,h3]:=e;have a:isR c=true->2<=w:=λz=>by
  rcases h1 with h1 | h1
  .rw[z] at h1;cases h1
  .have:¬ w < 2:=by simpa only[pP,decide_eq_false_iff_not] using h1
   lia
 have b:isP c=true->2<=h:=λz=>by
  rcases h2 with h2 | h2
  .rw[z] at h2;cases h2
  .have:¬ h < 2:=by simpa only[pP,decide_eq_false_iff_not] using h2
   lia
 by_cases g:c=114
 .subst g;exact#[.r,rfl,λ_=>a rfl,λz=>absurd rfl z]
 .by_cases f:c=112
  .subst f;exact#[.p,rfl,λz=>absurd rfl z,λ_=>b rfl]
  .by_cases d:c=98
   .subst d;exact#[.b,rfl,λ_=>a rfl,λ_=>b rfl]
   .exfalso;rcases h3 with h3 | h3
    .simp only[isR,Wg,beq_iff_eq] at h3;lia
    .simp only[isP,Wg,beq_iff_eq] at h3;lia
theorem BF{l:Lt}{h w:Int}(g:Can l h w):rn l.c h w=true:=by
 let#[d,c]:=g;have a:l≠.p->pP w 2=false:=λz=>by have:=d z;simp only[pP,decide_eq_false_iff_not];lia
 have b:l≠.r->pP h 2=false:=λz=>by have:=c z;simp only[pP,decide_eq_false_iff_not];lia
 cases l
 .unfold rn;rw[a (by decide)];rfl
 .unfold rn;rw[b (by decide)];rfl
 .unfold rn;rw[a (by decide),b (by decide)];rfl
theorem wK{l m:Lt}(h:l.c=m.c):l=m:=by cases l <;> cases m <;> first | rfl | exact absurd h (by decide)
theorem nO(ls:List Lt):sg (wy ls)=ls.map Lt.c:=rfl
theorem FR{xs ys:List Lt}(h:wy xs=wy ys):xs=ys:=by
 have e:xs.map Lt.c=ys.map Lt.c:=by rw[<- nO,<- nO,h]
 exact(Yp λ_ _ q=>wK q).mp e
theorem yN:∀ {ls:List Lt} {h w:Int} {l:Lt},pQ h w (ls++[l])=pQ h w ls++[(nh l (cat h w ls ls.length).1,nw l (cat h w ls ls.length).2)]
 | [],_,_,_=>rfl
 | m::ls,h,w,l=>by
  show (h,w)::pQ (nh m h) (nw m w) (ls++[l])=(h,w)::(pQ (nh m h) (nw m w) ls++_);rw[yN];rfl
theorem pB:∀ {ls:List Lt} {h w:Int} {l:Lt},Good h w ls->Can l (cat h w ls ls.length).1 (cat h w ls ls.length).2->Good h w (ls++[l])/\cat h w (ls++[l]) (ls++[l]).length=(nh l (cat h w ls ls.length).1,nw l (cat h w ls ls.length).2)
 | [],h,w,l,g,c=>#[#[c,trivial],rfl]
 | m::ls,h,w,l,g,c=>by
  let#[a,i2]:=pB (ls:=ls) (h:=nh m h) (w:=nw m w) (l:=l) g.2 c;exact#[#[g.1,a],i2]
theorem uu:∀ {k:Nat} {ls:List Lt} {h w:Int},Good h w ls->k < ls.length->Good h w (ls.take k)/\cat h w (ls.take k) k=cat h w ls k
 | 0,ls,h,w,_,_=>#[trivial,by rw[aq2,qz,qz]]
 | k + 1,[],_,_,_,hk=>absurd hk (by simp)
 | k + 1,l::ls,h,w,g,hk=>by
  let#[a,b]:=uu (k:=k) (ls:=ls) g.2 (by simpa using hk);exact#[#[g.1,a],b]
noncomputable def L9 (a:Ad):S3X:=λΓ Q W=>∃ (h w:Int) (z:Str),Γ=[some (.fz (.int h)),some (.fz (.int w)),some (.fz (.str z))]/\As z/\z.length<=1000/\
 (∀ ls,z=wy ls->Good h w ls->Q (.fz (.tup ((pQ h w ls).map cD))) Γ)/\((∀ ls,z=wy ls->¬ Good h w ls)->W #[a.bW,["found"],[.str z]] Γ)
theorem um{b:Type}{l:List b}{a:b}(h:l[k]?=some a):k < l.length:=(gS0 h).1
theorem l9{d:D}(h:(signs z)[k]?=some d):∃ c,(sg z)[k]?=some c/\d=.str (sgn c):=by
 let#[c,a,rfl]:=xq (f:=λc=>D.str (sgn c)) (l:=sg z) h;exact#[c,a,rfl]
theorem kj(z:Str):(signs z).length=(sg z).length:=by rw[t9];rfl
theorem VP{l:Lt}:isR l.c=!(l == .p):=by cases l <;> decide
theorem O2{l:Lt}:isP l.c=!(l == .r):=by cases l <;> decide
theorem vt(T:Txt K mg a):aT P w K mg base (CX1 P w base) 5 a.sY a.qi ["height","width","way"] (rK K 3 (L9 a)):=by
 refine E7 T.i5.F eT (hbody:=λV A x s H E C=>#[_,_,(λB F0 W J=>(cP (xW (cj (cC (aJ (NK T.tys) T.z_isinstance (af (bv 2) (af (P3.opd (yk (n:="str") T.z_str)) ag))))) (jx (jw J T.lC.xm (kD T) C.dn T.wJ T.gD.b mO (ae (p3v 2) aA))) (aX).x)
   (cP (P3S.x (aM (i:=3) eT.nd rfl (ek rfl) (bx (ae (cF (ae (p3v 0) (ae (p3v 1) aA))) aA))))
   (cP (NV hpO rfl (ur (p3v 2)) (bB (i:=4) eT.nd rfl (ek rfl))
   (cP (xW (cj (cC (aH (zS T) C.dn T.j8.m T.j8.F.kp T.j8.b (af (P3.opd (p3v 4)) (af (P3.opd (p3v 0)) (af (P3.opd (p3v 1)) ag)))))) (jx (jw J T.lC.xm (kD T) C.dn T.wJ T.gD.b mO (ae (p3v 2) aA))) (aX).x)
   (lB.x (ak (bL (aE (tL) (bv 4) (P3.opd (kA (p:=a.cA) (zs:=["r","b"]) T.jj)) (by with_unfolding_all rfl)) (ax (aM (i:=1) eT.nd rfl (ek rfl) (g8 (P3.opd (aO (bv 1) V5)) V5))) aX)
   (ak (bL (aE (tL) (bv 4) (P3.opd (kA (p:=a.bO) (zs:=["p","b"]) T.fe)) (by with_unfolding_all rfl)) (ax (aM (i:=0) eT.nd rfl (ek rfl) (g8 (P3.opd (aO (bv 0) V5)) V5))) aX)
   (ax (gZ (lM 3 (bv 3) (cF (ae (p3v 0) (ae (p3v 1) aA)))))))))))
   (lB.x (ax (aG (ba (Aj) T.z_tuple (af (bv 3) ag))))))))),λN Q W3 h Z=>?_])
 let#[h,w,z,rfl,R,Y,q,O]:=h;ext;refine#[by rw[ff];lia,by rw[ff];lia,?_];refine#[uD R,cN (λk v=>∃ ls s,(sg z).take k=ls.map Lt.c/\ls.length=k/\k<=z.length/\Good h w ls/\v=[some (.fz (.int (cat h w ls ls.length).1)),some (.fz (.int (cat h w ls ls.length).2)),some (.fz (.str z)),some (.ow (.lst ((pQ h w ls).map cD))),fo s]) #[[],none,rfl,rfl,rx _,trivial,rfl] ?_ ?_]
 .rintro k d v hd ⟨ls,s,b,hk,F,g,rfl⟩;let#[c,G,rfl]:=l9 hd;have lt:=um G;rw[aQ] at lt;ext;refine#[c,_,_,rfl,?_];cases M:rn c (cat h w ls ls.length).1 (cat h w ls ls.length).2
  .ext;refine O λm e L=>?_;subst e;have j:m[k]?.map Lt.c=some c:=by rw[<- ef];exact G
   cases o:m[k]? with
   | none=>rw[o] at j;cases j
   | some l=>
    rw[o] at j;have D:l.c=c:=gT j;have kl:=um o;have S:m.take k=ls:=(Yp λ_ _ q=>wK q).mp (by rw[<- b,nO,List.map_take]);let#[_,U]:=uu L kl;have t:=vO L o;rw[<- U,S] at t;have:=BF t;rw[D,<- hk,M] at this;cases this
  .let#[l,rfl,t]:=Rh M;let#[I,u]:=pB g t;have r:=yN (h:=h) (w:=w) (ls:=ls) (l:=l);have y:(sg z).take (k + 1)=(ls++[l]).map Lt.c:=by rw[take_snoc G,b,hD];rfl
   have z2:(2:Nat)<=sizeLine:=by rw[ff];lia
   have z3:((pQ h w ls).map cD).length < sizeLine:=by rw[lM0,tH,ff];lia
   ext;rw[VP];generalize cat h w ls ls.length=X at u r ⊢;let#[H,W]:=X;cases l
   .have f:cat h w (ls++[Lt.r]) (ls++[Lt.r]).length=(H,(W + 1) / 2):=u;ext;refine#[#[by decide,by decide],?_];rw[O2];ext;refine#[z2,z3,ls++[Lt.r],some (.str (sgn Lt.r.c)),y,by rw[cn];simp [hk],lt,I,?_];rw[f,r,hD];rfl
   .have f:cat h w (ls++[Lt.p]) (ls++[Lt.p]).length=((H + 1) / 2,W):=u;ext;rw[O2];ext;refine#[#[by decide,by decide],?_];ext;refine#[z2,z3,ls++[Lt.p],some (.str (sgn Lt.p.c)),y,by rw[cn];simp [hk],lt,I,?_];rw[f,r,hD];rfl
   .have f:cat h w (ls++[Lt.b]) (ls++[Lt.b]).length=((H + 1) / 2,(W + 1) / 2):=u;ext;refine#[#[by decide,by decide],?_];rw[O2];ext;refine#[#[by decide,by decide],?_];ext;refine#[z2,z3,ls++[Lt.b],some (.str (sgn Lt.b.c)),y,by rw[cn];simp [hk],lt,I,?_];rw[f,r,hD];rfl
 .rintro v ⟨ls,s,b,hk,F,g,rfl⟩;ext;rw[kj,Re] at b;exact q ls (dm (by rw[nO];exact b)) g
noncomputable abbrev plD (a:Ad)(R:Rl)(h w:Int)(ls:List Lt):D:=.ins a.bq ["chosen","corners","letters"] [R.ob a,.tup ((pQ h w ls).map cD),.str (wy ls)]
theorem pd{i:Int}:(rng i n).length=n:=by unfold rng;simp
theorem sH:∀ {ls:List Lt} {h w:Int} {a b:Nat},Good h w ls->h<=2 ^ a->w<=2 ^ b->ls.length<=a + b
 | [],_,_,_,_,_,_,_=>rx _
 | l::ls,h,w,a,b,⟨⟨o,k⟩,g⟩,i,f=>by
  have c:∀ {x:Int} {n:Nat},x<=2 ^ n->2<=x->∃ m,n=m + 1/\(x + 1) / 2<=2 ^ m:=λ{x n} j q=>by
   cases n with
   | zero=>simp at j;lia
   | succ m=>
    have e:(2:Int) ^ (m + 1)=2 ^ m * 2:=Int.pow_succ 2 m;exact#[m,rfl,by rw[e] at j;lia]
  cases l
  .let#[m,rfl,d]:=c f (o (by decide));have:=sH (ls:=ls) g i d;simp only[ed];lia
  .let#[m,rfl,d]:=c i (k (by decide));have:=sH (ls:=ls) g d f;simp only[ed];lia
  .let#[m,rfl,d]:=c f (o (by decide));let#[n,rfl,p]:=c i (k (by decide));have:=sH (ls:=ls) g p d;simp only[ed];lia
theorem yu{h w:Int}{ls:List Lt}(c:gQ h w)(g:Good h w ls):ls.length<=12:=sH (a:=6) (b:=6) g c.h2 c.w2
structure Au (h w:Int) (x z:Str) (R:Rl) (ls:List Lt):Prop where
 sz:gQ h w
 wd:x=R.word
 wy:z=_k.wy ls
 gd:Good h w ls
noncomputable def KC (a:Ad):S3X:=λΓ Q W=>∃ (h w:Int) (x z:Str),Γ=[some (.ln (.ins a.bq [] [])),some (.fz (.int h)),some (.fz (.int w)),some (.fz (.str x)),some (.fz (.str z))]/\As z/\z.length<=1000/\
 (∀ R ls,Au h w x z R ls->Q (.fz .non) [some (.ln (plD a R h w ls)),some (.fz (.int h)),some (.fz (.int w)),some (.fz (.str x)),some (.fz (.str z))])/\
 ((∀ R ls,¬ Au h w x z R ls)->∀ (e:XD) (d:D),e.C∈[a.bH,a.bI,a.bW]->W e [some (.ln d),some (.fz (.int h)),some (.fz (.int w)),some (.fz (.str x)),some (.fz (.str z))])
theorem qU(T:Txt K mg a):aT P w K mg base (CX1 P w base) 6 a.iS a.lU ["self","height","width","word","way"] (rK K 5 (KC a)):=by
 refine E7 T.nq.F ub (hbody:=λv A i s H E d=>#[_,_,(λB D W e=>(cP (xW (cj (cC (aH (wC T) d.dn T.gC.m T.gC.F.kp T.gC.b (af (P3.opd (p3v 1)) (af (P3.opd (p3v 2)) ag))))) (jx (jw e T.tZ.xm (qV T) d.dn T.yq T.kh.b mO (ae (p3v 1) (ae (p3v 2) aA)))) (aX).x)
   (cP (Dm (C0:=a.bq) 0 (by rfl) T.aY T.oo (bv 0) (o8 e (zP T) (dM.of DJ) d.dn T.oY.m T.oY.F.kp T.oY.b (af (P3.opd (p3v 3)) ag)))
   (cP (Dm (C0:=a.bq) 0 (by rfl) T.aY T.cS (bv 0) (o8 e (vt T) (dM.of DJ) d.dn T.i5.m T.i5.F.kp T.i5.b (af (P3.opd (p3v 1)) (af (P3.opd (p3v 2)) (af (P3.opd (p3v 4)) ag)))))
   (lB.x (ax (eD (C0:=a.bq) 0 T.aY T.e_ (bv 0) (p3v 4)))))))),λl Q C h y=>?_])
 let#[h,w,x,z,rfl,t,r,q,f]:=h;ext;refine#[h,w,rfl,?_];by_cases c:gQ h w
 .refine .inl #[c,?_];ext;refine#[x,rfl,λR u=>?_,λn=>?_]
  .ext;refine#[h,w,z,rfl,t,r,λp k g=>?_,λm=>?_]
   .ext;refine#[by decide +kernel,by decide +kernel,?_];have:=q R p #[c,u,k,g];rw[k] at this ⊢;exact this
   .ext;exact f (λj b o=>m b o.wy o.gd) _ _ (by simp)
  .ext;exact f (λj b o=>n j o.wd) _ _ (by simp)
 .refine .inr #[c,?_];ext;exact f (λj b o=>c o.sz) _ _ (by simp)
def v_ (a:Ad)(f:Rl->Int->Int->List Lt->D):S3:=λΓ Q=>∃ (R:Rl) (h w:Int) (ls:List Lt),Γ=[some (.fz (plD a R h w ls))]/\ls.length<=12/\Q (.fz (f R h w ls)) Γ
theorem cX(T:Txt K mg a):aT P w K mg base CX0 1 a.oP a.sW ["self"] (sp3 K 1 (v_ a λR _ _ _=>R.ob a)):=by
 refine ok3 T.cT.F zt (hbody:=λe A b s H E i=>#[_,_,(ax (aG (bD (f:="chosen") (bv 0) T.aY T.oo))),λc Q h j=>?_]);let#[R,h,w,g,rfl,d,q]:=h;ext;exact q
theorem om(T:Txt K mg a):aT P w K mg base CX0 1 a.rh a.uW ["self"] (sp3 K 1 (v_ a λ_ _ _ ls=>.str (wy ls))):=by
 refine ok3 T.mn.F AQ (hbody:=λe A b s H E g=>#[_,_,(ax (aG (bD (f:="letters") (bv 0) T.aY T.e_))),λc Q h i=>?_]);let#[R,h,w,ls,rfl,d,q]:=h;ext;exact q
theorem dQ(T:Txt K mg a):aT P w K mg base CX0 1 a.k_ a.oJ ["self"] (sp3 K 1 (v_ a λ_ h _ _=>.int h)):=by
 refine ok3 T.dA.F wb (hbody:=λg A b s H E i=>#[_,_,(ax (aG (bg (P3.opd (bg (P3.opd (bD (f:="corners") (bv 0) T.aY T.cS)) V5)) V5))),λc Q h j=>?_]);let#[R,h,w,ls,rfl,d,q]:=h;ext;have e:=vS (h:=h) (w:=w) (ls:=ls) (k:=0) (rx _);rw[qz] at e;refine jJ.mpr #[_,e,?_];unfold cD;ext;exact q
theorem eY(T:Txt K mg a):aT P w K mg base CX0 1 a.m5 a.qq ["self"] (sp3 K 1 (v_ a λ_ _ w _=>.int w)):=by
 refine ok3 T.dZ.F xy (hbody:=λg A b s H E i=>#[_,_,(ax (aG (bg (P3.opd (bg (P3.opd (bD (f:="corners") (bv 0) T.aY T.cS)) V5)) V5))),λc Q h j=>?_]);let#[R,h,w,ls,rfl,d,q]:=h;ext;have e:=vS (h:=h) (w:=w) (ls:=ls) (k:=0) (rx _);rw[qz] at e;refine jJ.mpr #[_,e,?_];unfold cD;ext;exact q
theorem p9(T:Txt K mg a):aT P w K mg base CX0 1 a.m6 a.qr ["self"] (sp3 K 1 (v_ a λ_ _ _ ls=>.int ls.length)):=by
 refine ok3 T.mq.F xA (hbody:=λe A b s H E g=>#[_,_,(ax (aG (aJ (gv) T.z_len (af (P3.opd (bD (f:="letters") (bv 0) T.aY T.e_)) ag)))),λc Q h i=>?_]);let#[R,h,w,ls,rfl,d,q]:=h;ext;refine#[by rw[kR,ff];lia,?_];rw[kR];exact q
structure Pt where
 s:Nat
 wd:Str
 t:Int
 l:Int
 hh:Int
 ww:Int
noncomputable def Pt.dd (p:Pt):D:=.tup [.int p.s,.str p.wd,.int p.t,.int p.l,.int p.hh,.int p.ww]
noncomputable def vo (t l:Int)(n:Nat)(y:Nat):List D:=(gs n).map λ(x:Nat)=>.tup [.int (t + (y:Int)),.int (l + (x:Int))]
noncomputable def plc (t l b a:Int):List D:=((gs b.toNat).map λy=>vo t l a.toNat y).flatten
noncomputable def Pt.pl (p:Pt):List D:=plc p.t p.l p.hh p.ww
structure PtB (p:Pt):Prop where
 t0:0<=p.t
 l0:0<=p.l
 h0:0<=p.hh
 w0:0<=p.ww
 t1:p.t<=64
 l1:p.l<=64
 h1:p.hh<=64
 w1:p.ww<=64
def G3:S3:=λΓ Q=>∃ p:Pt,Γ=[some (.fz p.dd)]/\PtB p/\Q (.fr (.lst p.pl)) Γ
theorem n9{t l:Int}{y:Nat}:(vo t l n y).length=n:=by simp [vo]
theorem zQ(T:Txt K mg a):aT P w K mg base CX0 1 a.uY a.sL ["part"] (sp3 K 1 G3):=by
 refine ok3 T.j5.F fL (hbody:=λJ A n s H E M=>#[_,_,(ak (kq (is:=[1,2,3,4]) (EX (by rfl) (bv 0) (de V5) fX) (aR (a8 (i:=1) fL.nd rfl (ek rfl)) (aR (a8 (i:=2) fL.nd rfl (al7 rfl)) (aR (a8 (i:=3) fL.nd rfl (ek rfl)) (aR (a8 (i:=4) fL.nd rfl (al7 rfl)) eE)))) rfl)
   (ax (aG (A9 rfl (yz (by rfl) T.z_range (ae (p3v 1) (ae (aO (bv 1) (bv 3)) aA))) iV (λ_ _ _ _ _=>(bB (i:=0) iV.nd rfl (ek rfl))) (λ_ _ _ _ _=>(yz (by rfl) T.z_range (ae (p3v 2) (ae (aO (bv 2) (bv 3)) aA)))) (λ_ _ _ _ _=>(bB (i:=1) iV.nd rfl (ek rfl))) (λ_ _ _ _ _=>(cF (ae (p3v 0) (ae (p3v 1) aA)))))))),λp Q h N=>?_])
 let#[#[L,wd,t,l,o,c],rfl,#[x,C,G,u,v,B,F,r],q]:=h;dsimp only at x C G u v B F r;unfold Pt.dd;ext;refine#[by simp [_h.sIx],?_];ext;refine#[by lia,by lia,by lia,by lia,?_];rw[show (t + o - t).toNat=o.toNat by lia];refine uw (λk g b=>g=((gs k).map λy=>vo t l c.toNat y).flatten/\k<=64/\∃ s e,b=[fo s,fo e,some (.fz (.int l)),some (.fz (.int c))]) #[rfl,by lia,none,none,rfl] ?_ ?_
 .rintro k d g b hd ⟨rfl,hk,s,e,rfl⟩;let#[lt,rfl]:=fW hd;ext;refine#[by lia,by lia,by lia,by lia,?_];rw[show (l + c - l).toNat=c.toNat by lia];have I:=oF (f:=λy=>vo t l c.toNat y) (m:=c.toNat) (λ_=>n9) k;have O:k * c.toNat<=64 * 64:=ag4 (by lia) (by lia);refine#[λj g b=>g=((gs k).map λy=>vo t l c.toNat y).flatten++vo t l j k/\j<=64/\∃ e,b=[some (.fz (.int (t + (k:Int)))),fo e,some (.fz (.int l)),some (.fz (.int c))],#[by simp [vo],by lia,e,rfl],?_,?_]
  .rintro j d g b hd ⟨rfl,D,e,rfl⟩;let#[z,rfl]:=fW hd;ext;refine#[?_,by rw[ff];lia,?_,by lia,some _,rfl]
   .rw[cn,I,n9,ff];lia
   .rw[nR];congr 1;unfold vo;rw[Yj,hD];rfl
  .rintro g b ⟨rfl,D,e,rfl⟩;refine#[?_,by lia,some _,e,rfl];rw[pd];exact yE
 .rintro g b ⟨rfl,hk,s,e,rfl⟩;rw[pd];ext;refine#[?_,q];rw[oF (m:=c.toNat) (λ_=>n9),ff];have:o.toNat * c.toNat<=64 * 64:=ag4 (by lia) (by lia);lia
noncomputable def vp (h w:Int)(ls:List Lt)(k:Nat):Lt->List Pt
 | .r=>[#[k,"row",0,(cat h w ls (k + 1)).2,(cat h w ls (k + 1)).1,(cat h w ls k).2 - (cat h w ls (k + 1)).2]]
 | .p=>[#[k,"pillar",(cat h w ls (k + 1)).1,0,(cat h w ls k).1 - (cat h w ls (k + 1)).1,(cat h w ls (k + 1)).2]]
 | .b=>[#[k,"row",0,(cat h w ls (k + 1)).2,(cat h w ls (k + 1)).1,(cat h w ls k).2 - (cat h w ls (k + 1)).2],#[k,"pillar",(cat h w ls (k + 1)).1,0,(cat h w ls k).1 - (cat h w ls (k + 1)).1,(cat h w ls (k + 1)).2],
   #[k,"both",(cat h w ls (k + 1)).1,(cat h w ls (k + 1)).2,(cat h w ls k).1 - (cat h w ls (k + 1)).1,(cat h w ls k).2 - (cat h w ls (k + 1)).2]]
noncomputable def pat (h w:Int)(ls:List Lt)(k:Nat):List Pt:=match ls[k]? with
 | some l=>vp h w ls k l
 | none=>[]
theorem zE{h w:Int}{ls:List Lt}{l:Lt}(a:ls[k]?=some l):pat h w ls k=vp h w ls k l:=by unfold pat;rw[a]
def Kq (a:Ad):S3:=λΓ Q=>∃ (R:Rl) (h w:Int) (ls:List Lt) (k:Nat),Γ=[some (.fz (plD a R h w ls)),some (.fz (.int k))]/\ls.length<=12/\k < ls.length/\Q (.fr (.lst ((pat h w ls k).map Pt.dd))) Γ
theorem nK(T:Txt K mg a):aT P w K mg base CX0 1 a.dW a.gB ["self","step"] (sp3 K 2 (Kq a)):=by
 refine ok3 T.hZ.F bu (hbody:=λr A e s H E n=>#[_,_,(ak (kq (is:=[2,3]) (bg (P3.opd (bD (f:="corners") (bv 0) T.aY T.cS)) (bv 1)) (aR (a8 (i:=2) bu.nd rfl (ek rfl)) (aR (a8 (i:=3) bu.nd rfl (ek rfl)) eE)) rfl)
   (ak (kq (is:=[4,5]) (bg (P3.opd (bD (f:="corners") (bv 0) T.aY T.cS)) (P3.opd (aO (bv 1) V5))) (aR (a8 (i:=4) bu.nd rfl (ek rfl)) (aR (a8 (i:=5) bu.nd rfl (ek rfl)) eE)) rfl)
   (ak (aM (i:=6) bu.nd rfl (ek rfl) (bg (P3.opd (bD (f:="letters") (bv 0) T.aY T.e_)) (bv 1)))
   (ak (aM (i:=7) bu.nd rfl (ek rfl) (bx aA))
   (ak (bL (aE (tL) (bv 6) (P3.opd (kA (p:=a.cA) (zs:=["r","b"]) T.jj)) (by with_unfolding_all rfl)) (ax (gZ (lM 7 (bv 7) (cF (ae (p3v 1) (ae aq (ae ai (ae (p3v 5) (ae (p3v 4) (ae (iI (bv 3) (bv 5)) aA)))))))))) aX)
   (ak (bL (aE (tL) (bv 6) (P3.opd (kA (p:=a.bO) (zs:=["p","b"]) T.fe)) (by with_unfolding_all rfl)) (ax (gZ (lM 7 (bv 7) (cF (ae (p3v 1) (ae aq (ae (p3v 4) (ae ai (ae (iI (bv 2) (bv 4)) (ae (p3v 5) aA)))))))))) aX)
   (ak (bL (aE (bF n) (bv 6) (P3.opd aq) (aL _)) (ax (gZ (lM 7 (bv 7) (cF (ae (p3v 1) (ae aq (ae (p3v 4) (ae (p3v 5) (ae (iI (bv 2) (bv 4)) (ae (iI (bv 3) (bv 5)) aA)))))))))) aX)
   (ax (aG (Cm 7)))))))))),λm Q h g=>?_])
 let#[R,h,w,j,k,rfl,o,hk,q]:=h;have b:(0:Nat) < sizeLine:=by rw[ff];lia
 have d:(1:Nat) < sizeLine:=by rw[ff];lia
 have c:(2:Nat) < sizeLine:=by rw[ff];lia
 ext;refine jJ.mpr #[_,vS (by lia),?_];unfold cD;ext;refine jJ.mpr #[_,vS (k:=k + 1) (by lia),?_];unfold cD;ext;obtain⟨l,g⟩:∃ l,j[k]?=some l:=#[j[k],by simp [hk]];refine#[by rw[kR,ff];lia,l.c,Am (atL g),?_];dsimp only;rw[show ({ cps:=(Vz9 [l.c]) }:Str)=l.s from rfl];ext;rw[zE g] at q;cases l
 .ext;exact#[z0,z6,b,q]
 .ext;exact#[z0,z6,b,q]
 .ext;exact#[z0,z6,b,z6,d,z6,c,q]
noncomputable def pts (h w:Int)(ls:List Lt):List Pt:=#[ls.length,"coarse",0,0,(cat h w ls ls.length).1,(cat h w ls ls.length).2]::((gs ls.length).map λi=>pat h w ls (ls.length - 1 - i)).flatten
noncomputable def kZ (h w:Int)(ls:List Lt)(i:Nat):List Pt:=#[ls.length,"coarse",0,0,(cat h w ls ls.length).1,(cat h w ls ls.length).2]::((gs i).map λi=>pat h w ls (ls.length - 1 - i)).flatten
theorem ik{h w:Int}{ls:List Lt}:kZ h w ls i++pat h w ls (ls.length - 1 - i)=kZ h w ls (i + 1):=by
 unfold kZ;rw[Yj,hD,Zm,Ja];simp
theorem DH{h w:Int}{ls:List Lt}:(pat h w ls k).length<=3:=by
 unfold pat
 cases ls[k]? with
 | none=>simp
 | some l=>cases l <;> simp [vp]
theorem qQ {h w:Int}{ls:List Lt}:∀ i:Nat,(kZ h w ls i).length<=1 + 3 * i
 | 0=>by simp [kZ]
 | i + 1=>by
  rw[<- ik,cn];have:=qQ (h:=h) (w:=w) (ls:=ls) i;have:=DH (h:=h) (w:=w) (ls:=ls) (k:=ls.length - 1 - i);lia
def KW (a:Ad):S3:=λΓ Q=>∃ (R:Rl) (h w:Int) (ls:List Lt),Γ=[some (.fz (plD a R h w ls))]/\ls.length<=12/\Q (.fr (.lst ((pts h w ls).map Pt.dd))) Γ
theorem GD{lo c:Int}{d:D}(h:(wg lo c n)[k]?=some d):k < n/\d=.int (lo + (k:Int) * c):=by
 unfold wg at h;exact DQ h
theorem GC(lo c:Int)(n:Nat):(wg lo c n).length=n:=by simp [wg]
theorem xI(T:Txt K mg a):aT P w K mg base CX0 2 a.m7 a.qt ["self"] (sp3 K 1 (KW a)):=by
 refine ok3 T.rF.F eU (hbody:=λm A e s H E g=>#[_,_,(ak (kq (is:=[1,2]) (bg (P3.opd (bD (f:="corners") (bv 0) T.aY T.cS)) (P3.opd (zH V5))) (aR (a8 (i:=1) eU.nd rfl (ek rfl)) (aR (a8 (i:=2) eU.nd rfl (ek rfl)) eE)) rfl)
   (ak (aM (i:=3) eU.nd rfl (ek rfl) (bx (ae (cF (ae (aK (bv 0) T.aY T.qc (p9 T) g.dn T.mq.b) (ae aq (ae ai (ae ai (ae (p3v 1) (ae (p3v 2) aA))))))) aA)))
   (ak (fV rr rfl (Qx (by rfl) T.z_reversed (by rfl) T.z_range (ae (aK (bv 0) T.aY T.qc (p9 T) g.dn T.mq.b) aA)) (bB (i:=4) eU.nd rfl (ek rfl))
   (ax (gZ (EY 3 (by rfl) (bv 3) (P3.opd (jf (bv 0) T.aY T.nL (nK T) g.dn T.hZ.b (af (P3.opd (p3v 4)) ag)))))))
   (ax (aG (Cm 3)))))),λj Q h p=>?_])
 let#[R,h,w,ls,rfl,b,q]:=h;ext;refine jJ.mpr #[cD (cat h w ls ls.length),Mq (by rw[lM0,tH];exact NH (cc _)),?_];unfold cD;ext;refine#[by decide +kernel,R,h,w,ls,rfl,b,?_];ext;refine#[by rw[ff];lia,by rw[ff];lia,?_];refine#[by decide +kernel,R,h,w,ls,rfl,b,?_];ext;refine#[by lia,by lia,?_];rw[ks];refine cN (λi c=>i<=ls.length/\∃ s,c=[some (.fz (plD a R h w ls)),some (.fz (.int (cat h w ls ls.length).1)),some (.fz (.int (cat h w ls ls.length).2)),some (.ow (.lst ((kZ h w ls i).map Pt.dd))),fo s]) #[by lia,none,rfl] ?_ ?_
 .rintro i d c hd ⟨l,s,rfl⟩;let#[lt,rfl]:=GD hd;ext;refine#[by decide +kernel,R,h,w,ls,ls.length - 1 - i,by rw[show (ls.length:Int) - 1 + (i:Int) * -1=((ls.length - 1 - i:Nat):Int) by lia],b,by lia,?_];ext;have o:=qQ (h:=h) (w:=w) (ls:=ls) i;have n:=DH (h:=h) (w:=w) (ls:=ls) (k:=ls.length - 1 - i);exact#[by rw[lM0,lM0,ff];lia,by lia,some _,by rw[<- ik,hD];rfl]
 .rintro c ⟨l,s,rfl⟩;rw[GC];ext;exact q
structure ME (h w:Int) (ls:List Lt) (p:Pt):Prop where
 s:p.s<=ls.length
 t0:0<=p.t
 l0:0<=p.l
 h1:1<=p.hh
 w1:1<=p.ww
 ht:p.t + p.hh<=(cat h w ls p.s).1
 wl:p.l + p.ww<=(cat h w ls p.s).2
 out:p.s < ls.length->(cat h w ls (p.s + 1)).1<=p.t\/(cat h w ls (p.s + 1)).2<=p.l
theorem DI{h w:Int}{ls:List Lt}{l:Lt}(g:Good h w ls)(b:gQ h w)(c:ls[k]?=some l):∀ p∈vp h w ls k l,ME h w ls p:=by
 have lt:=um c;let#[i,f]:=vO g c;have st:=tK (h:=h) (w:=w) c;let#[n,m,_,_]:=kO (k:=k) g b.h1 b.w1 (by lia);let#[j,b2,_,_]:=kO (k:=k + 1) g b.h1 b.w1 (by lia);intro p a;cases l
 .have e:(cat h w ls (k + 1)).1=(cat h w ls k).1:=by rw[st];rfl
  have d:(cat h w ls (k + 1)).2=((cat h w ls k).2 + 1) / 2:=by rw[st];rfl
  have:=i (by decide);simp only[vp,dk,fT,or_false] at a;subst a;exact#[by dsimp only;lia,by dsimp only;lia,by dsimp only;lia,by dsimp only;lia,by dsimp only;lia,by dsimp only;lia,by dsimp only;lia,λ_=>.inr (Yv _)]
 .have e:(cat h w ls (k + 1)).1=((cat h w ls k).1 + 1) / 2:=by rw[st];rfl
  have d:(cat h w ls (k + 1)).2=(cat h w ls k).2:=by rw[st];rfl
  have:=f (by decide);simp only[vp,dk,fT,or_false] at a;subst a;exact#[by dsimp only;lia,by dsimp only;lia,by dsimp only;lia,by dsimp only;lia,by dsimp only;lia,by dsimp only;lia,by dsimp only;lia,λ_=>.inl (Yv _)]
 .have e:(cat h w ls (k + 1)).1=((cat h w ls k).1 + 1) / 2:=by rw[st];rfl
  have d:(cat h w ls (k + 1)).2=((cat h w ls k).2 + 1) / 2:=by rw[st];rfl
  have:=i (by decide);have:=f (by decide);simp only[vp,dk,fT,or_false] at a;rcases a with rfl | rfl | rfl
  .exact#[by dsimp only;lia,by dsimp only;lia,by dsimp only;lia,by dsimp only;lia,by dsimp only;lia,by dsimp only;lia,by dsimp only;lia,λ_=>.inr (Yv _)]
  .exact#[by dsimp only;lia,by dsimp only;lia,by dsimp only;lia,by dsimp only;lia,by dsimp only;lia,by dsimp only;lia,by dsimp only;lia,λ_=>.inl (Yv _)]
  .exact#[by dsimp only;lia,by dsimp only;lia,by dsimp only;lia,by dsimp only;lia,by dsimp only;lia,by dsimp only;lia,by dsimp only;lia,λ_=>.inl (Yv _)]
theorem GV{h w:Int}{ls:List Lt}(g:Good h w ls)(a:gQ h w):∀ p∈pts h w ls,ME h w ls p:=by
 intro p hp;unfold pts at hp;rcases dk.mp hp with rfl | hp
 .let#[d,c,_,_]:=kO (k:=ls.length) g a.h1 a.w1 (cc _);exact#[cc _,by dsimp only;lia,by dsimp only;lia,d,c,by dsimp only;lia,by dsimp only;lia,λz=>absurd z (hY _)]
 .rw[XQ] at hp;let#[e,b,hp]:=hp;let#[i,_,rfl]:=ot.mp b;cases q:ls[ls.length - 1 - i]? with
  | none=>unfold pat at hp;rw[q] at hp;cases hp
  | some l=>rw[zE q] at hp;exact DI g a q p hp
theorem ME.b{h w:Int}{ls:List Lt}{p:Pt}(o:ME h w ls p)(g:Good h w ls)(a:gQ h w):PtB p:=by
 let#[f,e,d,c]:=kO (k:=p.s) g a.h1 a.w1 o.s;have:=a.h2;have:=a.w2;have:=o.ht;have:=o.wl;exact#[o.t0,o.l0,by have:=o.h1;lia,by have:=o.w1;lia,by have:=o.h1;lia,by have:=o.w1;lia,by have:=o.t0;lia,by have:=o.l0;lia]
theorem G4{p:Pt}(b:PtB p):p.pl.length<=4096:=by
 unfold Pt.pl plc;rw[oF (m:=p.ww.toNat) (λ_=>n9)];have:p.hh.toNat * p.ww.toNat<=64 * 64:=ag4 (by have:=b.h1;lia) (by have:=b.w1;lia);lia
noncomputable def jh (ps:List Pt):List D:=(ps.map Pt.pl).flatten
noncomputable def ord (h w:Int)(ls:List Lt):List D:=jh (pts h w ls)
theorem E2{ps:List Pt}{p:Pt}:jh ps++p.pl=jh (ps++[p]):=by unfold jh;simp
theorem wA:∀ {ps:List Pt},(∀ p∈ps,PtB p)->(jh ps).length<=4096 * ps.length
 | [],_=>by simp [jh]
 | p::ps,a=>by
  have e:jh (p::ps)=p.pl++jh ps:=by simp [jh]
  have:=wA (ps:=ps) λq b=>a q (cb _ b);have:=G4 (a p eH);rw[e,cn,ed];lia
theorem Kp{ps:List Pt}{d:D}(h:(ps.map Pt.dd)[k]?=some d):∃ p,ps[k]?=some p/\d=p.dd:=by
 rw[ef] at h;cases q:ps[k]? with
 | none=>rw[q] at h;cases h
 | some l=>rw[q] at h;cases h;exact#[l,rfl,rfl]
def K5 (a:Ad):S3:=λΓ Q=>∃ (R:Rl) (h w:Int) (ls:List Lt),Γ=[some (.fz (plD a R h w ls))]/\gQ h w/\Good h w ls/\ls.length<=12/\Q (.fr (.lst (ord h w ls))) Γ
theorem Km{h w:Int}{ls:List Lt}(a:ls.length<=12):(pts h w ls).length<=37:=by
 have:=qQ (h:=h) (w:=w) (ls:=ls) ls.length;have e:pts h w ls=kZ h w ls ls.length:=rfl;rw[e];lia
theorem xJ(T:Txt K mg a):aT P w K mg base CX0 3 a.m8 a.qu ["self"] (sp3 K 1 (K5 a)):=by
 refine ok3 T.rG.F xB (hbody:=λx A m s H E o=>#[_,_,(ax (aG (A9 rfl (hU (aK (bv 0) T.aY T.xK (xI T) o.dn T.rF.b)) gP (λ_ _ _ _ _=>(bB (i:=0) gP.nd rfl (ek rfl))) (λ_ _ _ _ _=>(hU (aH (zQ T) o.dn T.j5.m T.j5.F.kp T.j5.b (af (P3.opd (p3v 0)) ag)))) (λ_ _ _ _ _=>(bB (i:=1) gP.nd rfl (ek rfl))) (λ_ _ _ _ _=>(p3v 1))))),λt Q h B=>?_]);let#[R,h,w,ls,rfl,n,g,f,q]:=h;have PB:∀ p∈pts h w ls,PtB p:=λp l=>(GV g n p l).b g n;have C:=Km (h:=h) (w:=w) f;ext;refine#[by decide +kernel,R,h,w,ls,rfl,f,?_];ext;refine uw (λk e b=>e=jh ((pts h w ls).take k)/\∃ s c,b=[fo s,fo c]) #[rfl,none,none,rfl] ?_ ?_
 .rintro k d e b hd ⟨rfl,s,c,rfl⟩;let#[p,l,rfl]:=Kp hd;have r:p∈pts h w ls:=hF l;ext;refine#[p,rfl,PB p r,?_];ext;have u:=wA (ps:=(pts h w ls).take k) λq v=>PB q (SZ v);have z:=G4 (PB p r);have y:((pts h w ls).take k).length<=37:=by rw[HT];lia
  refine#[λj e b=>e=jh ((pts h w ls).take k)++p.pl.take j/\∃ c,b=[some (.fz p.dd),fo c],#[by simp,c,rfl],?_,?_]
  .rintro j d e b hd ⟨rfl,c,rfl⟩;ext;refine#[by rw[cn,HT,ff];lia,by rw[nR,take_snoc hd],some _,rfl]
  .rintro e b ⟨rfl,c,rfl⟩;refine#[by rw[Re,E2,take_snoc l],some _,c,rfl]
 .rintro e b ⟨rfl,s,c,rfl⟩;rw[lM0,Re];ext;have u:=wA PB;exact#[by rw[ff];lia,q]
noncomputable abbrev pD (h w:Int):D:=.tup [.int h,.int w]
def InP (p:Pt)(y x:Int):Prop:=p.t<=y/\y < p.t + p.hh/\p.l<=x/\x < p.l + p.ww
theorem O1{p:Pt}{y x:Int}(i:InP p y x):pD y x∈p.pl:=by
 let#[d,c,b,a]:=i;unfold Pt.pl plc;rw[XQ];refine#[vo p.t p.l p.ww.toNat (y - p.t).toNat,ot.mpr #[_,XE.mpr (by lia),rfl],?_];unfold vo;refine ot.mpr #[(x - p.l).toNat,XE.mpr (by lia),?_];rw[show p.t + (((y - p.t).toNat:Nat):Int)=y by lia,show p.l + (((x - p.l).toNat:Nat):Int)=x by lia]
theorem S9{p:Pt}{d:D}(h:d∈p.pl):∃ y x:Int,d=pD y x/\p.t<=y/\y < p.t + p.hh/\p.l<=x/\x < p.l + p.ww:=by
 unfold Pt.pl plc at h;rw[XQ] at h;let#[r,c,h]:=h;let#[y,a,rfl]:=ot.mp c;unfold vo at h;let#[x,b,rfl]:=ot.mp h;have:=XE.mp a;have:=XE.mp b;exact#[_,_,rfl,by lia,by lia,by lia,by lia]
theorem uM {h w:Int}{ls:List Lt}(g:Good h w ls):∀ i,i<=ls.length->∀ y x:Int,0<=y->y < (cat h w ls (ls.length - i)).1->0<=x->x < (cat h w ls (ls.length - i)).2->∃ p∈kZ h w ls i,InP p y x
 | 0,_,y,x,d,c,j,f=>by
  refine#[_,eH,?_];rw[al5] at c f;exact#[d,by dsimp only;lia,j,by dsimp only;lia]
 | i + 1,q,y,x,d,c,j,f=>by
  have o:=uM g i (by lia);obtain⟨l,m⟩:∃ l,ls[ls.length - 1 - i]?=some l:=#[_,gE0 (by lia)];have st:=tK (h:=h) (w:=w) m;rw[show ls.length - 1 - i + 1=ls.length - i by lia] at st;rw[show ls.length - (i + 1)=ls.length - 1 - i by lia] at c f;by_cases b:y < (cat h w ls (ls.length - i)).1/\x < (cat h w ls (ls.length - i)).2
  .let#[p,k,n]:=o y x d b.1 j b.2;exact#[p,by rw[<- ik];exact ml _ k,n]
  .have a:∀ p∈vp h w ls (ls.length - 1 - i) l,p∈kZ h w ls (i + 1):=λp k=>by
    rw[<- ik,zE m];exact eP _ k
   have e:ls.length - 1 - i + 1=ls.length - i:=by lia
   cases l
   .have s:(cat h w ls (ls.length - i)).1=(cat h w ls (ls.length - 1 - i)).1:=by rw[st];rfl
    refine#[_,a _ eH,?_];unfold InP;rw[e];exact#[by dsimp only;lia,by dsimp only;lia,by dsimp only;lia,by dsimp only;lia]
   .have r:(cat h w ls (ls.length - i)).2=(cat h w ls (ls.length - 1 - i)).2:=by rw[st];rfl
    refine#[_,a _ eH,?_];unfold InP;rw[e];exact#[by dsimp only;lia,by dsimp only;lia,by dsimp only;lia,by dsimp only;lia]
   .by_cases u:y < (cat h w ls (ls.length - i)).1
    .refine#[_,a _ eH,?_];unfold InP;rw[e];exact#[by dsimp only;lia,by dsimp only;lia,by dsimp only;lia,by dsimp only;lia]
    .by_cases t:x < (cat h w ls (ls.length - i)).2
     .refine#[_,a _ (cb _ eH),?_];unfold InP;rw[e];exact#[by dsimp only;lia,by dsimp only;lia,by dsimp only;lia,by dsimp only;lia]
     .refine#[_,a _ (cb _ (cb _ eH)),?_];unfold InP;rw[e];exact#[by dsimp only;lia,by dsimp only;lia,by dsimp only;lia,by dsimp only;lia]
theorem EZ{h w:Int}{ls:List Lt}(g:Good h w ls){y x:Int}(c:0<=y)(b:y < h)(e:0<=x)(d:x < w):pD y x∈ord h w ls:=by
 have a:=qz h w ls;let#[p,i,f]:=uM g ls.length (cc _) y x c (by rw[XN,a];exact b) e (by rw[XN,a];exact d);unfold ord jh;exact XQ.mpr #[p.pl,ot.mpr #[p,i,rfl],O1 f]
theorem Pj{h w:Int}{ls:List Lt}(g:Good h w ls)(a:gQ h w){d:D}(hd:d∈ord h w ls):∃ y x:Int,d=pD y x/\0<=y/\y < h/\0<=x/\x < w:=by
 unfold ord jh at hd;let#[r,b,hd]:=XQ.mp hd;let#[p,c,rfl]:=ot.mp b;have o:=GV g a p c;let#[q,n,m,l]:=kO (k:=p.s) g a.h1 a.w1 o.s;let#[y,x,e,j,b2,i,f]:=S9 hd;have:=o.t0;have:=o.l0;have:=o.ht;have:=o.wl;exact#[y,x,e,by lia,by lia,by lia,by lia]
theorem DG{p:Pt}(b:0<=p.hh)(a:0<=p.ww):(p.pl.length:Int)=p.hh * p.ww:=by
 unfold Pt.pl plc;rw[oF (m:=p.ww.toNat) (λ_=>n9),ae0,Ya b,Ya a]
theorem Hw{ps qs:List Pt}:jh (ps++qs)=jh ps++jh qs:=by unfold jh;rw[hD,Zm]
theorem zL{p:Pt}:jh [p]=p.pl:=by unfold jh;simp
theorem Hv{p:Pt}{ps:List Pt}:jh (p::ps)=p.pl++jh ps:=by unfold jh;simp
theorem wz {h w:Int}{ls:List Lt}(g:Good h w ls)(b:gQ h w):∀ i,i<=ls.length->((jh (kZ h w ls i)).length:Int)=(cat h w ls (ls.length - i)).1 * (cat h w ls (ls.length - i)).2
 | 0,_=>by
  let#[q,o,_,_]:=kO (k:=ls.length) g b.h1 b.w1 (cc _);show ((jh [_]).length:Int)=_;rw[zL,al5];exact DG (by dsimp only;lia) (by dsimp only;lia)
 | i + 1,n=>by
  have f:=wz g b i (by lia);obtain⟨l,c⟩:∃ l,ls[ls.length - 1 - i]?=some l:=#[_,gE0 (by lia)];have st:=tK (h:=h) (w:=w) c;have ok:=DI g b c;have e:ls.length - 1 - i + 1=ls.length - i:=by lia
  have a:∀ p∈vp h w ls (ls.length - 1 - i) l,(p.pl.length:Int)=p.hh * p.ww:=λp d=>DG (by have:=(ok p d).h1;lia) (by have:=(ok p d).w1;lia);rw[<- ik,zE c,Hw,cn,show ls.length - (i + 1)=ls.length - 1 - i by lia]
  push_cast
  rw[f];rw[e] at st;cases l
  .have m:(cat h w ls (ls.length - i)).1=(cat h w ls (ls.length - 1 - i)).1:=by rw[st];rfl
   unfold vp at a ⊢;rw[zL,a _ eH];dsimp only;rw[e,m,Int.mul_sub];lia
  .have j:(cat h w ls (ls.length - i)).2=(cat h w ls (ls.length - 1 - i)).2:=by rw[st];rfl
   unfold vp at a ⊢;rw[zL,a _ eH];dsimp only;rw[e,j,Int.sub_mul];lia
  .unfold vp at a ⊢;rw[Hv,Hv,zL,cn,cn]
   push_cast
   rw[a _ eH,a _ (cb _ eH),a _ (cb _ (cb _ eH)),e];simp only[Int.mul_sub,Int.sub_mul];lia
theorem Hu{h w:Int}{ls:List Lt}(g:Good h w ls)(a:gQ h w):((ord h w ls).length:Int)=h * w:=by
 have:=wz g a ls.length (cc _);rw[XN,qz] at this;exact this
structure Sz {α:Type} (h w:Nat) (rows:List (List α)):Prop where
 hh:rows.length=h
 ww:∀ r∈rows,r.length=w
structure Fil (hn wn:Nat) (u:Int) (k:Nat) (O:List D) (X:LL0):Prop where
 sz:Sz hn wn X
 val:∀ r∈X,∀ n∈r,n=0\/n=u
 done:∀ j,j < k->∀ y x:Nat,O[j]?=some (pD y x)->∃ r,X[y]?=some r/\r[x]?=some u
theorem UT{a c:Nat}{u:Int}{O:List D}:Fil a c u 0 O (bw a (bw c 0)):=
 #[#[ey,λr b=>by rw[(Rb.mp b).2,ey]],λr b n a=>by rw[(Rb.mp b).2] at a;exact .inl (Rb.mp a).2,λj d=>absurd d (ao8 _)]
theorem US{c h:Nat}{u:Int}{O:List D}{X:LL0}(f:Fil c h u k O X){y x:Nat}{r:Li0}(o:O[k]?=some (pD y x))(l:X[y]?=some r)(C:x < h):Fil c h u (k + 1) O (X.set y (r.set x u)):=by
 have p:=hF l;have w:=f.sz.ww r p;have v:=(gS0 l).1;refine#[#[by rw[rk];exact f.sz.hh,λs i=>?_],λs i n c=>?_,λj E d g a=>?_]
 .rcases VW i with m | rfl
  .exact f.sz.ww s m
  .rw[rk];exact w
 .rcases VW i with m | rfl
  .exact f.val s m n c
  .rcases VW c with m | rfl
   .exact f.val r p n m
   .exact .inr rfl
 .by_cases e:d=y
  .subst e;refine#[r.set x u,UV v,?_];by_cases t:g=x
   .subst t;exact UV (by lia)
   .rw[Wj (ky t)];have b:j < k:=by
     rcases XM j k with z | z
     .exact z
     .have:j=k:=by lia
      subst this;rw[o] at a;injection a with a
      injection a with a
      simp only[Ot,D.int.injEq] at a;lia
    let#[B,q,A]:=f.done j b d g a;rw[l] at q;cases q;exact A
  .have b:j < k:=by
    rcases XM j k with z | z
    .exact z
    .have:j=k:=by lia
     subst this;rw[o] at a;injection a with a
     injection a with a
     simp only[Ot,D.int.injEq] at a;lia
   rw[Wj (ky e)];exact f.done j b d g a
theorem LW{b a:Nat}{u:Int}{O:List D}{X:LL0}(f:Fil b a u k O X)(hk:O.length<=k)(d:∀ y x:Nat,y < b->x < a->pD y x∈O):X=bw b (bw a u):=by
 refine WB λy=>?_;by_cases c:y < b
 .rw[IR,if_pos c];have h:y < X.length:=by rw[f.sz.hh];exact c
  have hX:X[y]?=some X[y]:=gE0 h;rw[hX]
  congr 1
  refine WB λx=>?_;have n:=f.sz.ww _ (hF hX);by_cases e:x < a
  .rw[IR,if_pos e];let#[j,i,m]:=List.mem_iff_getElem.mp (d y x c e);let#[r,g,l]:=f.done j (by lia) y x (by rw[gE0 i,m]);rw[hX] at g;cases g;exact l
  .rw[nA (by lia),nA (by rw[ey];lia)]
 .rw[nA (by rw[f.sz.hh];lia),nA (by rw[ey];lia)]
noncomputable abbrev iR (R:LL0):List (List D):=R.map λr=>r.map D.int
theorem Qt{R:LL0}{r:Li0}{y x:Nat}{n:Int}:(iR R).set y ((r.map D.int).set x (.int n))=iR (R.set y (r.set x n)):=by
 rw[iR,iR,List.map_set,List.map_set]
theorem Qu{X:LL0}:(iR X).map D.lst=X.map il:=by rw[iR,Gc];rfl
def UQ (a:Ad):S3:=λΓ Q=>∃ (R:Rl) (c b:Nat) (ls:List Lt) (u:Int),Γ=[some (.fz (plD a R c b ls)),some (.fz (il (bw (c * b) u)))]/\gQ c b/\Good c b ls/\0<=u/\u < 1000000000000000/\Q (.fr (fD a (bw c (bw b u)))) Γ
theorem kC(T:Txt K mg a):aT P w K mg base CX0 7 a.lV a.kH ["plan","numbers"] (sp3 K 2 (UQ a)):=by
 refine ok3 T.bY.F cV (hbody:=λa6 A O s H E c=>#[_,_,(Kh 6 6 2 (by decide) (by decide) (KJ rfl rV) (Cc (i:=2) cV.nd rfl rfl rfl (fG T.z_range (ae (aK (bv 0) T.aY T.dR (dQ T) c.dn T.dA.b) aA)) cZ (λ_ _ _ _ _=>(bB (i:=0) cZ.nd rfl (ek rfl))) (λ_ _ _ _ _=>(je (P3.opd (bx (ae ai aA))) (P3.opd (aK (bv 1) T.aY T.eZ (eY T) c.dn T.dZ.b))))) (Hn rfl (fG T.z_range (ae (aK (bv 0) T.aY T.dR (dQ T) c.dn T.dA.b) aA)) cZ (λ_ _ _ _ _=>(bB (i:=0) cZ.nd rfl (ek rfl))) (λ_ _ _ _ _=>(je (P3.opd (bx (ae ai aA))) (P3.opd (aK (bv 1) T.aY T.eZ (eY T) c.dn T.dZ.b)))))
   (ak (fV rr rfl (Qv (by rfl) T.z_zip (ae (aK (bv 0) T.aY T.xM (xJ T) c.dn T.rG.b) (ae (p3v 1) aA))) (Ip (i:=3) (j:=4) (k:=5) (by rfl) rfl (aR (a8 (i:=3) cV.nd rfl (ek rfl)) (aR (a8 (i:=4) cV.nd rfl (ek rfl)) eE)) (a8 (i:=5) cV.nd rfl (ek rfl)))
   (ax (JZ (bA (bg (bA (p3v 2)) (bv 3))) (bv 4) (p3v 5))))
   (S4 (ax (aG (zI T.mk_Field (sk T) c.dn (by rfl) T.HN T.lI.b (ae (p3v 2) aA))))))),λZ Q h V=>?_])
 let#[R,b,wn,o,u,rfl,l,g,u0,u1,q]:=h;have z:=yu l g;have a4:=l.h1;have a1:=l.w1;have a5:b<=64:=by have:=l.h2;lia
 have a2:wn<=64:=by have:=l.w2;lia
 have C:b * wn<=512:=by have:=l.m;exact_mod_cast this
 rw[rJ];ext;refine#[by decide +kernel,R,b,wn,o,rfl,z,?_];ext;refine#[by lia,by lia,small (by rw[pd];lia),Fu (λk I p=>I=iR (bw k (bw wn 0))/\∃ s,p=[fo s,some (.fz (plD a R b wn o))]) #[rfl,none,rfl] ?_ ?_]
 .rintro k dd I p hd hk ⟨rfl,s,rfl⟩;let#[lk,rfl]:=fW hd;ext;refine#[z1,by decide +kernel,R,b,wn,o,rfl,z,?_];ext;refine#[by lia,by lia,by rw[ff];lia,?_,some _,rfl];rw[ag5,show (bw (wn:Int).toNat [D.int 0]).flatten=(bw wn (0:Int)).map D.int by rw[ks,Yq];simp];simp only[iR,hD,gr,Wp]
 rintro I p hk ⟨rfl,s,rfl⟩;rw[pd,ks];ext;refine Kj (pre:=[_,_,_,_,_,_]) (T:=tlE) (m:=65) rfl rfl (by decide) trivial (by rw[lM0,ey];lia) λW B V=>?_;rw[lM0,ey] at V;ext;refine#[by decide +kernel,R,b,wn,o,rfl,l,g,z,?_];ext;have oa:=Hu g l;have la:(ord b wn o).length=b * wn:=by exact_mod_cast oa
 refine cN (λk G=>∃ X N M J,Fil b wn u k (ord b wn o) X/\G=some (.fz (plD a R b wn o))::some (.fz (il (bw (b * wn) u)))::some (.fz (.adr W))::fo N::fo M::fo J::tlG (gh .ow W (B.map D.adr) B (iR X)++(nn (65 - (B.length + 1))++tlE))) #[_,none,none,none,UT,rfl] ?_ ?_
 .rintro k d G hd ⟨X,N,M,J,f,rfl⟩;let#[dx,dy,U,F,rfl]:=vT hd;let#[y,x,rfl,y0,y1,x0,x1]:=Pj g l (hF U);let#[e,rfl]:=ac0 y0;let#[xn,rfl]:=ac0 x0;have S:dy=.int u:=by
   rw[ef,IR] at F;split at F
   .cases F;rfl
   .cases F
  subst S;have yl:e < X.length:=by rw[f.sz.hh];lia
  have t:X[e]?=some X[e]:=gE0 yl;have v:B[e]?=some B[e]:=gE0 (by lia);have Y:(iR X)[e]?=some (X[e].map D.int):=by rw[iR,ef,t];rfl
  have lr:=f.sz.ww _ (hF t);refine#[_,_,_,rfl,?_];ext;refine Jp (pre:=[_,_,_,_,_,_]) rfl rfl (.inl rfl) ?_;ext;refine jJ.mpr #[.adr B[e],iD (by lia) (by rw[ef,ks,v];rfl),?_];ext;refine Jq (pre:=[_,_,_,_,_,_]) rfl rfl (.inl rfl) v Y ?_;ext;have e7:ixN (X[e].map D.int).length (xn:Int)=some xn:=LG (by rw[lM0,lr];lia);refine Jo (pre:=[_,_,_,_,_,_]) rfl rfl (.inl rfl) v Y rfl e7 ?_;rw[Qt];ext;exact#[_,some _,some _,some _,US f U t (by lia),rfl]
 .rintro G ⟨X,N,M,J,f,rfl⟩;have lz:(Aw (ord b wn o) ((bw (b * wn) u).map D.int)).length=b * wn:=by unfold Aw;rw[lM0,ao4,lM0,ey,la];lia
  rw[lz] at f;have eX:=LW f (by lia) λy x F U=>EZ g (ZJ y) (by lia) (ZJ x) (by lia);subst eX;ext;refine R7 (wkR (i:=2) (L:=6) (pre:=[_,_,_,_,_,_]) rfl (by decide) rfl (by rw[lM0,ey];exact V)) ?_;rw[Qu];ext;refine#[wn,_,rfl,#[by rw[ey];lia,by rw[ey];lia,by lia,by lia,by rw[ey];exact C,λr c=>by rw[(Rb.mp c).2,ey],λr c n b=>?_],?_]
  .rw[(Rb.mp c).2] at b;rw[(Rb.mp b).2];lia
  .ext;exact q
noncomputable abbrev NL:=List Nat
noncomputable def spl (c:Nat):NL->List NL
 | []=>[[]]
 | x::xs=>if x=c then []::spl c xs else match spl c xs with
  | w::r=>(x::w)::r
  | []=>[[x]]
theorem qF (c:Nat):∀ xs:NL,∃ w r,spl c xs=w::r
 | []=>#[_,_,rfl]
 | x::xs=>by
  let#[w,r,e]:=qF c xs;unfold spl;by_cases h:x=c
  .rw[if_pos h];exact#[_,_,rfl]
  .rw[if_neg h,e];exact#[_,_,rfl]
theorem ze (c:Nat):∀ xs:NL,jn [c] (spl c xs)=xs
 | []=>rfl
 | x::xs=>by
  have a:=ze c xs;let#[w,r,e]:=qF c xs;unfold spl;by_cases h:x=c
  .rw[if_pos h,e,h];rw[e] at a;show []++([c]++jn [c] (w::r))=_;rw[a];rfl
  .rw[if_neg h,e];rw[e] at a;cases r with
   | nil=>exact congrArg (x::·) a
   | cons y r=>exact congrArg (x::·) a
theorem B_ (c:Nat):∀ xs:NL,∀ w∈spl c xs,c∉w
 | [],w,h=>by
  have:w=[]:=by simpa [spl] using h
  subst this;simp
 | x::xs,w,h=>by
  have a:=B_ c xs;let#[v,r,e]:=qF c xs;unfold spl at h;rw[e] at a;by_cases z:x=c
  .rw[if_pos z,e] at h;rcases dk.mp h with rfl | h
   .simp
   .exact a w h
  .rw[if_neg z,e] at h;rcases dk.mp h with rfl | h
   .intro q;rcases dk.mp q with q | q
    .exact z q.symm
    .exact a v (by simp) q
   .exact a w (cb _ h)
theorem zf {c:Nat}{v:NL}(d:c∉v):∀ {w:NL} {xs:NL} {u:NL} {r:List NL},c∉w->spl c xs=u::r->spl c (w++xs)=(w++u)::r
 | [],xs,u,r,_,e=>e
 | x::w,xs,u,r,a,e=>by
  have f:x≠c:=λz=>a (by rw[z];simp);have b:=zf d (w:=w) (λz=>a (cb _ z)) e;show spl c (x::(w++xs))=_;rw[spl,if_neg f,b];rfl
theorem AH {c:Nat}:∀ {ws:List NL},ws≠[]->(∀ w∈ws,c∉w)->spl c (jn [c] ws)=ws
 | [],h,_=>absurd rfl h
 | [w],_,a=>by
  have:=zf (c:=c) (v:=[]) (by simp) (w:=w) (xs:=[]) (u:=[]) (r:=[]) (a w (by simp)) rfl;rw[nT] at this;exact this
 | w::y::r,_,a=>by
  have b:=AH (c:=c) (ws:=y::r) (by simp) λz d=>a z (cb _ d);have e:spl c (c::jn [c] (y::r))=[]::y::r:=by rw[spl,if_pos rfl,b]
  have:=zf (c:=c) (v:=[]) (by simp) (w:=w) (a w (by simp)) e;rw[nT] at this;exact this
noncomputable def mkS (l:NL):Str:=#[l.toArray]
theorem W2(l:NL):sg (mkS l)=l:=rfl
theorem W5(z:Str):mkS (sg z)=z:=dm rfl
noncomputable def wds (z:Str):Ls0:=(spl 32 (sg z)).map mkS
theorem blank:sg (ah " ")=[32]:=by decide +kernel
theorem N2(z:Str):wds z≠[]:=by
 let#[w,r,e]:=qF 32 (sg z);unfold wds;rw[e];simp
theorem vW(z:Str):tx (ah " ") (wds z)=z:=by
 apply dm;rw[km,blank,wds,Gc];have:(sg ∘ mkS)=id:=by funext l;rfl
 rw[this,af9,ze]
theorem N1(z:Str):∀ w∈wds z,32∉sg w:=λw h=>by
 let#[l,a,rfl]:=ot.mp h;exact B_ 32 _ l a
theorem o_(z:Str):TH z (ah " ")=wds z:=by
 have:=vZ (sep:=ah " ") (c:=32) (cs:=[]) blank (by decide +kernel) (N2 z) (N1 z);rw[vW] at this;exact this
theorem Ay{ws:Ls0}(h:ws≠[])(a:∀ w∈ws,32∉sg w):wds (tx (ah " ") ws)=ws:=by
 rw[<- o_];exact vZ (sep:=ah " ") (c:=32) (cs:=[]) blank (by decide +kernel) h a
theorem DU {c d:Nat}:∀ {ws:List NL} {w:NL},jn [c] (ws++[w++[d]])=jn [c] (ws++[w])++[d]
 | [],_=>rfl
 | [x],w=>by simp [jn]
 | x::y::r,w=>by
  have:=DU (c:=c) (d:=d) (ws:=y::r) (w:=w);show x++([c]++jn [c] (y::r++[w++[d]]))=x++([c]++jn [c] (y::r++[w]))++[d];rw[this];simp [nR]
theorem Gp{c d:Nat}(hd:d≠c)(xs:NL):∃ f w,spl c xs=f++[w]/\spl c (xs++[d])=f++[w++[d]]:=by
 let#[h,i,g]:=qF c xs;have b:spl c xs≠[]:=by rw[g];simp
 refine#[(spl c xs).dropLast,(spl c xs).getLast b,(Xr b).symm,?_];have e:=ze c xs;have a:=B_ c xs;rw[<- Xr b] at e a;generalize (spl c xs).dropLast=f at e a ⊢;generalize (spl c xs).getLast b=w at e a ⊢;rw[<- e,<- DU];refine AH (by simp) λv hv=>?_;rcases kS.mp hv with hv | hv
 .exact a v (ml _ hv)
 .have:v=w++[d]:=by simpa using hv
  subst this;intro q;rcases kS.mp q with q | q
  .exact a w (by simp) q
  .exact hd (ng.mp q).symm
theorem Ab:sg (ah ":")=[58]:=by decide +kernel
theorem gu:(ah ":").length=1:=by decide +kernel
theorem uC:StrLaws.At z (ah ":") z.length i↔(sg z)[i]?=some 58:=by
 unfold StrLaws.At;rw[o9,Ab,gu];constructor
 .rintro⟨_,h⟩;have e:(((sg z).drop i).take 1)[0]?=some 58:=by rw[h];rfl
  rw[ZI,if_pos (by decide),Yo] at e;simpa using e
 .intro h;have lt:=(gS0 h).1;rw[aQ] at lt;refine#[by lia,?_];rw[XU (by rw[aQ];exact lt),ah7,aq2];rw[gE0 (by rw[aQ];exact lt)] at h;rw[gT h]
theorem HF(h:58∉sg z):jY z (ah ":") 0 z.length 1=[]:=by
 rcases ac1 z (ah ":") 1 (cc 1) with ⟨a,_⟩ | ⟨i,r,a,b,_⟩
 .exact a
 .exact absurd (hF (uC.mp b)) h
noncomputable def bV (y:Str):Str:=y++ah ":"
theorem mw(y:Str):sg (bV y)=sg y++[58]:=by unfold bV;rw[dN,Ab]
theorem De(h:58∉sg y):∃ r,jY (bV y) (ah ":") 0 (bV y).length 1=y.length::r:=by
 have e:(sg (bV y))[y.length]?=some 58:=by rw[mw,<- aQ y];simp
 rcases ac1 (bV y) (ah ":") 1 (cc 1) with ⟨_,b⟩ | ⟨i,r,d,c,b⟩
 .exact absurd (uC.mpr e) (b _)
 .have a:=uC.mp c;have lt:=(gS0 a).1;rw[mw,cn,aQ] at lt;have:i=y.length:=by
   rcases XM i y.length with q | q
   .rw[mw,eW (by rw[aQ];exact q)] at a;exact absurd (hF a) h
   .simp at lt;lia
  subst this;exact#[r,d]
theorem Iu(h:58∉sg y):ag2 (bV y) (ah ":")=(y.length:Int):=by
 let#[r,e]:=De h;unfold ag2;rw[e]
theorem O0(h:58∉sg z):zC z (ah ":")=[.str z,.str mu,.str mu]:=by
 unfold zC rA;rw[HF h]
theorem Kw(h:58∉sg y):zC (bV y) (ah ":")=[.str y,.str (ah ":"),.str mu]:=by
 let#[r,e]:=De h;have b:yt (bV y) 0 y.length=y:=dm (by
  show ((bV y).cps.extract 0 y.length).toList=_;rw[Ji];show Su (sg (bV y)) 0 y.length=_;rw[mw,<- aQ y];simp [Su])
 have a:yt (bV y) (y.length + (ah ":").length) (bV y).length=mu:=dm (by
  show ((bV y).cps.extract (y.length + (ah ":").length) (bV y).length).toList=_;rw[Ji];show Su (sg (bV y)) _ _=_;rw[gu,<- aQ (bV y),mw,<- aQ y];simp [Su];rfl)
 unfold zC rA;rw[e];dsimp only;rw[b,a]
theorem Fn(h:58∉sg z):inT (ah ":") z=false:=by unfold inT;rw[HF h];rfl
theorem Qq(h:58∉sg y):inT (ah ":") (bV y)=true:=by
 let#[r,e]:=De h;unfold inT;rw[e];rfl
def Dig (f:NL):Prop:=∀ c∈f,48<=c/\c<=57
noncomputable def vl (f:NL):Nat:=f.foldl (λa c=>10 * a + (c - 48)) 0
theorem JJ(f:NL)(c:Nat):vl (f++[c])=10 * vl f + (c - 48):=by unfold vl;rw[Xw];rfl
theorem N4{f:NL}{c:Nat}(d:49<=c):1<=vl (c::f):=by
 have:∀ (f:NL) (a:Nat),1<=a->1<=f.foldl (λa c=>10 * a + (c - 48)) a:=by
  intro f
  induction f with
  | nil=>intro a h;exact h
  | cons x f b=>intro a h;exact b _ (by show 1<=10 * a + (x - 48);lia)
 exact this f _ (by show 1<=10 * 0 + (c - 48);lia)
theorem z_:∀ (n:Nat) (f:NL),f.length=n + 1->Dig f->(∀ c r,f=c::r->c≠48)->dg (vl f)=f/\vl f < 10 ^ (n + 1)
 | 0,f,d,hd,i=>by
  match f,d with
  | [c],_=>
   let#[a,b]:=hd c (by simp);have e:vl [c]=c - 48:=by unfold vl;simp
   rw[e];refine#[?_,by lia];rw[tG (by lia)]
   congr 1;lia
 | n + 1,f,d,hd,i=>by
  have h:f≠[]:=λz=>by rw[z] at d;simp at d
  obtain⟨g,c,rfl⟩:∃ g c,f=g++[c]:=#[f.dropLast,f.getLast h,(Xr h).symm];have j:g.length=n + 1:=by rw[cn] at d;simpa using d
  let#[k,lt]:=z_ n g j (λx l=>hd x (ml _ l)) λx r e=>i x (r++[c]) (by rw[e];rfl);let#[a,b]:=hd c (by simp);have p:1<=vl g:=by
   match g,j with
   | x::r,_=>
    have o:=hd x (by simp);have m:=i x (r++[c]) rfl;exact N4 (by lia)
  rw[JJ];refine#[?_,?_]
  .rw[tF (by lia),show (10 * vl g + (c - 48)) / 10=vl g by lia,show (10 * vl g + (c - 48)) % 10=c - 48 by lia,k]
   congr 2;lia
  .rw[ak9];lia
noncomputable def fig (l:NL):NL:=match l with
 | 45::r=>r
 | l=>l
theorem minus:sg (ah "-")=[45]:=by decide +kernel
theorem Kx(z:Str):sg (Xe z (ah "-"))=fig (sg z):=by
 have c:(ah "-").length=1:=by decide +kernel
 rw[StrLaws.removeprefix_eq];have b:NB z (ah "-") 0=true↔∃ r,sg z=45::r:=by
  rw[o9,minus,c,ag3];constructor
  .intro h
   match e:sg z with
   | []=>rw[e] at h;cases h
   | x::r=>rw[e] at h;cases h;exact#[r,rfl]
  .rintro⟨r,e⟩;rw[e];rfl
 by_cases h:∃ r,sg z=45::r
 .let#[r,e]:=h;have a:=b.mpr #[r,e];have l:z.length=r.length + 1:=by rw[<- aQ,e];rfl
  rw[a,c,if_pos (by rw[l];simp)];show an0 _ (an1 1 (sg z))=_;rw[e,l];simp [fig]
 .have a:¬ NB z (ah "-") 0=true:=λq=>h (b.mp q);rw[if_neg (by rw[eN];exact λq=>a q.2)];unfold fig;split
  .rename_i r e;exact absurd #[r,e] h
  .rfl
def PlainL (l:NL):Prop:=l=[48]\/(1<=(fig l).length/\(fig l).length<=15/\(∀ c r,fig l=c::r->c≠48)/\Dig (fig l))
theorem Qj:sg (itx 0)=[48]:=by decide +kernel
theorem LZ{f:NL}(h:Dig f):fig f=f:=by
 unfold fig;split
 .have:=h 45 (by simp);lia
 .rfl
theorem jm:PlainL (sg z)↔∃ n:Int,n.natAbs < 10 ^ 15/\z=itx n:=by
 constructor
 .rintro(h | ⟨u,t,b,l⟩)
  .exact#[0,by decide,dm (by rw[h,Qj])]
  .obtain⟨k,hk⟩:∃ k,(fig (sg z)).length=k + 1:=#[(fig (sg z)).length - 1,by lia];let#[e,lt]:=z_ k _ hk l b;have f:vl (fig (sg z)) < 10 ^ 15:=da lt (WR (by decide) (by lia));have p:vl (fig (sg z))≠0:=λq=>by
    rw[q] at e;have:dg 0=[48]:=tG (by decide);rw[this] at e;exact b 48 [] e.symm rfl
   by_cases m:∃ r,sg z=45::r
   .let#[r,a]:=m;refine#[-(vl (fig (sg z)):Int),by lia,dm ?_];rw[oC,if_pos (by lia),show (-(vl (fig (sg z)):Int)).natAbs=vl (fig (sg z)) by lia,e,a];rfl
   .refine#[(vl (fig (sg z)):Int),by lia,dm ?_];rw[oC,if_neg (by lia),show ((vl (fig (sg z)):Nat):Int).natAbs=vl (fig (sg z)) by lia,e];unfold fig;split
    .rename_i r a;exact absurd #[r,a] m
    .rfl
 .rintro⟨n,g,rfl⟩;by_cases z:n=0
  .subst z;exact .inl Qj
  .right
   have i:fig (sg (itx n))=dg n.natAbs:=by
    rw[oC];by_cases s:n < 0
    .rw[if_pos s];rfl
    .rw[if_neg s];exact LZ (rj _)
   rw[i];let#[c,r,e,j]:=D_ (m:=n.natAbs) (by lia);exact#[CW _,vR 14 _ g,λv o d=>by rw[e] at d;cases d;exact j,rj _]
theorem EC{f:NL}(h1:1<=f.length)(d:f.length<=2)(hd:Dig f)(b:∀ r,f=48::r->r=[]):∃ n:Nat,n < 100/\f=sg (itx (n:Int)):=by
 by_cases z:f=[48]
 .exact#[0,by decide,by rw[z];exact Qj.symm]
 .obtain⟨k,hk⟩:∃ k,f.length=k + 1:=#[f.length - 1,by lia];let#[e,lt]:=z_ k f hk hd λc r a q=>by subst q;have:=b r a;subst this;exact z a
  have:vl f < 10 ^ 2:=da lt (WR (by decide) (by lia));exact#[vl f,this,by rw[oC,if_neg (by lia),show ((vl f:Nat):Int).natAbs=vl f by lia,e]]
theorem c8{n m:Int}(b:n.natAbs < 10 ^ 15)(c:m.natAbs < 10 ^ 15)(h:itx n=itx m):n=m:=by
 have a:=mZ b;rw[h,mZ c] at a;exact(gT a).symm
theorem v7{n:Int}(f:0<=n)(h1:n<=99):1<=(sg (itx n)).length/\(sg (itx n)).length<=2/\Dig (sg (itx n))/\∀ r,sg (itx n)=48::r->r=[]:=by
 rw[oC,if_neg (by lia)];refine#[CW _,vR 1 _ (by lia),rj _,λr e=>?_];by_cases z:n.natAbs=0
 .rw[z,tG (by decide)] at e;cases e;rfl
 .let#[c,d,b,a]:=D_ z;rw[b] at e;cases e;exact absurd rfl a
theorem aF(h:n<=100000):n<=sizeLine:=zh (by lia)
theorem cq{x:Str}(h1:As x)(b:As y):As (x++y):=λc a=>by
 rw[dN] at a;exact(kS.mp a).elim (h1 c) (b c)
theorem LX{l:NL}{c:Nat}(h:c∈fig l):c∈l:=by
 unfold fig at h;split at h
 .exact cb _ h
 .exact h
theorem inF{c:Nat}:inT (sgn c) (ah "0123456789")=decide (48<=c/\c<=57):=by
 unfold inT;show (!(jY (ah "0123456789") #[(Vz9 [c])] 0 (ah "0123456789").length 1).isEmpty)=_;rw[al6];have e:(ah "0123456789").cps.toList=[48,49,50,51,52,53,54,55,56,57]:=by decide +kernel
 rw[e];simp only[dk,fT,or_false];rw[TM,decide_eq_true_eq,decide_eq_true_eq];omega
theorem s_0:ah "0"=sgn 48:=by decide +kernel
theorem vc:(z == ah "0")=true↔sg z=[48]:=by
 rw[beq_iff_eq,s_0];exact#[λh=>by rw[h];rfl,λh=>dm (by rw[h];rfl)]
theorem Ff{f:Nat->Bool}{l:List Nat}:(gs l.length).map (λj=>D.bl (f (l.getD j 0)))=(l.map f).map D.bl:=by
 refine WB λi=>?_;by_cases h:i < l.length
 .rw[ef,XX h,ef,ef,gE0 h];simp [am6,h]
 .rw[nA (by simpa using h),nA (by simpa using h)]
def KD:S3:=λΓ Q=>∃ (z:Str),Γ=[some (.fz (.str z)),some (.fz (.int 15))]/\As z/\z.length<=1000/\(PlainL (sg z)->Q (.fz (.bl true)) Γ)/\(¬ PlainL (sg z)->Q (.fz (.bl false)) Γ)
theorem Ba(T:Txt K mg a):aT P w K mg base CX0 1 a.w8 a.uR ["word","most"] (sp3 K 2 KD):=by
 refine ok3 T.mh.F uI (hbody:=λU A u s H E F=>#[_,_,(ak (bL (aE (bF F) (bv 0) (P3.opd aq) (aL _)) (ax (aG fB)) aX)
   (ak (aM (i:=2) uI.nd rfl (ek rfl) (Pf (by rfl) (p3v 0) aq))
   (ak (bL (P3W.pt (cM (cj (pf oR oR V5 (P3.opd (aJ (gv) T.z_len (af (bv 2) ag))) (bv 1))) (cB (aE (bF F) (P3.opd (bg (bv 2) V5)) (P3.opd aq) (aL _))))) (ax (aG fB)) aX)
   (ax (aG (aJ (BH rfl) T.z_all (af (P3.opd (kB rfl (ur (p3v 2)) oU (λ_ _ _ _ _=>(bB (i:=0) oU.nd rfl (ek rfl))) (λ_ _ _ _ _=>(dP Rk (bv 0) (P3.opd (zJ (i:=ah "0123456789") (by rfl) T.uB)) (by with_unfolding_all rfl))))) ag))))))),λJ Q h hl=>?_])
 let#[z,rfl,R,Z,q,m]:=h;ext;refine iC (λh=>?_) (λh=>?_)
 .ext;exact q (.inl (vc.mp h))
 .have n:sg z≠[48]:=λe=>by rw[vc.mpr e] at h;cases h
  ext;have e:sg (Xe z (ah "-"))=fig (sg z):=Kx z;have sub:∀ c∈fig (sg z),32<=c/\c<=126:=λc v=>R c (LX v);have fl:(fig (sg z)).length<=z.length:=by
   rw[<- aQ z];unfold fig;split
   .rename_i r S;rw[S];simp
   .exact cc _
  generalize Xe z (ah "-")=y at e ⊢;have V:y.length=(fig (sg z)).length:=by rw[<- aQ,e]
  refine#[aF (by lia),aF (by lia),?_];cases o:jT 1 (y.length:Int)
  .ext;refine m λp=>?_;rcases p with p | ⟨Y,_⟩
   .exact n p
   .have:¬ (1:Int)<=(y.length:Int):=by simpa only[jT,decide_eq_false_iff_not] using o
    lia
  cases I:jT (y.length:Int) 15
  .ext;refine m λp=>?_;rcases p with p | ⟨_,X,_⟩
   .exact n p
   .have:¬ (y.length:Int)<=15:=by simpa only[jT,decide_eq_false_iff_not] using I
    lia
  simp only[jT,decide_eq_true_eq] at o I;ext;obtain⟨c,r,B⟩:∃ c r,sg y=c::r:=by
   match L:sg y with
   | []=>rw[<- aQ,L] at o;simp at o
   | c::r=>exact#[c,r,rfl]
  refine#[aF (by lia),c,iD (by decide) (by show (sg y)[0]?=_;rw[B];rfl),?_];ext;refine iC (λh=>?_) (λh=>?_)
  .ext;refine m λp=>?_;rcases p with p | ⟨_,_,N,_⟩
   .exact n p
   .have:sg (#[(Vz9 [c])]:Str)=[48]:=vc.mp h;have:c=48:=by simpa [sg] using this
    exact N c r (by rw[<- e,B]) this
  .have v:c≠48:=λx=>by
    subst x;rw[vc.mpr rfl] at h;cases h
   ext;refine#[uD λk hk=>sub k (by rw[<- e];exact hk),?_];refine#[small (by rw[kj,aQ];lia),iz (λk t l=>t=(gs k).map (λj=>D.bl (decide (48<=(sg y).getD j 0/\(sg y).getD j 0<=57)))/\∃ s,l=[fo s]) #[rfl,none,rfl] ?_ ?_]
   .rintro k d t l hd hk ⟨rfl,s,rfl⟩;let#[c',g,rfl]:=l9 hd;ext;rw[inF];have:(sg y).getD k 0=c':=by rw[ZM,g];rfl
    exact#[snoc (by rw[this]),some _,rfl]
   .rintro t l hk ⟨rfl,s,rfl⟩;ext;rw[kj];refine#[(sg y).map λc=>decide (48<=c/\c<=57),Ff (f:=λc=>decide (48<=c/\c<=57)),?_];cases C:((sg y).map λc=>decide (48<=c/\c<=57)).all id
    .refine m λp=>?_;rcases p with p | ⟨_,_,_,M⟩
     .exact n p
     .have:((sg y).map λc=>decide (48<=c/\c<=57)).all id=true:=by
       rw[XO];intro b O;let#[c',g,rfl]:=ot.mp O;rw[e] at g;simpa using M c' g
      rw[C] at this;cases this
    .refine q (.inr #[by lia,by lia,λc' W G=>?_,λc' g=>?_])
     .rw[<- e,B] at G;cases G;exact v
     .rw[XO] at C;have:=C _ (ot.mpr #[c',by rw[e];exact g,rfl]);simpa using this
def Tz:S3:=λΓ Q=>∃ (p:Int),Γ=[some (.fz (.int p)),some (.fz (.int 30))]/\0<=p/\p<=30/\Q (.fz .non) Γ
theorem vw(T:Txt K mg a):aT P w K mg base CX0 2 a.oM a.nB ["thing","most"] (sp3 K 2 Tz):=by
 refine ok3 T.fI.F vj (hbody:=λe A b s H E d=>#[_,_,(ax (bL (cj (cC (aH (iu T) d.dn T.bJ.m T.bJ.F.kp T.bJ.b (af (P3.opd (p3v 0)) (af V5 (af (P3.opd (p3v 1)) ag)))))) (ax dv) aX)),λc Q h f=>?_]);let#[p,rfl,i,g,q]:=h;ext;refine#[_,_,_,rfl,rfl,?_];rw[show whD (.int p) 0 30=true by simp only[whD,eN,decide_eq_true_eq];lia];ext;exact q
noncomputable def stp (n c:Nat):Nat:=(10 * n + (c - 32)) % 97
noncomputable def chk (n:Nat)(cs:List Nat):Nat:=cs.foldl stp n
noncomputable def two (n:Nat):Str:=#[(Vz9 [48 + n / 10,48 + n % 10])]
theorem Ow(n c:Nat):stp n c < 97:=ap9 _ (by decide)
theorem uz:∀ (cs:List Nat) (n:Nat),n < 97->chk n cs < 97
 | [],n,h=>h
 | c::cs,n,h=>uz cs _ (Ow n c)
theorem BB(n:Nat)(cs:List Nat)(c:Nat):chk n (cs++[c])=stp (chk n cs) c:=by
 unfold chk;rw[Xw];rfl
theorem zf2:∀ n:Fin 97,aq5 (itx (n.val:Int)) 2=two n.val:=by decide +kernel
theorem step_eq{c:Nat}(h:32<=c):(10 * (n:Int) + ((sgn c).cps.getD 0 0:Nat) - ((ah " ").cps.getD 0 0:Nat)) % 97=((stp n c:Nat):Int):=by
 have b:(sgn c).cps.getD 0 0=c:=rfl;have a:(ah " ").cps.getD 0 0=32:=by decide +kernel
 rw[b,a];unfold stp;lia
def NG:S3:=λΓ Q=>∃ (z:Str),Γ=[some (.fz (.str z))]/\As z/\z.length<=2000/\Q (.fz (.str (two (chk 0 (sg z))))) Γ
theorem uN(T:Txt K mg a):aT P w K mg base CX0 1 a.w9 a.uS ["text"] (sp3 K 1 NG):=by
 refine ok3 T.fh.F kn (hbody:=λn A e s H E o=>#[_,_,(ak (aM (i:=1) kn.nd rfl (ek rfl) ai)
   (ak (fV rr rfl (ur (p3v 0)) (bB (i:=2) kn.nd rfl (ek rfl))
   (ax (aM (i:=1) kn.nd rfl (ek rfl) (mS (P3.opd (iI (P3.opd (aO (P3.opd (oh V5 (bv 1))) (P3.opd (aJ Jb T.z_ord (af (bv 2) ag))))) (P3.opd (aJ Jb T.z_ord (af (P3.opd aq) ag))))) V5))))
   (ax (aG (Hk (by rfl) (ba rq T.z_str (af (bv 1) ag)) ai))))),λj Q h p=>?_])
 let#[z,rfl,f,m,q]:=h;ext;refine#[uD f,cN (λk b=>∃ s,b=[some (.fz (.str z)),some (.fz (.int (chk 0 ((sg z).take k):Nat))),fo s]) #[none,rfl] ?_ ?_]
 .rintro k d b hd ⟨s,rfl⟩;let#[c,g,rfl]:=l9 hd;have l:=f c (hF g);ext;exact#[.inl #[by decide,by decide],rfl,by decide +kernel,by decide,some (.str (sgn c)),by rw[step_eq l.1,<- BB,<- take_snoc g];rfl]
 .rintro b ⟨s,rfl⟩;ext;rw[kj,Re];have lt:=uz (sg z) 0 (by decide);refine#[by lia,by decide +kernel,?_];rw[zf2 #[_,lt]];exact q
theorem VL:∀ n:Fin 97,itx ((n.val:Int) / 10)++itx ((n.val:Int) % 10)=two n.val:=by decide +kernel
theorem eV(T:Txt K mg a):aT P w K mg base CX0 1 a.tw a.qo ["_law_text"] (sp3 K 1 NG):=by
 refine ok3 T.bj.F gY (hbody:=λp A e s H E u=>#[_,_,(ak (aM (i:=1) gY.nd rfl (ek rfl) ai)
   (ak (fV rr rfl (ur (p3v 0)) (bB (i:=2) gY.nd rfl (ek rfl))
   (ax (aM (i:=1) gY.nd rfl (ek rfl) (mS (P3.opd (iI (P3.opd (aO (P3.opd (oh (bv 1) V5)) (P3.opd (aJ Jb T.z_ord (af (bv 2) ag))))) V5)) V5))))
   (ax (aG (aO (P3.opd (ba rq T.z_str (af (P3.opd (g8 (bv 1) V5)) ag))) (P3.opd (ba rq T.z_str (af (P3.opd (mS (bv 1) V5)) ag)))))))),λl Q h v=>?_])
 let#[z,rfl,f,o,q]:=h;ext;refine#[uD f,cN (λk b=>∃ s,b=[some (.fz (.str z)),some (.fz (.int (chk 0 ((sg z).take k):Nat))),fo s]) #[none,rfl] ?_ ?_]
 .rintro k d b hd ⟨s,rfl⟩;let#[c,g,rfl]:=l9 hd;have m:=f c (hF g);ext;exact#[.inr #[by decide,by decide],rfl,by decide,some (.str (sgn c)),by
   rw[show ((chk 0 ((sg z).take k):Nat):Int) * 10 + ((sgn c).cps.getD 0 0:Nat) - 32=10 * ((chk 0 ((sg z).take k):Nat):Int) + ((sgn c).cps.getD 0 0:Nat) - ((ah " ").cps.getD 0 0:Nat) by
    rw[show (ah " ").cps.getD 0 0=32 by decide +kernel,Int.mul_comm];rfl]
   rw[step_eq m.1,<- BB,<- take_snoc g];rfl]
 .rintro b ⟨s,rfl⟩;ext;rw[kj,Re];have lt:=uz (sg z) 0 (by decide);have j:=VL #[_,lt];generalize chk 0 (sg z)=n at lt q j ⊢;have t:=mY (n:=(n:Int) / 10) (by lia);have r:=mY (n:=(n:Int) % 10) (by lia);refine#[#[by decide,by decide],by lia,by decide,by lia,aF (by lia),?_];rw[show itx ((n:Int) / 10)++itx ((n:Int) % 10)=two n from j];exact q
noncomputable def wyx (ls:List Lt):Str:=if ls.length=0 then ah "-" else wy ls
noncomputable def hd0 (R:Rl)(h w:Int)(x:Str)(p:Int):Str:=
 mu++ah "halved "++itx h++ah " "++itx w++ah " "++R.word++ah " "++x++ah " "++itx p++ah " "
noncomputable def hdT (R:Rl)(h w:Int)(x:Str)(p:Int):Str:=hd0 R h w x p++two (chk 0 (sg (hd0 R h w x p)))++ah ":"
theorem MK(ls:List Lt):As (wy ls):=λc a=>by
 rw[nO] at a;let#[l,_,rfl]:=ot.mp a;cases l <;> exact#[by decide,by decide]
theorem qX(n:Int):As (itx n):=λc a=>by
 rcases uo a with h | h
 .subst h;exact#[by decide,by decide]
 .exact#[by lia,by lia]
noncomputable instance (z:Str):Decidable (As z):=inferInstanceAs (Decidable (∀ c∈sg z,32<=c/\c<=126))
theorem DO(R:Rl):As R.word:=by cases R <;> decide +kernel
theorem TF:As mu:=by decide +kernel
theorem VY:As (ah "halved "):=by decide +kernel
theorem Cr:As (ah " "):=by decide +kernel
theorem TC:As (ah "-"):=by decide +kernel
theorem CP{R:Rl}{h w:Int}{x:Str}{p:Int}(a:As x):As (hd0 R h w x p):=
 cq (cq (cq (cq (cq (cq (cq (cq (cq (cq (cq TF VY) (qX h)) Cr) (qX w)) Cr) (DO R)) Cr) a) Cr) (qX p)) Cr
theorem jL:(ah "halved ").length=7:=by decide +kernel
theorem fF:(ah " ").length=1:=by decide +kernel
theorem kF(n:Nat):(two n).length=2:=rfl
theorem Nf:(ah ":").length=1:=by decide +kernel
theorem HU(R:Rl):R.word.length<=5:=by cases R <;> decide +kernel
theorem ix:mu.length=0:=rfl
theorem sF{n:Int}(h:n.natAbs<=64):(itx n).length<=16:=mY (by lia)
theorem z9{R:Rl}{h w:Int}{x:Str}{p:Int}(h1:h.natAbs<=64)(b:w.natAbs<=64)(a:p.natAbs<=64)(c:x.length<=12):(hd0 R h w x p).length<=200:=by
 unfold hd0;simp only[ee,jL,fF,ix];have:=sF h1;have:=sF b;have:=sF a;have:=HU R;lia
def Qy (a:Ad):S3:=λΓ Q=>∃ (R:Rl) (h w:Int) (ls:List Lt) (p:Int),Γ=[some (.fz (plD a R h w ls)),some (.fz (.int p))]/\gQ h w/\ls.length<=12/\0<=p/\p<=30/\Q (.fz (.str (hdT R h w (wyx ls) p))) Γ
theorem Cq(T:Txt K mg a):aT P w K mg base CX0 3 a.yI a.wY ["plan","planes"] (sp3 K 2 (Qy a)):=by
 refine ok3 T.oZ.F qG (hbody:=λv A g s H E c=>#[_,_,(ak (gZ (aH (vw T) c.dn T.fI.m T.fI.F.kp T.fI.b (af (P3.opd (p3v 1)) (af (P3.opd (jg (i:=30) T.qA)) ag))))
   (ak (aM (i:=2) qG.nd rfl (ek rfl) (oi (aE (dX c) (P3.opd (aK (bv 0) T.aY T.oz (om T) c.dn T.mn.b)) (P3.opd aq) (aL _)) (aK (bv 0) T.aY T.oz (om T) c.dn T.mn.b) aq))
   (ak (aM (i:=3) qG.nd rfl (ek rfl) (K1 (gi aq (gi (A8 (aK (bv 0) T.aY T.dR (dQ T) c.dn T.dA.b)) (gi aq (gi (A8 (aK (bv 0) T.aY T.eZ (eY T) c.dn T.dZ.b)) (gi aq (gi (A8 (P3.or (aK (P3.opd (aK (bv 0) T.aY T.cY (cX T) c.dn T.cT.b)) T.Ac T.mX (mU T) c.dn T.kf.b) (P3.or (aK (P3.opd (aK (bv 0) T.aY T.cY (cX T) c.dn T.cT.b)) T.uy T.jI (jG T) c.dn T.gU.b) (P3.or (aK (P3.opd (aK (bv 0) T.aY T.cY (cX T) c.dn T.cT.b)) T.rm T.iM (iK T) c.dn T.fK.b) (aK (P3.opd (aK (bv 0) T.aY T.cY (cX T) c.dn T.cT.b)) T.rl T.iL (iJ T) c.dn T.fJ.b))))) (gi aq (gi (A8 (p3v 2)) (gi aq (gi (A8 (p3v 1)) (gi aq Qc)))))))))))))
   (ax (aG (aO (P3.opd (aO (bv 3) (P3.opd (aH (uN T) c.dn T.fh.m T.fh.F.kp T.fh.b (af (P3.opd (p3v 3)) ag))))) (P3.opd aq))))))),λl Q h D=>?_])
 let#[R,h,w,ls,p,rfl,m,d,r,o,q]:=h;ext;let#[J,I,G,F,_]:=id m;refine#[p,rfl,r,o,?_];ext;refine#[by decide +kernel,R,h,w,ls,rfl,d,?_];ext;refine BK (λe=>?a) (λe=>?b)
 case' a=>
  have f:wyx ls=wy ls:=if_neg λz=>by
   rw[show ls=[] from xt.mp z] at e;exact absurd e (by decide +kernel)
  rw[f] at q;have k:(wy ls).length<=12:=by rw[kR];exact d
  have j:=MK ls;ext;refine#[by decide +kernel,R,h,w,ls,rfl,d,?_];ext
 case' b=>
  have f:wyx ls=ah "-":=if_pos (by
   have u:(wy ls == ah "")=true:=by simpa using e
   have t:wy ls=ah "":=by simpa using u
   have:(wy ls).length=0:=by rw[t];decide +kernel
   rw[kR] at this;exact this)
  rw[f] at q;have k:(ah "-").length<=12:=by decide +kernel
  have j:=TC;ext
 all_goals
  have C:=sF (n:=h) (by lia);have y:=sF (n:=w) (by lia);have B:=sF (n:=p) (by lia);have x:=HU R;refine#[aF (by simp only[ee,jL,fF,ix];lia),by decide +kernel,R,h,w,ls,rfl,d,?_];ext;refine#[by lia,aF (by simp only[ee,jL,fF,ix];lia),aF (by simp only[ee,jL,fF,ix];lia),by decide +kernel,R,h,w,ls,rfl,d,?_];ext;refine#[by lia,aF (by simp only[ee,jL,fF,ix];lia),aF (by simp only[ee,jL,fF,ix];lia),uf R ?_];rw[EF];ext;refine#[by decide +kernel,R,h,w,ls,rfl,d,?_];ext;refine#[_,rfl,?_];ext;refine#[aF (by lia),aF (by simp only[ee,jL,fF,ix];lia),aF (by simp only[ee,jL,fF,ix];lia),aF (by lia),aF (by simp only[ee,jL,fF,ix];lia),aF (by simp only[ee,jL,fF,ix];lia),by lia,aF (by simp only[ee,jL,fF,ix];lia),aF (by simp only[ee,jL,fF,ix];lia),aF (by simp only[ee,jL,fF,ix];lia),?_];refine#[_,rfl,CP (p:=p) (R:=R) (h:=h) (w:=w) j,eC (z9 (by lia) (by lia) (by lia) k) (by decide),?_];ext;exact#[aF (by simp only[ee,jL,fF,ix,kF,Nf];lia),aF (by simp only[ee,jL,fF,ix,kF,Nf];lia),q]
noncomputable def six (R:Rl)(h w:Int)(x:Str)(p:Int):Ls0:=[ah "halved",itx h,itx w,R.word,x,itx p]
noncomputable def ckT (R:Rl)(h w:Int)(x:Str)(p:Int):Str:=two (chk 0 (sg (hd0 R h w x p)))
theorem ED:sg (ah "halved ")=sg (ah "halved")++[32]:=by decide +kernel
theorem OF:sg mu=[]:=rfl
theorem z8{R:Rl}{h w:Int}{x:Str}{p:Int}:sg (hd0 R h w x p)=jn [32] ((six R h w x p).map sg)++[32]:=by
 unfold hd0 six;simp only[dN,ED,blank,OF,gr,Wp,jn,Os,nR]
theorem Cw(n:Int):32∉sg (itx n):=λh=>by
 rcases uo h with h | h <;> lia
theorem Li(R:Rl):32∉sg R.word:=by cases R <;> decide +kernel
theorem Cv:32∉sg (two n):=by
 show 32∉[48 + n / 10,48 + n % 10];simp;lia
theorem HI(ls:List Lt):32∉sg (wyx ls):=by
 unfold wyx;split
 .decide +kernel
 .rw[nO];intro h;let#[l,_,e]:=ot.mp h;cases l <;> exact absurd e (by decide)
theorem HJ{R:Rl}{h w:Int}{x:Str}{p:Int}(b:32∉sg x):∀ z∈six R h w x p++[ckT R h w x p],32∉sg z:=by
 intro z a;simp only[six,ckT,kS,dk,fT,or_false] at a;rcases a with (rfl | rfl | rfl | rfl | rfl | rfl) | rfl
 .decide +kernel
 .exact Cw _
 .exact Cw _
 .exact Li _
 .exact b
 .exact Cw _
 .exact Cv
theorem Eh{R:Rl}{h w:Int}{x:Str}{p:Int}:sg (tx (ah " ") (six R h w x p++[ckT R h w x p]))=sg (hd0 R h w x p)++sg (ckT R h w x p):=by
 rw[km,blank,hD,gr,Wp,z7 (by simp [six]),z8,nR]
structure Head (y:Str) (R:Rl) (h w:Int) (ls:List Lt) (p:Int):Prop where
 sz:gQ h w
 gd:Good h w ls
 p0:0<=p
 p1:p<=30
 eq:wds y=six R h w (wyx ls) p++[ckT R h w (wyx ls) p]
theorem Head.text{R:Rl}{h w:Int}{ls:List Lt}{p:Int}(d:Head y R h w ls p):bV y=hdT R h w (wyx ls) p:=by
 apply dm;rw[mw];unfold hdT;rw[dN,dN,Ab,<- vW y,d.eq,Eh];rfl
theorem Fo{R:Rl}{h w:Int}{x:Str}{p:Int}(a:32∉sg x)(e:bV y=hdT R h w x p):wds y=six R h w x p++[ckT R h w x p]:=by
 have c:sg y++[58]=sg (hd0 R h w x p)++sg (ckT R h w x p)++[58]:=by
  rw[<- mw,e];unfold hdT;rw[dN,dN,Ab];rfl
 have b:sg y=sg (hd0 R h w x p)++sg (ckT R h w x p):=List.append_cancel_right c;have:y=tx (ah " ") (six R h w x p++[ckT R h w x p]):=dm (by rw[Eh];exact b);rw[this];exact Ay (by simp) (HJ a)
theorem JF{ls ms:List Lt}(h:wyx ls=wyx ms):ls=ms:=by
 have c:∀ ns:List Lt,ah "-"≠wy ns:=λns e=>by
  have:(45:Nat)∈sg (wy ns):=by rw[<- e];decide +kernel
  rw[nO] at this;let#[l,_,e]:=ot.mp this;cases l <;> exact absurd e (by decide)
 unfold wyx at h;by_cases b:ls.length=0
 .by_cases a:ms.length=0
  .rw[xt.mp b,xt.mp a]
  .rw[if_pos b,if_neg a] at h;exact absurd h (c _)
 .by_cases a:ms.length=0
  .rw[if_neg b,if_pos a] at h;exact absurd h.symm (c _)
  .rw[if_neg b,if_neg a] at h;exact FR h
theorem Head.uniq{R c:Rl}{h h' w b:Int}{ls a:List Lt}{p p':Int}(d:Head y R h w ls p)(d':Head y c h' b a p'):R=c/\h=h'/\w=b/\ls=a/\p=p':=by
 have e:=d.eq.symm.trans d'.eq;simp only[six,Ja,Os,Ot,true_and] at e;let#[k,j,i,g,f,_]:=e;have:=d.sz;have:=d'.sz;have:=d.p0;have:=d.p1;have:=d'.p0;have:=d'.p1;let#[s,r,q,o,_]:=d.sz;let#[n,b2,m,l,_]:=d'.sz;exact#[Rl.vV i,c8 (by lia) (by lia) k,c8 (by lia) (by lia) j,JF g,c8 (by lia) (by lia) f]
theorem Dn:∃ (a:Ls0) (v:Str),wds y=a++[v]/\wds (bV y)=a++[bV v]:=by
 let#[a,v,e,b]:=Gp (c:=32) (d:=58) (by decide) (sg y);refine#[a.map mkS,mkS v,?_,?_]
 .unfold wds;rw[e,hD];rfl
 .unfold wds;rw[mw,b,hD,<- show mkS (v++[58])=bV (mkS v) from dm (by rw[mw];rfl)];rfl
theorem FV(h:As z):∀ v∈wds z,As v/\v.length<=z.length:=λv f=>by
 have e:∀ (ws:List NL) (w:NL),w∈ws->w.length<=(jn [32] ws).length/\∀ c∈w,c∈jn [32] ws:=by
  intro ws
  induction ws with
  | nil=>intro w hw;cases hw
  | cons x r g=>
   intro w hw;cases r with
   | nil=>
    have:w=x:=by simpa using hw
    subst this;exact#[cc _,λc d=>d]
   | cons u r=>
    show _<=(x++([32]++jn [32] (u::r))).length/\∀ c∈w,c∈x++([32]++jn [32] (u::r));rcases dk.mp hw with rfl | hw
    .exact#[by simp,λc d=>ml _ d]
    .let#[a,b]:=g w hw;exact#[by simp only[cn,ed,rp];lia,λc d=>eP _ (eP _ (b c d))]
 unfold wds at f;let#[w,hw,rfl]:=ot.mp f;let#[a,b]:=e _ w hw;rw[ze] at a b;exact#[λc d=>h c (b c d),by rw[<- aQ,<- aQ z];exact a]
theorem za:(wds z).length<=z.length + 1:=by
 have b:∀ a:NL,(spl 32 a).length<=a.length + 1:=by
  intro a
  induction a with
  | nil=>simp [spl]
  | cons x a c=>
   let#[u,r,e]:=qF 32 a;rw[spl];split
   .rw[ed,ed];lia
   .rw[e] at c ⊢;simp only[ed] at c ⊢;lia
 unfold wds;rw[lM0,<- aQ z];exact b _
theorem LA{i:Type}{l:List i}(h:l.length=7):∃ a b c d e f g,l=[a,b,c,d,e,f,g]:=by
 match l,h with
 | [a,b,c,d,e,f,g],_=>exact#[a,b,c,d,e,f,g,rfl]
noncomputable abbrev rdD (a:Ad)(pl:D)(p:Int)(n u:D)(b:Bool):D:=.ins a.aI ["halver","many_planes","numbers_read","numbers_unread","all_read"] [pl,.int p,n,u,.bl b]
def OO (a:Ad):S3:=λΓ Q=>∃ (c n u:D) (p:Int) (b:Bool),Γ=[some (.ln (.ins a.aI [] [])),some (.fz c),some (.fz (.int p)),some (.fz n),some (.fz u),some (.fz (.bl b))]/\
 Q (.fz .non) [some (.ln (rdD a c p n u b)),some (.fz c),some (.fz (.int p)),some (.fz n),some (.fz u),some (.fz (.bl b))]
theorem pN(T:Txt K mg a):aT P w K mg base CX0 1 a.fv a.i4 ["self","plan","planes","numbers","unread","whole"] (sp3 K 6 (OO a)):=by
 refine ok3 T.jv.F pK (hbody:=λe A c s H E g=>#[_,_,(ak (eD (C0:=a.aI) 0 T.bP T.kE (bv 0) (p3v 1))
   (ak (eD (C0:=a.aI) 0 T.bP T.fZ (bv 0) (p3v 2))
   (ak (eD (C0:=a.aI) 0 T.bP T.fE (bv 0) (p3v 3))
   (ak (eD (C0:=a.aI) 0 T.bP T.eJ (bv 0) (p3v 4))
   (ax (eD (C0:=a.aI) 0 T.bP T.iY (bv 0) (p3v 5))))))),λd Q h i=>?_])
 let#[f,n,u,p,b,rfl,q]:=h;ext;exact#[by decide +kernel,by decide +kernel,by decide +kernel,by decide +kernel,q]
def wj (a:Ad)(f:D->Int->D->D->Bool->D):S3:=λΓ Q=>∃ (c n u:D) (p:Int) (b:Bool),Γ=[some (.fz (rdD a c p n u b))]/\Q (.fz (f c p n u b)) Γ
theorem vy(T:Txt K mg a):aT P w K mg base CX0 1 a.jU a.nC ["self"] (sp3 K 1 (wj a λd _ _ _ _=>d)):=by
 refine ok3 T.nN.F vk (hbody:=λg A c s H E i=>#[_,_,(ax (aG (bD (f:="halver") (bv 0) T.bP T.kE))),λe Q h j=>?_]);let#[d,n,u,p,b,rfl,q]:=h;ext;exact q
theorem sj(T:Txt K mg a):aT P w K mg base CX0 1 a.gM a.kK ["self"] (sp3 K 1 (wj a λ_ p _ _ _=>.int p)):=by
 refine ok3 T.lH.F rO (hbody:=λe A c s H E i=>#[_,_,(ax (aG (bD (f:="many_planes") (bv 0) T.bP T.fZ))),λd Q h j=>?_]);let#[g,n,u,p,b,rfl,q]:=h;ext;exact q
theorem qT(T:Txt K mg a):aT P w K mg base CX0 1 a.gn a.jQ ["self"] (sp3 K 1 (wj a λ_ _ n _ _=>n)):=by
 refine ok3 T.kg.F qH (hbody:=λe A c s H E i=>#[_,_,(ax (aG (bD (f:="numbers_read") (bv 0) T.bP T.fE))),λd Q h j=>?_]);let#[g,n,u,p,b,rfl,q]:=h;ext;exact q
theorem sf(T:Txt K mg a):aT P w K mg base CX0 1 a.gL a.kJ ["self"] (sp3 K 1 (wj a λ_ _ _ u _=>u)):=by
 refine ok3 T.lG.F rN (hbody:=λe A c s H E i=>#[_,_,(ax (aG (bD (f:="numbers_unread") (bv 0) T.bP T.eJ))),λd Q h j=>?_]);let#[g,n,u,p,b,rfl,q]:=h;ext;exact q
theorem uh(T:Txt K mg a):aT P w K mg base CX0 1 a.iQ a.lT ["self"] (sp3 K 1 (wj a λ_ _ _ _ b=>.bl b)):=by
 refine ok3 T.nk.F ua (hbody:=λe A c s H E i=>#[_,_,(ax (aG (bD (f:="all_read") (bv 0) T.bP T.iY))),λd Q h j=>?_]);let#[g,n,u,p,b,rfl,q]:=h;ext;exact q
noncomputable abbrev wkD (a:Ad)(z:Str)(n:Nat):D:=.ins a.a_ ["text","here","marks","sizes","counts","ends"] [.str z,.int z.length,.lst (bw n (.str (ah ""))),.lst (bw n (.int 0)),.lst (bw n (.int 0)),.int 0]
theorem DD{d:D}:(bw (n:Int).toNat [d]).flatten=bw n d:=by rw[ks];simp
def NZ (a:Ad):S3:=λΓ Q=>∃ (z:Str) (n:Nat),Γ=[some (.ln (.ins a.a_ [] [])),some (.fz (.str z)),some (.fz (.int z.length)),some (.fz (.int n))]/\n<=512/\Q (.fz .non) [some (.ln (wkD a z n)),some (.fz (.str z)),some (.fz (.int z.length)),some (.fz (.int n))]
theorem ug(T:Txt K mg a):aT P w K mg base CX0 1 a.iP a.lS ["self","text","start","many"] (sp3 K 4 (NZ a)):=by
 refine ok3 T.nj.F t_ (hbody:=λd A b s H E e=>#[_,_,(ak (eD (C0:=a.a_) 0 T.bE T.mV (bv 0) (p3v 1))
   (ak (eD (C0:=a.a_) 0 T.bE T.ji (bv 0) (p3v 2))
   (ak (eD (C0:=a.a_) 0 T.bE T.g_ (bv 0) (je (P3.opd (bx (ae aq aA))) (bv 3)))
   (ak (eD (C0:=a.a_) 0 T.bE T.qa (bv 0) (je (P3.opd (bx (ae ai aA))) (bv 3)))
   (ak (eD (C0:=a.a_) 0 T.bE T.jH (bv 0) (je (P3.opd (bx (ae ai aA))) (bv 3)))
   (ax (eD (C0:=a.a_) 0 T.bE T.sv (bv 0) ai))))))),λc Q h g=>?_])
 let#[z,n,rfl,f,q]:=h;ext;refine#[by decide +kernel,z1,by lia,by lia,by rw[ff];lia,by decide +kernel,z1,by lia,by lia,by rw[ff];lia,by decide +kernel,z1,by lia,by lia,by rw[ff];lia,by decide +kernel,by decide +kernel,?_];rw[DD,DD];exact q
def JN (a:Ad):S3:=λΓ Q=>∃ (z:Str) (n:Nat) (x:Str),Γ=[some (.fz (wkD a z n)),some (.fz (.str x))]/\z.length<=1001/\Q (.fz (.str (ah ""))) Γ
theorem fY(T:Txt K mg a):aT P w K mg base CX0 1 a.oN a.sU ["self","among"] (sp3 K 2 (JN a)):=by
 refine ok3 T.fA.F zq (hbody:=λe A b s H E d=>#[_,_,(ak (bL (aE (bF d) (P3.opd (bD (f:="here") (bv 0) T.bE T.ji)) (P3.opd (aJ (gv) T.z_len (af (P3.opd (bD (f:="text") (bv 0) T.bE T.mV)) ag))) (aL _)) (ax (aG aq)) aX)
   (ak dv
   (ak dv
   (ak dv
   (ax dv))))),λc Q h i=>?_])
 let#[z,n,x,rfl,g,q]:=h;ext;exact#[aF (by lia),q]
def OL (a:Ad):S3:=λΓ Q=>∃ (z:Str) (n:Nat) (k:Int),Γ=[some (.fz (wkD a z n)),some (.fz (.int k))]/\z.length<=1001/\Q (.fz .non) Γ
theorem pM(T:Txt K mg a):aT P w K mg base CX0 2 a.fu a.iZ ["self","at"] (sp3 K 2 (OL a)):=by
 refine ok3 T.ju.F iW (hbody:=λg A c s H E b=>#[_,_,(ak (aM (i:=2) iW.nd rfl (ek rfl) (jf (bv 0) T.bE T.gc (fY T) b.dn T.fA.b (af (P3.opd aq) ag)))
   (ak (bL (P3W.pt (kz (aE (bF b) (bv 2) (P3.opd aq) (aL _)) (iq (aE (bF b) (P3.opd (bg (P3.opd (bD (f:="marks") (bv 0) T.bE T.g_)) (bv 1))) (P3.opd aq) (aL _))))) (ak dv
   (ax dv)) aX)
   (ax (bL (aE (dX b) (bv 2) (P3.opd aq) (aL _)) (ak dv
   (ax dv)) aX)))),λd Q h j=>?_])
 let#[z,n,k,rfl,e,q]:=h;ext;refine#[by decide +kernel,z,n,_,rfl,e,?_];ext;rw[show (ah "" == ah "1")=false by decide +kernel];ext;exact q
def SN (a:Ad):S3:=λΓ Q=>∃ (z:Str) (n:Nat),Γ=[some (.fz (wkD a z n))]/\z.length<=1001/\n<=512/\Q (.fz .non) Γ
theorem qR(T:Txt K mg a):aT P w K mg base CX0 3 a.gj a.jO ["self"] (sp3 K 1 (SN a)):=by
 refine ok3 T.kb.F cL (hbody:=λp A m s H E b=>#[_,_,(ak (aM (i:=1) cL.nd rfl (ek rfl) (bD (f:="here") (bv 0) T.bE T.ji))
   (ak (fV rr rfl (fG T.z_range (ae (aJ (gv) T.z_len (af (P3.opd (bD (f:="marks") (bv 0) T.bE T.g_)) ag)) aA)) (bB (i:=2) cL.nd rfl (ek rfl))
   (ax (gZ (jf (bv 0) T.bE T.pO (pM T) b.dn T.ju.b (af (P3.opd (p3v 2)) ag)))))
   (ak (aM (i:=3) cL.nd rfl (ek rfl) (bD (f:="here") (bv 0) T.bE T.ji))
   (ak (aM (i:=4) cL.nd rfl (ek rfl) (aO (P3.opd (jf (bv 0) T.bE T.gc (fY T) b.dn T.fA.b (af (P3.opd (zJ (i:=ah "0123456789") (by rfl) T.uB)) ag))) (P3.opd (jf (bv 0) T.bE T.gc (fY T) b.dn T.fA.b (af (P3.opd (zJ (i:=ah "0123456789") (by rfl) T.uB)) ag)))))
   (ak (bL (P3W.pt (kz (aE (bF b) (P3.opd (aJ (gv) T.z_len (af (bv 4) ag))) V5 (aL _)) (iq (aE (dX b) (bv 4) (P3.opd (aH (uN T) b.dn T.fh.m T.fh.F.kp T.fh.b (af (P3.opd (lL (P3.opd (bD (f:="text") (bv 0) T.bE T.mV)) (de (bv 1)) (de (bv 3)))) ag))) (aL _))))) (ax dv) aX)
   (ax (bL (aE (bF b) (P3.opd (jf (bv 0) T.bE T.gc (fY T) b.dn T.fA.b (af (P3.opd aq) ag))) (P3.opd aq) (aL _)) (ax dv) aX))))))),λo Q h t=>?_])
 let#[z,n,rfl,g,r,q]:=h;ext;rw[ey];refine#[by lia,by lia,cN (λk j=>∃ l e c,j=[some (.fz (wkD a z n)),some (.fz (.int z.length)),fo l,fo e,fo c]) #[none,none,none,rfl] ?_ ?_]
 .rintro k d j hd ⟨l,e,c,rfl⟩;let#[lk,rfl]:=fW hd;ext;refine#[by decide +kernel,z,n,_,rfl,g,?_];ext;exact#[some _,e,c,rfl]
 .rintro j ⟨l,e,c,rfl⟩;ext;refine#[by decide +kernel,z,n,_,rfl,g,?_];ext;refine#[by decide +kernel,z,n,_,rfl,g,?_];ext;refine#[by decide +kernel,by decide +kernel,?_];ext;rw[show ((((ah ""++ah "").length:Nat):Int) == 2)=false by decide +kernel];ext;refine#[by decide +kernel,z,n,_,rfl,g,?_];ext;rw[show (ah "" == ah ";")=false by decide +kernel];ext;exact q
def TK (a:Ad):S3:=λΓ Q=>∃ (z:Str) (n:Nat) (p:Int),Γ=[some (.fz (wkD a z n)),some (.fz (.int p))]/\n<=512/\0<=p/\p<=30/\Q (.fr (il (bw n 0))) Γ
theorem AU{d:D}:bw k d++[d]=bw (k + 1) d:=ag5.symm
theorem H_{i:Int}:(bw k i).map D.int=bw k (D.int i):=Yq
theorem zw{d e:D}(h:(bw n d)[k]?=some e):e=d/\k < n:=by
 rw[IR] at h;split at h
 .cases h;exact#[rfl,by assumption]
 .cases h
theorem qS(T:Txt K mg a):aT P w K mg base CX0 1 a.gk a.jP ["self","planes"] (sp3 K 2 (TK a)):=by
 refine ok3 T.kc.F b8 (hbody:=λv A l s H E o=>#[_,_,(ak (aM (i:=2) b8.nd rfl (ek rfl) (bx aA))
   (ak (fV rr rfl (LJ (by rfl) T.z_zip (ae (bD (f:="marks") (bv 0) T.bE T.g_) (ae (bD (f:="sizes") (bv 0) T.bE T.qa) (ae (bD (f:="counts") (bv 0) T.bE T.jH) aA)))) (QV (is:=[3,4,5]) (by rfl) (aR (a8 (i:=3) b8.nd rfl (ek rfl)) (aR (a8 (i:=4) b8.nd rfl (ek rfl)) (aR (a8 (i:=5) b8.nd rfl (ek rfl)) eE))) rfl)
   (ak (aM (i:=6) b8.nd rfl (ek rfl) (Cn (bv 4) (P3.opd (iI (bv 1) (bv 5)))))
   (ax (gZ (lM 2 (bv 2) (oi (aE (bF o) (bv 3) (P3.opd aq) (aL _)) (zH (bv 6)) (p3v 6)))))))
   (ax (aG (Cm 2))))),λm Q h C=>?_])
 let#[z,n,p,rfl,B,y,x,q]:=h;ext;refine#[z0,cN (λk b=>k<=n/\∃ j g e c,b=[some (.fz (wkD a z n)),some (.fz (.int p)),some (.ow (.lst (bw k (.int 0)))),fo j,fo g,fo e,fo c]) #[rx _,none,none,none,none,rfl] ?_ ?_]
 .rintro k d b hd ⟨hk,j,g,e,c,rfl⟩;let#[G,F,D,u,t,r,rfl]:=vF hd;let#[rfl,lt]:=zw u;let#[rfl,_]:=zw t;let#[rfl,_]:=zw r;ext;refine#[#[by lia,by lia],?_];ext;rw[show (ah "" == ah "-")=false by decide +kernel];ext;rw[ey];exact#[by rw[ff];lia,lt,some _,some _,some _,some _,by rw[Int.zero_mul,AU];rfl]
 .rintro b ⟨hk,j,g,e,c,rfl⟩;rw[zb,ey,ey,ad1,ad1];ext;rw[<- H_];exact q
def R_ (a:Ad):S3:=λΓ Q=>∃ (z:Str) (n:Nat) (p:Int),Γ=[some (.fz (wkD a z n)),some (.fz (.int p))]/\n<=512/\0<=p/\p<=30/\Q (.fr (il (bw n (2 ^ p.toNat - 1)))) Γ
theorem se(T:Txt K mg a):aT P w K mg base CX0 1 a.gK a.kI ["self","planes"] (sp3 K 2 (R_ a)):=by
 refine ok3 T.lF.F rM (hbody:=λj A e s H E o=>#[_,_,(ax (aG (kB rfl (hU (bD (f:="counts") (bv 0) T.bE T.jH)) iA (λ_ _ _ _ _=>(bB (i:=0) iA.nd rfl (ek rfl))) (λ_ _ _ _ _=>(iI (P3.opd (Cn V5 (P3.opd (iI (bv 1) (bv 0))))) V5))))),λg Q h t=>?_]);let#[z,n,p,rfl,r,m,l,q]:=h;ext;refine#[small (by rw[ey];lia),iz (λk c b=>c=bw k (.int (2 ^ p.toNat - 1))/\∃ s,b=[fo s,some (.fz (.int p))]) #[rfl,none,rfl] ?_ ?_]
 .rintro k d c b hd hk ⟨rfl,s,rfl⟩;let#[rfl,lt]:=zw hd;ext;refine#[#[by lia,by lia],?_,some _,rfl];rw[Int.sub_zero,Int.one_mul,AU]
 .rintro c b hk ⟨rfl,s,rfl⟩;rw[ey];ext;rw[<- H_];exact q
theorem sx{U:Addr}(x:uF K U C)(D:Addr):∃ b,ia K C (.ref D)=some b/\(D=C->b=true):=by
 let#[f,rest,d,c,a]:=x.sub (.ref D);refine#[_,a,λe=>?_];subst e;rw[c];simp
theorem Uw(T:Txt K mg a)(h:C∈[a.bH,a.bI,a.bW]):MI K C a.bH a.bI a.bW:=by
 have e:∀ D,uF K a.aD D->D∈[a.bH,a.bI,a.bW]->MI K D a.bH a.bI a.bW:=λD x b=>by
  let#[k,m1,i]:=sx x a.bH;let#[b2,d,g]:=sx x a.bI;let#[j,c,f]:=sx x a.bW;refine#[k,b2,j,m1,d,c,?_];simp only[dk,fT,or_false] at b;rcases b with h | h | h
  .rw[i h.symm];rfl
  .rw[g h.symm];simp
  .rw[f h.symm];simp
 refine e C ?_ h;simp only[dk,fT,or_false] at h;rcases h with rfl | rfl | rfl
 .exact T.tZ.un
 .exact T.lD.un
 .exact T.lC.un
noncomputable def yw (v:Str):Str:=if v=ah "-" then ah "" else v
theorem MJ{v:Str}(h:As v)(a:v.length<=1000):As (yw v)/\(yw v).length<=1000:=by
 unfold yw;split
 .exact#[by decide +kernel,by decide +kernel]
 .exact#[h,a]
noncomputable def nhX (a:Ad)(d:D):XD:=#[a.bX,["found"],[d]]
noncomputable def Ut (a:Ad):S3X:=λΓ Q W=>∃ (z f c b e d:Str) (h w:Int),Γ=[some (.fz (.str z)),some (.fz (.lst [.str f,.str (itx h),.str (itx w),.str c,.str b,.str e,.str d]))]/\h.natAbs < 10 ^ 15/\w.natAbs < 10 ^ 15/\As b/\b.length<=1000/\
 (∀ R ls,Au h w c (yw b) R ls->Q (.fr (plD a R h w ls)) Γ)/\((∀ R ls,¬ Au h w c (yw b) R ls)->W (nhX a (.str z)) Γ)
theorem wD(T:Txt K mg a):aT P w K mg base (CX1 P w base true) 8 a.u5 a.sN ["text","words"] (rK K 2 (Ut a)):=by
 refine E7 T.j7.F fM (hbody:=λC A j s H E m=>#[_,_,(λB M W g=>(cP (P3S.x (JX (is:=[2,3,4,5]) (by rfl) (og (bv 1) (de V5) (de V5)) (aR (a8 (i:=2) fM.nd rfl (ek rfl)) (aR (a8 (i:=3) fM.nd rfl (ek rfl)) (aR (a8 (i:=4) fM.nd rfl (ek rfl)) (aR (a8 (i:=5) fM.nd rfl (ek rfl)) eE)))) rfl))
   (jx (JA (by rfl) g T.Et T.Eu T.FQ rfl rfl (by rfl) T.yq (by rfl) T.yr (by rfl) T.wJ T.bM.xm (iX T) m.dn.h (by rfl) T.jq T.cU.b GO (λe=>PassesOwnAt.leaving) (by decide) (λc L E W g=>(jx (NT (JD (by rfl) g T.mk_Plan (qU T) Pe m.dn (by rfl) T.Lx T.nq.b (ae (ba uA T.z_int (af (bv 2) ag)) (ae (ba uA T.z_int (af (bv 3) ag)) (ae (p3v 4) (ae (oi (aE (bF m) (bv 5) (P3.opd aq) (aL _)) aq (p3v 5)) aA)))))))) (λc e=>(ae (p3v 0) aA)))))),λv Q J h I=>?_])
 let#[z,G,r,w4,F,D,h,w,rfl,u,t,y,x,q,f]:=h;ext;refine#[h,mZ u,eC (mY u) (by decide),w,mZ t,eC (mY t) (by decide),?_];have b:=MJ y x;by_cases hd:w4=ah "-"
 .have o:yw w4=ah "":=if_pos hd;rw[o] at q f b;have p:(w4 == ah "-")=true:=beq_iff_eq.mpr hd;rw[p];ext;exact#[h,w,r,_,rfl,b.1,b.2,λR l ok=>#[rfl,q R l ok],λk e d n=>#[Uw T n,rfl,f k]]
 .have o:yw w4=w4:=if_neg hd;rw[o] at q f b;have p:(w4 == ah "-")=false:=beq_eq_false_iff_ne.mpr hd;rw[p];ext;exact#[h,w,r,_,rfl,b.1,b.2,λR l ok=>#[rfl,q R l ok],λk e d n=>#[Uw T n,rfl,f k]]
theorem LC(k n:Nat):xp none (some (k:Int)) 1 n=gs (min k n):=by
 unfold xp sliceRange;have h:¬ ((k:Int) < 0):=by lia
 simp only[h,if_false,show (1:Int) > 0 by decide,if_true];have e:(if (0:Int) < max 0 (min (k:Int) n) then (max 0 (min (k:Int) n) - 0 + 1 - 1) / 1 else 0).toNat=min k n:=by split <;> lia
 rw[e];refine(XY (g:=id) λj _=>?_).trans (af9 _);simp
theorem mM {a:Type}(l:List a):∀ m:Nat,m<=l.length->(gs m).filterMap (λi=>l[i]?)=l.take m
 | 0,_=>by simp
 | m + 1,h=>by
  have e:l[m]?=some l[m]:=gE0 (by lia);have b:XG (λi=>l[i]?) [m]=[l[m]]:=by simp [e]
  rw[Yj,List.filterMap_append,mM l m (by lia),b,aq1,e]
  rfl
theorem LF(hk:k<=n):xp (some (k:Int)) none 1 n=(gs (n - k)).map (k + ·):=by
 unfold xp sliceRange;have h:¬ ((k:Int) < 0):=by lia
 simp only[h,if_false,show (1:Int) > 0 by decide,if_true];have a:max 0 (min (k:Int) n)=(k:Int):=by lia
 rw[a];have e:(if (k:Int) < (n:Int) then ((n:Int) - k + 1 - 1) / 1 else 0).toNat=n - k:=by split <;> lia
 rw[e];refine XY λj _=>?_;lia
theorem vH(z:Str)(k:Nat):sg (Xc z none (some (k:Int)))=(sg z).take k:=by
 unfold Xc;rw[LC,YH];by_cases h:z.length<=k
 .rw[if_pos (by simp;lia),pa (by rw[aQ];exact h)]
 .rw[if_neg (by simp;lia)];have:=mM (sg z) (min k z.length) (by rw[aQ];lia);rw[show min k z.length=k by lia] at this ⊢;rw[<- this];show (XG (λx=>z.cps[x]?) (gs k))=_
  congr 1
  funext x
  rw[<- Xv]
theorem VD(hk:k<=z.length):sg (Xc z (some (k:Int)) none)=(sg z).drop k:=by
 unfold Xc;rw[LF hk,lM0,YH];by_cases h:k=0
 .subst h;rw[if_pos (by simp)];rfl
 .rw[if_neg (by simp;lia)];have:=mM ((sg z).drop k) (z.length - k) (by rw[Vy,aQ];exact cc _);rw[pa (by rw[Vy,aQ];exact cc _)] at this;rw[<- this];show (XG (λx=>z.cps[x]?) ((gs (z.length - k)).map (k + ·)))=_;rw[ai6]
  congr 1
  funext x
  rw[Yo];show z.cps[k + x]?=_;rw[<- Xv]
theorem OB(h:z.length<=k):Xc z none (some (k:Int))=z:=dm (by rw[vH,pa (by rw[aQ];exact h)])
theorem yO(y:Str):(bV y).length=y.length + 1:=by unfold bV;rw[ee,gu]
theorem OA(h:58∉sg y):Xc (bV y) none (some (ag2 (bV y) (ah ":") + 1))=bV y:=by
 rw[Iu h,show ((y.length:Int) + 1)=((y.length + 1:Nat):Int) by lia];exact OB (by rw[yO];exact cc _)
theorem Dg(h:As y):As (bV y):=cq h (by decide +kernel)
theorem BS(ls:List Lt):yw (wyx ls)=wy ls:=by
 unfold wyx;split
 .rename_i h;rw[xt.mp h];decide +kernel
 .refine if_neg λe=>?_;have:(45:Nat)∈sg (wy ls):=by rw[e];decide +kernel
  rw[nO] at this;let#[l,_,e]:=ot.mp this;cases l <;> exact absurd e (by decide)
theorem JT{h g f d c b a:Str}(e:wds (bV y)=[h,g,f,d,c,b,a]):∃ v,wds y=[h,g,f,d,c,b,v]/\a=bV v:=by
 let#[i,v,m,l]:=Dn (y:=y);rw[l] at e;have n:i++[bV v]=[h,g,f,d,c,b]++[a]:=e;let#[k,j]:=an3 n rfl;cases j;exact#[v,by rw[m,k];rfl,rfl]
theorem Head.Ss{i g f c b a j:Str}(e:wds (bV y)=[i,g,f,c,b,a,j]){R:Rl}{h w:Int}{ls:List Lt}{p:Int}(d:Head y R h w ls p) :
  i=ah "halved"/\g=itx h/\f=itx w/\c=R.word/\b=wyx ls/\a=itx p:=by
 let#[v,k,_]:=JT e;have:=k.symm.trans d.eq;simp only[six,Ja,Os,Ot] at this;exact#[this.1,this.2.1,this.2.2.1,this.2.2.2.1,this.2.2.2.2.1,this.2.2.2.2.2.1]
theorem Head.LA{R:Rl}{h w:Int}{ls:List Lt}{p:Int}(d:Head y R h w ls p):(wds (bV y)).length=7:=by
 let#[c,v,b,a]:=Dn (y:=y);have:=congrArg YZ (b.symm.trans d.eq);rw[a];simpa [six] using this
theorem Head.small{R:Rl}{h w:Int}{ls:List Lt}{p:Int}(d:Head y R h w ls p):h.natAbs < 10 ^ 15/\w.natAbs < 10 ^ 15/\p.natAbs < 10 ^ 15:=by
 let#[e,c,b,a,_]:=d.sz;have:=d.p0;have:=d.p1;exact#[by lia,by lia,by lia]
theorem Jl{a b c d e f g:D}:atI [a,b,c,d,e,f,g] 5=some f:=rfl
theorem W7{a b c d e f g:D}:atI [a,b,c,d,e,f,g] 2=some c:=rfl
theorem W8{a b c d e f g:D}:atI [a,b,c,d,e,f,g] 1=some b:=rfl
noncomputable def plB (z:Str):Bool:=@decide (PlainL (sg z)) (Yw _)
theorem rT:plB z=true↔PlainL (sg z):=@decide_eq_true_iff _ (Yw _)
theorem G6:plB z=false↔¬ PlainL (sg z):=@decide_eq_false_iff_not _ (Yw _)
noncomputable def SR (a:Ad):S3X:=λΓ Q W=>(∃ d,Γ=[some (.fz d)]/\knD d=true/\dS d=false/\W (nhX a d) Γ)\/
 (∃ z,Γ=[some (.fz (.str z))]/\z.length<=1000/\58∉sg z/\W (nhX a (.str z)) Γ)\/
 (∃ y,Γ=[some (.fz (.str (bV y)))]/\As y/\y.length<=900/\58∉sg y/\(∀ R h w ls p,Head y R h w ls p->Q (.fz (.tup [.str (bV y),plD a R h w ls,.int p])) Γ)/\((∀ R h w ls p,¬ Head y R h w ls p)->W (nhX a (.str (bV y))) Γ))
theorem wB(T:Txt K mg a):aT P w K mg base (CX1 P w base true) 9 a.uX a.sJ ["text"] (rK K 1 (SR a)):=by
 refine E7 T.j4.F i_ (hbody:=λa2 A S s H E c=>#[_,_,(λB F0 W F=>(cP (xW (P3W.pt (cM (cj (cC (aJ (NK T.tys) T.z_isinstance (af (bv 0) (af (P3.opd (yk (n:="str") T.z_str)) ag))))) (cB (aE Al (P3.opd aq) (bv 0) (by with_unfolding_all rfl))))) (jx (jw F T.bM.xm (fq T) c.dn T.jq T.cU.b mO (ae (p3v 0) aA))) (aX).x)
   (cP (P3S.x (aM (i:=1) i_.nd rfl (ek rfl) (lL (bv 0) fX (de (P3.opd (aO (P3.opd (K2 (by rfl) (p3v 0) aq)) V5))))))
   (cP (P3S.x (aM (i:=2) i_.nd rfl (al7 rfl) (A7 (by rfl) (p3v 1) aq)))
   (cP (xW (P3W.pt (cM (aE (dX c) (P3.opd (aJ (gv) T.z_len (af (bv 2) ag))) V5 (aL _)) (cB (cj (cC (aJ (BH rfl) T.z_all (af (P3.opd (kB rfl (hU (bx (ae ai (ae ai (ae ai aA))))) nG (λ_ _ _ _ _=>(bB (i:=0) nG.nd rfl (ek rfl))) (λ_ _ _ _ _=>(aH (Ba T) c.dn T.mh.m T.mh.F.kp T.mh.b (af (P3.opd (bg (bv 1) (bv 0))) (af (P3.opd (jg (i:=15) T.xk)) ag)))))) ag))))))) (jx (jw F T.bM.xm (fq T) c.dn T.jq T.cU.b mO (ae (p3v 0) aA))) (aX).x)
   (cP (NU (i:=3) (j:=4) rfl i_.nd rfl rfl (by decide) (by rfl) (by rfl) (o8 F (wD T) (dM.of DJ) c.dn T.j7.m T.j7.F.kp T.j7.b (af (P3.opd (p3v 0)) (af (P3.opd (p3v 2)) ag))) (ae (ba uA T.z_int (af (P3.opd (bg (bv 2) V5)) ag)) aA) (by rfl))
   (cP (xW (P3W.pt (cM (cj (cC (aH (iu T) c.dn T.bJ.m T.bJ.F.kp T.bJ.b (af (P3.opd (p3v 4)) (af V5 (af (P3.opd (jg (i:=30) T.qA)) ag)))))) (cB (aE (dX c) (bv 1) (P3.opd (aH (Cq T) c.dn T.oZ.m T.oZ.F.kp T.oZ.b (af (P3.opd (p3v 3)) (af (P3.opd (p3v 4)) ag)))) (aL _))))) (jx (jw F T.bM.xm (fq T) c.dn T.jq T.cU.b mO (ae (p3v 0) aA))) (aX).x)
   (lB.x (ax (aG (cF (ae (p3v 1) (ae (p3v 3) (ae (p3v 4) aA)))))))))))))),λa1 Q W3 h hl=>?_])
 rcases h with ⟨d,rfl,kd,sd,q⟩ | ⟨z,rfl,lz,nz,q⟩ | ⟨y,rfl,ha,ly,ny,q,v⟩
 .cases d <;> first | cases sd;done | cases kd;done | (ext;exact q)
 .ext;rw[Fn nz];ext;exact q
 .have lc:=yO y;ext;rw[Qq ny];ext;rw[OA ny];refine#[aF (by lia),by decide +kernel,aF (by lia),?_];rw[o_];have lw:=za (z:=bV y);have C:=FV (Dg ha);refine#[aF (by lia),?_];rw[lM0];by_cases l7:(wds (bV y)).length=7
  case neg=>
   rw[show (((wds (bV y)).length:Int) == 7)=false from beq_eq_false_iff_ne.mpr (by lia)];ext;exact v λR h w b p d=>l7 d.LA
  let#[w0,l,g,w3,O,f,Z,e7]:=LA l7;rw[e7] at C ⊢;have G:=λR h w b p (d:Head y R h w b p)=>d.Ss e7;simp only[gr,Wp];ext;rw[show (((7:Nat):Int) == 7)=true from rfl];ext;have p1:=C l (by simp);have p2:=C g (by simp);have p4:=C O (by simp);have p5:=C f (by simp);refine#[aF (by lia),zh (by lia),iz (λk N m=>N=([l,g,f].take k).map (λz=>D.bl (plB z))/\∃ s,m=[fo s,some (.ln (.lst [.str w0,.str l,.str g,.str w3,.str O,.str f,.str Z]))]) #[rfl,none,rfl] ?_ ?_]
  .rintro k d N m hd hk ⟨rfl,s,rfl⟩
   match k,hd with
   | 0,hd=>
    cases hd;ext;exact#[l,rfl,p1.1,by lia,λe=>#[by rw[<- rT.mpr e];rfl,some _,rfl],λe=>#[by rw[<- G6.mpr e];rfl,some _,rfl]]
   | 1,hd=>
    cases hd;ext;exact#[g,rfl,p2.1,by lia,λe=>#[by rw[<- rT.mpr e];rfl,some _,rfl],λe=>#[by rw[<- G6.mpr e];rfl,some _,rfl]]
   | 2,hd=>
    cases hd;ext;rw[Jl];ext;exact#[f,rfl,p5.1,by lia,λe=>#[by rw[<- rT.mpr e];rfl,some _,rfl],λe=>#[by rw[<- G6.mpr e];rfl,some _,rfl]]
  .rintro N m hk ⟨rfl,s,rfl⟩;ext;refine#[[plB l,plB g,plB f],rfl,?_];cases V:[plB l,plB g,plB f].all id
   case false=>
    ext;refine v λR h w b p d=>?_;let#[_,t,r,_,_,x]:=G R h w b p d;let#[u,b2,M]:=d.small;have z1:plB l=true:=rT.mpr (jm.mpr #[h,u,t]);have z2:plB g=true:=rT.mpr (jm.mpr #[w,b2,r]);have z5:plB f=true:=rT.mpr (jm.mpr #[p,M,x]);rw[z1,z2,z5] at V;cases V
   case true=>
    have o:plB l=true/\plB g=true/\plB f=true:=by simpa using V
    let#[h,L,rfl]:=jm.mp (rT.mp o.1);let#[w,I,rfl]:=jm.mp (rT.mp o.2.1);let#[p,J,rfl]:=jm.mp (rT.mp o.2.2);ext;refine#[bV y,w0,w3,O,itx p,Z,h,w,rfl,L,I,p4.1,by lia,λR b ok=>?_,λno=>?_]
    .ext;rw[Jl];ext;refine#[p,mZ J,eC (mY J) (by decide),?_];ext;refine#[_,_,_,rfl,rfl,?_];by_cases inr:0<=p/\p<=30
     case neg=>
      rw[show whD (.int p) 0 30=false by
       rw[ZV];intro e;simp only[whD,eN,decide_eq_true_eq] at e;exact inr e]
      ext;refine v λR h' w' ls' p' d=>inr ?_;let#[_,_,_,_,_,x]:=G R h' w' ls' p' d;rw[c8 J d.small.2.2 x];exact#[d.p0,d.p1]
     rw[show whD (.int p) 0 30=true by simp only[whD,eN,decide_eq_true_eq];exact inr];ext;refine#[R,h,w,b,p,rfl,ok.sz,yu ok.sz ok.gd,inr.1,inr.2,?_];ext;cases U:(bV y == hdT R h w (wyx b) p)
     case true=>
      ext;exact#[aF (by decide),q R h w b p #[ok.sz,ok.gd,inr.1,inr.2,Fo (HI b) (eq_of_beq U)]]
     case false=>
      ext;refine v λR' h' w' ls' p' d=>?_;let#[_,t,r,Y,X,x]:=G R' h' w' ls' p' d;let#[u,b2,M]:=d.small;have l1:h=h':=c8 L u t;have l2:w=w':=c8 I b2 r;have l5:p=p':=c8 J M x;have l3:R=R':=Rl.vV (ok.wd.symm.trans Y);have l4:b=ls':=by
       have:=ok.wy;rw[X,BS] at this;exact(FR this).symm
      subst l1 l2 l3 l4 l5;rw[d.text] at U;simp at U
    .ext;refine v λR h' w' b p' d=>?_;let#[_,t,r,Y,X,_]:=G R h' w' b p' d;let#[u,b2,M]:=d.small;refine no R b #[?_,Y,by rw[X,BS],?_]
     .rw[c8 L u t,c8 I b2 r];exact d.sz
     .rw[c8 L u t,c8 I b2 r];exact d.gd
theorem toN{h w:Int}(c:gQ h w):∃ b a:Nat,h=b/\w=a/\b<=64/\a<=64/\b * a<=512:=by
 let#[j,i,g,f,d]:=id c;refine#[h.toNat,w.toNat,by lia,by lia,by lia,by lia,?_];have e:((h.toNat * w.toNat:Nat):Int)=h * w:=by
  rw[ae0,Ya (by lia),Ya (by lia)]
 lia
noncomputable abbrev reD (a:Ad)(R:Rl)(h w:Int)(ls:List Lt)(p:Int):D:=rdD a (plD a R h w ls) p (fD a (bw h.toNat (bw w.toNat 0))) (fD a (bw h.toNat (bw w.toNat (2 ^ p.toNat - 1)))) ((0:Int) == p)
noncomputable def Sx (a:Ad):S3X:=λΓ Q W=>(∃ d,Γ=[some (.fz d)]/\knD d=true/\dS d=false/\W (nhX a d) Γ)\/
 (∃ z,Γ=[some (.fz (.str z))]/\z.length<=1000/\58∉sg z/\W (nhX a (.str z)) Γ)\/
 (∃ y,Γ=[some (.fz (.str (bV y)))]/\As y/\y.length<=900/\58∉sg y/\(∀ R h w ls p,Head y R h w ls p->Q (.fr (reD a R h w ls p)) Γ)/\((∀ R h w ls p,¬ Head y R h w ls p)->W (nhX a (.str (bV y))) Γ))
theorem nv(T:Txt K mg a):aT P w K mg base (CX1 P w base true) 10 a.sX a.qh ["text"] (rK K 1 (Sx a)):=by
 refine E7 T.dh.F c5 (hbody:=λV A o s H E e=>#[_,_,(λB F0 W x=>(cP (JC (is:=[1,2,3]) (by rfl) (o8 x (wB T) (dM.of DJ) e.dn T.j4.m T.j4.F.kp T.j4.b (af (P3.opd (p3v 0)) ag)) (aR (a8 (i:=1) c5.nd rfl (ek rfl)) (aR (a8 (i:=2) c5.nd rfl (ek rfl)) (aR (a8 (i:=3) c5.nd rfl (ek rfl)) eE))) rfl)
   (cP (P3S.x (aM (i:=4) c5.nd rfl (ek rfl) (Hm (zI T.mk_Walk (ug T) e.dn (by rfl) T.Lu T.nj.b (ae (p3v 0) (ae (aJ (gv) T.z_len (af (bv 1) ag)) (ae (oh (P3.opd (aK (bv 2) T.aY T.dR (dQ T) e.dn T.dA.b)) (P3.opd (aK (bv 2) T.aY T.eZ (eY T) e.dn T.dZ.b))) aA)))))))
   (cP (P3S.x (P3S.calm (fV rr rfl (fG T.z_range (ae (p3v 3) aA)) (bB (i:=5) c5.nd rfl (ek rfl))
   (ax (gZ (aK (bv 4) T.bE T.q8 (qR T) e.dn T.kb.b))))))
   (lB.x (ak (gZ (jf (bv 4) T.bE T.gc (fY T) e.dn T.fA.b (af (P3.opd aq) ag)))
   (ak (aM (i:=6) c5.nd rfl (ek rfl) (aH (kC T) e.dn T.bY.m T.bY.F.kp T.bY.b (af (P3.opd (p3v 2)) (af (P3.opd (jf (bv 4) T.bE T.q_ (qS T) e.dn T.kc.b (af (P3.opd (p3v 3)) ag))) ag))))
   (ax (aG (zI T.mk_Reading (pN T) e.dn (by rfl) T.CG T.jv.b (ae (p3v 2) (ae (p3v 3) (ae (p3v 6) (ae (aH (kC T) e.dn T.bY.m T.bY.F.kp T.bY.b (af (P3.opd (p3v 2)) (af (P3.opd (jf (bv 4) T.bE T.sA (se T) e.dn T.lF.b (af (P3.opd (p3v 3)) ag))) ag))) (ae (dP (bF e) (P3.opd (bD (f:="ends") (bv 4) T.bE T.sv)) (bv 3) (aL _)) aA))))))))))))))),λv Q W3 h Z=>?_])
 rcases h with ⟨d,rfl,O,D,q⟩ | ⟨z,rfl,M,I,q⟩ | ⟨y,rfl,S,N,J,q,F⟩
 .ext;exact .inl #[d,rfl,O,D,q]
 .ext;exact .inr (.inl #[z,rfl,M,I,q])
 .ext;refine .inr (.inr #[y,rfl,S,N,J,λR h w j p d=>?_,λL=>F L]);let#[g,c,rfl,rfl,U,C,b]:=toN d.sz;have l:=yu d.sz d.gd;have Y:=yO y;have u:=d.p0;have t:=d.p1;have r:=q R g c j p d;unfold reD at r;rw[ks,ks] at r;ext;refine#[aF (by lia),by decide +kernel,R,g,c,j,rfl,l,?_];ext;refine#[by decide +kernel,R,g,c,j,rfl,l,?_];ext;rw[<- ae0];refine#[.inl #[by lia,by lia],bV y,g * c,rfl,b,?_];ext;refine#[by lia,by lia,cN (λk m=>∃ s,m=[some (.fz (.str (bV y))),some (.fz (.str (bV y))),some (.fz (plD a R g c j)),some (.fz (.int p)),some (.fz (wkD a (bV y) (g * c))),fo s,none]) #[none,rfl] ?_ ?_]
  .rintro k d m hd ⟨s,rfl⟩;let#[lk,rfl]:=fW hd;ext;refine#[by decide +kernel,bV y,g * c,rfl,by lia,b,?_];ext;exact#[some _,rfl]
  .rintro m ⟨s,rfl⟩;ext;refine#[by decide +kernel,bV y,g * c,_,rfl,by lia,?_];ext;refine#[by decide +kernel,bV y,g * c,p,rfl,b,u,t,?_];ext;refine#[R,g,c,j,0,rfl,d.sz,d.gd,by decide,by decide,?_];ext;refine#[by decide +kernel,bV y,g * c,p,rfl,b,u,t,?_];ext;have X:(2:Int) ^ p.toNat<=2 ^ 30:=by
    have:=WR (n:=2) (by decide) (show p.toNat<=30 by lia)
    exact_mod_cast this
   have G:(1:Int)<=2 ^ p.toNat:=Int.pow_pos (by decide);refine#[R,g,c,j,_,rfl,d.sz,d.gd,by lia,by lia,?_];ext;exact#[_,_,_,p,_,rfl,rfl,r]
def Rf:S3:=λΓ Q=>∃ (ns:Li0) (k:Int),Γ=[some (.fz (.scr ns)),some (.fz (.int k))]/\0<=k/\∀ r,Q (.fz (.int r)) Γ
theorem zW(T:Txt K mg a):aT P w K mg base CX0 1 a.vb a.sT ["_law_script","_law_k"] (sp3 K 2 Rf):=by
 refine ok3 T.ka.F zp (hbody:=λd A b s H E f=>#[_,_,(ak (bL (aE yR (bv 1) (P3.opd (aJ (gv) T.z_len (af (bv 0) ag))) (aL _)) (ax (aG (bg (bv 0) (bv 1)))) aX)
   (ax (aG (aO (P3.opd (oh V5 (bv 1))) V5)))),λc Q h g=>?_])
 let#[e,k,rfl,hk,q]:=h;ext;refine iC (λh=>?_) (λh=>?_)
 .ext;exact#[_,Mp hk (of_decide_eq_true h),q _]
 .ext;exact#[.inl #[by decide,by decide],q _]
def Box (c:Int)(d:D):Prop:=∃ x m k:Int,d=.lst [.int x,.int m,.int k]/\0<=x/\0<=m/\m < 2147483647/\0<=k/\k<=c
def Ve:S3:=λΓ Q=>∃ (x:Int),Γ=[some (.fz (.int x))]/\∀ d,Box 0 d->Q (.fr d) Γ
theorem Bd(T:Txt K mg a):aT P w K mg base CX0 1 a.xb a.uV ["_law_cell_here"] (sp3 K 1 Ve):=by
 refine ok3 T.mm.F AO (hbody:=λd A b s H E e=>#[_,_,(ax (aG (bx (ae (aJ (NJ rfl) T.z_max (af V5 (af (P3.opd (iI (bv 0) (P3.opd (Hl (v:=1000000000000000000) (by decide +kernel) #[by decide,by decide,by decide])))) ag))) (ae (mS (bv 0) V5) (ae ai aA)))))),λc Q h f=>?_]);let#[x,rfl,q]:=h;ext;exact#[by decide,by rw[ff];lia,q _ #[_,_,_,rfl,by unfold fmax;split <;> lia,Zh _ (by decide),Yr _ (by decide),by decide,by decide]]
def Of:S3:=λΓ Q=>∃ (d:D) (c n:Int),Γ=[some (.ln d),some (.fz (.int n))]/\Box c d/\c<=1000000/\0 < n/\n<=1000000000/\∀ r d',0<=r->r < n->Box (c + 1) d'->Q (.fz (.int r)) [some (.ln d'),some (.fz (.int n))]
theorem aZ(T:Txt K mg a):aT P w K mg base CX0 1 a.u9 a.sQ ["_law_box_here","_law_many"] (sp3 K 2 Of):=by
 refine ok3 T.ar.F ja (hbody:=λu A f s H E v=>#[_,_,(ak (bL (aE Eg (P3.opd (bg (bv 0) V5)) V5 (aL _)) (ak (aM (i:=2) ja.nd rfl (ek rfl) (mS (P3.opd (bg (bv 0) V5)) (bv 1)))
   (ak (we 0 (bv 0) V5 (g8 (P3.opd (bg (bv 0) V5)) (bv 1)))
   (ax (aG (Cm 2))))) aX)
   (ak (we 0 (bv 0) V5 (aO (P3.opd (bg (bv 0) V5)) V5))
   (ak (aM (i:=3) ja.nd rfl (ek rfl) (mS (P3.opd (DL (P3.opd (aO (P3.opd (aO (P3.opd (bg (bv 0) V5)) (P3.opd (oh V5 (P3.opd (bg (bv 0) V5)))))) V5)) V5)) V5))
   (ak (aM (i:=3) ja.nd rfl (ek rfl) (mS (P3.opd (DL (P3.opd (aO (bv 3) (P3.opd (oh V5 (P3.opd (bg (bv 0) V5)))))) V5)) V5))
   (ax (aG (mS (P3.opd (g8 (bv 3) V5)) (bv 1)))))))),λp Q h z=>?_])
 let#[_,c,n,rfl,#[x,m,k,rfl,l,o,d,hk,t],B,b,r,q]:=h;ext;refine iC (λe=>?_) (λe=>?_)
 .ext;exact#[b,#[b,by lia],q _ _ (Zh _ (by lia)) (Yr _ b) #[_,_,_,rfl,Int.ediv_nonneg l (by lia),o,d,hk,by lia]]
 .ext;have g:(m + 7919 * (k + 1) + 17) ^ an2 5 % 2147483647 < 2147483647:=Yr _ (by decide);have j:0<=(m + 7919 * (k + 1) + 17) ^ an2 5 % 2147483647:=Zh _ (by decide);generalize (m + 7919 * (k + 1) + 17) ^ an2 5 % 2147483647=y at j g ⊢;exact#[.inl #[by decide,by decide],#[by decide,by decide,by lia],by decide,.inl #[by decide,by decide],#[by decide,by decide,by lia],by decide,#[by decide,by decide],b,q _ _ (Zh _ (by lia)) (Yr _ b) #[_,_,_,rfl,l,o,d,by lia,by lia]]
theorem pick{p:D->Prop}{r:Int}{k:D->Prop}{t:Tag k}(e:0<=r)(h1:r < (xs.length:Int))(a:∀ x∈xs,p x)(q:∀ v,p v->k v):m1 (atI xs r) k t:=by
 let#[d,c,b]:=Ek e h1;exact jJ.mpr #[d,c,q d (a d b)]
theorem Box.up{c a:Int}{d:D}(b:Box c d)(h:c<=a):Box a d:=by
 let#[x,m,k,e,l,j,i,g,f]:=b;exact#[x,m,k,e,l,j,i,g,al2 f h]
def JS:S3:=λΓ Q=>∃ (d:D),Γ=[some (.ln d)]/\Box 0 d/\∀ h w d',gQ h w->Box 10 d'->Q (.fz (pD h w)) [some (.ln d')]
theorem Ww{v:D}(h:v∈[D.tup [.int 64,.int 8],.tup [.int 8,.int 64],.tup [.int 1,.int 64],.tup [.int 64,.int 1],.tup [.int 22,.int 23]]):∃ h w,v=pD h w/\gQ h w:=by
 simp only[dk,fT,or_false] at h;rcases h with rfl | rfl | rfl | rfl | rfl <;> exact#[_,_,rfl,by decide,by decide,by decide,by decide,by decide]
theorem size_of{x y:Int}(h1:0<=x)(c:x < 64)(b:0<=y)(a:y < fmin 64 (512 / (1 + x))):gQ (1 + x) (1 + y):=by
 have e:fmin 64 (512 / (1 + x))<=64/\fmin 64 (512 / (1 + x))<=512 / (1 + x):=by unfold fmin;split <;> lia
 have f:(1 + x) * (1 + y)<=(1 + x) * (512 / (1 + x)):=Int.mul_le_mul_of_nonneg_left (by lia) (by lia);have d:(1 + x) * (512 / (1 + x))<=512:=Int.mul_ediv_self_le (by lia);exact#[by lia,by lia,by lia,by lia,by lia]
theorem Sq{x y:Int}(h1:0<=x)(c:x < 9)(b:0<=y)(a:y < 9):gQ (1 + x) (1 + y):=by
 have d:(1 + x) * (1 + y)<=9 * 9:=Int.mul_le_mul (by lia) (by lia) (by lia) (by lia);exact#[by lia,by lia,by lia,by lia,by lia]
theorem zV(T:Txt K mg a):aT P w K mg base CX0 2 a.u_ a.sR ["_law_box_here"] (sp3 K 1 JS):=by
 refine ok3 T.j_.F rL (hbody:=λG A f s H E b=>#[_,_,(ak (bL (aE (bF b) (P3.opd (aH (aZ T) b.dn T.ar.m T.ar.F.kp T.ar.b (af (bv 0) (af V5 ag)))) V5 (aL _)) (ax (aG (bg (P3.opd (bx (ae (cF (ae ai (ae ai aA))) (ae (cF (ae ai (ae ai aA))) (ae (cF (ae ai (ae ai aA))) (ae (cF (ae ai (ae ai aA))) (ae (cF (ae ai (ae ai aA))) aA))))))) (P3.opd (aH (aZ T) b.dn T.ar.m T.ar.F.kp T.ar.b (af (bv 0) (af V5 ag))))))) aX)
   (ak (bL (aE (bF b) (P3.opd (aH (aZ T) b.dn T.ar.m T.ar.F.kp T.ar.b (af (bv 0) (af V5 ag)))) V5 (aL _)) (ak (aM (i:=1) rL.nd rfl (ek rfl) (aO V5 (P3.opd (aH (aZ T) b.dn T.ar.m T.ar.F.kp T.ar.b (af (bv 0) (af V5 ag))))))
   (ax (aG (cF (ae (p3v 1) (ae (aO V5 (P3.opd (aH (aZ T) b.dn T.ar.m T.ar.F.kp T.ar.b (af (bv 0) (af (P3.opd (aJ (NI rfl) T.z_min (af V5 (af (P3.opd (g8 V5 (bv 1))) ag)))) ag))))) aA)))))) aX)
   (ax (aG (cF (ae (aO V5 (P3.opd (aH (aZ T) b.dn T.ar.m T.ar.F.kp T.ar.b (af (bv 0) (af V5 ag))))) (ae (aO V5 (P3.opd (aH (aZ T) b.dn T.ar.m T.ar.F.kp T.ar.b (af (bv 0) (af V5 ag))))) aA))))))),λu Q h M=>?_])
 let#[d,rfl,B,q]:=h;ext;refine#[_,_,16,rfl,B,by decide,by decide,by decide,λJ N L I t=>?_];ext;refine iC (λh=>?_) (λh=>?_)
 .simp -dsimp -implicitDefEqProofs only[↓Nt,↓B8,↓Nw,↓Nv,↓Ii,↓Nr,↓h_c,↓Nu,RV.d,ed,rp,Nat.zero_add,Nat.reduceAdd,↓Ee,↓D4,↓Ij,Gat,↓Ih,gr,Wp,gf,cR,tj,fT,not_false_eq_true,ap7,gw,uE,kP,br,newD,gE,Nat.reduceSub,bw,Ja,Os,List.mapIdx_cons,if_pos,Vi,aa9,reduceCtorEq,if_false,Vh,List.mapIdx_nil,RV.sl,ZL,List.set_cons_zero,ab6,List.getElem?_cons_zero,Option.some.injEq,exists_eq',Bo.at,DR,↓Nj,true_and];refine#[z2,z2,z2,z2,z2,z5,_,_,5,rfl,t,by decide,by decide,by decide,λz F r n b2=>?_];ext;refine pick r n (λv k=>Ww k) (λv k=>?_);let#[h,w,rfl,x]:=k;ext;exact q _ _ _ x (b2.up (by decide))
 .ext;refine#[_,_,12,rfl,t,by decide,by decide,by decide,λz F r n b2=>?_];ext;refine iC (λh=>?_) (λh=>?_)
  .ext;refine#[_,_,64,rfl,b2,by decide,by decide,by decide,λo D j e m=>?_];ext;have p:1<=512 / (1 + o):=Int.le_ediv_of_mul_le (by lia) (by lia);refine#[#[by lia,by lia],_,_,_,rfl,m,by decide,by unfold fmin;split <;> lia,by unfold fmin;split <;> lia,λy C g c l=>?_];ext;exact#[z2,q _ _ _ (size_of j e g c) (l.up (by decide))]
  .ext;refine#[_,_,9,rfl,b2,by decide,by decide,by decide,λo D j e m=>?_];ext;refine#[_,_,9,rfl,m,by decide,by decide,by decide,λy C g c l=>?_];ext;exact#[z2,q _ _ _ (Sq j e g c) (l.up (by decide))]
theorem OJ{r:Int}(a:0<=r)(h1:r < 3):∃ l:Lt,atI (wy [.r,.p,.b]).cps.toList r=some l.c:=by
 have:r=0\/r=1\/r=2:=by lia
 rcases this with rfl | rfl | rfl
 .exact#[.r,by decide +kernel]
 .exact#[.p,by decide +kernel]
 .exact#[.b,by decide +kernel]
theorem SO{r:Int}{k:Nat->Prop}{t:Tag k}(b:0<=r)(h1:r < 3)(q:∀ l:Lt,k l.c):mC (atI (wy [.r,.p,.b]).cps.toList r) k t:=by
 let#[l,a]:=OJ b h1;exact#[l.c,a,q l]
theorem y_(ls:List Lt)(l:Lt):wy ls++l.s=wy (ls++[l]):=by
 show (#[(wy ls).cps++l.s.cps]:Str)=_;unfold wy
 congr 1
 rw[hD];cases l <;> simp [Lt.s,sgn]
def R8:S3:=λΓ Q=>∃ (d:D) (h w:Int),Γ=[some (.ln d),some (.fz (pD h w))]/\gQ h w/\Box 10 d/\∀ ls d',Good h w ls->ls.length<=10->Box 30 d'->Q (.fz (.str (wy ls))) [some (.ln d'),some (.fz (pD h w))]
theorem Bc(T:Txt K mg a):aT P w K mg base CX0 2 a.xa a.uU ["_law_box_here","_law_size_here"] (sp3 K 2 R8):=by
 refine ok3 T.mj.F cW (hbody:=λL A y s H E m=>#[_,_,(ak (kq (is:=[2,3]) (p3v 1) (aR (a8 (i:=2) cW.nd rfl (ek rfl)) (aR (a8 (i:=3) cW.nd rfl (ek rfl)) eE)) rfl)
   (ak (aM (i:=4) cW.nd rfl (ek rfl) aq)
   (ak (fV rr rfl (fG T.z_range (ae (aH (aZ T) m.dn T.ar.m T.ar.F.kp T.ar.b (af (bv 0) (af V5 ag))) aA)) (bB (i:=5) cW.nd rfl (ek rfl))
   (ak (aM (i:=6) cW.nd rfl (ek rfl) (bg (P3.opd aq) (P3.opd (aH (aZ T) m.dn T.ar.m T.ar.F.kp T.ar.b (af (bv 0) (af V5 ag))))))
   (ax (bL (P3W.pt (kz (P3W.pt (cM (aE (bF m) (bv 6) (P3.opd aq) (aL _)) (cB (aE Eg (bv 3) V5 (aL _))))) (iq (P3W.pt (cM (aE (bF m) (bv 6) (P3.opd aq) (aL _)) (cB (aE Eg (bv 2) V5 (aL _)))))))) (ak (aM (i:=4) cW.nd rfl (ek rfl) (aO (bv 4) (bv 6)))
   (ak (aM (i:=3) cW.nd rfl (ek rfl) (bg (P3.opd (bx (ae (g8 (P3.opd (aO (bv 3) V5)) V5) (ae (p3v 3) aA)))) (P3.opd (ba yQ T.z_int (af (P3.opd (dP (bF m) (bv 6) (P3.opd aq) (aL _))) ag)))))
   (ax (aM (i:=2) cW.nd rfl (ek rfl) (bg (P3.opd (bx (ae (g8 (P3.opd (aO (bv 2) V5)) V5) (ae (p3v 2) aA)))) (P3.opd (ba yQ T.z_int (af (P3.opd (dP (bF m) (bv 6) (P3.opd aq) (aL _))) ag)))))))) aX))))
   (ax (aG (Cm 4)))))),λF Q h U=>?_])
 let#[d,h,w,rfl,z,o,q]:=h;ext;refine#[_,_,11,rfl,o,by decide,by decide,by decide,λR J S N M=>?_];ext;refine#[by lia,by lia,cN (λk u=>∃ b d x v,b.length<=k/\Good h w b/\Box (11 + k) d/\u=[some (.ln d),some (.fz (pD h w)),some (.fz (.int (cat h w b b.length).1)),some (.fz (.int (cat h w b b.length).2)),some (.fz (.str (wy b))),fo x,fo v]) #[[],J,none,none,cc _,trivial,M.up (by decide),rfl] ?_ ?_]
 .rintro k d u hd ⟨b,d,x,v,hk,g,o,rfl⟩;let#[lk,rfl]:=fW hd;let#[C,B,_,_]:=kO (k:=b.length) g z.h1 z.w1 (cc _);have f:∀ l,Can l (cat h w b b.length).1 (cat h w b b.length).2->Good h w (b++[l])/\cat h w (b++[l]) (b++[l]).length=(nh l (cat h w b b.length).1,nw l (cat h w b b.length).2):=λl c=>pB g c;generalize t:cat h w b b.length=c at C B f ⊢;let#[H,W]:=c;dsimp only at C B f ⊢;ext;refine#[d,_,3,rfl,o,by lia,by decide,by decide,λO j I G b2=>?_];ext;refine#[z3,SO I G λl=>?_];rw[show (#[(Vz9 [l.c])]:Str)=l.s from rfl];cases l
  .ext;refine BK (λe=>?_) (λe=>?_)
   .have D:=of_decide_eq_true e;ext;let#[p,r]:=f .r #[λ_=>by lia,λn=>absurd rfl n];exact#[by rw[kR,show Lt.r.s.length=1 by decide +kernel,ff];lia,#[by decide,by decide],z2,#[by decide,by decide],z2,b++[.r],j,some _,some _,by rw[cn];simp only[ed,rp];lia,p,b2.up (by lia),by rw[r,y_];rfl]
   .ext;exact#[b,j,some _,some _,by lia,g,b2.up (by lia),by rw[t];rfl]
  .ext;refine iC (λe=>?_) (λe=>?_)
   .have D:=of_decide_eq_true e;ext;let#[p,r]:=f .p #[λn=>absurd rfl n,λ_=>by lia];exact#[by rw[kR,show Lt.p.s.length=1 by decide +kernel,ff];lia,#[by decide,by decide],z2,#[by decide,by decide],z2,b++[.p],j,some _,some _,by rw[cn];simp only[ed,rp];lia,p,b2.up (by lia),by rw[r,y_];rfl]
   .ext;exact#[b,j,some _,some _,by lia,g,b2.up (by lia),by rw[t];rfl]
  .ext;refine BK (λe=>?_) (λe=>?_)
   .have D:=of_decide_eq_true e;ext;refine iC (λe=>?_) (λe=>?_)
    .have V:=of_decide_eq_true e;ext;let#[p,r]:=f .b #[λ_=>by lia,λ_=>by lia];exact#[by rw[kR,show Lt.b.s.length=1 by decide +kernel,ff];lia,#[by decide,by decide],z2,#[by decide,by decide],z2,b++[.b],j,some _,some _,by rw[cn];simp only[ed,rp];lia,p,b2.up (by lia),by rw[r,y_];rfl]
    .ext;exact#[b,j,some _,some _,by lia,g,b2.up (by lia),by rw[t];rfl]
   .ext;exact#[b,j,some _,some _,by lia,g,b2.up (by lia),by rw[t];rfl]
 .rintro u ⟨b,d,x,v,hk,g,o,rfl⟩;rw[pd] at hk o;ext;exact q _ _ g (by lia) (o.up (by lia))
def M3:S3:=λΓ Q=>∃ (z:Str) (lo hi:Int),Γ=[some (.fz (.str z)),some (.fz (.int lo)),some (.fz (.int hi))]/\As z/\z.length<=1000/\0<=lo/\hi<=99/\
 (∀ n:Int,lo<=n->n<=hi->z=itx n->Q (.fz (.int n)) Γ)/\((∀ n:Int,lo<=n->n<=hi->z≠itx n)->Q (.fz .non) Γ)
theorem k8(T:Txt K mg a):aT P w K mg base CX0 1 a.tm a.ql ["_law_word","_law_low","_law_high"] (sp3 K 3 M3):=by
 refine ok3 T.b_.F xx (hbody:=λa6 A R s H E S=>#[_,_,(ak (bL (P3W.pt (cM (cj (pf oR oR V5 (P3.opd (aJ (gv) T.z_len (af (bv 0) ag))) V5)) (cB (aE (dX S) (P3.opd (Ho rfl (ur (p3v 0)) lX (λ_ _ _ _ _=>(bB (i:=0) lX.nd rfl (ek rfl))) (λ_ _ _ _ _=>(aE Al (bv 0) (P3.opd aq) (by with_unfolding_all rfl))) (λ_ _ _ _ _=>(p3v 0)))) (P3.opd (bx aA)) (aL _))))) (ax (aG gJ)) aX)
   (ak (bL (P3W.pt (kz (aE (bF S) (P3.opd (bg (bv 0) V5)) (P3.opd aq) (aL _)) (iq (aE (dX S) (bv 0) (P3.opd aq) (aL _))))) (ax (aG gJ)) aX)
   (ax (aG (oi (pf oR oR (bv 1) (P3.opd (ba uA T.z_int (af (bv 0) ag))) (bv 2)) (ba uA T.z_int (af (bv 0) ag)) gJ))))),λa5 Q h J=>?_])
 let#[z,lo,hi,rfl,ha,hz,l0,h0,q,C]:=h;ext;refine#[aF (by lia),?_];have f:∀ n:Int,lo<=n->n<=hi->z=itx n->1<=z.length/\z.length<=2/\Dig (sg z)/\∀ r,sg z=48::r->r=[]:=λn t p e=>by
  let#[W,V,a3,a4]:=v7 (n:=n) (by lia) (by lia);rw[<- e] at W V a3 a4;rw[aQ] at W V;exact#[W,V,a3,a4]
 cases N:jT 1 (z.length:Int)
 .ext;refine C λn t p e=>?_;have:=(f n t p e).1;have:¬ (1:Int)<=(z.length:Int):=by simpa only[jT,decide_eq_false_iff_not] using N
  lia
 ext;cases c2:jT (z.length:Int) 2
 .ext;refine C λn t p e=>?_;have:=(f n t p e).2.1;have:¬ (z.length:Int)<=2:=by simpa only[jT,decide_eq_false_iff_not] using c2
  lia
 simp only[jT,decide_eq_true_eq] at N c2;ext;refine#[uD ha,?_];refine uw (λk D O=>(D=[]↔∀ c∈(sg z).take k,48<=c/\c<=57)/\D.length<=k/\∃ s,O=[fo s]) #[by simp,rx _,none,rfl] ?_ ?_
 .rintro k d D O hd ⟨G,J,s,rfl⟩;let#[c,L,rfl]:=l9 hd;ext;rw[inF];have lt:=um L;rw[aQ] at lt;cases e:decide (48<=c/\c<=57)
  .ext;have l:¬ (48<=c/\c<=57):=of_decide_eq_false e;refine#[zh (by lia),#[λh=>by simp at h,λh=>absurd (h c (by rw[take_snoc L];simp)) l],by rw[cn];simp;exact J,some _,rfl]
  .ext;have l:48<=c/\c<=57:=of_decide_eq_true e;refine#[G.trans #[λh U g=>?_,λh U g=>h U (by rw[take_snoc L];simp [g])],by lia,some _,rfl];rw[take_snoc L,kS,ng] at g;rcases g with h' | rfl
   .exact h U h'
   .exact l
 .rintro D O ⟨G,J,s,rfl⟩;rw[kj,Re] at G;rw[kj,aQ] at J;ext;refine#[zh (by lia),rx _,?_];cases e:D.isEmpty
  .ext;refine C λn t p j=>?_;rw[G.mpr (f n t p j).2.2.1] at e;cases e
  have dg:Dig (sg z):=G.mp (am7.mp e);ext;obtain⟨c,r,u⟩:∃ c r,sg z=c::r:=by
   match q9:sg z with
   | []=>rw[<- aQ,q9] at N;simp at N
   | c::r=>exact#[c,r,rfl]
  refine#[aF (by lia),c,iD (by decide) (by show (sg z)[0]?=_;rw[u];rfl),?_];ext;refine BK (λh=>?a) (λh=>?b)
  case' a=>
   have B:c=48:=by simpa [sg] using vc.mp h
   subst B;ext;by_cases I:r=[]
   case neg=>
    have:(z == ah "0")=false:=by
     rw[ZV];intro h;rw[vc.mp h] at u;cases u;exact I rfl
    rw[this];ext;exact C λn t p j=>I ((f n t p j).2.2.2 r u)
   rw[vc.mpr (by rw[u,I])];have o:∀ r,sg z=48::r->r=[]:=λr' l=>by rw[u] at l;cases l;exact I
  case' b=>
   have B:c≠48:=λx=>by
    subst x;rw[vc.mpr rfl] at h;cases h
   have o:∀ r,sg z=48::r->r=[]:=λr' l=>by rw[u] at l;cases l;exact absurd rfl B
  all_goals
   let#[n,hn,en]:=EC (by rw[aQ];lia) (by rw[aQ];lia) dg o;have M:z=itx n:=dm en;ext;refine#[n,by rw[M];exact mZ (by lia),by lia,?_];have X:∀ m:Int,lo<=m->m<=hi->z=itx m->m=(n:Int):=λm m1 F j=>(c8 (by lia) (by lia) (M.symm.trans j)).symm;cases Z:jT lo (n:Int)
   case false=>
    have y:¬ lo<=(n:Int):=by simpa only[jT,decide_eq_false_iff_not] using Z
    ext;exact C λm m1 F j=>y (by rw[<- X m m1 F j];exact m1)
   ext;have y:lo<=(n:Int):=of_decide_eq_true Z;cases Y:jT (n:Int) hi
   case false=>
    have v:¬ (n:Int)<=hi:=by simpa only[jT,decide_eq_false_iff_not] using Y
    ext;exact C λm m1 F j=>v (by rw[<- X m m1 F j];exact F)
   have v:(n:Int)<=hi:=of_decide_eq_true Y;ext;exact#[n,by rw[M];exact mZ (by lia),by lia,q n y v M]
def Ro:S3:=λΓ Q=>∃ (h w:Int) (z:Str),Γ=[some (.fz (pD h w)),some (.fz (.str z))]/\gQ h w/\As z/\z.length<=1000/\
 (∀ ls,z=wy ls->Good h w ls->Q (.fz (.bl true)) Γ)/\((∀ ls,z=wy ls->¬ Good h w ls)->Q (.fz (.bl false)) Γ)
theorem Qp{c:Nat}:inT (sgn c) (wy [.r,.p,.b])=(isR c || isP c):=by
 unfold inT;show (!(jY (wy [.r,.p,.b]) #[(Vz9 [c])] 0 (wy [.r,.p,.b]).length 1).isEmpty)=_;rw[al6];have e:(wy [.r,.p,.b]).cps.toList=[114,112,98]:=by decide +kernel
 rw[e];simp only[dk,fT,or_false];rw[TM,decide_eq_true_eq];simp [isR,isP];lia
theorem xH(T:Txt K mg a):aT P w K mg base CX0 1 a.tE a.qp ["_law_size_here","_law_way_here"] (sp3 K 2 Ro):=by
 refine ok3 T.i7.F dC (hbody:=λY A C s H E x=>#[_,_,(ak (kq (is:=[2,3]) (p3v 0) (aR (a8 (i:=2) dC.nd rfl (ek rfl)) (aR (a8 (i:=3) dC.nd rfl (ek rfl)) eE)) rfl)
   (ak (fV rr rfl (ur (p3v 1)) (bB (i:=4) dC.nd rfl (ek rfl))
   (ak (bL (P3W.pt (cM (aE Al (bv 4) (P3.opd aq) (by with_unfolding_all rfl)) (cM (P3W.pt (kz (aE (dX x) (bv 4) (P3.opd aq) (aL _)) (iq (aE yR (bv 3) V5 (aL _))))) (cB (P3W.pt (kz (aE (dX x) (bv 4) (P3.opd aq) (aL _)) (iq (aE yR (bv 2) V5 (aL _))))))))) (ax (aG fB)) aX)
   (ak (aM (i:=3) dC.nd rfl (ek rfl) (bg (P3.opd (bx (ae (g8 (P3.opd (aO (bv 3) V5)) V5) (ae (p3v 3) aA)))) (P3.opd (ba yQ T.z_int (af (P3.opd (dP (bF x) (bv 4) (P3.opd aq) (aL _))) ag)))))
   (ax (aM (i:=2) dC.nd rfl (ek rfl) (bg (P3.opd (bx (ae (g8 (P3.opd (aO (bv 2) V5)) V5) (ae (p3v 2) aA)))) (P3.opd (ba yQ T.z_int (af (P3.opd (dP (bF x) (bv 4) (P3.opd aq) (aL _))) ag)))))))))
   (ax (aG fB)))),λR Q h hl=>?_])
 let#[h,w,z,rfl,sz,U,hz,q,S]:=h;ext;refine#[uD U,cN (λk B=>∃ ls s,(sg z).take k=ls.map Lt.c/\ls.length=k/\k<=z.length/\Good h w ls/\B=[some (.fz (pD h w)),some (.fz (.str z)),some (.fz (.int (cat h w ls ls.length).1)),some (.fz (.int (cat h w ls ls.length).2)),fo s]) #[[],none,rfl,rfl,rx _,trivial,rfl] ?_ ?_]
 .rintro k d B hd ⟨ls,s,f,hk,F,g,rfl⟩;let#[c,G,rfl]:=l9 hd;have lt:=um G;rw[aQ] at lt;ext;rw[Qp];have m:(isR c || isP c)=false\/rn c (cat h w ls ls.length).1 (cat h w ls ls.length).2=false->Q (.fz (.bl false)) [some (.fz (pD h w)),some (.fz (.str z))]:=λh9=>by
   refine S λo e M=>?_;subst e;have j:o[k]?.map Lt.c=some c:=by rw[<- ef];exact G
   cases y:o[k]? with
   | none=>rw[y] at j;cases j
   | some l=>
    rw[y] at j;have p:l.c=c:=gT j;have kl:=um y;have V:o.take k=ls:=(Yp λ_ _ q=>wK q).mp (by rw[<- f,nO,List.map_take]);let#[_,X]:=uu M kl;have N:=vO M y;rw[<- X,V] at N;have O:=BF N;rcases h9 with h9 | h9
    .rw[<- p] at h9;cases l <;> revert h9 <;> decide
    .rw[p,<- hk,h9] at O;cases O
  cases J:(isR c || isP c)
  .ext;exact m (.inl J)
  obtain⟨l,rfl⟩:∃ l:Lt,c=l.c:=by
   simp only[isR,isP,Wg,beq_iff_eq] at J;rcases J with (rfl | rfl) | (rfl | rfl)
   .exact#[.r,rfl]
   .exact#[.b,rfl]
   .exact#[.p,rfl]
   .exact#[.b,rfl]
  have D:(sg z).take (k + 1)=(ls++[l]).map Lt.c:=by rw[take_snoc G,f,hD];rfl
  have b:Can l (cat h w ls ls.length).1 (cat h w ls ls.length).2->Good h w (ls++[l])/\cat h w (ls++[l]) (ls++[l]).length=(nh l (cat h w ls ls.length).1,nw l (cat h w ls ls.length).2):=λc=>pB g c;rw[show sgn l.c=l.s from rfl];generalize cat h w ls ls.length=Z at m b ⊢;let#[H,W]:=Z;dsimp only at m b ⊢;cases l
  .ext;cases t:pP W 2
   case true=>
    ext;exact m (.inr (by rw[rn,t];rfl))
   have I:¬ W < 2:=of_decide_eq_false t;let#[r,v]:=b #[λ_=>by lia,λn=>absurd rfl n];ext;exact#[#[by decide,by decide],z2,#[by decide,by decide],z2,ls++[.r],some _,D,by rw[cn,hk];rfl,lt,r,by rw[v];rfl]
  .ext;cases u:pP H 2
   case true=>
    ext;exact m (.inr (by rw[rn,u];simp [isP,Lt.c]))
   have L:¬ H < 2:=of_decide_eq_false u;let#[r,v]:=b #[λn=>absurd rfl n,λ_=>by lia];ext;exact#[#[by decide,by decide],z2,#[by decide,by decide],z2,ls++[.p],some _,D,by rw[cn,hk];rfl,lt,r,by rw[v];rfl]
  .ext;cases t:pP W 2
   case true=>
    ext;exact m (.inr (by rw[rn,t];rfl))
   have I:¬ W < 2:=of_decide_eq_false t;ext;cases u:pP H 2
   case true=>
    ext;exact m (.inr (by rw[rn,u];simp [isP,Lt.c]))
   have L:¬ H < 2:=of_decide_eq_false u;let#[r,v]:=b #[λ_=>by lia,λ_=>by lia];ext;exact#[#[by decide,by decide],z2,#[by decide,by decide],z2,ls++[.b],some _,D,by rw[cn,hk];rfl,lt,r,by rw[v];rfl]
 .rintro B ⟨ls,s,f,hk,F,g,rfl⟩;ext;refine q ls ?_ g;rw[kj,Re] at f;exact dm (by rw[f,nO])
def Wd:S3:=λΓ Q=>(∃ z,Γ=[some (.fz (.str z))]/\As z/\z.length<=900/\58∉sg z/\Q (.fz .non) Γ)\/
 (∃ y,Γ=[some (.fz (.str (bV y)))]/\As y/\y.length<=900/\58∉sg y/\(∀ R h w ls p,Head y R h w ls p->Q (.fz (.tup [pD h w,.str R.word,.str (wy ls),.int p,.str mu])) Γ)/\((∀ R h w ls p,¬ Head y R h w ls p)->Q (.fz .non) Γ))
theorem part_of{s a b c:Str}(h:zC z s=[.str a,.str b,.str c]):rA z s=(a,b,c):=by
 simp only[zC,Ot,D.str.injEq,and_true] at h;let#[f,e,d]:=h;subst f e d
 rfl
theorem KY(h:58∉sg z):rA z (ah ":")=(z,mu,mu):=part_of (O0 h)
theorem Hj(h:58∉sg y):rA (bV y) (ah ":")=(y,ah ":",mu):=part_of (Kw h)
theorem Head.words{j i g f c b a:Str}(e:wds y=[j,i,g,f,c,b,a]){R:Rl}{h w:Int}{ls:List Lt}{p:Int}(d:Head y R h w ls p) :
  j=ah "halved"/\i=itx h/\g=itx w/\f=R.word/\c=wyx ls/\b=itx p/\a=ckT R h w (wyx ls) p:=by
 have:=e.symm.trans d.eq;simpa only[six,Ja,Os,Ot,and_true] using this
noncomputable def ML (z:Str):Bool:=inV (V.str z) [V.str (ah "sum"),V.str (ah "half"),V.str (ah "guess"),V.str (ah "lean")]
theorem xX:ML z=true↔∃ R:Rl,z=R.word:=by
 show ((ah "sum") == z || ((ah "half") == z || ((ah "guess") == z || ((ah "lean") == z || false))))=true↔_;simp only[Wg,beq_iff_eq,aa0];constructor
 .rintro(h | h | h | h)
  .exact#[.sum,h.symm]
  .exact#[.half,h.symm]
  .exact#[.guess,h.symm]
  .exact#[.lean,h.symm]
 .rintro⟨R,rfl⟩;cases R
  .exact .inl rfl
  .exact .inr (.inl rfl)
  .exact .inr (.inr (.inl rfl))
  .exact .inr (.inr (.inr rfl))
open Classical in
noncomputable def plR (z:Str)(lo a:Int):Option Int:=if h:∃ n,lo<=n/\n<=a/\z=itx n then some h.choose else none
noncomputable def oD:Option Int->D
 | some n=>.int n
 | none=>.non
theorem n_{lo a n:Int}(h:plR z lo a=some n):lo<=n/\n<=a/\z=itx n:=by
 unfold plR at h;split at h
 .rename_i e;cases h;exact e.choose_spec
 .cases h
theorem zD{lo d n:Int}(g:0<=lo)(h:d<=99)(h1:lo<=n)(f:n<=d)(e:z=itx n):plR z lo d=some n:=by
 cases r:plR z lo d with
 | none=>
  unfold plR at r;rw[dif_pos #[n,h1,f,e]] at r;cases r
 | some m=>
  let#[a,b,c]:=n_ r;rw[c8 (n:=m) (m:=n) (by lia) (by lia) (c.symm.trans e)]
theorem G5{lo d:Int}(h:∀ n:Int,lo<=n->n<=d->z≠itx n):plR z lo d=none:=by
 cases r:plR z lo d with
 | none=>rfl
 | some m=>
  let#[a,b,c]:=n_ r;exact absurd c (h m a b)
theorem Cj{lo a:Int}(g:As z)(f:z.length<=1000)(q:Q (.fz (oD (plR z lo a))) [some (.fz (.str z)),some (.fz (.int lo)),some (.fz (.int a))])(b:autoParam (0<=lo) wP)(c:autoParam (a<=99) wP) :
  M3 [some (.fz (.str z)),some (.fz (.int lo)),some (.fz (.int a))] Q:=by
 refine#[z,lo,a,rfl,g,f,b,c,λn i h e=>?_,λd=>?_]
 .rw[zD b c i h e] at q;exact q
 .rw[G5 d] at q;exact q
theorem Wi{a b c:Option Int}:in3 false .non (.tup [oD a,oD b,oD c]) Γ Q=Q (.fz (.bl (!(a.isSome && (b.isSome && c.isSome))))) Γ:=by
 cases a <;> cases b <;> cases c <;> exact propext #[λZ=>by let#[e,d,_,_,q]:=Z;cases d;exact q,λq=>#[_,rfl,rfl,rfl,q]]
theorem BJ{R:Rl}{h w:Int}{x v:Str}{p:Int}:sg (tx (ah " ") (six R h w x p++[v]))=sg (hd0 R h w x p)++sg v:=by
 rw[km,blank,hD,gr,Wp,z7 (by simp [six]),z8,nR]
theorem Rc{v x:Str}{R:Rl}{h w p:Int}(e:wds y=six R h w x p++[v]):v=two (chk 0 ((sg y).take (y.length - 2)))↔v=ckT R h w x p:=by
 have b:sg y=sg (hd0 R h w x p)++sg v:=by rw[<- vW y,e,BJ]
 have a:v.length=2->(sg y).take (y.length - 2)=sg (hd0 R h w x p):=λc=>by
  have l:y.length=(sg (hd0 R h w x p)).length + 2:=by rw[<- aQ y,b,cn,aQ v,c]
  rw[l,Nat.add_sub_cancel,b,ap8]
 constructor
 .intro q;have:=a (by rw[q];rfl);rw[this] at q;exact q
 .intro q;have:=a (by rw[q];rfl);rw[this];exact q
theorem BX{ls:List Lt}(h:ah ""=wy ls):ls=[]:=by
 have:(wy ls).length=0:=by rw[<- h];decide +kernel
 rw[kR] at this;exact xt.mp this
theorem NX(ls:List Lt):wyx ls≠ah "":=by
 unfold wyx;split
 .decide +kernel
 .rename_i h;intro e;rw[BX e.symm] at h;exact h rfl
theorem NW{v:Str}{ls:List Lt}(h:yw v=wy ls)(a:v≠ah ""):v=wyx ls:=by
 unfold yw at h;split at h
 .rename_i e;rw[BX h,e];rfl
 .unfold wyx;split
  .rename_i e;rw[xt.mp e] at h;exact absurd (h.trans (by decide +kernel)) a
  .exact h
theorem Vo{a b c d e f g:D}:atI [a,b,c,d,e,f,g] 6=some g:=rfl
theorem Jm{a b c d e f g:D}:atI [a,b,c,d,e,f,g] 4=some e:=rfl
theorem Qk{v:Str}:(if (v == ah "-")=true then D.str (ah "") else D.str v)=D.str (yw v):=by
 unfold yw;simp only[beq_iff_eq];split <;> rfl
theorem mT(T:Txt K mg a):aT P w K mg base CX0 2 a.va a.sS ["_law_text"] (sp3 K 1 Wd):=by
 refine ok3 T.cH.F dq (hbody:=λa' A U s H E m=>#[_,_,(ak (kq (is:=[1,2,3]) (zF (p3v 0) aq) (aR (a8 (i:=1) dq.nd rfl (ek rfl)) (aR (a8 (i:=2) dq.nd rfl (ek rfl)) (aR (a8 (i:=3) dq.nd rfl (ek rfl)) eE))) rfl)
   (ak (aM (i:=4) dq.nd rfl (ek rfl) (A7 (by rfl) (p3v 1) aq))
   (ak (bL (P3W.pt (cM (aE (bF m) (bv 2) (P3.opd aq) (aL _)) (cM (aE (dX m) (P3.opd (aJ (gv) T.z_len (af (bv 4) ag))) V5 (aL _)) (cM (aE (dX m) (P3.opd (bg (bv 4) V5)) (P3.opd aq) (aL _)) (cB (aE (Jd (by rfl)) (P3.opd (bg (bv 4) V5)) (P3.opd (cF (ae aq (ae aq (ae aq (ae aq aA)))))) (by with_unfolding_all rfl))))))) (ax (aG gJ)) aX)
   (ak (J1 (i:=5) (j:=6) (l:=7) rfl dq.nd rfl rfl rfl (by rfl) (by rfl) (by rfl) (ae (aH (k8 T) m.dn T.b_.m T.b_.F.kp T.b_.b (af (P3.opd (bg (bv 4) V5)) (af V5 (af V5 ag)))) (ae (aH (k8 T) m.dn T.b_.m T.b_.F.kp T.b_.b (af (P3.opd (bg (bv 4) V5)) (af V5 (af V5 ag)))) (ae (aH (k8 T) m.dn T.b_.m T.b_.F.kp T.b_.b (af (P3.opd (bg (bv 4) V5)) (af V5 (af V5 ag)))) aA))) (by rfl))
   (ak (bL (P3W.pt (cM (aE (tL) (P3.opd gJ) (P3.opd (cF (ae (p3v 5) (ae (p3v 6) (ae (p3v 7) aA))))) (by with_unfolding_all rfl)) (cM (aE Eg (P3.opd (oh (bv 5) (bv 6))) V5 (aL _)) (cB (aE (dX m) (P3.opd (bg (bv 4) V5)) (P3.opd (aH (eV T) m.dn T.bj.m T.bj.F.kp T.bj.b (af (P3.opd (lL (bv 1) fX (de (P3.opd (iI (P3.opd (aJ (gv) T.z_len (af (bv 1) ag))) V5))))) ag))) (aL _)))))) (ax (aG gJ)) aX)
   (ak (aM (i:=8) dq.nd rfl (ek rfl) (bg (P3.opd (bx (ae (bg (bv 4) V5) (ae aq aA)))) (P3.opd (ba yQ T.z_int (af (P3.opd (dP (bF m) (P3.opd (bg (bv 4) V5)) (P3.opd aq) (aL _))) ag)))))
   (ak (bL (P3W.pt (cM (aE (bF m) (P3.opd (bg (bv 4) V5)) (P3.opd aq) (aL _)) (cB (cj (cC (aH (xH T) m.dn T.i7.m T.i7.F.kp T.i7.b (af (P3.opd (cF (ae (p3v 5) (ae (p3v 6) aA)))) (af (P3.opd (p3v 8)) ag)))))))) (ax (aG gJ)) aX)
   (ax (aG (cF (ae (cF (ae (p3v 5) (ae (p3v 6) aA))) (ae (bg (bv 4) V5) (ae (p3v 8) (ae (p3v 7) (ae (p3v 3) aA))))))))))))))),λa6 Q h hl=>?_])
 rcases h with ⟨z,rfl,W,lz,nz,q⟩ | ⟨y,rfl,W,ly,ny,q,n⟩
 .ext;rw[KY nz];have lw:=za (z:=z);rw[o_,show (mu == ah "")=true by decide +kernel];dsimp only;refine#[by decide +kernel,aF (by lia),by decide +kernel,aF (by lia),aF (by lia),?_];ext;exact q
 .have lc:=yO y;ext;rw[Hj ny];have lw:=za (z:=y);have F:=FV W;rw[o_,show (ah ":" == ah "")=false by decide +kernel];dsimp only;refine#[by decide +kernel,aF (by lia),by decide +kernel,aF (by lia),aF (by lia),?_];ext;rw[lM0];by_cases l7:(wds y).length=7
  case neg=>
   rw[show (((wds y).length:Int) == 7)=false from beq_eq_false_iff_ne.mpr (by lia)];ext;exact n λR h w f p d=>l7 (by rw[d.eq];rfl)
  rw[show (((wds y).length:Int) == 7)=true from beq_iff_eq.mpr (by lia)];let#[S,J,I,O,k,G,o,L]:=_k.LA l7;rw[L] at F ⊢;have t:=λR h w f p (d:Head y R h w f p)=>d.words L;have em:ZK D.str [S,J,I,O,k,G,o]=[.str S,.str J,.str I,.str O,.str k,.str G,.str o]:=rfl;rw[em];ext;cases M:(S == ah "halved")
  case false=>
   ext;refine n λR h w f p d=>?_;rw[(t R h w f p d).1] at M;simp at M
  ext;refine#[z4,_,rfl,rfl,rfl,?_];generalize hB:inV _ _=B;have u:ML O=B:=hB
  clear hB
  cases B
  case false=>
   ext;refine n λR h w f p d=>?_;have:=xX.mpr #[R,(t R h w f p d).2.2.2.1];rw[u] at this;cases this
  let#[R,rfl]:=xX.mp u;ext;have a1:=F J (by simp);have a2:=F I (by simp);have a4:=F k (by simp);have a5:=F G (by simp);refine Cj a1.1 (by lia) ?_;ext;refine Cj a2.1 (by lia) ?_;ext;rw[Jl];ext;refine Cj a5.1 (by lia) ?_;ext;refine#[z3,?_];rw[Wi];cases r:((plR J 1 64).isSome && ((plR I 1 64).isSome && (plR G 0 30).isSome))
  case false=>
   ext;refine n λR' h w f p d=>?_;let#[_,e1,e2,_,_,Z,_]:=t R' h w f p d;let#[s1,s2,s3,s4,_]:=d.sz;rw[zD (by decide) (by decide) s1 s3 e1,zD (by decide) (by decide) s2 s4 e2,zD (by decide) (by decide) d.p0 d.p1 Z] at r;cases r
  rw[eN,eN] at r;let#[h,eh]:=FB.mp r.1;let#[w,ew]:=FB.mp r.2.1;let#[p,ep]:=FB.mp r.2.2;rw[eh,ew,ep];let#[h1,h2,rfl]:=n_ eh;let#[g1,g2,rfl]:=n_ ew;let#[p1,p2,rfl]:=n_ ep;have hd:∀ R' h' w' b p',Head y R' h' w' b p'->R=R'/\h=h'/\w=w'/\p=p'/\k=wyx b/\o=ckT R h w k p:=λR' h' w' b p' d=>by
   let#[_,e1,e2,e3,C,Z,Y]:=t R' h' w' b p' d;let#[b1,b2,b3]:=d.small;have l1:h=h':=c8 (by lia) b1 e1;have l2:w=w':=c8 (by lia) b2 e2;have l5:p=p':=c8 (by lia) b3 Z;have l3:R=R':=Rl.vV e3;exact#[l3,l1,l2,l5,C,by rw[l3,l1,l2,l5,C];exact Y]
  clear t
  simp only[oD];ext;refine#[.inl #[by lia,by lia],?_];cases eA:UU (h * w) 512
  case true=>
   ext;refine n λR' h' w' b p' d=>?_;let#[_,rfl,rfl,_]:=hd R' h' w' b p' d;let#[_,_,_,_,s5]:=d.sz;have:=of_decide_eq_true eA;lia
  have a0:¬ (h * w > 512):=of_decide_eq_false eA;have sz:gQ h w:=#[h1,g1,h2,g2,by lia];ext;rw[Vo];ext;have y2:((y.length:Int) - 2)=((y.length - 2:Nat):Int):=by lia
  rw[y2];have st:=vH y (y.length - 2);have a7:(Xc y none (some ((y.length - 2:Nat):Int))).length<=y.length:=by
   rw[<- aQ,st,HT];rw[aQ];lia
  refine#[aF (by lia),aF (by lia),_,rfl,λc hc=>W c ?_,by lia,?_]
  .rw[st] at hc;exact SZ hc
  rw[st];have ck:=Rc (y:=y) (v:=o) (x:=k) (R:=R) (h:=h) (w:=w) (p:=p) (by rw[L,eq_of_beq M];rfl);ext;cases X:(o == two (chk 0 ((sg y).take (y.length - 2))))
  case false=>
   ext;refine n λR' h' w' b p' d=>?_;have:=ck.mpr (hd R' h' w' b p' d).2.2.2.2.2;rw[<- this] at X;simp at X
  have Y:o=ckT R h w k p:=ck.mp (eq_of_beq X);have N:∀ f,yw k=wy f->k≠ah ""->Good h w f->Head y R h w f p:=λf e V g=>
   #[sz,g,p1,p2,by rw[<- NW e V,L,eq_of_beq M,Y];rfl]
  have no:(∀ f,yw k=wy f->¬ Good h w f)\/k=ah ""->Q (.fz .non) [some (.fz (.str (bV y)))]:=λhn=>by
   refine n λR' h' w' b p' d=>?_;let#[_,rfl,rfl,_,C,_]:=hd R' h' w' b p' d;rcases hn with hn | hn
   .exact hn b (by rw[C,BS]) d.gd
   .exact NX b (C.symm.trans hn)
  have ya:=MJ a4.1 (show k.length<=1000 by lia);ext;rw[Jm];ext;refine#[z2,?_];rw[Jm];ext;rw[Qk];ext;rw[Jm];ext;cases cE:(k == ah "")
  case true=>
   ext;exact no (.inr (eq_of_beq cE))
  have V:k≠ah "":=λe=>by rw[e] at cE;simp at cE
  ext;refine#[z2,h,w,yw k,rfl,sz,ya.1,ya.2,λf e g=>?_,λhn=>?_]
  .ext;refine#[z2,z5,?_];rw[e];exact q R h w f p (N f e V g)
  .ext;exact no (.inl hn)
theorem four{v:D}(h:v∈[D.str (ah "sum"),.str (ah "half"),.str (ah "guess"),.str (ah "lean")]):∃ R:Rl,v=.str R.word:=by
 simp only[dk,fT,or_false] at h;rcases h with rfl | rfl | rfl | rfl
 .exact#[.sum,rfl]
 .exact#[.half,rfl]
 .exact#[.guess,rfl]
 .exact#[.lean,rfl]
theorem LH{ls:List Lt}:(if (wy ls == ah "")=true then D.str (ah "-") else D.str (wy ls))=D.str (wyx ls):=by
 unfold wyx;by_cases h:ls.length=0
 .rw[if_pos h,xt.mp h,if_pos (by decide +kernel)]
 .rw[if_neg h,if_neg λe=>h (by rw[BX (eq_of_beq e).symm];rfl)]
def JG:S3:=λΓ Q=>∃ d,Γ=[some (.ln d)]/\Box 0 d/\∀ R h w ls p d',gQ h w->Good h w ls->0<=p->p<=30->Box 40 d'->Q (.fr (.lst ((six R h w (wyx ls) p).map .str))) [some (.ln d')]
theorem xG(T:Txt K mg a):aT P w K mg base CX0 3 a.sZ a.qj ["_law_box_here"] (sp3 K 1 JG):=by
 refine ok3 T.i6.F gW (hbody:=λt A e s H E b=>#[_,_,(ak (aM (i:=1) gW.nd rfl (ek rfl) (aH (zV T) b.dn T.j_.m T.j_.F.kp T.j_.b (af (bv 0) ag)))
   (ak (aM (i:=2) gW.nd rfl (ek rfl) (aH (Bc T) b.dn T.mj.m T.mj.F.kp T.mj.b (af (bv 0) (af (P3.opd (p3v 1)) ag))))
   (ak (aM (i:=3) gW.nd rfl (ek rfl) (bg (P3.opd (bx (ae aq (ae aq (ae aq (ae aq aA)))))) (P3.opd (aH (aZ T) b.dn T.ar.m T.ar.F.kp T.ar.b (af (bv 0) (af V5 ag))))))
   (ax (aG (bx (ae aq (ae (ba rq T.z_str (af (P3.opd (bg (bv 1) V5)) ag)) (ae (ba rq T.z_str (af (P3.opd (bg (bv 1) V5)) ag)) (ae (p3v 3) (ae (bg (P3.opd (bx (ae (p3v 2) (ae aq aA)))) (P3.opd (ba yQ T.z_int (af (P3.opd (dP (bF b) (bv 2) (P3.opd aq) (aL _))) ag)))) (ae (ba rq T.z_str (af (P3.opd (aH (aZ T) b.dn T.ar.m T.ar.F.kp T.ar.b (af (bv 0) (af V5 ag)))) ag)) aA)))))))))))),λj Q h J=>?_])
 let#[d,rfl,o,q]:=h;ext;refine#[_,rfl,o,λh w N c y=>?_];ext;refine#[_,h,w,rfl,c,y,λl M g I b2=>?_];ext;refine#[z4,_,_,4,rfl,b2,by decide,by decide,by decide,λG L n k x=>?_];ext;refine pick n k (λv f=>four f) (λv f=>?_);let#[R,rfl]:=f;ext;let#[F,D,C,B,_]:=id c;refine#[by lia,by lia,z2,_,_,31,rfl,x,by decide,by decide,by decide,λp r m z u=>?_];rw[LH];ext;exact#[by lia,aF (by decide),q R h w l p r c g m (by lia) (u.up (by decide))]
def K4:S3:=λΓ Q=>∃ (d:D) (c:Int) (v:Str),Γ=[some (.ln d),some (.fz (.str v))]/\Box c d/\c<=900000/\As v/\v.length<=100/\∀ z d',As z->z.length<=2 * v.length + 10->Box (c + 1) d'->Q (.fz (.str z)) [some (.ln d'),some (.fz (.str v))]
def jZ (b:Nat)(ds:List D):Prop:=∀ d∈ds,∃ v,d=.str v/\As v/\v.length<=b
def Elt (a:TE3)(Γ:G)(b:Nat):Prop:=∀ K:RV->G->Prop,(∀ v,As v->v.length<=b->K (.fz (.str v)) Γ)->a Γ K
def MH (a:TA3)(Γ:G)(b n:Nat):Prop:=∀ K:List D->G->Prop,(∀ ds,jZ b ds->ds.length=n->K ds Γ)->a Γ K
def RB (a:TE3)(Γ:G)(b n:Nat):Prop:=∀ K:RV->G->Prop,(∀ ds,jZ b ds->ds.length=n->K (.fr (.lst ds)) Γ)->a Γ K
theorem CK{b:Nat}:MH E9 Γ b 0:=λK h=>h [] (λd z=>nomatch z) rfl
theorem jK{b:Nat}(i:Elt e3 Γ b)(c:MH t3 Γ b n):MH (nF e3 t3) Γ b (n + 1):=λK h=>
 i _ λv j a=>c _ λk hd f=>h (.str v::k) (λd g=>(dk.mp g).elim (λe=>#[v,e,j,a]) (hd d)) (by rw[ed,f])
theorem IF{x:Str}{b:Nat}(a:10<=b)(h:autoParam (As x/\x.length<=10) wK9):Elt (t3C (.str x)) Γ b:=λK k=>k x h.1 (eC h.2 a)
theorem CV{b:Nat}(h:MH t3 Γ b n)(d:autoParam (n<=1000) wP):RB (P2 t3) Γ b n:=λK k=>h _ λc hd a=>#[aF (by lia),k c hd a]
theorem IG{b:Nat}(g:Γ[i]?=some (some (.ow (.lst xs))))(e:jZ b xs)(a:xs.length=m)(h:RB e3 Γ b n)(l:m + n<=1000):RB (nP BM (bor i) (bof e3)) Γ b (m + n):=λK k=>by
 rw[B8,Ij];have c:Gat Γ i=some (.lst xs):=by unfold Gat;rw[g];rfl
 rw[c];refine h _ λj hd f=>?_;show m1 (Gat Γ i) _ ⟨⟩;rw[c];exact#[aF (by lia),k (xs++j) (λd a=>(kS.mp a).elim (e d) (hd d)) (by rw[cn,a,f])]
theorem Fc(n:Nat):xp none (some (-1)) 1 n=gs (n - 1):=by
 unfold xp sliceRange;simp only[show (1:Int) > 0 by decide,if_true,show ((-1:Int) < 0) by decide];have a:max 0 (min ((-1:Int) + (n:Int)) n)=((n - 1:Nat):Int):=by lia
 rw[a];have e:(if (0:Int) < ((n - 1:Nat):Int) then (((n - 1:Nat):Int) - 0 + 1 - 1) / 1 else 0).toNat=n - 1:=by split <;> lia
 rw[e];refine(XY (g:=id) λj _=>?_).trans (af9 _);simp
theorem Dy:sg (Xc z none (some (-1)))=(sg z).take (z.length - 1):=by
 unfold Xc;rw[Fc,YH];by_cases h:z.length - 1=z.length
 .rw[h,pa (by rw[aQ];exact cc _),if_pos (by simp)]
 .rw[if_neg (by simp;lia)];have:=mM (sg z) (z.length - 1) (by rw[aQ];lia);rw[<- this];show (XG (λx=>z.cps[x]?) (gs (z.length - 1)))=_
  congr 1
  funext x
  rw[<- Xv]
section
variable {b:Nat}{v x:Str}
theorem IE(a:Gat Γ i=some (.str v))(d:As v)(e:v.length<=100)(f:v.length + 10<=b)(c:autoParam (As x/\x.length<=10) wK9):Elt (nP BM (bof (t3C (.str x))) (bor i)) Γ b:=λK k=>by
 show m1 (Gat Γ i) _ ⟨⟩;rw[a];show m1 (Gat Γ i) _ ⟨⟩;rw[a];exact#[aF (by lia),k _ (cq c.1 d) (by rw[ee];lia)]
theorem ID(a:Gat Γ i=some (.str v))(d:As v)(e:v.length<=100)(f:v.length + 10<=b)(c:autoParam (As x/\x.length<=10) wK9):Elt (nP BM (bor i) (bof (t3C (.str x)))) Γ b:=λK k=>by
 show m1 (Gat Γ i) _ ⟨⟩;rw[a];show m1 (Gat Γ i) _ ⟨⟩;rw[a];exact#[aF (by lia),k _ (cq d c.1) (by rw[ee];lia)]
theorem U2(a:Gat Γ i=some (.str v))(c:As v)(d:v.length<=100)(e:2 * v.length<=b):Elt (nP BM (bor i) (bor i)) Γ b:=λK k=>by
 show m1 (Gat Γ i) _ ⟨⟩;rw[a];show m1 (Gat Γ i) _ ⟨⟩;rw[a];show m1 (Gat Γ i) _ ⟨⟩;rw[a];show m1 (Gat Γ i) _ ⟨⟩;rw[a];exact#[aF (by lia),k _ (cq c c) (by rw[ee];lia)]
theorem U1{s t:Option Sl}(d:As v)(e:v.length<=100)(f:v.length<=b):Elt (OD (bor 1) HE (Gq (bof (EB Lh (bof (t3C (.int 1))))))) [s,some (.fz (.str v)),t] b:=λK k=>by
 ext;exact#[aF (by lia),k _ (λc a=>d c (by rw[Dy] at a;exact SZ a)) (by rw[<- aQ,Dy,HT,aQ];lia)]
end
theorem p8(T:Txt K mg a):aT P w K mg base CX0 2 a.tu a.qm ["_law_box_here","_law_word"] (sp3 K 2 K4):=by
 refine ok3 T.dj.F gX (hbody:=λM A l s H E I=>#[_,_,(ak (aM (i:=2) gX.nd rfl (ek rfl) (bx (ae (aO (P3.opd aq) (bv 1)) (ae (aO (bv 1) (P3.opd aq)) (ae aq (ae aq (ae aq (ae aq (ae aq (ae aq (ae aq (ae aq (ae aq (ae aq (ae aq (ae (aO (bv 1) (P3.opd aq)) aA))))))))))))))))
   (ak (aM (i:=2) gX.nd rfl (ek rfl) (aO (bv 2) (P3.opd (bx (ae (aO (P3.opd aq) (bv 1)) (ae aq (ae aq (ae aq (ae aq (ae aq (ae aq (ae aq (ae aq (ae aq (ae aq (ae aq (ae aq (ae aq aA))))))))))))))))))
   (ak (aM (i:=2) gX.nd rfl (ek rfl) (aO (bv 2) (P3.opd (bx (ae aq (ae aq (ae aq (ae aq (ae (aO (bv 1) (bv 1)) (ae (lL (bv 1) fX (de (P3.opd (zH V5)))) (ae (aO (bv 1) (P3.opd aq)) (ae aq (ae aq (ae aq (ae aq aA)))))))))))))))
   (ax (aG (bg (bv 2) (P3.opd (aH (aZ T) I.dn T.ar.m T.ar.F.kp T.ar.b (af (bv 0) (af (P3.opd (aJ (gv) T.z_len (af (bv 2) ag))) ag)))))))))),λt Q h U=>?_])
 let#[d,c,v,rfl,J,V,g,f,q]:=h;show EE _ _ _ [some (.ln d),some (.fz (.str v)),none];rw[D2,D0];refine CV (b:=2 * v.length + 10) (n:=14) ?_ (by decide) _ λk G B=>?_
 .have e:Gat [some (.ln d),some (.fz (.str v)),none] 1=some (.str v):=rfl
  repeat first
   | exact CK
   | refine jK (IF (by lia)) ?_
   | refine jK (IE e g f (by lia)) ?_
   | refine jK (ID e g f (by lia)) ?_
 rw[show frB [some (.ln d),some (.fz (.str v)),none] 2=true from rfl,Mo];dsimp only;show EE _ _ _ [some (.ln d),some (.fz (.str v)),some (.ow (.lst k))];rw[D2,D0];refine IG (b:=2 * v.length + 10) (m:=14) (n:=14) rfl G B ?_ (by decide) _ λj F y=>?_
 .refine CV (n:=14) ?_;have e:Gat [some (.ln d),some (.fz (.str v)),some (.ow (.lst k))] 1=some (.str v):=rfl
  repeat first
   | exact CK
   | refine jK (IF (by lia)) ?_
   | refine jK (IE e g f (by lia)) ?_
   | refine jK (ID e g f (by lia)) ?_
 rw[show frB [some (.ln d),some (.fz (.str v)),some (.ow (.lst k))] 2=true from rfl,Mo];dsimp only;show EE _ _ _ [some (.ln d),some (.fz (.str v)),some (.ow (.lst j))];rw[D2,D0];refine IG (b:=2 * v.length + 10) (m:=28) (n:=11) rfl F y ?_ (by decide) _ λr D S=>?_
 .refine CV (n:=11) ?_;have e:Gat [some (.ln d),some (.fz (.str v)),some (.ow (.lst j))] 1=some (.str v):=rfl
  repeat first
   | exact CK
   | refine jK (IF (by lia)) ?_
   | refine jK (U2 e g f (by lia)) ?_
   | refine jK (U1 g f (by lia)) ?_
   | refine jK (IE e g f (by lia)) ?_
   | refine jK (ID e g f (by lia)) ?_
 rw[show frB [some (.ln d),some (.fz (.str v)),some (.ow (.lst j))] 2=true from rfl,Mo];dsimp only;show J9 _ _ [some (.ln d),some (.fz (.str v)),some (.ow (.lst r))];ext;refine#[_,c,r.length,rfl,J,by lia,by lia,by lia,λR L C u N=>?_];ext;refine pick C u (λx p=>D x p) (λx p=>?_);let#[z,rfl,O,o]:=p;exact q z L O o N
theorem jZ.cut {b:Nat}{xs:List D}(h:jZ b xs)(lo a:Option Int):jZ b (cut xs lo a):=λd hd=>h d (ag6 (SZ hd))
theorem jZ.app{b:Nat}(h:jZ b xs)(g:jZ b ys):jZ b (xs++ys):=λd hd=>(kS.mp hd).elim (h d) (g d)
theorem jZ.up{b c:Nat}(h:jZ b xs)(f:b<=c):jZ c xs:=λd hd=>by
 let#[v,e,a,l]:=h d hd;exact#[v,e,a,eC l f]
theorem IM{a:Type}(xs:List a)(n:Nat):cut xs none (some (n:Int))=xs.take n:=by
 unfold cut;rw[_h.AR,_h.DA,ag3,al5];by_cases h:n<=xs.length
 .rw[ao9 h]
 .rw[Nat.min_eq_right (by lia),Re,pa (by lia)]
theorem IP{a:Type}(xs:List a)(h:n<=xs.length):cut xs (some (n:Int)) none=xs.drop n:=by
 unfold cut;rw[_h.AR,_h.DA,ao9 h,pa (by rw[Vy];exact cc _)]
noncomputable def Lk (k:Nat):Nat:=30 * 2 ^ k - 10
theorem WY(k:Nat):2 * Lk k + 10=Lk (k + 1):=by
 unfold Lk;have:1<=2 ^ k:=Nat.one_le_two_pow;rw[ak9];lia
theorem WZ(h:k < 2):Lk k<=50:=by
 have:k=0\/k=1:=by lia
 rcases this with rfl | rfl <;> decide
def JQ:S3:=λΓ Q=>∃ (d:D) (c:Int) (xs:List D),Γ=[some (.ln d),some (.fz (.lst xs))]/\Box c d/\c<=800000/\jZ 20 xs/\1<=xs.length/\xs.length<=6/\
 ∀ ys d',jZ 110 ys->ys.length<=8->1<=ys.length->Box (c + 10) d'->Q (.fr (.lst ys)) [some (.ln d'),some (.fz (.lst xs))]
theorem wF(T:Txt K mg a):aT P w K mg base CX0 3 a.qw a.oG ["_law_box_here","_law_said"] (sp3 K 2 JQ):=by
 refine ok3 T.gR.F cp (hbody:=λa1 A G s H E g=>#[_,_,(ak (aM (i:=2) cp.nd rfl (ek rfl) (ba (Jc (by rfl)) T.z_list (af (bv 1) ag)))
   (ak (fV rr rfl (fG T.z_range (ae (aO V5 (P3.opd (aH (aZ T) g.dn T.ar.m T.ar.F.kp T.ar.b (af (bv 0) (af V5 ag))))) aA)) (bB (i:=3) cp.nd rfl (ek rfl))
   (ak (aM (i:=4) cp.nd rfl (ek rfl) (aH (aZ T) g.dn T.ar.m T.ar.F.kp T.ar.b (af (bv 0) (af V5 ag))))
   (ak (aM (i:=5) cp.nd rfl (ek rfl) (aH (aZ T) g.dn T.ar.m T.ar.F.kp T.ar.b (af (bv 0) (af (P3.opd (aJ (gv) T.z_len (af (bv 2) ag))) ag))))
   (ak (bL (aE (bF g) (bv 4) V5 (aL _)) (ax (aM (i:=2) cp.nd rfl (ek rfl) (aO (P3.opd (og (bv 2) fX (de (bv 5)))) (P3.opd (og (bv 2) (de (P3.opd (aO (bv 5) V5))) fX))))) (ax (bL (aE (bF g) (bv 4) V5 (aL _)) (ax (aM (i:=2) cp.nd rfl (ek rfl) (aO (P3.opd (aO (P3.opd (og (bv 2) fX (de (bv 5)))) (P3.opd (bx (ae (aH (p8 T) g.dn T.dj.m T.dj.F.kp T.dj.b (af (bv 0) (af (P3.opd (bg (bv 2) (bv 5))) ag))) aA))))) (P3.opd (og (bv 2) (de (bv 5)) fX))))) (ax (we 2 (bv 2) (bv 5) (aH (p8 T) g.dn T.dj.m T.dj.F.kp T.dj.b (af (bv 0) (af (P3.opd (bg (bv 2) (bv 5))) ag))))))))
   (ax (bL (aE (bF g) (bv 2) (P3.opd (bx aA)) (aL _)) (ax (aM (i:=2) cp.nd rfl (ek rfl) (bx (ae aq aA)))) aX))))))
   (ax (aG (Cm 2))))),λZ Q h hl=>?_])
 let#[d,c,xs,rfl,hb,hc,hx,x1,x6,q]:=h;ext;refine#[_,c,2,rfl,hb,by lia,by decide,by decide,λU d1 l1 u1 b1=>?_];ext;refine#[by lia,by lia,cN (λk z=>∃ e b F C B,z=[some (.ln e),some (.fz (.lst xs)),some (.ow (.lst b)),fo F,fo C,fo B]/\Box (c + 1 + 4 * k) e/\jZ (Lk k) b/\1<=b.length/\b.length<=6 + k) #[d1,xs,none,none,none,rfl,b1.up (by lia),hx,x1,x6] ?_ ?_]
 .rintro k d z hd ⟨e,b,F,C,B,rfl,r,l,O,N⟩;let#[lk,rfl]:=fW hd;have k2:k < 2:=by lia
  have kL:=WZ k2;have I:=WY k;ext;refine#[_,_,7,rfl,r,by lia,by decide,by decide,λr2 d2 l2 u2 b2=>?_];ext;refine#[_,_,b.length,rfl,b2,by lia,by lia,by lia,λS Y l3 u3 t=>?_];obtain⟨j,rfl⟩:∃ j:Nat,S=j:=#[S.toNat,by lia];ext;have R:jZ (Lk k) (b.take j):=λd hd=>l d (SZ hd);have X:∀ n,jZ (Lk k) (b.drop n):=λn d hd=>l d (ag6 hd);have lt:(b.take j).length=j:=by rw[HT];lia
  have ld:∀ n,(b.drop n).length=b.length - n:=λn=>Vy;have yj:∃ v,atI b (j:Int)=some (.str v)/\As v/\v.length<=Lk k:=by
   let#[x,L,J]:=Ek (xs:=b) l3 u3;let#[v,rfl,y,V]:=l x J;exact#[v,L,y,V]
  let#[v,W,y,V]:=yj;refine iC (λh0=>?_) (λh0=>?_)
  .ext;rw[show ((j:Int) + 1)=((j + 1:Nat):Int) by lia,IM,IP _ (by lia)];refine#[aF (by rw[lt,ld];lia),?_];refine#[rx _,iC (λf=>?_) (λf=>?_)]
   .ext;exact#[z1,Y,[.str (ah "halved")],some _,some _,some _,rfl,t.up (by lia),λd hd=>#[_,ng.mp hd,by decide +kernel,by rw[<- I];exact eC (by decide +kernel) (ae1 _ _)],by decide,by simp only[ed,rp];lia]
   .ext;refine#[Y,_,some _,some _,some _,rfl,t.up (by lia),(R.app (X _)).up (by lia),?_,by rw[cn,lt,ld];lia];generalize an0 j b++an1 (j + 1) b=m at f;cases m with
    | nil=>cases f
    | cons=>simp
  ext;refine iC (λh1=>?_) (λh1=>?_)
  .ext;rw[W];ext;refine#[_,_,v,rfl,t,by lia,y,by lia,λu o M lu p=>?_];ext;rw[IM,IP _ (by lia)];have uk:jZ (Lk (k + 1)) [.str u]:=λd hd=>#[u,ng.mp hd,M,by lia];refine#[z1,aF (by lia),aF (by rw[cn,lt,ld];simp only[ed,rp];lia),?_];refine#[rx _,iC (λf=>?_) (λf=>?_)]
   .ext;exact#[z1,o,[.str (ah "halved")],some _,some _,some _,rfl,p.up (by lia),λd hd=>#[_,ng.mp hd,by decide +kernel,by rw[<- I];exact eC (by decide +kernel) (ae1 _ _)],by decide,by simp only[ed,rp];lia]
   .ext;refine#[o,_,some _,some _,some _,rfl,p.up (by lia),((R.up (by lia)).app uk).app ((X _).up (by lia)),?_,by rw[cn,cn,lt,ld];simp only[ed,rp];lia];generalize an0 j b++[D.str u]++an1 j b=m at f;cases m with
    | nil=>cases f
    | cons=>simp
  .ext;rw[W];ext;refine#[_,_,v,rfl,t,by lia,y,by lia,λu o M lu p=>?_];ext;rw[show ixN b.length (j:Int)=some j by unfold ixN;rw[if_pos (by lia),ks,if_pos (by lia)]];ext;refine#[rx _,iC (λf=>?_) (λf=>?_)]
   .ext;exact#[z1,o,[.str (ah "halved")],some _,some _,some _,rfl,p.up (by lia),λd hd=>#[_,ng.mp hd,by decide +kernel,by rw[<- I];exact eC (by decide +kernel) (ae1 _ _)],by decide,by simp only[ed,rp];lia]
   .ext;refine#[o,_,some _,some _,some _,rfl,p.up (by lia),λd hd=>(VW hd).elim (λh=>(l.up (by lia)) d h) (λh=>#[u,h,M,by lia]),?_,by rw[rk];lia];generalize List.set b j (D.str u)=m at f;cases m with
    | nil=>cases f
    | cons=>simp
 .rintro z ⟨e,b,F,C,B,rfl,r,l,O,N⟩;ext;rw[pd] at r l N;refine q b e (l.up ?_) (by lia) O (r.up (by lia));have:(1 + U).toNat=1\/(1 + U).toNat=2:=by lia
  rcases this with h | h <;> rw[h] <;> decide
theorem jZ.ws{b:Nat}:∀ {xs:List D},jZ b xs->∃ zs:Ls0,xs=zs.map .str/\∀ z∈zs,As z/\z.length<=b
 | [],_=>#[[],rfl,λ_ h=>nomatch h]
 | x::xs,h=>by
  let#[v,rfl,f,a]:=h x eH;let#[zs,rfl,g]:=jZ.ws (xs:=xs) λd hd=>h d (cb _ hd);exact#[v::zs,rfl,λz c=>(dk.mp c).elim (λe=>e ▸ #[f,a]) (g z)]
theorem Ni {c b:Nat}:∀ {ws:List NL},(∀ w∈ws,w.length<=b)->(jn [c] ws).length<=ws.length * (b + 1)
 | [],_=>rx _
 | [w],h=>by
  have:=h w (by simp);show w.length<=1 * (b + 1);lia
 | w::v::ws,h=>by
  have e:=h w (by simp);have d:=Ni (c:=c) (ws:=v::ws) λx a=>h x (cb _ a);show (w++([c]++jn [c] (v::ws))).length<=_;rw[cn,cn,ed (as:=v::ws),Nat.succ_mul];simp only[ed,rp] at d ⊢;lia
theorem CL {c x:Nat}:∀ {a:List NL},x∈jn [c] a->x=c\/∃ w∈a,x∈w
 | [],h=>nomatch h
 | [w],h=>.inr #[w,by simp,h]
 | w::v::a,h=>by
  have h:x∈w++([c]++jn [c] (v::a)):=h;rcases kS.mp h with h | h
  .exact .inr #[w,by simp,h]
  .rcases kS.mp h with h | h
   .exact .inl (ng.mp h)
   .rcases CL h with h | ⟨u,d,b⟩
    .exact .inl h
    .exact .inr #[u,cb _ d,b]
theorem LB{zs:Ls0}{b:Nat}(h:∀ z∈zs,As z/\z.length<=b):As (tx (ah " ") zs)/\(tx (ah " ") zs).length<=zs.length * (b + 1):=by
 constructor
 .intro c a;rw[km,blank] at a;rcases CL a with rfl | ⟨w,e,a⟩
  .exact#[by decide,by decide]
  .let#[z,d,rfl]:=ot.mp e;exact(h z d).1 c a
 .rw[<- aQ,km,blank];have:=Ni (c:=32) (b:=b) (ws:=zs.map sg) λw e=>by
   let#[z,d,rfl]:=ot.mp e;rw[aQ];exact(h z d).2
  rwa [lM0] at this
theorem jok{sep:Str}{ws:Ls0}(h:∀ x∈ws,x.length + sep.length<=m)(d:ws.length * m<=1000000):JoinOk sep ws=true:=by
 have c:∀ (ws:Ls0) (n:Nat),(∀ x∈ws,x.length + sep.length<=m)->ws.foldl (λn x=>n + x.length + sep.length) n<=n + ws.length * m:=by
  intro ws
  induction ws with
  | nil=>intro n _;simp
  | cons x ws a=>
   intro n h;have:=a (n + x.length + sep.length) λy b=>h y (cb _ b);have:=h x (by simp);rw[Ze,ed,an7];lia
 unfold JoinOk Builtin.Str.tooLong;rw[List.foldl_toArray];have:=c ws 0 h;simp only[al4,decide_eq_false_iff_not,ff];lia
theorem JM:∀ n:Fin 97,intText? (two n.val)=some (n.val:Int):=by decide +kernel
theorem cols{v:D}(h:v∈[D.str (ah ":"),.str (ah ":"),.str (ah ":"),.str (ah "")]):∃ t,v=.str t/\As t/\t.length<=1:=by
 simp only[dk,fT,or_false] at h;rcases h with rfl | rfl | rfl | rfl <;> exact#[_,rfl,by decide +kernel,by decide +kernel]
def Ux:S3:=λΓ Q=>∃ (d:D) (c:Int) (xs:List D),Γ=[some (.ln d),some (.fz (.lst xs))]/\Box c d/\c<=800000/\jZ 110 xs/\xs.length<=8/\
 ∀ z d',As z->z.length<=900->Box (c + 2) d'->Q (.fz (.str z)) [some (.ln d'),some (.fz (.lst xs))]
theorem wG(T:Txt K mg a):aT P w K mg base CX0 2 a.qy a.oH ["_law_box_here","_law_said"] (sp3 K 2 Ux):=by
 refine ok3 T.gS.F c9 (hbody:=λa1 A B s H E y=>#[_,_,(ak (aM (i:=2) c9.nd rfl (ek rfl) (aO (P3.opd (DN (by rfl) aq (bv 1))) (P3.opd aq)))
   (ak (aM (i:=3) c9.nd rfl (ek rfl) (aH (eV T) y.dn T.bj.m T.bj.F.kp T.bj.b (af (P3.opd (p3v 2)) ag)))
   (ak (aM (i:=4) c9.nd rfl (ek rfl) (aH (aZ T) y.dn T.ar.m T.ar.F.kp T.ar.b (af (bv 0) (af V5 ag))))
   (ak (bL (aE yR (bv 4) V5 (aL _)) (ak (aM (i:=5) c9.nd rfl (ek rfl) (ba rq T.z_str (af (P3.opd (mS (P3.opd (aO (P3.opd (ba uA T.z_int (af (bv 3) ag))) V5)) V5)) ag)))
   (ax (aM (i:=3) c9.nd rfl (ek rfl) (bg (P3.opd (bx (ae (p3v 5) (ae (aO (P3.opd aq) (bv 3)) (ae (lL (bv 3) fX (de V5)) (ae (aO (bv 3) (P3.opd aq)) (ae aq (ae (aO (bv 3) (P3.opd aq)) aA)))))))) (bv 4))))) aX)
   (ax (aG (aO (P3.opd (aO (bv 2) (bv 3))) (P3.opd (bg (P3.opd (bx (ae aq (ae aq (ae aq (ae aq aA)))))) (P3.opd (oi (aE (bF y) (bv 4) V5 (aL _)) (aH (aZ T) y.dn T.ar.m T.ar.F.kp T.ar.b (af (bv 0) (af V5 ag))) ai))))))))))),λV Q h hl=>?_])
 let#[d,c,xs,rfl,hb,l,F,W,q]:=h;let#[r,rfl,N]:=F.ws;rw[lM0] at W;ext;have lz:r.length * (110 + 1)<=888:=by lia
 have M:=LB N;have sb:(ah " ").length=1:=by decide +kernel
 refine#[r,rfl,jok (m:=111) (λx F=>by have:=(N x F).2;lia) (by lia),aF (by lia),?_];obtain⟨h0,z⟩:∃ h0,h0=tx (ah " ") r++ah " ":=#[_,rfl];have U:As h0:=by rw[z];exact cq M.1 (by decide +kernel)
 have lh:h0.length<=889:=by rw[z,ee];lia
 rw[<- z]
 clear z M lz
 refine#[h0,rfl,U,by lia,?_];have S:=uz (sg h0) 0 (by decide);generalize hn:chk 0 (sg h0)=n at S;obtain⟨j,f⟩:∃ j,j=two n:=#[_,rfl];have b:As j/\j.length=2:=by rw[f];exact#[λc l=>by
  have:c=48 + n / 10\/c=48 + n % 10:=by simpa [two,sg] using l
  lia,rfl]
 have C:intText? j=some (n:Int):=by rw[f];exact JM #[n,S]
 rw[<- f]
 clear f hn
 ext;refine#[_,c,16,rfl,hb,by lia,by decide,by decide,λJ R l1 u1 G=>?_];have fin:∀ (u:Str) (Y:Option D),As u->u.length<=3->∀ (t:Str) o,As t->t.length<=1->Box (c + 2) o->Q (.fz (.str (h0++u++t))) [some (.ln o),some (.fz (.lst (r.map .str)))]:=λu Y I L t o k lt b2=>q _ _ (cq (cq U I) k) (by rw[ee,ee];lia) b2;ext;cases O:pP J 6
 .ext;refine#[aF (by lia),z4,BK (λe=>?_) (λe=>?_)]
  .ext;refine#[_,_,4,rfl,G,by lia,by decide,by decide,λr2 o l2 X b2=>?_];ext;refine pick l2 X (λv g=>cols g) (λv g=>?_);let#[t,rfl,k,lt]:=g;ext;exact#[aF (by rw[ee];lia),fin j none b.1 (by lia) t o k lt (b2.up (by lia))]
  .ext;exact#[aF (by rw[ee,gu];lia),fin j none b.1 (by lia) _ R (by decide +kernel) (by decide +kernel) (G.up (by lia))]
 .ext;have Z:(J == 7)=false:=beq_eq_false_iff_ne.mpr (by have:=of_decide_eq_true O;lia);have i2:=v7 (n:=((n:Int) + 1) % 100) (by lia) (by lia);have s0:(ah "0").length=1:=by decide +kernel
  refine#[n,C,by lia,by decide,by lia,aF (by lia),aF (by lia),aF (by lia),aF (by lia),aF (by decide),?_];refine pick (p:=λv=>∃ u,v=.str u/\As u/\u.length<=3) l1 (of_decide_eq_true O) (λv g=>?_) (λv g=>?_)
  .simp only[dk,fT,or_false] at g;rcases g with rfl | rfl | rfl | rfl | rfl | rfl
   .exact#[_,rfl,qX _,by rw[<- aQ];exact eC i2.2.1 (by decide)]
   .exact#[_,rfl,cq (by decide +kernel) b.1,by rw[ee];lia]
   .exact#[_,rfl,λc l=>b.1 c (by rw[show (1:Int)=((1:Nat):Int) from rfl,vH] at l;exact SZ l),by rw[<- aQ,show (1:Int)=((1:Nat):Int) from rfl,vH,HT,aQ];lia]
   .exact#[_,rfl,cq b.1 (by decide +kernel),by rw[ee];lia]
   .exact#[_,rfl,by decide +kernel,by decide +kernel]
   .exact#[_,rfl,cq b.1 (by decide +kernel),by rw[ee];lia]
  let#[u,rfl,I,L]:=g;ext;rw[Z];ext;exact#[aF (by lia),z4,aF (by rw[ee,gu];lia),fin u none I L _ R (by decide +kernel) (by decide +kernel) (G.up (by lia))]
def J8:S3:=λΓ Q=>(∃ z,Γ=[some (.fz (.str z))]/\As z/\z.length<=900/\58∉sg z/\Q (.fz (.bl true)) Γ)\/
 (∃ y,Γ=[some (.fz (.str (bV y)))]/\As y/\y.length<=900/\58∉sg y/\Q (.fz (.bl true)) Γ)
theorem uF.Na{U:Addr}(x:uF K U C):ia K C (.ref U)=some true:=by
 let#[d,rest,b,a,c,h4,_]:=x.mro;unfold ia;rw[b,YU,if_neg (by rw[a];simp),a]
 congr 1
 rcases h4 with rfl | h4
 .simp
 .exact YL.mpr (cb _ h4)
theorem zO(a:As z)(d:z.length<=1000):okR (.str z):=by
 refine .inr (.inr (.inr (.inr #[z,rfl,?_])));have:=ag7 z (λc h=>by have b:c∈sg z:=h;have:=a c b;lia);exact aF (by lia)
theorem yK {n:Nat}:∀ R:LL0,iU (n + 1) (R.map il) (R.map il)=some true
 | []=>rfl
 | r::R=>by
  have e:eqN (n + 1) (il r) (il r)=some true:=by rw[xc,decide_eq_true rfl]
  show (match eqN (n + 1) (il r) (il r),iU (n + 1) (R.map il) (R.map il) with
   | some a,some b=>some (a && b)
   | _,_=>none)=_
  rw[e,yK R]
  rfl
theorem Bu(R:LL0):eqN (n + 2) (rD R) (rD R)=some true:=yK R
theorem UZ{a b:Int}{x:Str}:eqN (n + 2) (.tup [.tup [.int a,.int b],.str x,.str y]) (.tup [.tup [.int a,.int b],.str x,.str y])=some true:=by
 unfold eqN;simp [iU,eqN]
theorem AV{h w:Nat}{u:Int}:D.lst (bw h [D.lst (bw w [D.int u]).flatten]).flatten=rD (bw h (bw w u)):=by
 have e:∀ (n:Nat) (d:D),(bw n [d]).flatten=bw n d:=λn d=>by
  induction n with
  | zero=>rfl
  | succ n a=>rw[rd,rd,Tf,a];rfl
 rw[e,e];show _=D.lst ((bw h (bw w u)).map il);rw[Yq];show _=D.lst (bw h (D.lst ((bw w u).map D.int)));rw[Yq]
theorem Vp{a b c d e:D}:atI [a,b,c,d,e] 4=some e:=rfl
theorem k0(T:Txt K mg a):aT P w K mg base CX0 11 a.s_ a.qk ["_law_text"] (sp3 K 1 J8):=by
 refine ok3 T.b9.F bN (hbody:=λa4 A x s H E c=>#[_,_,(ak (aM (i:=1) bN.nd rfl (ek rfl) (aH (mT T) c.dn T.cH.m T.cH.F.kp T.cH.b (af (P3.opd (p3v 0)) ag)))
   (ax (P3S.ofX λB F0=>(JB (i:=3) (by rfl) T.vU rfl rfl (by rfl) T.dU bN.nd rfl rfl (λk F1 E W Y=>(jx (NS (i:=2) bN.nd rfl (ek rfl) (RM (o8 Y (nv T) M4 c.dn T.dh.m T.dh.F.kp T.dh.b (af (P3.opd (p3v 0)) ag)))))) (λk e=>lB.x (ax (aG (zK (dP Dc (bv 1) (P3.opd gJ) (aL _)) (zK (aJ (Va (P:=λC=>XIs K C) (by rfl) (λ_ h=>h)) T.z_isinstance (af (bv 3) (af (P3.opd (K0 (by rfl) T.jq)) ag))) (zG (dP Vd (P3.opd (aJ (Ak (by rfl) (c.hm _)) T.z_repr (af (P3.opd (DK (P:=λC=>Di K C/\bK K C "found") (f:="found") (by rfl) (bv 3) (λ_ h=>h) (by rfl))) ag))) (P3.opd (aJ (Ak (by rfl) (c.hm _)) T.z_repr (af (bv 0) ag))) (aL _)))))))) (lB.x (ak (bL (P3W.pt (cM (aE Dc (bv 1) (P3.opd gJ) (aL _)) (cB (aE (dX c) (P3.opd (bg (bv 1) V5)) (P3.opd aq) (aL _))))) (ax (aG fB)) aX)
   (ak (kq (is:=[4,5,6,7,8]) (p3v 1) (aR (a8 (i:=4) bN.nd rfl (ek rfl)) (aR (a8 (i:=5) bN.nd rfl (ek rfl)) (aR (a8 (i:=6) bN.nd rfl (ek rfl)) (aR (a8 (i:=7) bN.nd rfl (ek rfl)) (aR (a8 (i:=8) bN.nd rfl (ek rfl)) eE))))) rfl)
   (ak (aM (i:=9) bN.nd rfl (ek rfl) (Hm (aK (bv 2) T.bP T.vz (vy T) c.dn T.nN.b)))
   (ak (bL (aE (dX c) (P3.opd (cF (ae (cF (ae (aK (bv 9) T.aY T.dR (dQ T) c.dn T.dA.b) (ae (aK (bv 9) T.aY T.eZ (eY T) c.dn T.dZ.b) aA))) (ae (P3.or (aK (P3.opd (aK (bv 9) T.aY T.cY (cX T) c.dn T.cT.b)) T.Ac T.mX (mU T) c.dn T.kf.b) (P3.or (aK (P3.opd (aK (bv 9) T.aY T.cY (cX T) c.dn T.cT.b)) T.uy T.jI (jG T) c.dn T.gU.b) (P3.or (aK (P3.opd (aK (bv 9) T.aY T.cY (cX T) c.dn T.cT.b)) T.rm T.iM (iK T) c.dn T.fK.b) (aK (P3.opd (aK (bv 9) T.aY T.cY (cX T) c.dn T.cT.b)) T.rl T.iL (iJ T) c.dn T.fJ.b)))) (ae (aK (bv 9) T.aY T.oz (om T) c.dn T.mn.b) aA))))) (P3.opd (cF (ae (p3v 4) (ae (p3v 5) (ae (p3v 6) aA))))) (aL _)) (ax (aG fB)) aX)
   (ak (aM (i:=10) bN.nd rfl (ek rfl) (je (P3.opd (bx (ae (je (P3.opd (bx (ae (iI (P3.opd (Cn V5 (bv 7))) V5) aA))) (P3.opd (bg (bv 4) V5))) aA))) (P3.opd (bg (bv 4) V5))))
   (ak (bL (P3W.pt (cM (aE (dX c) (P3.opd (aK (P3.opd (aK (bv 2) T.bP T.sC (sf T) c.dn T.lG.b)) T.tJ T.qf (p_ T) c.dn T.mr.b)) (bv 10) (aL _)) (cB (aE (dX c) (P3.opd (aK (P3.opd (aK (bv 2) T.bP T.rg (qT T) c.dn T.kg.b)) T.tJ T.qf (p_ T) c.dn T.mr.b)) (P3.opd (je (P3.opd (bx (ae (je (P3.opd (bx (ae ai aA))) (P3.opd (bg (bv 4) V5))) aA))) (P3.opd (bg (bv 4) V5)))) (aL _))))) (ax (aG fB)) aX)
   (ax (aG (zK (dP (bF c) (P3.opd (aJ (pG c) T.z_repr (af (P3.opd (aK (bv 2) T.bP T.sD (sj T) c.dn T.lH.b)) ag))) (P3.opd (aJ (pG c) T.z_repr (af (bv 7) ag))) (aL _)) (zG (dP (bF c) (P3.opd (aJ (pG c) T.z_repr (af (P3.opd (aK (bv 2) T.bP T.ui (uh T) c.dn T.nk.b)) ag))) (P3.opd (aJ (pG c) T.z_repr (af (P3.opd (dP (bF c) (bv 7) V5 (aL _))) ag))) (aL _))))))))))))))))),λX Q h hl=>?_])
 rcases h with ⟨z,rfl,j,lz,N,q⟩ | ⟨y,rfl,j,G,D,q⟩
 .ext;refine .inl #[z,rfl,j,lz,N,?_];ext;refine .inr (.inl #[z,rfl,by lia,N,?_]);ext;refine#[uF.Na T.bM.un,oE (by rfl),?_];ext;exact#[T.bM.is,true,uF.self,#[T.bM.is.ga,T.bM.is.gh,T.bM.is.hd,T.bM.is.ex],T.bM.na _ (by simp),.str z,rfl,zO j (by lia),zO j (by lia),by rw[decide_eq_true rfl];exact q]
 .ext;refine .inr #[y,rfl,j,G,D,λR h w t p d=>?_,λF=>?_]
  .ext;refine .inr (.inr #[y,rfl,j,G,D,λV O L o M J=>?_,λF=>absurd d (F R h w t p)]);let#[rfl,rfl,rfl,rfl,rfl]:=d.uniq J;ext;rw[Vp];ext;rw[show (mu == ah "")=true by decide +kernel];ext;refine#[by decide +kernel,_,_,_,p,_,rfl,?_];ext;let#[s1,s2,s3,s4,s5]:=id d.sz;have g:=yu d.sz d.gd;refine#[by decide +kernel,R,h,w,t,rfl,g,?_];ext;refine#[by decide +kernel,R,h,w,t,rfl,g,?_];ext;refine#[z2,uf R ?_];rw[EF];ext;refine#[by decide +kernel,R,h,w,t,rfl,g,?_];ext;refine#[_,rfl,?_];ext;refine#[by decide +kernel,R,h,w,t,rfl,g,?_];ext;refine#[z3,z3,true,UZ,?_];ext;rw[Int.one_mul,AV];refine#[?_,z1,by lia,by lia,aF (by lia),z1,by lia,by lia,aF (by lia),by decide +kernel,_,_,_,p,_,rfl,?_]
   .exact#[d.p0,by have:=d.p1;lia,by decide]
   ext;let#[hn,v,rfl,rfl,a2,Z,U]:=toN d.sz;have pw:(2:Int) ^ p.toNat<=2 ^ 30:=by
    have:=WR (n:=2) (by decide) (show p.toNat<=30 by have:=d.p1;lia)
    exact_mod_cast this
   have a1:(1:Int)<=2 ^ p.toNat:=Int.pow_pos (by decide);have S:∀ u:Int,0<=u->u < 1000000000000000->GR v (bw hn (bw v u)):=λu u0 u1=>by
    refine#[by rw[ey];lia,by rw[ey];lia,by lia,by lia,by rw[ey];lia,λr c=>by rw[Yg c,ey],λr c=>?_];rw[Yg c];intro n I;rw[Yg I];exact#[by lia,by lia]
   rw[ks,ks];refine#[by decide +kernel,v,_,rfl,S _ (by lia) (by lia),?_];ext;refine#[true,Bu _,?_];ext;refine#[by decide +kernel,_,_,_,p,_,rfl,?_];ext;rw[ks,ks];refine#[by decide +kernel,v,_,rfl,S _ (by decide) (by decide),?_];ext;rw[ks,ks,AV];refine#[z1,by lia,by lia,aF (by lia),z1,by lia,by lia,aF (by lia),true,Bu _,?_];ext;have p1:=d.p1;have p0:=d.p0;have l:okR (.int p):=.inr (.inr (.inr (.inl #[p,rfl,by lia])));have m:∀ b,okR (.bl b):=λb=>.inr (.inr (.inl #[b,rfl]));refine#[by decide +kernel,_,_,_,p,_,rfl,?_];ext;refine#[l,l,by decide +kernel,_,_,_,p,_,rfl,?_];ext;refine#[m _,m _,?_];rw[show ((0:Int) == p)=(p == 0) from al3];ext;exact q
  .ext;refine .inr (.inr #[y,rfl,j,G,D,λV O L o M J=>absurd J (F V O L o M),λ_=>?_]);ext;refine#[uF.Na T.bM.un,oE (by rfl),?_];ext;exact#[T.bM.is,true,uF.self,#[T.bM.is.ga,T.bM.is.gh,T.bM.is.hd,T.bM.is.ex],T.bM.na _ (by simp),.str (bV y),rfl,zO (Dg j) (by rw[yO];lia),zO (Dg j) (by rw[yO];lia),by rw[decide_eq_true rfl];exact q]
theorem Gs{R:Rl}{h w:Int}{x:Str}{p:Int}:tx (ah " ") (six R h w x p)++ah " "=hd0 R h w x p:=dm (by
 rw[dN,km,blank,z8])
theorem BY{R:Rl}{h w:Int}{ls:List Lt}{p:Int}{v:Str}(a:32∉sg v):wds (hd0 R h w (wyx ls) p++v)=six R h w (wyx ls) p++[v]:=by
 have e:hd0 R h w (wyx ls) p++v=tx (ah " ") (six R h w (wyx ls) p++[v]):=dm (by rw[dN,BJ]);rw[e];refine Ay (by simp) λz hz=>?_;rcases kS.mp hz with hz | hz
 .exact HJ (R:=R) (h:=h) (w:=w) (p:=p) (HI ls) z (ml _ hz)
 .rw[ng.mp hz];exact a
theorem Fp{R:Rl}{h w:Int}{ls:List Lt}{p:Int}(a:gQ h w)(g:Good h w ls)(c:0<=p)(b:p<=30):Head (hd0 R h w (wyx ls) p++ckT R h w (wyx ls) p) R h w ls p:=
 #[a,g,c,b,BY Cv]
theorem N3(z:Str):wds (ah " "++z)=mu::wds z:=by
 unfold wds;rw[dN,blank];show (spl 32 (32::sg z)).map mkS=_;let#[u,r,e]:=qF 32 (sg z);simp only[spl,if_true,e,gr]
 rfl
theorem Cu(n:Int):58∉sg (itx n):=λh=>by
 rcases uo h with h | h <;> lia
theorem PX(ls:List Lt):58∉sg (wyx ls):=by
 unfold wyx;split
 .decide +kernel
 .rw[nO];intro h;let#[l,_,e]:=ot.mp h;cases l <;> exact absurd e (by decide)
theorem M_{R:Rl}{h w:Int}{ls:List Lt}{p:Int}:58∉sg (hd0 R h w (wyx ls) p):=by
 rw[z8];intro hc;rcases kS.mp hc with hc | hc
 .rcases CL hc with hc | ⟨z,a,hc⟩
  .exact absurd hc (by decide)
  .simp only[six,gr,Wp,dk,fT,or_false] at a;rcases a with rfl | rfl | rfl | rfl | rfl | rfl
   .exact absurd hc (by decide +kernel)
   .exact Cu _ hc
   .exact Cu _ hc
   .cases R <;> exact absurd hc (by decide +kernel)
   .exact PX _ hc
   .exact Cu _ hc
 .exact absurd hc (by decide)
theorem HH(h:n < 97):58∉sg (two n):=by
 show 58∉[48 + n / 10,48 + n % 10];simp;lia
theorem Jr(h:n < 97):As (two n):=λc a=>by
 have:c=48 + n / 10\/c=48 + n % 10:=by simpa [two,sg] using a
 lia
theorem zZ{x:Str}(h1:58∉sg x)(a:58∉sg y):58∉sg (x++y):=by
 rw[dN];intro h;exact(kS.mp h).elim h1 a
theorem Df(ls:List Lt):As (wyx ls):=by
 unfold wyx;split
 .exact TC
 .exact MK ls
theorem DT{ls:List Lt}(h:ls.length<=12):(wyx ls).length<=12:=by
 unfold wyx;split
 .decide +kernel
 .rw[kR];exact h
def Bad (z:Str):Prop:=(As z/\z.length<=900/\58∉sg z)\/∃ y,z=bV y/\As y/\y.length<=900/\58∉sg y/\∀ R h w ls p,¬ Head y R h w ls p
theorem WI{R:Rl}{h w:Int}{ls:List Lt}{p:Int}(j:gQ h w)(g:Good h w ls)(y:0<=p)(x:p<=30){g0:Str}(c:g0=hd0 R h w (wyx ls) p)(l:n < 97) :
  Bad (ah "")/\Bad (ah ":")/\Bad g0/\Bad (g0++ah ":")/\Bad (ah " "++g0++two n++ah ":"):=by
 let#[u,t,s,r,_]:=id j;have f:As g0:=by rw[c];exact CP (Df ls)
 have z:g0.length<=200:=by rw[c];exact z9 (by lia) (by lia) (by lia) (DT (yu j g))
 have nh:58∉sg g0:=by rw[c];exact M_
 refine#[.inl #[by decide +kernel,by decide +kernel,by decide +kernel],.inr #[ah "",by decide +kernel,by decide +kernel,by decide +kernel,by decide +kernel,λR h w ls p d=>?_],.inl #[f,by lia,nh],.inr #[g0,rfl,f,by lia,nh,λo m i b k d=>?_],.inr #[ah " "++g0++two n,rfl,cq (cq Cr f) (Jr l),by rw[ee,ee,kF,fF];lia,zZ (zZ (by decide +kernel) nh) (HH l),λo m i b k d=>?_]]
 .have:=congrArg YZ d.eq;rw[show (wds (ah "")).length=1 by decide +kernel] at this;simp [six] at this
 .have e:wds g0=six R h w (wyx ls) p++[mu]:=by
   have:=BY (R:=R) (h:=h) (w:=w) (ls:=ls) (p:=p) (v:=mu) (by decide +kernel);rw[<- this,<- c]
   congr 1
  have q:=e.symm.trans d.eq;have:=(an3 q rfl).2;have:=congrArg ap3 (ah8 this).1;rw[show (ckT o m i (wyx b) k).length=2 from rfl] at this;exact absurd this (by decide +kernel)
 .have e:wds (ah " "++g0++two n)=mu::(six R h w (wyx ls) p++[two n]):=by
   have a:ah " "++g0++two n=ah " "++(g0++two n):=dm (by rw[dN,dN,dN,dN,nR]);rw[a,N3,c,BY Cv]
  have:=congrArg YZ (e.symm.trans d.eq);simp [six] at this
theorem Hi(z:Str):(58∉sg z/\rA z (ah ":")=(z,mu,mu))\/∃ y v,sg z=sg y++58::sg v/\58∉sg y/\rA z (ah ":")=(y,ah ":",v):=by
 rcases ac1 z (ah ":") 1 (cc 1) with ⟨f,c⟩ | ⟨i,r,f,l,c⟩
 .refine .inl #[λh=>?_,?_]
  .let#[j,b]:=af0.mp h;exact absurd (uC.mpr b) (c _)
  .unfold rA;rw[f]
 .have a:=uC.mp l;have lt:=(gS0 a).1;have g:sg (yt z 0 i)=(sg z).take i:=by
   show (z.cps.extract 0 i).toList=_;rw[Ji];show Su (sg z) 0 i=_;simp [Su]
  have k:sg (yt z (i + (ah ":").length) z.length)=(sg z).drop (i + 1):=by
   show (z.cps.extract (i + (ah ":").length) z.length).toList=_;rw[Ji];show Su (sg z) _ _=_;rw[gu,<- aQ z];simp [Su];exact pa (by rw[Vy,aQ];exact cc _)
  refine .inr #[yt z 0 i,yt z (i + (ah ":").length) z.length,?_,?_,?_]
  .rw[g,k];have e:=XU lt;rw[gE0 lt] at a;rw[gT a] at e;rw[<- e,List.take_append_drop]
  .rw[g];intro h;let#[j,b]:=af0.mp h;rw[ZI] at b;split at b
   .rename_i d;exact absurd (uC.mpr b) (c _ d)
   .cases b
  .unfold rA;rw[f]
theorem Gi{v:D}(d:As z)(f:z.length<=1000)(h:v∈[D.non,.int 5,.bl true,.lst [.str z],.tup [.str z],.dct,.int 100000000000000000000000000000]):knD v=true/\dS v=false/\okR v:=by
 simp only[dk,fT,or_false] at h;have b:(hG (.str z)).length<=100000:=by
  have:=ag7 z (λc h=>by have e:c∈sg z:=h;have:=d c e;lia);simp only[hG];lia
 rcases h with rfl | rfl | rfl | rfl | rfl | rfl | rfl
 .exact#[rfl,rfl,.inr (.inl rfl)]
 .exact#[rfl,rfl,.inr (.inr (.inr (.inl #[_,rfl,by decide])))]
 .exact#[rfl,rfl,.inr (.inr (.inl #[_,rfl]))]
 .exact#[rfl,rfl,.inl #[.inl rfl,(Sh.lst (n:=100000) (k:=1) (l:=1) (λx a=>by rw[ng.mp a];exact .str b) (by simp)).up (by decide) (by decide)]]
 .exact#[rfl,rfl,.inl #[.inl rfl,(Sh.tup (n:=100000) (k:=1) (l:=1) (λx a=>by rw[ng.mp a];exact .str b) (by simp)).up (by decide) (by decide)]]
 .exact#[rfl,rfl,.inl #[.inr rfl,Sh.dct.up (by decide) (by decide)]]
 .exact#[rfl,rfl,.inr (.inr (.inr (.inl #[_,rfl,by decide])))]
theorem K9(T:Txt K mg a):aT P w K mg base CX0 12 a.Iw a.CT ["_law_script"] (sp3 K 1 (Ng 63)):=by
 refine ok3 T.RK.F iE (hbody:=λb5 A a1 s H E l=>#[_,_,(ak (fV rr rfl (fG T.z_range (ae (aJ (NJ rfl) T.z_max (af V5 (af (P3.opd (aJ (NI rfl) T.z_min (af (P3.opd (aJ (gv) T.z_len (af (bv 0) ag))) (af V5 ag)))) ag))) aA)) (bB (i:=1) iE.nd rfl (ek rfl))
   (ak (aM (i:=2) iE.nd rfl (ek rfl) (aH (Bd T) l.dn T.mm.m T.mm.F.kp T.mm.b (af (P3.opd (aH (zW T) l.dn T.ka.m T.ka.F.kp T.ka.b (af (P3.opd (p3v 0)) (af (P3.opd (p3v 1)) ag)))) ag)))
   (ak (aM (i:=3) iE.nd rfl (ek rfl) (Hm (aH (xG T) l.dn T.i6.m T.i6.F.kp T.i6.b (af (bv 2) ag))))
   (ak (aM (i:=4) iE.nd rfl (ek rfl) (aO (P3.opd (DN (by rfl) aq (bv 3))) (P3.opd aq)))
   (ak (bL (P3W.pt (cM (aE Dc (P3.opd (aH (mT T) l.dn T.cH.m T.cH.F.kp T.cH.b (af (P3.opd (aO (P3.opd (aO (bv 4) (P3.opd (aH (eV T) l.dn T.bj.m T.bj.F.kp T.bj.b (af (P3.opd (p3v 4)) ag))))) (P3.opd aq))) ag))) (P3.opd gJ) (aL _)) (cB (cj (cC (aH (k0 T) l.dn T.b9.m T.b9.F.kp T.b9.b (af (P3.opd (aO (P3.opd (aO (bv 4) (P3.opd (aH (eV T) l.dn T.bj.m T.bj.F.kp T.bj.b (af (P3.opd (p3v 4)) ag))))) (P3.opd aq))) ag))))))) (ax (aG fB)) aX)
   (ak (fV rr rfl (fG T.z_range (ae ai aA)) (bB (i:=5) iE.nd rfl (ek rfl))
   (ak (aM (i:=6) iE.nd rfl (ek rfl) (aH (wG T) l.dn T.gS.m T.gS.F.kp T.gS.b (af (bv 2) (af (P3.opd (aH (wF T) l.dn T.gR.m T.gR.F.kp T.gR.b (af (bv 2) (af (P3.opd (p3v 3)) ag)))) ag))))
   (ax (bL (cj (cC (aH (k0 T) l.dn T.b9.m T.b9.F.kp T.b9.b (af (P3.opd (aO (P3.opd (bg (P3.opd (zF (p3v 6) aq)) V5)) (P3.opd (bg (P3.opd (zF (p3v 6) aq)) V5)))) ag)))) (ax (aG fB)) aX))))
   (ak (fV rr rfl (hU (bx (ae aq (ae aq (ae (p3v 4) (ae (aO (bv 4) (P3.opd aq)) (ae (aO (P3.opd (aO (P3.opd (aO (P3.opd aq) (bv 4))) (P3.opd (aH (eV T) l.dn T.bj.m T.bj.F.kp T.bj.b (af (P3.opd (aO (P3.opd aq) (bv 4))) ag))))) (P3.opd aq)) aA))))))) (bB (i:=6) iE.nd rfl (ek rfl))
   (ax (bL (P3W.pt (cM (aE Mj (P3.opd (aH (mT T) l.dn T.cH.m T.cH.F.kp T.cH.b (af (P3.opd (p3v 6)) ag))) (P3.opd gJ) (aL _)) (cB (cj (cC (aH (k0 T) l.dn T.b9.m T.b9.F.kp T.b9.b (af (P3.opd (p3v 6)) ag))))))) (ax (aG fB)) aX)))
   (ak (aM (i:=7) iE.nd rfl (ek rfl) (bg (P3.opd (bx (ae gJ (ae ai (ae fB (ae (bx (ae (p3v 4) aA)) (ae (cF (ae (p3v 4) aA)) (ae Pg (ae (Hl (v:=100000000000000000000000000000) (by decide +kernel) #[by decide,by decide,by decide]) aA))))))))) (P3.opd (aH (aZ T) l.dn T.ar.m T.ar.F.kp T.ar.b (af (bv 2) (af V5 ag))))))
   (ak (aM (i:=8) iE.nd rfl (ek rfl) gJ)
   (ak (P3S.ofX λB F0=>(NQ (i:=9) (by rfl) T.Ew rfl rfl (by rfl) T.jq iE.nd rfl rfl (λM F1 E W xr=>(jx (JE (o8 xr (nv T) M4 l.dn T.dh.m T.dh.F.kp T.dh.b (af (P3.opd (p3v 7)) ag))))) (λM e=>((ax (aM (i:=8) iE.nd rfl (ek rfl) (DK (P:=λC=>Di K C/\bK K C "found") (f:="found") (by rfl) (bv 9) (λ_ h=>h) (by rfl))))).x)))
   (ax (bL (aE (dX l) (P3.opd (aJ (pG l) T.z_repr (af (bv 8) ag))) (P3.opd (aJ (pG l) T.z_repr (af (bv 7) ag))) (aL _)) (ax (aG fB)) aX))))))))))))
   (ax (aG fB))),λa2 Q h hl=>?_])
 let#[G,rfl,h1,q]:=h;ext;have fb:fmax 2 (fmin (G.length:Int) 8)<=8/\2<=fmax 2 (fmin (G.length:Int) 8):=by unfold fmax fmin;split <;> split <;> lia
 refine#[by lia,by lia,cN (λk u=>∃ s1 s2 s3 Z D t L J,u=[some (.fz (.scr G)),fo s1,fw s2,fo s3,fo Z,fo D,fo t,fo L,fo J,none]) #[none,none,none,none,none,none,none,none,rfl] ?_ ?_]
 .rintro k d u hd ⟨s1,s2,s3,Z,D,t,L,J,rfl⟩;let#[lt,rfl]:=fW hd;ext;refine#[G,_,rfl,by lia,λr=>?_];ext;refine#[r,rfl,λd1 b1=>?_];ext;refine#[d1,rfl,b1,λR h w o p d2 U g p0 p1 b2=>?_];ext;let#[a0,a7,a5,a4,_]:=id U;have l6:(six R h w (wyx o) p).length=6:=rfl;have Y:=DT (yu U g);have a6:∀ z∈six R h w (wyx o) p,As z/\z.length<=16:=by
   have ih:=sF (n:=h) (by lia);have iw:=sF (n:=w) (by lia);have ip:=sF (n:=p) (by lia);have lw:=HU R;intro z N;simp only[six,dk,fT,or_false] at N;rcases N with rfl | rfl | rfl | rfl | rfl | rfl
   .exact#[by decide +kernel,by decide +kernel]
   .exact#[qX _,ih]
   .exact#[qX _,iw]
   .exact#[DO R,by lia]
   .exact#[Df o,by lia]
   .exact#[qX _,ip]
  have ej:=Gs (R:=R) (h:=h) (w:=w) (x:=wyx o) (p:=p);have gl:(hd0 R h w (wyx o) p).length<=200:=z9 (by lia) (by lia) (by lia) Y;have I:As (hd0 R h w (wyx o) p):=CP (Df o);have jl:(tx (ah " ") (six R h w (wyx o) p)).length + (ah " ").length<=200:=by rw[<- ee,ej];exact gl
  refine#[_,rfl,jok (m:=17) (λx hx=>by have:=(a6 x hx).2;rw[fF];lia) (by rw[l6];decide),aF (by lia),?_];rw[ej];have F:=Fp (R:=R) U g p0 p1;unfold ckT at F;have bd:=λ{n:Nat} (hn:n < 97)=>WI (R:=R) U g p0 p1 (g0:=hd0 R h w (wyx o) p) rfl hn;have nc:58∉sg (hd0 R h w (wyx o) p):=M_;generalize hd0 R h w (wyx o) p=g0 at gl I F bd nc ⊢;have cl:=uz (sg g0) 0 (by decide);refine#[g0,rfl,I,by lia,?_];generalize hn:chk 0 (sg g0)=n at cl F ⊢;have al:(g0++two n).length<=202:=by rw[ee,kF];lia
  have aa:As (g0++two n):=cq I (Jr cl);have na:58∉sg (g0++two n):=zZ nc (HH cl);ext;refine#[aF (by rw[kF];lia),aF (by rw[gu];lia),.inr #[g0++two n,rfl,aa,by lia,na,λR' h' w' a' p' d'=>?_,λno=>absurd F (no _ _ _ _ _)]];ext;refine#[g0,rfl,I,by lia,?_];rw[hn];ext;refine#[aF (by rw[kF];lia),aF (by rw[gu];lia),.inr #[g0++two n,rfl,aa,by lia,na,?_]];ext;refine#[by decide,by decide,cN (λj u=>∃ e D t,u=[some (.fz (.scr G)),some (.fz (.int (0 + (k:Int)))),some (.ow e),some (.fz (.lst ((six R h w (wyx o) p).map .str))),some (.fz (.str g0)),fo D,fo t,fo L,fo J,none]/\Box (40 + 20 * j) e) #[d2,D,t,rfl,b2.up (by lia)] ?_ ?_]
  .rintro j d u hd ⟨e,D,t,rfl,be⟩;let#[lj,rfl]:=fW hd;replace lj:j < 6:=lj;ext;refine#[e,_,_,rfl,be,by lia,λd hd=>?_,by rw[lM0,l6];decide,by rw[lM0,l6];decide,λys d3 sy y8 y1 b3=>?_]
   .let#[z,N,rfl]:=ot.mp hd;exact#[z,rfl,(a6 z N).1,by have:=(a6 z N).2;lia]
   ext;refine#[d3,_,ys,rfl,b3,by lia,sy,y8,λz d4 S lz b4=>?_];ext;rcases Hi z with ⟨V,ep⟩ | ⟨y,v,ez,X,ep⟩
   .rw[ep];refine#[by decide +kernel,aF (by lia),by decide +kernel,aF (by lia),aF (by show z.length + mu.length<=_;rw[ix];lia),.inl #[z++mu,rfl,cq S TF,by rw[ee,ix];lia,zZ V (by decide +kernel),?_]];ext;exact#[d4,some _,some _,rfl,b4.up (by lia)]
   .rw[ep];have ly:y.length < z.length:=by
     rw[<- aQ y,<- aQ z,ez,cn,ed];lia
    refine#[by decide +kernel,aF (by lia),by decide +kernel,aF (by lia),aF (by show y.length + (ah ":").length<=_;rw[gu];lia),.inr #[y,rfl,λc hc=>S c (by rw[ez];exact ml _ hc),by lia,X,?_]];ext;exact#[d4,some _,some _,rfl,b4.up (by lia)]
  .rintro u ⟨e,D,t,rfl,he⟩;replace he:Box 160 e:=he;ext;have bl:(ah " "++g0).length<=201:=by rw[ee,fF];lia
   refine#[aF (by rw[gu];lia),aF (by rw[fF];lia),aF (by rw[fF];lia),_,rfl,cq Cr I,by lia,?_];have O:=uz (sg (ah " "++g0)) 0 (by decide);generalize chk 0 (sg (ah " "++g0))=m at O ⊢;let#[q1,q2,q3,q4,q5]:=bd O;ext;refine#[aF (by rw[kF];lia),aF (by rw[ee,kF,gu];lia),z5,cN (λj u=>∃ t,u=[some (.fz (.scr G)),some (.fz (.int (0 + (k:Int)))),some (.ow e),some (.fz (.lst ((six R h w (wyx o) p).map .str))),some (.fz (.str g0)),fo D,fo t,fo L,fo J,none]) #[t,rfl] ?_ ?_]
   .rintro j d u hd ⟨t,rfl⟩;have hb:∃ z,d=.str z/\Bad z:=by
     have:=hF hd;simp only[dk,fT,or_false] at this;rcases this with rfl | rfl | rfl | rfl | rfl
     .exact#[_,rfl,q1]
     .exact#[_,rfl,q2]
     .exact#[_,rfl,q3]
     .exact#[_,rfl,q4]
     .exact#[_,rfl,q5]
    let#[z,rfl,bz]:=hb;ext;rcases bz with ⟨S,lz,V⟩ | ⟨y,rfl,ay,ly,X,no⟩
    .refine .inl #[z,rfl,S,lz,V,?_];ext;refine .inl #[z,rfl,S,lz,V,?_];ext;exact#[some _,rfl]
    .refine .inr #[y,rfl,ay,ly,X,λR h w o p d=>absurd d (no R h w o p),λ_=>?_];ext;refine .inr #[y,rfl,ay,ly,X,?_];ext;exact#[some _,rfl]
   .rintro u ⟨t,rfl⟩;ext;refine#[z1,z1,aF (by decide),e,_,7,rfl,he,by lia,by decide,by decide,λr1 e1 l1 u1 b3=>?_];ext;refine pick (p:=λd=>knD d=true/\dS d=false/\okR d) l1 u1 (λv hv=>Gi (z:=g0) I (by lia) hv) (λd hd=>?_);let#[kd,sd,ok]:=hd;ext;refine .inl #[d,rfl,kd,sd,?_];refine#[?_,oE (by rfl),?_]
    .let#[b,m,e]:=sx T.bM.un a.bX;rw[e rfl] at m;exact m
    ext;refine#[#[T.bM.is.ga,T.bM.is.gh,T.bM.is.hd,T.bM.is.ex],T.bM.na _ (by simp),d,rfl,ok,ok,?_];rw[beq_self_eq_true];ext;exact#[some _,some e1,some _,some _,D,t,some _,some _,rfl]
 .rintro u ⟨s1,s2,s3,Z,D,t,L,J,rfl⟩;ext;exact q _
theorem ln6{g:Type}{us:List g}(h:us.length=6):∃ a b c d e f,us=[a,b,c,d,e,f]:=by
 match us,h with
 | [a,b,c,d,e,f],_=>exact#[a,b,c,d,e,f,rfl]
def zg (K:Fg0):Sp:=λvs H Q _=>∃ (p:Addr) (ns:Li0),vs=[.ref p]/\SqL K H p (ns.map V.int)/\ns.length<=63/\∀ H',Q (.bl true) H'
theorem PD(T:Txt K mg a):aT P w K mg base CX0 12 a.Iw a.CT ["_law_script"] (zg K):=P7 (K9 T)
set_option bootstrap.genMatcherCode true in
local macro_rules | `(tactic| walk_at "o")=>`(tactic| (intro _ _ _ _ _ _ us hl;first | (have h:=ln0 hl;subst h;rfl) | (obtain⟨_,h⟩:=ln1 hl;subst h;rfl) | (obtain⟨_,_,h⟩:=ln2 hl;subst h;rfl) | (obtain⟨_,_,_,h⟩:=ln3 hl;subst h;rfl) | (obtain⟨_,_,_,_,h⟩:=ln4 hl;subst h;rfl) | (obtain⟨_,_,_,_,_,h⟩:=ln5 hl;subst h;rfl) | (obtain⟨_,_,_,_,_,_,h⟩:=ln6 hl;subst h;rfl)))
theorem all_mk{l:Za}{h:Heap}{mg:SV0}{fa:Addr}(X:K.In h)(G:h.Ns eB mg)(Z2:mg "law"=some (.ref fa)){cx:Addr}{bR:Addr}{cu:Addr}{bQ:Addr}{bq:Addr}{aI:Addr}{dY:Addr}{a_:Addr}{aD:Addr}{bX:Addr}{bI:Addr}{bH:Addr}{bW:Addr}{bO:Addr}{k:Option Addr}{m:Nat}{j:Array (Option Value)}{g:Tok}{f:Tok}{cA:Addr}{M:Option Addr}{N:Nat}{H:Array (Option Value)}{t:Tok}{r:Tok}{f0 f1 f2 f3 f4 f5 f6 f7 f8 f9 H3 G' D' D8 C' C4 B' A' z' y' y0 y8 y5 y4 y2 y1 x' x0 x8 x7 x6 x4 w' w0 w9 w8 w7 w6 w5 w4 w3 w2 w1 v' v0 v6 v4 v3 v2 v1 u' u0 u9 u8 u7 u6 u5 u4 u2 u1 t0 t4 t2 t1 Z3:Addr}{d0 d1 d2 d3 d4 d5 d6 d7 d8 d9 W' W9 W3 W1 V' V0 V9 V7 U' U0 U9 U7 U6 U4 T8 S' S8 R' Q' Q4 Q3 Q2 P' P4 P1 O' N' N0 N5 M' M2 L' L0 L5 L3 L2 L1 K' J' J0 I' I0 I8 I7 I6 I5 I4 I3 I2 I1 H7 H6 H5 H4 Z4:et}{x:Tok}{E:Tok}{D:Tok}{C:Tok}{a1:Tok}{e':Tok}(i7:fC K eB "Field"=some (some (.ref cx)))(h9:tq K cx mu=true)(i5:ov K cx=true)(h8:xl K cx=true)(h7:dV K (.ref cx) "__setattr__"=some (some (.builtin "object.__setattr__")))(h0:uq K cx=true)(i4:kv K (.ref cx)=true)(e9:fC K eB "Guessed"=some (some (.ref bR)))(b0:tq K bR mu=true)(e6:ov K bR=true)(b6:xl K bR=true)(b1:dV K (.ref bR) "__setattr__"=some (some (.builtin "object.__setattr__")))(c2:uq K bR=true)(c':kv K (.ref bR)=true)(e2:dV K (.ref bR) "__init__"=some (some (.builtin "object.__init__")))(h6:fC K eB "Halves"=some (some (.ref cu)))(g4:tq K cu mu=true)(g9:ov K cu=true)(g2:xl K cu=true)(f':dV K (.ref cu) "__setattr__"=some (some (.builtin "object.__setattr__")))(g5:uq K cu=true)(g6:kv K (.ref cu)=true)(g7:dV K (.ref cu) "__init__"=some (some (.builtin "object.__init__")))(e8:fC K eB "Leaning"=some (some (.ref bQ)))(b9:tq K bQ mu=true)(e5:ov K bQ=true)(b5:xl K bQ=true)(a':dV K (.ref bQ) "__setattr__"=some (some (.builtin "object.__setattr__")))(c1:uq K bQ=true)(c0:kv K (.ref bQ)=true)(e1:dV K (.ref bQ) "__init__"=some (some (.builtin "object.__init__")))(l':fC K eB "Plan"=some (some (.ref bq)))(j8:tq K bq mu=true)(l6:ov K bq=true)(j5:xl K bq=true)(j2:dV K (.ref bq) "__setattr__"=some (some (.builtin "object.__setattr__")))(k4:uq K bq=true)(k7:kv K (.ref bq)=true)(e7:fC K eB "Reading"=some (some (.ref aI)))(b7:tq K aI mu=true)(e4:ov K aI=true)(b4:xl K aI=true)(a0:dV K (.ref aI) "__setattr__"=some (some (.builtin "object.__setattr__")))(b':uq K aI=true)(c4:kv K (.ref aI)=true)(l0:fC K eB "Sums"=some (some (.ref dY)))(j7:tq K dY mu=true)(l5:ov K dY=true)(j4:xl K dY=true)(j1:dV K (.ref dY) "__setattr__"=some (some (.builtin "object.__setattr__")))(j':uq K dY=true)(k6:kv K (.ref dY)=true)(k':dV K (.ref dY) "__init__"=some (some (.builtin "object.__init__")))(l7:fC K eB "Walk"=some (some (.ref a_)))(j6:tq K a_ mu=true)(l4:ov K a_=true)(j3:xl K a_=true)(i':dV K (.ref a_) "__setattr__"=some (some (.builtin "object.__setattr__")))(j9:uq K a_=true)(k5:kv K (.ref a_)=true)(B:fC K eB "HalvedError"=some (some (.ref aD)))(h5:fC K eB "NoHead"=some (some (.ref bX)))(h4:fC K eB "NoRule"=some (some (.ref bI)))(g0:fC K eB "NoSize"=some (some (.ref bH)))(i6:fC K eB "NoWay"=some (some (.ref bW)))(Z:dV K (.ref cx) "grid"=some none)(Q:dV K (.ref bq) "chosen"=some none)(A:dV K (.ref bq) "corners"=some none)(z:dV K (.ref bq) "letters"=some none)(i:dV K (.ref aI) "all_read"=some none)(n:dV K (.ref aI) "halver"=some none)(d:dV K (.ref aI) "many_planes"=some none)(b:dV K (.ref aI) "numbers_read"=some none)(a:dV K (.ref aI) "numbers_unread"=some none)(O:dV K (.ref a_) "counts"=some none)(a6:dV K (.ref a_) "ends"=some none)(a5:dV K (.ref a_) "here"=some none)(Y:dV K (.ref a_) "marks"=some none)(W:dV K (.ref a_) "sizes"=some none)(a4:dV K (.ref a_) "text"=some none)(u:fC K eB "ALONG_PILLARS"=some (some (.ref bO)))(o:K.lookup bO=some #[.type "tuple",k,.seq (Vz9 [.str (ah "p") g,.str (ah "b") f]) m,j])(V:fC K eB "ALONG_ROWS"=some (some (.ref cA)))(R:K.lookup cA=some #[.type "tuple",M,.seq (Vz9 [.str (ah "r") t,.str (ah "b") r]) N,H])(s7:aw K (.type "bool") (.type "str")=some false)(r3:aw K (.type "int") (.type "str")=some false)(q4:aw K (.type "NoneType") (.type "str")=some false)(p5:aw K (.type "str") (.type "str")=some true)(q9:aw K (.type "list") (.type "str")=some false)(o5:aw K (.type "tuple") (.type "str")=some false)(r0:aw K (.type "dict") (.type "str")=some false)(F0:FM K aD "__init__" "HalvedError.__init__" dr f0 d0)(F1:FM K bI "__init__" "NoRule.__init__" fR f1 d1)(F2:FM K bH "__init__" "NoSize.__init__" fQ f2 d2)(F3:FM K bW "__init__" "NoWay.__init__" gH f3 d3)(F4:FM K bX "__init__" "NoHead.__init__" fU f4 d4)(F5:FN K "is_whole" "is_whole" qL f5 d5)(F6:FN K "is_number" "is_number" nQ f6 d6)(F7:FN K "is_row" "is_row" rR f7 d7)(F8:FN K "is_size" "is_size" ud f8 d8)(F9:FN K "are_rows" "are_rows" jB f9 d9)(o2:FM K cx "__init__" "Field.__init__" eu H3 W')(Z1:FM K cx "rows" "Field.rows" jd G' W9)(F12:FN K "is_plain" "is_plain" my D' W3)(F13:FN K "check_number" "check_number" jA D8 W1)(F14:FN K "check_of" "check_of" qM C' V')(F15:FN K "head_of" "head_of" ue C4 V0)(Y':FM K dY "word" "Sums.word" n4 B' V9)(Y0:FM K cu "word" "Halves.word" kY A' V7)(Y9:FM K bR "word" "Guessed.word" jE z' U')(Y8:FM K bQ "word" "Leaning.word" jD y' U0)(F20:FN K "all_rules" "all_rules" nV y0 U9)(F21:FN K "rule_of" "rule_of" uc y8 U7)(F22:FN K "can_halve" "can_halve" nU y5 U6)(F23:FN K "corners_of" "corners_of" mz y4 U4)(F24:FN K "places_of" "places_of" ko y2 T8)(o1:FM K bq "__init__" "Plan.__init__" iH y1 S')(Y7:FM K bq "height" "Plan.height" kX x' S8)(Y6:FM K bq "width" "Plan.width" mH x0 R')(Y5:FM K bq "rule" "Plan.rule" n6 x8 Q')(Y4:FM K bq "way" "Plan.way" qP x7 Q4)(Y3:FM K bq "steps" "Plan.steps" mJ x6 Q3)(Y2:FM K bq "parts" "Plan.parts" mK x4 Q2)(Y1:FM K bq "parts_of_step" "Plan.parts_of_step" dO w' P')(X':FM K bq "order" "Plan.order" jc w0 P4)(n':FM K aI "__init__" "Reading.__init__" fj w9 P1)(X0:FM K aI "plan" "Reading.plan" jC w8 O')(X9:FM K aI "planes" "Reading.planes" gG w7 N')(X8:FM K aI "numbers" "Reading.numbers" fP w6 N0)(X7:FM K aI "unread" "Reading.unread" gF w5 N5)(X6:FM K aI "whole" "Reading.whole" iG w4 M')(n7:FM K a_ "__init__" "Walk.__init__" iF w3 M2)(X5:FM K a_ "take" "Walk.take" n0 w2 L')(X4:FM K a_ "read_number" "Walk.read_number" fi w1 L0)(X3:FM K a_ "read_plane" "Walk.read_plane" fN v' L5)(X2:FM K a_ "numbers_of" "Walk.numbers_of" fO v0 L3)(X1:FM K a_ "unread_of" "Walk.unread_of" d_ v6 L2)(F46:FN K "head_plan" "head_plan" nS v4 L1)(F47:FN K "read_head" "read_head" ig v3 K')(F48:FN K "field_in_order" "field_in_order" c_ v2 J')(F49:FN K "read_signs" "read_signs" mx v1 J0)(F50:FN K "_law_cell" "_law_cell" nZ u' I')(F51:FN K "_law_box" "_law_box" qO u0 I0)(F52:FN K "_law_take" "_law_take" nW u9 I8)(F53:FN K "_law_size" "_law_size" nX u8 I7)(F54:FN K "_law_way" "_law_way" qN u7 I6)(F55:FN K "_law_check" "_law_check" mF u6 I5)(F56:FN K "_law_plain" "_law_plain" jb u5 I4)(Z':FN K "_law_bears" "_law_bears" mG u4 I3)(Z0:FN K "_law_head" "_law_head" nY u2 I2)(Z9:FN K "_law_words" "_law_words" mB u1 I1)(Z8:FN K "_law_other" "_law_other" mE t0 H7)(Z7:FN K "_law_spoilt" "_law_spoilt" kU t4 H6)(Z6:FN K "_law_headed" "_law_headed" kW t2 H5)(Z5:FN K "_law_right" "_law_right" mD t1 H4)(n5:FN K "law" "law" Gz Z3 Z4)(k_xt_HalvedError:KF K (.ref aD)=some (.type "type"))(k_xe_HalvedError:ia K aD (.type "BaseException")=some true)(k_xt_NoHead:KF K (.ref bX)=some (.type "type"))(k_xe_NoHead:ia K bX (.type "BaseException")=some true)(k_xt_NoSize:KF K (.ref bH)=some (.type "type"))(k_xe_NoSize:ia K bH (.type "BaseException")=some true)(k_xt_NoRule:KF K (.ref bI)=some (.type "type"))(k_xe_NoRule:ia K bI (.type "BaseException")=some true)(k_xt_NoWay:KF K (.ref bW)=some (.type "type"))(k_xe_NoWay:ia K bW (.type "BaseException")=some true)(k_xo_HalvedError:xoB K aD aD f0 []=true)(k_xo_NoRule:xoB K aD bI f1 ["found"]=true)(k_xo_NoSize:xoB K aD bH f2 ["one","other"]=true)(k_xo_NoWay:xoB K aD bW f3 ["found"]=true)(k_xo_NoHead:xoB K aD bX f4 ["found"]=true)(k_xnd:PR [aD,bI,bH,bW,bX]=true)(U:fC K eB "ValueError"=some none)(k_h_rd:ad9 K aD (.type "type")=true)(k_h_ga:VC K (.ref aD) "__getattribute__"=some (some (.builtin "type.__getattribute__")))(k_h_fc:aa2 K (.ref aD) (.type "type") "__init__"=some (.val (.ref f0)))(y:fC K eB "MOST_FIGURES"=some (some (.int 15 x)))(L:fC K eB "MOST_NUMBER"=some (some (.int 999999999999999 E)))(J:fC K eB "MOST_PLACES"=some (some (.int 512 D)))(I:fC K eB "MOST_PLANES"=some (some (.int 30 C)))(a2:fC K eB "MOST_SIDE"=some (some (.int 64 a1)))(g1:fC K eB "FIGURES"=some (some (.str (ah "0123456789") e')))(n2:fC K eB "all"=some none)(m5:fC K eB "bool"=some none)(n1:fC K eB "int"=some none)(S:fC K eB "isinstance"=some none)(m':fC K eB "len"=some none)(m4:fC K eB "list"=some none)(m0:fC K eB "max"=some none)(m9:fC K eB "min"=some none)(m8:fC K eB "ord"=some none)(i0:fC K eB "range"=some none)(m2:fC K eB "repr"=some none)(a7:fC K eB "reversed"=some none)(m7:fC K eB "str"=some none)(i8:fC K eB "tuple"=some none)(m6:fC K eB "zip"=some none)(s0:aw K (.type "bool") (.type "bool")=some true)(s9:aw K (.type "bool") (.type "int")=some true)(s8:aw K (.type "bool") (.type "list")=some false)(s6:aw K (.type "bool") (.type "tuple")=some false)(r6:aw K (.type "int") (.type "bool")=some false)(r5:aw K (.type "int") (.type "int")=some true)(r4:aw K (.type "int") (.type "list")=some false)(r2:aw K (.type "int") (.type "tuple")=some false)(q7:aw K (.type "NoneType") (.type "bool")=some false)(q6:aw K (.type "NoneType") (.type "int")=some false)(q5:aw K (.type "NoneType") (.type "list")=some false)(q3:aw K (.type "NoneType") (.type "tuple")=some false)(q2:aw K (.type "str") (.type "bool")=some false)(q1:aw K (.type "str") (.type "int")=some false)(p':aw K (.type "str") (.type "list")=some false)(p4:aw K (.type "str") (.type "tuple")=some false)(r1:aw K (.type "list") (.type "bool")=some false)(q':aw K (.type "list") (.type "int")=some false)(q0:aw K (.type "list") (.type "list")=some true)(q8:aw K (.type "list") (.type "tuple")=some false)(o0:aw K (.type "tuple") (.type "bool")=some false)(o7:aw K (.type "tuple") (.type "int")=some false)(o6:aw K (.type "tuple") (.type "list")=some false)(o4:aw K (.type "tuple") (.type "tuple")=some true)(s5:aw K (.type "dict") (.type "bool")=some false)(s4:aw K (.type "dict") (.type "int")=some false)(s1:aw K (.type "dict") (.type "list")=some false)(r7:aw K (.type "dict") (.type "tuple")=some false) :
  ∃ (fd:et) (tabs:List (Addr×Str)),(∀ (s:Shared) (v:Value),ag9 s fd #[[v],[]] [("_law_script",v)])/\(∀ p∈tabs,p.1∈([]:La0)/\K.lookup p.1=none/\∃ c,ag1 h c p.1)/\∀ base:Heap,K.In base->base.Ns eB mg->(∀ P q,tabs.lookup P=some q->Aq base P q)->aT l.prog w K mg base CX0 12 fa fd ["_law_script"] (zg K):=by
 have e:=Z2.symm.trans (lx X G n5.n);cases e;let#[oc,od,kV,dc,pm,an,cd,ct,sl,rfl,lk,hc]:=n5.F.ex;have T:Txt K mg #[bO,cA,cx,bR,cu,bQ,bq,aI,dY,a_,aD,bX,bI,bH,bW,f0,d0,f1,d1,f2,d2,f3,d3,f4,d4,f5,d5,f6,d6,f7,d7,f8,d8,f9,d9,H3,W',G',W9,D',W3,D8,W1,C',V',C4,V0,B',V9,A',V7,z',U',y',U0,y0,U9,y8,U7,y5,U6,y4,U4,y2,T8,y1,S',x',S8,x0,R',x8,Q',x7,Q4,x6,Q3,x4,Q2,w',P',w0,P4,w9,P1,w8,O',w7,N',w6,N0,w5,N5,w4,M',w3,M2,w2,L',w1,L0,v',L5,v0,L3,v6,L2,v4,L1,v3,K',v2,J',v1,J0,u',I',u0,I0,u9,I8,u8,I7,u7,I6,u6,I5,u5,I4,u4,I3,u2,I2,u1,I1,t0,H7,t4,H6,t2,H5,t1,H4,fa,_]:=#[#[h9,i5,h8,h7],
  lx X G i7,
  #[b0,e6,b6,b1],
  lx X G e9,
  #[c2,e2,c'],
  #[g4,g9,g2,f'],
  lx X G h6,
  #[g5,g7,g6],
  #[b9,e5,b5,a'],
  lx X G e8,
  #[c1,e1,c0],
  #[j8,l6,j5,j2],
  lx X G l',
  #[b7,e4,b4,a0],
  lx X G e7,
  #[j7,l5,j4,j1],
  lx X G l0,
  #[j',k',k6],
  #[j6,l4,j3,i'],
  lx X G l7,
  lx X G B,
  lx X G h5,
  lx X G h4,
  lx X G g0,
  lx X G i6,
  Z,
  Q,
  A,
  z,
  i,
  n,
  d,
  b,
  a,
  O,
  a6,
  a5,
  Y,
  W,
  a4,
  #[lx X G u,λF=>.inr #[_,_,_,o,rfl,rfl,z2,.cons #[_,rfl] (.cons #[_,rfl] (.nil))]],
  #[lx X G V,λF=>.inr #[_,_,_,R,rfl,rfl,z2,.cons #[_,rfl] (.cons #[_,rfl] (.nil))]],
  #[s7,r3,q4,p5,q9,o5,r0],
  fy F0 (by walk_at "o"),
  fy F1 (by walk_at "o"),
  fy F2 (by walk_at "o"),
  fy F3 (by walk_at "o"),
  fy F4 (by walk_at "o"),
  fx X G F5 (by walk_at "o"),
  fx X G F6 (by walk_at "o"),
  fx X G F7 (by walk_at "o"),
  fx X G F8 (by walk_at "o"),
  fx X G F9 (by walk_at "o"),
  fy o2 (by walk_at "o"),
  fy Z1 (by walk_at "o"),
  fx X G F12 (by walk_at "o"),
  fx X G F13 (by walk_at "o"),
  fx X G F14 (by walk_at "o"),
  fx X G F15 (by walk_at "o"),
  fy Y' (by walk_at "o"),
  fy Y0 (by walk_at "o"),
  fy Y9 (by walk_at "o"),
  fy Y8 (by walk_at "o"),
  fx X G F20 (by walk_at "o"),
  fx X G F21 (by walk_at "o"),
  fx X G F22 (by walk_at "o"),
  fx X G F23 (by walk_at "o"),
  fx X G F24 (by walk_at "o"),
  fy o1 (by walk_at "o"),
  fy Y7 (by walk_at "o"),
  fy Y6 (by walk_at "o"),
  fy Y5 (by walk_at "o"),
  fy Y4 (by walk_at "o"),
  fy Y3 (by walk_at "o"),
  fy Y2 (by walk_at "o"),
  fy Y1 (by walk_at "o"),
  fy X' (by walk_at "o"),
  fy n' (by walk_at "o"),
  fy X0 (by walk_at "o"),
  fy X9 (by walk_at "o"),
  fy X8 (by walk_at "o"),
  fy X7 (by walk_at "o"),
  fy X6 (by walk_at "o"),
  fy n7 (by walk_at "o"),
  fy X5 (by walk_at "o"),
  fy X4 (by walk_at "o"),
  fy X3 (by walk_at "o"),
  fy X2 (by walk_at "o"),
  fy X1 (by walk_at "o"),
  fx X G F46 (by walk_at "o"),
  fx X G F47 (by walk_at "o"),
  fx X G F48 (by walk_at "o"),
  fx X G F49 (by walk_at "o"),
  fx X G F50 (by walk_at "o"),
  fx X G F51 (by walk_at "o"),
  fx X G F52 (by walk_at "o"),
  fx X G F53 (by walk_at "o"),
  fx X G F54 (by walk_at "o"),
  fx X G F55 (by walk_at "o"),
  fx X G F56 (by walk_at "o"),
  fx X G Z' (by walk_at "o"),
  fx X G Z0 (by walk_at "o"),
  fx X G Z9 (by walk_at "o"),
  fx X G Z8 (by walk_at "o"),
  fx X G Z7 (by walk_at "o"),
  fx X G Z6 (by walk_at "o"),
  fx X G Z5 (by walk_at "o"),
  fx X G n5 (by walk_at "o"),
  #[k_xt_HalvedError,k_xe_HalvedError],
  #[k_xt_NoHead,k_xe_NoHead],
  #[k_xt_NoSize,k_xe_NoSize],
  #[k_xt_NoRule,k_xe_NoRule],
  #[k_xt_NoWay,k_xe_NoWay],
  Ax k_xo_HalvedError,
  Ax k_xo_NoRule,
  Ax k_xo_NoSize,
  Ax k_xo_NoWay,
  Ax k_xo_NoHead,
  k_xnd,
  lp X G U,
  k_h_rd,
  k_h_ga,
  k_h_fc,
  #[h0,o2.m,o2.i,i4],
  #[k4,o1.m,o1.i,k7],
  #[b',n'.m,n'.i,c4],
  #[j9,n7.m,n7.i,k5],
  Z1.me,
  Y9.me,
  Y0.me,
  Y8.me,
  Y7.me,
  Y6.me,
  Y5.me,
  Y4.me,
  Y3.me,
  Y2.me,
  Y1.me,
  X'.me,
  X0.me,
  X9.me,
  X8.me,
  X7.me,
  X6.me,
  Y'.me,
  X5.me,
  X4.me,
  X3.me,
  X2.me,
  X1.me,
  #[_,lx X G y],
  #[_,lx X G L],
  #[_,lx X G J],
  #[_,lx X G I],
  #[_,lx X G a2],
  #[_,lx X G g1],
  lp X G n2,
  lp X G m5,
  lp X G n1,
  lp X G S,
  lp X G m',
  lp X G m4,
  lp X G m0,
  lp X G m9,
  lp X G m8,
  lp X G i0,
  lp X G m2,
  lp X G a7,
  lp X G m7,
  lp X G i8,
  lp X G m6,
  #[s0,s9,s8,s6,r6,r5,r4,r2,q7,q6,q5,q3,q2,q1,p',p4,r1,q',q0,q8,o0,o7,o6,o4,s5,s4,s1,r7]]
 exact#[_,[],λs v=>.of_eq rfl,(λp hp=>by cases hp),λbase _ _ _=>PD T]
theorem walk{l:Za}{q:Pv}{b:Ls0}{XP:(SV0)->Heap->Prop}{i:World->Heap->Prop}{d:DefRec}{K:Params->Fg0}{ts:La0}(m:l.most=some 63)(e:d.params.defaults=[])(r:∀ (w:World) (h:Heap),i w h->(K w.params).In h/\∀ P∈ts,h.get? P=some (aq0 #[]))(F:∀ (w:World) (mg:SV0) (g:Addr) (h:Heap),(K w.params).In h->h.Ns eB mg->mg d.name=some (.ref g)->
   ∃ (fd:et) (tabs:List (Addr×Str)),(∀ (s:Shared) (u:Value),ag9 s fd #[[u],[]] [("_law_script",u)])/\(∀ p∈tabs,p.1∈ts/\(K w.params).lookup p.1=none/\∃ c,ag1 h c p.1)/\
    ∀ base:Heap,(K w.params).In base->base.Ns eB mg->(∀ P q,tabs.lookup P=some q->Aq base P q)->aT l.prog w (K w.params) mg base CX0 12 g fd ["_law_script"] (zg (K w.params))) :
  aq3 q b XP i l.row.toRowW d [] (λf vs=>ap5 f vs):=
 _2.FW (n:=63) (k:=12) (x:="_law_script") (CX:=λ_=>CX0) (sp:=zg) m (by decide) e #[rfl,by decide,by decide,rfl] r F (λ_ _ a j o _ t=>#[a,j,rfl,t,o,λ_=>rfl]) λ_ _ _ _ _ z=>z
end
end _k
set_option bootstrap.genMatcherCode true in
local macro_rules | `(tactic| walk_at "n")=>`(tactic| first | (refine' _2.FN.mk ?k1 ?k2;(case k1=>k_is);(case k2=>refine' _2.Iq ?k3 ?k4 ?k5;(case k3=>k_is);(case k4=>k_is);(case k5=>k_is))) | (refine' _2.FM.mk ?k1 ?k6 ?k2;(case k1=>k_is);(case k6=>k_is);(case k2=>refine' _2.Iq ?k3 ?k4 ?k5;(case k3=>k_is);(case k4=>k_is);(case k5=>k_is))))
open PySem PySem.W PyProof.Rows
set_option maxRecDepth 100000 in
set_option maxHeartbeats 0 in
theorem PySem.Challenge.cw_halvedpictures_k85_heads_refused_holds : PySem.Challenge.rw_halvedpictures_k85_heads_refused.Holds := by
 refine E85.ew85.2 ⟨?_⟩
 dsimp only [E85.ew85]
 k_fill
 refine _k.walk (ts:=[]) (l:=PySem.Challenge.rw_halvedpictures_k85_heads_refused) rfl rfl (fun w h Y=>⟨PySem.W.kIn_of Y,(fun _ z=>by cases z)⟩) ?F
 case F=>
  intro w mg fa h KX G hmg
  refine' _k.all_mk KX G hmg ?aC_Field ?pg_Field ?hd_Field ?po_Field ?sa_Field ?mk_Field ?kc_Field ?aC_Guessed ?pg_Guessed ?hd_Guessed ?po_Guessed ?sa_Guessed ?mk_Guessed ?kc_Guessed ?in_Guessed ?aC_Halves ?pg_Halves ?hd_Halves ?po_Halves ?sa_Halves ?mk_Halves ?kc_Halves ?in_Halves ?aC_Leaning ?pg_Leaning ?hd_Leaning ?po_Leaning ?sa_Leaning ?mk_Leaning ?kc_Leaning ?in_Leaning ?aC_Plan ?pg_Plan ?hd_Plan ?po_Plan ?sa_Plan ?mk_Plan ?kc_Plan ?aC_Reading ?pg_Reading ?hd_Reading ?po_Reading ?sa_Reading ?mk_Reading ?kc_Reading ?aC_Sums ?pg_Sums ?hd_Sums ?po_Sums ?sa_Sums ?mk_Sums ?kc_Sums ?in_Sums ?aC_Walk ?pg_Walk ?hd_Walk ?po_Walk ?sa_Walk ?mk_Walk ?kc_Walk ?aC_HalvedError ?aC_NoHead ?aC_NoRule ?aC_NoSize ?aC_NoWay ?n_Field_grid ?n_Plan_chosen ?n_Plan_corners ?n_Plan_letters ?n_Reading_all_read ?n_Reading_halver ?n_Reading_many_planes ?n_Reading_numbers_read ?n_Reading_numbers_unread ?n_Walk_counts ?n_Walk_ends ?n_Walk_here ?n_Walk_marks ?n_Walk_sizes ?n_Walk_text ?q_ALONG_PILLARS ?lk_ALONG_PILLARS ?q_ALONG_ROWS ?lk_ALONG_ROWS ?y_bs ?y_is ?y_ns ?y_ss ?y_ls ?y_ts ?y_ds ?F0 ?F1 ?F2 ?F3 ?F4 ?F5 ?F6 ?F7 ?F8 ?F9 ?F10 ?F11 ?F12 ?F13 ?F14 ?F15 ?F16 ?F17 ?F18 ?F19 ?F20 ?F21 ?F22 ?F23 ?F24 ?F25 ?F26 ?F27 ?F28 ?F29 ?F30 ?F31 ?F32 ?F33 ?F34 ?F35 ?F36 ?F37 ?F38 ?F39 ?F40 ?F41 ?F42 ?F43 ?F44 ?F45 ?F46 ?F47 ?F48 ?F49 ?F50 ?F51 ?F52 ?F53 ?F54 ?F55 ?F56 ?F57 ?F58 ?F59 ?F60 ?F61 ?F62 ?F63 ?F64 ?k_xt_HalvedError ?k_xe_HalvedError ?k_xt_NoHead ?k_xe_NoHead ?k_xt_NoSize ?k_xe_NoSize ?k_xt_NoRule ?k_xe_NoRule ?k_xt_NoWay ?k_xe_NoWay ?k_xo_HalvedError ?k_xo_NoRule ?k_xo_NoSize ?k_xo_NoWay ?k_xo_NoHead ?k_xnd ?z_ValueError ?k_h_rd ?k_h_ga ?k_h_fc ?q_MOST_FIGURES ?q_MOST_NUMBER ?q_MOST_PLACES ?q_MOST_PLANES ?q_MOST_SIDE ?q_FIGURES ?z_all ?z_bool ?z_int ?z_isinstance ?z_len ?z_list ?z_max ?z_min ?z_ord ?z_range ?z_repr ?z_reversed ?z_str ?z_tuple ?z_zip ?y_bb ?y_bi ?y_bl ?y_bt ?y_ib ?y_ii ?y_il ?y_it ?y_nb ?y_ni ?y_nl ?y_nt ?y_sb ?y_si ?y_sl ?y_st ?y_lb ?y_li ?y_ll ?y_lt ?y_tb ?y_ti ?y_tl ?y_tt ?y_db ?y_di ?y_dl ?y_dt
  (case aC_Field | pg_Field | hd_Field | po_Field | sa_Field | mk_Field | kc_Field | aC_Guessed | pg_Guessed | hd_Guessed | po_Guessed | sa_Guessed=>k_is)
  (case mk_Guessed | kc_Guessed | in_Guessed | aC_Halves | pg_Halves | hd_Halves | po_Halves | sa_Halves | mk_Halves | kc_Halves | in_Halves | aC_Leaning=>k_is)
  (case pg_Leaning | hd_Leaning | po_Leaning | sa_Leaning | mk_Leaning | kc_Leaning | in_Leaning | aC_Plan | pg_Plan | hd_Plan | po_Plan | sa_Plan=>k_is)
  (case mk_Plan | kc_Plan | aC_Reading | pg_Reading | hd_Reading | po_Reading | sa_Reading | mk_Reading | kc_Reading | aC_Sums | pg_Sums | hd_Sums=>k_is)
  (case po_Sums | sa_Sums | mk_Sums | kc_Sums | in_Sums | aC_Walk | pg_Walk | hd_Walk | po_Walk | sa_Walk | mk_Walk | kc_Walk=>k_is)
  (case aC_HalvedError | aC_NoHead | aC_NoRule | aC_NoSize | aC_NoWay | n_Field_grid | n_Plan_chosen | n_Plan_corners | n_Plan_letters | n_Reading_all_read | n_Reading_halver | n_Reading_many_planes=>k_is)
  (case n_Reading_numbers_read | n_Reading_numbers_unread | n_Walk_counts | n_Walk_ends | n_Walk_here | n_Walk_marks | n_Walk_sizes | n_Walk_text | q_ALONG_PILLARS | lk_ALONG_PILLARS | q_ALONG_ROWS | lk_ALONG_ROWS=>k_is)
  (case y_bs | y_is | y_ns | y_ss | y_ls | y_ts | y_ds=>kit_is)
  (case F0 | F1 | F2 | F3 | F4 | F5 | F6 | F7 | F8 | F9 | F10 | F11=>walk_at "n")
  (case F12 | F13 | F14 | F15 | F16 | F17 | F18 | F19 | F20 | F21 | F22 | F23=>walk_at "n")
  (case F24 | F25 | F26 | F27 | F28 | F29 | F30 | F31 | F32 | F33 | F34 | F35=>walk_at "n")
  (case F36 | F37 | F38 | F39 | F40 | F41 | F42 | F43 | F44 | F45 | F46 | F47=>walk_at "n")
  (case F48 | F49 | F50 | F51 | F52 | F53 | F54 | F55 | F56 | F57 | F58 | F59=>walk_at "n")
  (case F60 | F61 | F62 | F63 | F64=>walk_at "n")
  (case k_xt_HalvedError | k_xe_HalvedError | k_xt_NoHead | k_xe_NoHead | k_xt_NoSize | k_xe_NoSize | k_xt_NoRule | k_xe_NoRule | k_xt_NoWay | k_xe_NoWay | k_xo_HalvedError | k_xo_NoRule=>first | k_is | kernel_rfl)
  (case k_xo_NoSize | k_xo_NoWay | k_xo_NoHead | k_xnd=>first | k_is | kernel_rfl)
  (case z_ValueError=>k_is)
  (case k_h_rd | k_h_ga | k_h_fc=>first | k_is | kernel_rfl)
  (case q_MOST_FIGURES | q_MOST_NUMBER | q_MOST_PLACES | q_MOST_PLANES | q_MOST_SIDE | q_FIGURES | z_all | z_bool | z_int | z_isinstance | z_len | z_list=>k_is)
  (case z_max | z_min | z_ord | z_range | z_repr | z_reversed | z_str | z_tuple | z_zip=>k_is)
  (case y_bb | y_bi | y_bl | y_bt | y_ib | y_ii | y_il | y_it | y_nb | y_ni | y_nl | y_nt=>kit_is)
  (case y_sb | y_si | y_sl | y_st | y_lb | y_li | y_ll | y_lt | y_tb | y_ti | y_tl | y_tt=>kit_is)
  (case y_db | y_di | y_dl | y_dt=>kit_is)
