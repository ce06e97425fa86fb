import PyProof.Rows.All
import Wide.All
import OpenK.AllK
import Wide.FinOn
import Lean
import KE.KRevIter
import KE.KPairComp
import KE.KIntText
import PyProof.NsDelKeeps
import PyProof.NeKinds
import KE.KNestM
import KE.KLam
import OpenK.KTop
import PyProof.FactsAll.dict_1
import PyProof.FactsAll.subtypes_4
import PyProof.Rows.SetFrom
import PyProof.SetNew
import PyProof.SetRoads
import PyProof.Rows.SortRuns
import PyProof.Rows.SortIns
import PyProof.Rows.SortShell
import PyProof.Rows.SortWalk
import KE.KSortTup
import KE.KDictOf
import PyProof.AttrMissHeap
import KE.KRevIter
import PyProof.SeqI3
import PyProof.SliceList
import PyProof.ListIndex
import PyProof.SeqWrite
import PyProof.InstEq
import PyProof.TupleKey
import PyProof.IsRules
import PyProof.EqAt
import PyProof.EqKinds
import PyProof.TupleCall
import PySem.Challenge.RW_halvedpictures_k53_whole_never_beyond_th
set_option Elab.async false
set_option linter.all false
set_option maxRecDepth 100000
namespace PySem.W.Fast
abbrev T:=True
theorem G9:T:=trivial
theorem tw16312271398106427767:T:=G9
def g9(q:Lean.Name)(c:Lean.Syntax):List String->List Lean.Syntax
 | []=>[]
 | s::l=>c.setArg 1 (c[1].setArg 1 (c[1][1].setArg 0 (Lean.mkIdent (.mkSimple ("tw"++toString (q.str s).hash)))))::g9 q c l
def h9:Nat->List Char->List String->List String
 | _,[],a=>a
 | n,b::l,a=>h9 (n+1) l (if b=='1' then ("o_"++toString n)::a else a)
local macro_rules | `(universe $_)=>do
 return Lean.mkNullNode (g9 (`E53.ew53) (<-`(def x:T:=G9)).raw (h9 43 "10110010101111111110111011111111111101111101110111111111110111110111011111111111011111011101111111111101111101110111111111110111110111011111111111011111011101111111111101111101110111111111110111110111011111111111011111011101111111111101111101110111111111110111111011111101111010111111011111101111110111111011110111101110111111011111101111110111111011111101111011111101111110111111011111101111111111111011111011101111110111111011111101111110111111111110101111110111111011110111101111011111011101111110111101111111110111110111011111101111011111111101111110111111011110111011111101111110111101111110111111011111111111110111110111011111101111110111111111110111110111011111101111111110111110111011111101111111110111111011110111101110111101111110111111011110111101111011111101111110111111011111111111110101111110111111011111101111110111111011111111011111101111110111101111011101111110111111011111101111110111111011111101111110111111011111101111011111111111110101111011111101111110111101111011111101111110111111011111101111110111111011110101111110111111011111101111110111111011111101111110111111011110111111011110111111011110101111110111101111011111".toList ("heap_39 heap_46 heap_1185 tree_47 tree_77 tree_99 tree_121 tree_143 tree_165 tree_187 tree_209 tree_231 tree_253 tree_275 tree_316 tree_351 tree_442 tree_492 tree_523 tree_555 tree_601 tree_657 tree_693 tree_720 tree_759 tree_837 tree_902 tree_993 tree_1071 tree_1158 tree_1184 view_39 sts_49 sts_78 sts_100 sts_122 sts_144 sts_166 sts_188 sts_210 sts_232 sts_254 sts_276 sts_317 sts_352 sts_443 sts_493 sts_524 sts_556 sts_602 sts_658 sts_694 sts_721 sts_760 sts_838 sts_903 sts_994 sts_1072 sts_1159 env_41".splitOn " "))).toArray
universe o
end PySem.W.Fast
namespace E53
open PySem PySem.W PyProof.Rows
class Hy (G : outParam Prop) : Prop where
 h : G
def Dp {G : Prop} (_ : Hy G) (T : Prop) : Prop := T
theorem PySem.W.holds_open {r : OpenRow} {q : Program} {loose : List Str} {Xt : Shared -> Bool} {XP : (Str -> Option Value) -> Heap -> Prop} {α : Type} {Yf : Shared -> α} {Ya : World -> α} {YP : World -> Heap -> Prop} {d : DefRec} {kwd : List (Str × Expr)} {N : Nat} {G : Prop} [i : Hy G]
 (left : LeftO r.prog q loose Xt Yf Ya N) (hY : ∀ w s, Yf s = Ya w -> YP w s.heap) (hYk : ∀ w h h', YP w h -> (∀ b o, h.get? b = some o -> h'.get? b = some o) -> YP w h')
 (hX : ∀ s, Xt s = true -> XP (s.heap.nsMap mainGlobals) s.heap) (hXk : ∀ mg h h', XP mg h -> (∀ b o, h.get? b = some o -> h'.get? b = some o) -> XP mg h')
 (hdef : defOf q r.name = some (d, kwd)) (hp : r.prog.theDef r.name = some (d.params, d.body, d.scope)) (hk : kwWritten? d.params.kwonlyargs d.params.kw_defaults = some kwd) (hRf : ∀ s, Xt s = true -> RecFacts r.records s.heap) (hwr : (!r.writes || r.records.isEmpty) = true)
 (k1 : r.wellSaid = true) (ok : (chainsOk q && opensWell r.prog && (frees r.toRowW && r.within.isEmpty)) = true) (hb : r.prog.bare) (hw : r.toRowW.promised)
 (call : Dp i (WalkO q loose XP YP r.toRowW d kwd fun f vs => PySem.call f vs)) : r.Holds := _root_.PySem.W.holds_open left hY hYk hX hXk hdef hp hk hRf hwr k1 ok hb hw call
set_option maxRecDepth 100000 in
set_option maxHeartbeats 0 in
noncomputable def ew53 : PSigma fun G : Prop => Hy G -> PySem.Challenge.rw_halvedpictures_k53_whole_never_beyond_th.Holds := ⟨_, by
 intro hG
 w_on;o_law;k_head;(case hw=>w_witness2)
 k_fill
 unfold Dp
 exact hG.h⟩
end E53
open Array renaming length_toList→Xf,getElem?_eq_some_iff→Yt,toList_append→ZK,size_ofFn→ac7
open Bool renaming false_ne_true→pF,and_eq_true→sE,false_eq_true→SL,false_and→ad1,and_false→ad3
open False renaming elim→sO
open ForInStep renaming yield→Uz
open Int renaming toNat_natCast→ky,emod_lt_of_pos→Fl,emod_nonneg→PQ,toNat_of_nonneg→Ym,ofNat→Yr,toNat→Ys,eq_ofNat_of_zero_le→YV,reduceEq→Zj,le_trans→ab2
open List renaming length_append→bS,getElem?_map→cm,getElem?_append_left→ef,range→el,mem_cons→fg,lookup_cons→fw,replicate→fC,map_append→gp,length_take→gs,size_toArray→hL,getD_eq_getElem?_getD→hP,mem_of_getElem?→hW,mem_cons_of_mem→hY,getElem?_append_right→ic,not_mem_nil→lh,length_drop→lr,mem_append_right→lz,mem_cons_self→lU,mem_append→mm,take_of_length_le→ng,map_map→nr,getElem?_eq_none→ox,mem_singleton→pL,map_cons→qq,length_replicate→rk,flatten_cons→rr,length_range→rx,filterMap_cons→sX,append_nil→td,nodup_cons→tq,length_set→tr,length_cons→tx,getD→vk,mem_of_mem_take→vr,replicate_succ→xt,getElem?_range→Bn,getElem_mem→FB,mem_map→Ht,getElem?_zip_eq_some→KM,getElem?_drop→MP,mem_append_left→NB,mem_range→Os,eq_nil_of_length_eq_zero→Pv,getElem_of_mem→Re,getElem?_take_of_lt→UV,map_congr_left→VU,lookup→Wc,mem_replicate→Wo,set_cons_succ→Wp,map→Wq,getElem?_eq_none_iff→Xc,mem_or_eq_of_mem_set→Xe,nil_append→Xk,forIn_cons→Xl,mem_filterMap→Xm,getElem?_replicate→Xq,append_assoc→Xx,ext_getElem?→XA,replicate_append_replicate→XE,length_singleton→XF,set_append_right→XH,cons_append→XU,all_cons→XW,set_append_left→Ya,mem_of_mem_drop→Yb,of_mem_zip→Yd,length_nil→Yg,range_succ→Yh,length_zipWith→Yl,flatten_append→Yn,filterMap_map→Yz,getElem?_set→YG,map_drop→YJ,take_length→YU,getElem?_set_self→YZ,zipWith→Zh,pairwise_reverse→Zv,getElem?_set_ne→Zw,forIn_toArray→ZY,zip_cons_cons→ZZ,map_filterMap→aa1,mem_reverse→ac0,length_zip→ac6,foldl→ad2,forIn_nil→ad5,filterMap→ad6,take_succ→ad9
open List.Nodup renaming sublist→aa0
open List.cons renaming injEq→Zo
open Nat renaming le_refl→ek,lt_of_lt_of_le→ih,ne_of_lt→oj,lt_irrefl→vl,le_trans→zq,zero_le→Do,mul_le_mul→HT,sub_self→SD,lt_succ_self→SE,lt_succ_of_lt→UF,mul_le_mul_left→VV,le_of_lt→Wn,min_eq_left→Wr,ne_of_gt→Xa,le_of_not_lt→Xb,le_of_eq→Xu,le_of_succ_le→Xy,reduceAdd→XX,not_lt_zero→Yi,add_sub_cancel_left→YT,add_comm→Zd,min_self→Zg,add_zero→Zi,le_add_right→ac1,le_succ→ac3
open Ne renaming symm→rl
open Option renaming isSome_iff_exists→UM,map_id→ZQ,getD_none→ab8
open Option.some renaming inj→ov
open Or renaming inl→hE,inr→SF
open PyProof.Rows renaming callWith_type1→ro,slot_tuple_getitem→Qn,assignInOrder_cons→Yv,AllBare→YC,subscriptTail_builtinR→Zc,subscriptTail→ZO,IntsAre→ac9
open PyProof.Rows.IsTup renaming new→ae3
open PySem renaming wpAny_bind→bD,FuncData→ec,starEach→ew,wpAny_pure→hF,sizeLine_eq→hG,foldedSetIterable→sF,sliceBounds→sN,wpAny_Call_Name_kw→yt,Comprehension→zk,bootBuiltins→zp,mem_of_lookup→Bk,wpAny_truthy_bool→FS,wpAny_newObj_type→Gc,NameKind→GM,cellsFrom→IR,Value→KB,letOwnedTupleGo→KF,wpAny_holding→MX,wpAny_field→Ol,assignEach→PP,Program→Qk,codeAny→SB,wpAny_passesOwn→TX,compareOp→Ub,standAt→VT,wpAny_of_eq→We,Shared→Wg,swapsWithSole→Ws,swappedStores→Wt,Addr→Wx,wpAny_mono→WT,binaryOp→WU,wpAny_standAt→Xh,behindInMarks→Xi,attributeBase→Xj,keywordEach→Xp,wpAny_callSpecial?_slot→Xr,wpAny_pyIter_rangeiter→Xt,codeAny_mono→Xv,wpAny_nextOf_list_item→Xz,Str→XJ,builtinsNs→XN,Expr→XO,swapsWith→XQ,wpAny_call_entry→XS,sliceRange→XT,wpAny_execs_nil→Yc,wpAny_updateSeq→Yf,codeAmong→Yq,newFunctionEnv→YA,slot_list_getitem→YF,wpAny_getItem_list_slice→YH,wpAny_comprehension_free→YK,getMethod→YM,backToKw→YO,ZipApart→YP,wpAny_pyIter_zip→YQ,compTurn→YR,Within→YY,wpAny_pyNext_range_end→Za,closureFor→Ze,codeAny_builtin→Zm,wpAny_specialOf→Zn,wpAny_pyNext_zip_item→Zs,wpAny_nextOf_list_end→Zt,builtinLookup_eq_fast→Zu,IsRangeIter→Zx,bindArgs→Zz,wpAny_pyNext_zip_end→ZC,wpAny_seqItems→ZD,slicePick→ZH,callerA→ZI,assignInOrder→ZL,plainId_quiet→ZP,Heap→ZR,wpAny_rule→ZU,wpAny_call→ZV,call_meets→ZX,Result→aa2,BindsTo→aa8,seqIndex_neg→aa9,Keyword→ab0,Pos→ab3,PassesOwn→ab4,lastMarks→ab5,updateSeq→ab9,seqIndex_of→ac4,loadIfAlive→ac5,getItem→ac8,Stmt→ad0,call→ad4,Env→ae2
open PySem.Around renaming under_plainId→XZ,under→Yo,frames_deeper→ZA
open PySem.Builtin.List renaming listTooLong→VP,listExtendWith→Wu,listSameRef→YI,listItems→Zf
open PySem.Builtin.Range renaming rangeFitsLong→sT,rangeSize→Xo
open PySem.Builtin.Slice renaming slicePlaces→SZ,sliceAdjust→Xd,sliceApplied→Yy
open PySem.Builtin.SmallTypes renaming ownedTupleIsFree→DM,nextOf→Te
open PySem.Builtin.Tuple renaming tupleExact→Va
open PySem.Calls renaming Name_function_global→Yu,spliced_cons→Yx,spliced_nil→YE
open PySem.Challenge renaming pw_halvedpictures_k53_whole_never_beyond_th→XI
open PySem.Code renaming isGuard→aa6,isFrame→aa7
open PySem.F renaming plain_extend_loop→Xg,slot_range_reversed→XG,slot_zip_next→Ye,plainAttrs_list→YS,slot_list_append→Zq,slot_list_extend→Zr,plain_reversed_new→ZE,entry_extend_loop→ZJ,args_zip_next_1→ab1
open PySem.Heap renaming get?_push_of_some→dV,lt_size→hH,get?_push_size→ks,get?_update_other→SC,size_push→SG,get?_update_self→SV,SameBut→Xs,get?→ae4
open PySem.Heap.IsSliceOf renaming new→ZW
open PySem.IsRange renaming new→ae6
open PySem.NameKind renaming free→nj,cell→vq
open PySem.Obj renaming mapSeq→Fk
open PySem.PassesOwn renaming never→wh
open PySem.PyData renaming shown→ae5
open PySem.SeqAt.EqAt renaming same→YW,int_str→ZS,str_int→ZT
open PySem.Str renaming ofString→mu,empty→sk
open PySem.Value renaming ref→rd,none→WM,type→XM,str→Yp,int→YL,bool→YX,float→ac2,builtin→ae0
open PySem.W renaming kitOne→bq,findIn→ck,nsIn→lp,keepIn→mC,mg_of→nS,mg_none_of→oD,emptyDict→ri,plainGet→rp,hasDictIn→rq,instObj→ry,makesIn→se,plainOver→sG,kia_one→yv,fnOf→AC,codeHd_of_K→So,codeHdIn→VX,codeIn→WV,callWith_K→Xn,cellsFrom_some→Xw,CodeHd→XB,envX→XC,OpenLaw→XY,plainGet_of→Yj,callWith_K0→Yk,lookIn→Yw,methodObj→YB,specialIn→YD,makes_of→YN,isFn→Zb,takerIn→Zk,takesIn→Zl,methodCall_KW→Zp,looks_findIn→Zy,Looks→ZM,mroIn→ZN,make_core→aa3,kitx_list→aa4,kitx_dict→aa5,handedIn→ab6,InitBack→ab7,kla_fn→ad7,tabObj→ad8,WalkO→ae1
open Sum renaming inl→ZF,inr→ZG
open True renaming intro→XR
set_option bootstrap.genMatcherCode false
set_option compiler.extract_closed false
theorem wEX (h:True:=by rfl):True:=h
def wE:=wEX._auto_1
theorem wPX (h:True:=by decide):True:=h
def wP:=wPX._auto_1
theorem wTX (h:True:=by intro _;rfl):True:=h
def wT:=wTX._auto_1
theorem wq0X (h:True:=by first | exact .inl rfl | exact .inr rfl | assumption):True:=h
def wq0:=wq0X._auto_1
theorem wq1X (h:True:=by with_unfolding_all rfl):True:=h
def wq1:=wq1X._auto_1
theorem wq2X (h:True:=by first | exact hE rfl | exact SF (hE rfl) | exact SF (SF rfl)):True:=h
def wq2:=wq2X._auto_1
abbrev Fg0:=PySem.W.Frag
noncomputable abbrev Pn0:=List (Wx×PySem.Obj)
noncomputable abbrev VS0:=KB->Wg->Prop
abbrev On:=List (Option Nat)
noncomputable abbrev SV0:=XJ->Option KB
noncomputable abbrev LL0:=List (List Int)
noncomputable abbrev Li0:=List Int
abbrev La0:=List Wx
noncomputable abbrev Lv0:=List KB
noncomputable abbrev Ls0:=List XJ
theorem lM0 {a c:Type}{b:List a}(f:a->c):(b.map f).length=b.length:=List.length_map f
theorem gE0 {a:Type}{l:List a}{i:Nat}(h:i<l.length):l[i]?=some l[i]:=List.getElem?_eq_getElem h
theorem gS0 {b:Type}{l:List b}{i:Nat}{a:b}(h:l[i]?=some a):∃h:i<l.length,l[i]=a:=List.getElem?_eq_some_iff.mp h
set_option genSizeOf false
variable {u:KB}{a:Wx}{P:Qk}{w:PySem.World}{h h':ZR}{x:XJ}{g':Array PySem.GenState}{t' i:Nat}{d':PySem.Drawn}{ch:La0}{M:PySem.Model}{A:PySem.Around}
namespace _2
open PySem PySem.Spec PyProof.Rows
abbrev Key:=Sum Int Str
noncomputable def Pb:Key->Value->Bool
 | .inl k,v=>Value.isInt k v
 | .inr x,v=>Value.isStrOf x v
noncomputable def Wm (w:World):Key->Int
 | .inl k=>hashInt k
 | .inr x=>hashStr w x
theorem du:∀ {k:Key} {v:Value},Pb k v=true->(∃ i t,k=ZF i/\v=YL i t)\/(∃ x t,k=ZG x/\v=Yp x t)
 | .inl i,v,h=>by
  obtain⟨t,e⟩:=Value.isInt_shape (k:=i) (v:=v) h;exact .inl ⟨i,t,rfl,e⟩
 | .inr x,v,h=>by
  obtain⟨t,e⟩:=Value.isStrOf_shape (x:=x) (v:=v) h;exact .inr ⟨x,t,rfl,e⟩
theorem Rt(a b:Int):decide ((ZF a:Key)=ZF b)=(a == b):=by
 by_cases e:a=b
 .subst e;simp
 .have h:¬ (ZF a:Key)=ZF b:=λq=>e (Sum.inl.inj q);rw[decide_eq_false h];exact(beq_eq_false_iff_ne.mpr e).symm
theorem Rp(a b:Str):decide ((ZG a:Key)=ZG b)=decide (a=b):=by
 by_cases e:a=b
 .subst e;simp
 .have h:¬ (ZG a:Key)=ZG b:=λq=>e (Sum.inr.inj q);rw[decide_eq_false h,decide_eq_false e]
theorem Rr(a:Int)(b:Str):decide ((ZF a:Key)=ZG b)=false:=decide_eq_false (λq=>nomatch q)
theorem Rq(a:Str)(b:Int):decide ((ZG a:Key)=ZF b)=false:=decide_eq_false (λq=>nomatch q)
noncomputable def Hr (prog:Qk)(w:World):PySem.KeyKind prog w Key where
 is:=Pb
 hash:=Wm w
 inj:=λv a b l f=>by
  rcases du l with ⟨i,t,rfl,rfl⟩ | ⟨x,t,rfl,rfl⟩
  .rcases du f with ⟨j,u,rfl,e⟩ | ⟨y,u,rfl,e⟩
   .injection e with c _;rw[c]
   .exact nomatch e
  .rcases du f with ⟨j,u,rfl,e⟩ | ⟨y,u,rfl,e⟩
   .exact nomatch e
   .injection e with c _;rw[c]
 byValue:=λk v h=>by
  rcases du h with ⟨i,t,rfl,rfl⟩ | ⟨x,t,rfl,rfl⟩ <;> rfl
 pyHash:=λd h=>by
  rcases du d with ⟨i,t,rfl,rfl⟩ | ⟨x,t,rfl,rfl⟩
  .exact wpAny_pyHash_int h
  .exact wpAny_pyHash_str h
 eqBool:=λg d h=>by
  rcases du g with ⟨i,t,rfl,rfl⟩ | ⟨x,t,rfl,rfl⟩
  .rcases du d with ⟨j,u,rfl,rfl⟩ | ⟨y,u,rfl,rfl⟩
   .rw[Rt] at h;exact wpAny_eqBool_int h
   .rw[Rr] at h;exact ZS i t y u _ _ _ _ h
  .rcases du d with ⟨j,u,rfl,rfl⟩ | ⟨y,u,rfl,rfl⟩
   .rw[Rq] at h;exact ZT x t j u _ _ _ _ h
   .rw[Rp] at h;exact wpAny_eqBool_str h
 «strs»:=λk x t v h=>by
  rcases du h with ⟨i,u,rfl,e⟩ | ⟨y,u,rfl,e⟩
  .exact nomatch e
  .injection e with c _
   subst c;cases v <;> rfl
inductive V where
 | non | bl (b:Bool) | int (i:Int) | str (x:Str) | byt (b:Array UInt8) | flt (b:UInt64) | ref (a:Addr) | ty (n:String)
 deriving DecidableEq
noncomputable def RelV:V->Value->Prop
 | .non,u=>u=WM
 | .bl b,u=>u=YX b
 | .int i,u=>∃ t,u=YL i t
 | .str x,u=>∃ t,u=Yp x t
 | .byt b,u=>∃ t,u=Value.bytes b t
 | .flt b,u=>∃ t,u=ac2 b t
 | .ref a,u=>u=rd a
 | .ty n,u=>u=XM n
noncomputable abbrev Vals:List V->Lv0->Prop:=Paired RelV
theorem Vals.length{xs:List V}{us:Lv0}(r:Vals xs us):xs.length=us.length:=Paired.length r
theorem Vals.get:∀ {xs:List V} {us:Lv0} {i:Nat} {x:V},Vals xs us->xs[i]?=some x->∃ u,us[i]?=some u/\RelV x u
 | _,_,_,_,.nil,e=>by simp at e
 | _,_,0,_,.cons r _,e=>by simp at e;subst e;exact⟨_,rfl,r⟩
 | _,_,i + 1,x,.cons _ t,e=>by
  obtain⟨u,b,a⟩:=Vals.get (i:=i) (x:=x) t (by simpa using e);exact⟨u,by simpa using b,a⟩
theorem Vals.set{x:V}(r:RelV x u):∀ {xs:List V} {us:Lv0} (i:Nat),Vals xs us->Vals (xs.set i x) (us.set i u)
 | _,_,_,.nil=>.nil
 | _,_,0,.cons _ t=>.cons r t
 | _,_,i + 1,.cons q t=>.cons q (Vals.set r i t)
theorem Vals.append:∀ {xs ys:List V} {us a:Lv0},Vals xs us->Vals ys a->Vals (xs++ys) (us++a)
 | _,_,_,_,.nil,s=>s
 | _,_,_,_,.cons r t,s=>.cons r (Vals.append t s)
theorem Vals.take:∀ {xs:List V} {us:Lv0} (n:Nat),Vals xs us->Vals (xs.take n) (us.take n)
 | _,_,0,_=>.nil
 | _,_,_ + 1,.nil=>.nil
 | _,_,n + 1,.cons r t=>.cons r (Vals.take n t)
theorem Vals.drop:∀ {xs:List V} {us:Lv0} (n:Nat),Vals xs us->Vals (xs.drop n) (us.drop n)
 | _,_,0,r=>r
 | _,_,_ + 1,.nil=>.nil
 | _,_,n + 1,.cons _ t=>Vals.drop n t
theorem Vals.none_of:∀ {xs:List V} {us:Lv0} {i:Nat},Vals xs us->xs[i]?=none->us[i]?=none:=λ{xs us i} r e=>by
 have b:=r.length;have a:xs.length<=i:=Xc.mp e;exact Xc.mpr (by lia)
noncomputable def Bq:Option V->Option Value->Prop
 | some v,some u=>RelV v u
 | none,none=>True
 | _,_=>False
noncomputable def KV {a:Type}:List (a×V)->List (a×Value)->Prop:=Paired λ(p:a×V) (q:a×Value)=>p.1=q.1/\RelV p.2 q.2
noncomputable def kV:Key->V
 | .inl i=>.int i
 | .inr x=>.str x
set_option genInjectivity false in
inductive HO where
 | lst (xs:List V)
 | tup (xs:List V)
 | dK (kvs:List (Key×V)) | dT (kvs:List (List Key×V))
 | set (S:Int->Bool) (n:Nat)
 | ins (C dx:Addr) (fs:List (Str×V))
 | own (x:Addr)
 | xd (fs:List (Str×V))
 | met (f x:Addr)
 | rng (lo hi:Int)
 | frz (o:Obj) (u:HO)
 | tbl (ps:Array Value)
 | ext (φ:Heap->Prop)
 | cod (c:Addr) (q:Str)
abbrev Hp:=Addr->Option HO
def yN (H:Hp)(v:Value)(q:Str):Prop:=∃ c a vs t b,v=.ref c/\H c=some (.frz a (.ext b))/\a.data=.fields vs/\vs[1]?=some (.str q t)
theorem yN.mono{H f:Hp}{v:Value}{q:Str}(x:yN H v q)(i:∀ b o e,H b=some (.frz o (.ext e))->f b=some (.frz o (.ext e))):yN f v q:=
 let ⟨c,h,g,t,e,a,b,d⟩:=x;⟨c,h,g,t,e,a,i _ _ _ b,d⟩
noncomputable def upd (H:Hp)(a:Addr)(o:HO):Hp:=λb=>if b=a then some o else H b
theorem ax{H:Hp}{o:HO}:upd H a o a=some o:=by unfold upd;rw[if_pos rfl]
theorem ar{H:Hp}{b:Addr}{o:HO}(h:b≠a):upd H a o b=H b:=by unfold upd;rw[if_neg h]
theorem aU{H:Hp}{b:Addr}{o:HO}(h:H a=some o)(h':H b=none):a≠b:=by
 intro e;subst e;rw[h] at h';cases h'
section
variable (P:Qk)(w:World)
noncomputable def gC (H:Hp)(h:Heap)(a:Addr):HO->Prop
 | .lst xs=>xs.length<=sizeLine/\∃ (its:Lv0) (n:Nat),Vals xs its/\h.get? a=some { cls:=.type "list",data:=.seq its.toArray n }
 | .tup xs=>xs.length<=sizeLine/\∃ its:Lv0,Vals xs its/\IsTup h a its.toArray
 | .dK kvs=>kvs.length<=sizeLine/\(a == sysModules)=false/\∃ vs,KV kvs vs/\h.DictOf (Hr P w) a vs
 | .dT kvs=>kvs.length<=sizeLine/\(a == sysModules)=false/\∃ xs:List (List Key×Addr×Value),
   Paired (λ(p:List Key×V) (q:List Key×Addr×Value)=>p.1=q.1/\H q.2.1=some (.tup (p.1.map kV))/\RelV p.2 q.2.2) kvs xs/\
   ∃ o es d,h.get? a=some o/\o.ExactDict/\o.data=.dict es d/\es.toList=xs.map (entryOfKey (tupleKind (Hr P w)))/\(xs.map (·.1)).Nodup
 | .set S n=>h.SetOf (intKind P w) a S n
 | .ins C dx fs=>H dx=some (.own a)/\fs.length<=1000/\dx≠a/\h.get? a=some (ry C dx)/\
   ∃ mA,h.Ns1 dx mA/\(∀ f,Bq (fs.lookup f) (mA f))/\YY mA (fs.map (·.1))
 | .own _=>∃ o,h.get? a=some o
 | .xd fs=>∃ mA,h.Ns1 a mA/\∀ f,Bq (fs.lookup f) (mA f)
 | .rng lo hi=>∃ t u v,h.get? a=some { cls:=.type "range",data:=.fields #[.int lo t,.int hi u,.int 1 v] }
 | .frz o u=>h.get? a=some o/\gC H h a u
 | .tbl ps=>∃ q t qs,ps[0]?=some (Yp q t)/\h.get? a=some { cls:=.none,data:=.fields qs }/\TriplesOk qs.toList/\∀ pos v,Yq pos qs.toList=some v->yN H v q
 | .cod c q=>(∃ o,h.get? a=some o)/\yN H (.ref c) q
 | .met f x=>h.get? a=some (YB (.ref f) (.ref x))
 | .ext b=>b h/\(∃ o,h.get? a=some o)/\∀ h1 h2:Heap,b h1->(∀ o,h1.get? a=some o->h2.get? a=some o)->b h2
def HOk (H:Hp)(h:Heap):Prop:=∀ a o,H a=some o->gC P w H h a o
end
section
variable {H H':Hp}{o:HO}
theorem gC.lt(x:gC P w H h a o):a < h.objs.size:=by
 cases o with
 | lst d=>obtain⟨_,_,_,_,e⟩:=x;exact hH e
 | tup d=>obtain⟨_,_,_,p⟩:=x;exact p.lt
 | dK b=>obtain⟨_,_,_,_,o,_,_,e,_⟩:=x;exact hH e
 | dT b=>obtain⟨_,_,_,_,o,_,_,e,_⟩:=x;exact hH e
 | set S n=>obtain⟨o,_,_,_,e,_⟩:=x;exact hH e
 | ins C m g=>obtain⟨_,_,_,e,_⟩:=x;exact hH e
 | own y=>obtain⟨_,e⟩:=x;exact hH e
 | xd g=>obtain⟨_,⟨_,_,_,e,_⟩,_⟩:=x;exact hH e
 | rng lo l=>obtain⟨_,_,_,e⟩:=x;exact hH e
 | frz k u=>obtain⟨e,_⟩:=x;exact hH e
 | tbl j=>obtain⟨_,_,_,_,e,_⟩:=x;exact hH e
 | cod c q=>obtain⟨⟨_,e⟩,_⟩:=x;exact hH e
 | met f y=>exact hH (show h.get? a=some _ from x)
 | ext i=>obtain⟨_,⟨_,e⟩,_⟩:=x;exact hH e
theorem Paired.Ud{g e:Type}{F G:g->e->Prop}:∀ {d:List g} {c:List e},Paired F d c->(∀ a b,F a b->G a b)->Paired G d c
 | _,_,.nil,_=>.nil
 | _,_,.cons r t,f=>.cons (f _ _ r) (Paired.Ud t f)
theorem gC.CT(x:gC P w H h a o)(k:∀ b u,(b=a\/H b=some (.own a))->h.get? b=some u->h'.get? b=some u)(L:∀ b,H b=some (.own a)->H' b=some (.own a))(K:∀ b xs,H b=some (.tup xs)->H' b=some (.tup xs))(E:∀ b o m,H b=some (.frz o (.ext m))->H' b=some (.frz o (.ext m)):=by first | exact λ_ _ _ q=>q | (intro c o u q;rw[_root_._2.ar (_root_._2.aU q (by assumption))];exact q)):gC P w H' h' a o:=by
 induction o with
 | lst xs=>obtain⟨z,l,n,r,e⟩:=x;exact⟨z,l,n,r,k _ _ (.inl rfl) e⟩
 | tup xs=>obtain⟨z,l,r,g,e,c⟩:=x;exact⟨z,l,r,g,k _ _ (.inl rfl) e,c⟩
 | dK B=>obtain⟨z,y,F,r,g,i,j,e,c⟩:=x;exact⟨z,y,F,r,g,i,j,k _ _ (.inl rfl) e,c⟩
 | dT B=>
  obtain⟨z,y,xs,r,g,i,j,e,c⟩:=x;exact⟨z,y,xs,Paired.Ud r λp q z=>⟨z.1,K _ _ z.2.1,z.2.2⟩,g,i,j,k _ _ (.inl rfl) e,c⟩
 | set S n=>obtain⟨g,i,j,t,e,c⟩:=x;exact⟨g,i,j,t,k _ _ (.inl rfl) e,c⟩
 | ins C U M=>
  obtain⟨d,z,I,e,A,⟨s,i,j,D,c⟩,r⟩:=x;exact⟨L _ d,z,I,k _ _ (.inl rfl) e,A,⟨s,i,j,k _ _ (.inr d) D,c⟩,r⟩
 | own y=>obtain⟨g,e⟩:=x;exact⟨g,k _ _ (.inl rfl) e⟩
 | xd M=>obtain⟨A,⟨s,i,j,e,c⟩,r⟩:=x;exact⟨A,⟨s,i,j,k _ _ (.inl rfl) e,c⟩,r⟩
 | rng lo T=>obtain⟨t,u,v,e⟩:=x;exact⟨t,u,v,k _ _ (.inl rfl) e⟩
 | frz g u J=>obtain⟨e,q⟩:=x;exact⟨k _ _ (.inl rfl) e,J q⟩
 | tbl R=>obtain⟨q,t,G,Q,D,O,N⟩:=x;exact⟨q,t,G,Q,k a _ (.inl rfl) D,O,λp v r=>(N p v r).mono E⟩
 | cod c q=>obtain⟨⟨u,e⟩,y⟩:=x;exact⟨⟨u,k a _ (.inl rfl) e⟩,y.mono E⟩
 | met f y=>
  have e:h.get? a=some (YB (.ref f) (.ref y)):=x;show h'.get? a=some (YB (.ref f) (.ref y));exact k a _ (.inl rfl) e
 | ext m=>obtain⟨p,⟨o,e⟩,st⟩:=x;exact⟨st _ _ p λo q=>k _ _ (.inl rfl) q,⟨o,k _ _ (.inl rfl) e⟩,st⟩
theorem HOk.lt(x:HOk P w H h)(e:H a=some o):a < h.objs.size:=(x a o e).lt
theorem HOk.fresh(x:HOk P w H h)(e:h.objs.size<=a):H a=none:=by
 cases q:H a with
 | none=>rfl
 | some u=>exact absurd (ih (x.lt q) e) (vl _)
theorem HOk.kept(x:HOk P w H h)(k:∀ b u,h.get? b=some u->h'.get? b=some u):HOk P w H h':=λa o e=>
 (x a o e).CT (λb u _ q=>k b u q) (λ_ q=>q) λ_ _ q=>q
theorem HOk.laid(x:HOk P w H h)(k:∀ b u,h.get? b=some u->h'.get? b=some u)(i:h.objs.size<=a)(d:gC P w (upd H a o) h' a o):HOk P w (upd H a o) h':=λb u e=>by
 have f:=x.fresh i;by_cases g:b=a
 .subst g;rw[ax] at e;cases e;exact d
 .rw[ar g] at e;exact(x b u e).CT (λc v _ q=>k c v q) (λc q=>by rw[ar (aU q f)];exact q) λc j q=>by rw[ar (aU q f)];exact q
end
def Rd (H:Hp)(a:Addr)(u:HO):Prop:=H a=some u\/∃ o,H a=some (.frz o u)
theorem Rd.ok{H:Hp}{u:HO}(r:Rd H a u)(x:HOk P w H h):gC P w H h a u:=by
 rcases r with r | ⟨o,r⟩
 .exact x a u r
 .obtain⟨_,q⟩:=x a _ r;exact q
noncomputable def Mut:Option HO->Prop
 | some (.lst _)=>True
 | some (.dK _)=>True
 | some (.dT _)=>True
 | some (.set _ _)=>True
 | some (.ins _ _ _)=>True
 | some (.ext _)=>True
 | _=>False
section
variable {H:Hp}{x e:Addr}{o':HO}
theorem HOk.write(ok:HOk P w H h)(f:Mut (H x))(p:e=x\/H e=some (.own x))(k:∀ b u,b≠e->h.get? b=some u->h'.get? b=some u)(m:∃ u,h'.get? e=some u)(l:gC P w (upd H x o') h' x o'):HOk P w (upd H x o') h':=λb u q=>by
 have d:∀ c y,H c=some (.own y)->c≠x:=λc y r z=>by subst z;rw[r] at f;exact f
 have g:∀ c i,H c=some (.tup i)->c≠x:=λc i r z=>by subst z;rw[r] at f;exact f
 by_cases j:b=x
 .subst j;rw[ax] at q;cases q;exact l
 .rw[ar j] at q;by_cases a:b=e
  .have n:H b=some (.own x):=by
    rcases p with z | z
    .exact absurd (a.trans z) j
    .rw[a];exact z
   rw[q] at n;cases n;obtain⟨v,s⟩:=m;exact⟨v,by rw[a];exact s⟩
  .refine(ok b u q).CT (λc v hc r=>k c v ?_ r) (λc r=>by rw[ar (d c b r)];exact r) (λc i r=>by rw[ar (g c i r)];exact r) λc o t r=>by rw[ar (λz=>by subst z;rw[r] at f;exact f)];exact r
   rcases hc with rfl | hc
   .exact a
   .rintro rfl;rcases p with z | z
    .exact d c b hc z
    .rw[hc] at z;cases z;exact j rfl
end
structure Un (fs ex:La0) (H H':Hp) (h h':Heap):Prop where
 keep:∀ b o,h.get? b=some o->H b=none->b∉fs->b∉ex->h'.get? b=some o
 slot:∀ b o,h.get? b=some o->H b=none->b∈fs->b∉ex->∃ sl,h'.get? b=some { o with slots:=sl }
 free:∀ b o,h.get? b=some o->H b=none->b∉ex->H' b=none
 there:∀ b o,h.get? b=some o->b∉ex->∃ o',h'.get? b=some o'
 tups:∀ b xs,H b=some (.tup xs)->H' b=some (.tup xs)
 uY:∀ b o u,H b=some (.frz o u)->H' b=some (.frz o u)
 tbls:∀ b ps,H b=some (.tbl ps)->∃ more,H' b=some (.tbl (ps++more))
section
variable {fs fs' ex ex':La0}{H H1 H2:Hp}{h1 h2:Heap}{x e:Addr}{o:HO}
theorem Un.any(u:Un fs ex H H1 h h1){b:Addr}{a:Obj}(q:h.get? b=some a)(n:H b=none)(c:b∉ex):∃ e,h1.get? b=some { a with slots:=e }:=by
 by_cases d:b∈fs
 .exact u.slot b a q n d c
 .exact⟨a.slots,u.keep b a q n d c⟩
theorem Un.kept(k:∀ b u,h.get? b=some u->h'.get? b=some u):Un fs ex H H h h':=
 ⟨λb a q _ _ _=>k b a q,λb a q _ _ _=>⟨a.slots,k b a q⟩,λ_ _ _ n _=>n,λb a q _=>⟨a,k b a q⟩,λ_ _ q=>q,λ_ _ _ q=>q,λ_ c q=>⟨#[],by rw[q];simp⟩⟩
theorem Un.refl:Un fs ex H H h h:=Un.kept λ_ _ q=>q
theorem Un.laid(k:∀ b u,h.get? b=some u->h'.get? b=some u)(e:h.objs.size<=a)(c:H a=none):Un fs ex H (upd H a o) h h' where
 keep:=λb u q _ _ _=>k b u q
 slot:=λb u q _ _ _=>⟨u.slots,k b u q⟩
 free:=λb u q n _=>by rw[ar (oj (ih (hH q) e))];exact n
 there:=λb u q _=>⟨u,k b u q⟩
 tups:=λb d q=>by rw[ar (aU q c)];exact q
 uY:=λb u d q=>by rw[ar (aU q c)];exact q
 tbls:=λb f q=>⟨#[],by rw[ar (aU q c),q];simp⟩
theorem Un.write(c:Mut (H x))(m:e=x\/H e=some (.own x))(k:∀ b u,b≠e->h.get? b=some u->h'.get? b=some u)(f:∃ u,h'.get? e=some u):Un fs ex H (upd H x o) h h':=by
 have g:∀ b,H b=none->b≠x:=λb n z=>by subst z;rw[n] at c;exact c
 have i:∀ b,H b=none->b≠e:=λb n z=>by
  subst z;rcases m with r | r
  .exact g b n r
  .rw[n] at r;cases r
 have d:∀ b u,H b=some u->¬ Mut (some u)->b≠x:=λb u q l z=>by subst z;rw[q] at c;exact l c
 refine⟨λb u q n _ _=>k b u (i b n) q,λb u q n _ _=>⟨u.slots,k b u (i b n) q⟩,λb u q n _=>by rw[ar (g b n)];exact n,λb u q _=>?_,
  λb j q=>by rw[ar (d b _ q λz=>z)];exact q,λb u j q=>by rw[ar (d b _ q λz=>z)];exact q,λb p q=>⟨#[],by rw[ar (d b _ q λz=>z),q];simp⟩⟩
 by_cases a:b=e
 .subst a;exact f
 .exact⟨u,k b u a q⟩
end
structure Mod (K:Fg0) (mg:SV0) (base:Heap):Prop where
 kin:K.In base
 glob:base.Ns mainGlobals mg
 blt:∃ mb,base.Ns XN mb/\∀ x:Str,x≠"__name__"->mb x=zp x
 nolimit:base.NoLimit
 bm:∃ bm ob,mg "__builtins__"=some (.ref bm)/\bm≠XN/\base.get? bm=some ob/\ob.cls=.type "module"/\ob.dict=some XN/\ob.data=.plain
set_option genInjectivity false in
structure Cx where
 prog:Qk
 w:World
 K:Fg0
 mg:Str->Option Value
 base:Heap
 A:Around
 N:Ls0
 s₀:Shared
 H₀:Hp
 env:Env
 outer:List Env
 stack:List Env
 ex:La0
 fn:Str->Bool
 calm:Bool
 pn:Pn0
 xe:Value->Shared->Prop
noncomputable def frs (l:List Env):La0:=l.filterMap (·.frame)
noncomputable abbrev Cx.fs (X:Cx):La0:=frs X.outer
def Vis (a:Scope)(x:Str):Prop:=a.names.lookup x=some .local\/a.names.lookup x=some .cell\/a.names.lookup x=some .free
def Loc (a:Scope)(x:Str):Prop:=a.names.lookup x=some .local\/a.names.lookup x=some .cell
def Look (a:Env)(h:Heap)(m:SV0)(x:Str)(u:Value):Prop:=
 (a.kindOf x=some .local/\m x=some u)\/((a.kindOf x=some .cell\/a.kindOf x=some .free)/\∃ c,a.cells.lookup x=some c/\h.IsCell c (some u))
def Kpt (H:Hp)(b:Addr)(o:Obj):Prop:=H b=none\/((∃ u,H b=some (.frz o u))/\∀ v,o.data≠.cell v)
def pT (base:Heap)(P:Addr)(q:Str):Prop:=base.objs[P]?=some { cls:=.str q 0,data:=.freed }
def TabsAt (base:Heap)(H:Hp):Prop:=∀ P q,pT base P q->∃ ps t,H P=some (.tbl ps)/\ps[0]?=some (.str q t)
structure Cx.Ok (X:Cx):Prop where
 mod:Mod X.K X.mg X.base
 kind:X.env.scope.kind=.function
 glob:X.env.globals=mainGlobals
 blt:X.env.builtins=XN
 above:X.s₀.heap.objs.size<=X.env.locals
 inj:∀ x y c,X.env.cells.lookup x=some c->X.env.cells.lookup y=some c->x=y
 has:∀ x,(X.env.kindOf x=some .cell\/X.env.kindOf x=some .free)->∃ c,X.env.cells.lookup x=some c
 cab:∀ x c,X.fn x=true->X.env.cells.lookup x=some c->X.s₀.heap.objs.size<=c
 hd:X.calm=true->X.A.handled=none
 frames:X.A.frames=some X.stack
 stk:X.stack=X.outer\/(X.stack=X.env::X.outer/\X.env.frame=some X.env.locals)
 exf:∀ b∈X.ex,b≠X.env.locals/\∀ x c,X.env.cells.lookup x=some c->c≠b
 bs:∀ b o,X.base.get? b=some o->X.s₀.heap.get? b=some o/\Kpt X.H₀ b o
 bsz:X.base.objs.size<=X.s₀.heap.objs.size
 noex:∀ b o,X.base.get? b=some o->b∉X.ex
 exfs:∀ b∈X.ex,b∉X.fs
 uX:X.s₀.heap.FunFrames X.base X.outer
 frf:∀ b∈X.fs,X.H₀ b=none
 tb:TabsAt X.base X.H₀
structure Inv (X:Cx) (pins:Pn0) (σ:List (Option V)) (H:Hp) (s:Shared):Prop where
 ok:X.Ok
 os:s.os=X.s₀.os
 bare:YC s.gens
 base:Un X.fs X.ex X.H₀ H X.s₀.heap s.heap
 loc:∃ m,s.heap.Ns X.env.locals m/\∀ (i:Nat) (x:Str) (v:V),X.N[i]?=some x->σ[i]?=some (some v)->Vis X.env.scope x->∃ u,RelV v u/\Look X.env s.heap m x u
 cell:∀ x c,X.env.cells.lookup x=some c->∃ v,s.heap.IsCell c v
 free:H X.env.locals=none
 freeC:∀ x c,X.env.cells.lookup x=some c->H c=none
 pin:∀ p∈X.pn++pins,s.heap.get? p.1=some p.2/\H p.1=none/\p.1≠X.env.locals/\p.1∉X.fs/\∀ v,p.2.data≠.cell v
 hok:HOk X.prog X.w H s.heap
 len:σ.length=X.N.length
section
variable {X:Cx}{pins:Pn0}{σ:List (Option V)}{H H':Hp}{s:Shared}
theorem Cx.Ok.V8(ok:X.Ok){b:Addr}{o:Obj}(e:X.base.get? b=some o):b∉X.fs:=λa=>by
 have:=(ok.uX.mem a).1;rw[e] at this;cases this
theorem Inv.bs(I:Inv X pins σ H s):∀ b o,X.base.get? b=some o->s.heap.get? b=some o/\Kpt H b o:=λb o e=>by
 obtain⟨c,a | ⟨⟨u,a⟩,d⟩⟩:=I.ok.bs b o e
 .exact⟨I.base.keep b o c a (I.ok.V8 e) (I.ok.noex b o e),.inl (I.base.free b o c a (I.ok.noex b o e))⟩
 .have q:=I.base.uY b o u a;obtain⟨z,_⟩:=I.hok b _ q;exact⟨z,.inr ⟨⟨u,q⟩,d⟩⟩
theorem TabsAt.un{base:Heap}{c d:La0}{H H':Hp}(x:TabsAt base H)(u:Un c d H H' h h'):TabsAt base H':=λP q r=>by
 obtain⟨b,t,f,a⟩:=x P q r;obtain⟨m,e⟩:=u.tbls P b f;exact⟨_,t,e,by rw[Array.getElem?_append_left (by obtain⟨z,_⟩:=Yt.mp a;exact z)];exact a⟩
theorem Inv.tb(I:Inv X pins σ H s):TabsAt X.base H:=I.ok.tb.un I.base
theorem Inv.bk(I:Inv X pins σ H s):∀ b o,X.base.get? b=some o->s.heap.get? b=some o:=λb o e=>(I.bs b o e).1
theorem Inv.mod(I:Inv X pins σ H s):Mod X.K X.mg X.base:=I.ok.mod
theorem Inv.kIn(I:Inv X pins σ H s):X.K.In s.heap:=I.ok.mod.kin.keeps I.bk
theorem Inv.lt(I:Inv X pins σ H s):X.env.locals < s.heap.objs.size:=let ⟨_,a,_⟩:=I.loc;a.lt
theorem Inv.sz(I:Inv X pins σ H s):X.s₀.heap.objs.size<=s.heap.objs.size:=zq I.ok.above (Wn I.lt)
theorem Inv.V7(I:Inv X pins σ H s)(h:s.heap.objs.size<=a):a∉X.fs:=λc=>by
 obtain⟨_,o,b,_⟩:=I.ok.uX.mem c;exact absurd (ih (hH b) (zq I.sz h)) (vl _)
theorem Inv.cne(I:Inv X pins σ H s):∀ x c,X.env.cells.lookup x=some c->c≠X.env.locals:=λx c e z=>by
 obtain⟨v,o,d,f⟩:=I.cell x c e;obtain⟨m,⟨g,h,i,a,b,_⟩,_⟩:=I.loc;rw[z,a] at d;cases d;rw[b] at f;cases f
theorem Inv.uX(I:Inv X pins σ H s):s.heap.FunFrames X.base X.outer:=by
 have all:∀ (l:List Env),(∀ b∈frs l,b∈X.fs)->X.s₀.heap.FunFrames X.base l->s.heap.FunFrames X.base l:=by
  intro l
  induction l with
  | nil=>intro _ _;trivial
  | cons p r g=>
   intro f k;obtain⟨m,⟨L,o,a,j,i,n⟩,h⟩:=k;have d:L∈X.fs:=f L (by unfold frs;rw[sX,a];exact lU);obtain⟨q,e⟩:=I.base.slot L o i (I.ok.frf L d) d λz=>I.ok.exfs L z d;exact⟨m,⟨L,_,a,j,e,n⟩,g (λb c=>f b (by unfold frs;rw[sX,a];exact hY _ c)) h⟩
 exact all X.outer (λ_ c=>c) I.ok.uX
theorem Inv.stack(I:Inv X pins σ H s):s.heap.FunFrames X.base X.stack:=by
 rcases I.ok.stk with e | ⟨e,b⟩
 .rw[e];exact I.uX
 .rw[e];obtain⟨m,a,_⟩:=I.loc;refine .cons (by rw[I.ok.kind];decide) b a ?_ I.uX;exact Heap.get?_none_of_le (zq I.ok.bsz I.ok.above)
theorem Inv.zK(I:Inv X pins σ H s):∀ b∈frs X.stack,b∈X.env.locals::X.fs:=λb a=>by
 rcases I.ok.stk with e | ⟨e,c⟩
 .rw[e] at a;exact hY _ a
 .rw[e] at a;unfold frs at a;rw[sX,c] at a;exact a
theorem Inv.zr(I:Inv X pins σ H s):∀ b∈frs X.stack,H b=none:=λb hb=>by
 rcases fg.mp (I.zK b hb) with e | hb
 .rw[e];exact I.free
 .obtain⟨_,o,a,_⟩:=I.ok.uX.mem hb;exact I.base.free b o a (I.ok.frf b hb) λz=>I.ok.exfs b z hb
theorem Inv.step(I:Inv X pins σ H s)(j:∀ b∈ch,(b∈X.ex\/X.s₀.heap.objs.size<=b)/\b≠X.env.locals/\(∀ x c,X.env.cells.lookup x=some c->c≠b)/\∀ p∈X.pn++pins,p.1≠b)(h:∀ b o,b≠X.env.locals->b∉X.fs->b∉ch->s.heap.get? b=some o->H b=none->h'.get? b=some o)(A:∀ b o,b≠X.env.locals->b∈X.fs->b∉ch->s.heap.get? b=some o->H b=none->∃ L,h'.get? b=some { o with slots:=L })(f:∀ b o,b∉ch->s.heap.get? b=some o->H b=none->H' b=none)(B:∀ b o,b∉ch->s.heap.get? b=some o->∃ o',h'.get? b=some o')(E:∀ b xs,H b=some (.tup xs)->H' b=some (.tup xs))(S:∀ b o u,H b=some (.frz o u)->H' b=some (.frz o u))(F:∀ b ps,H b=some (.tbl ps)->∃ more,H' b=some (.tbl (ps++more)))(T:∀ m,s.heap.Ns X.env.locals m->h'.Ns X.env.locals m)(M:HOk X.prog X.w H' h')(Y:YC g') :
  Inv X pins σ H' { s with heap:=h',gens:=g',drawn:=d',toks:=t' }:=by
 have G:∀ b o,X.s₀.heap.get? b=some o->b≠X.env.locals:=λb o e=>oj (ih (hH e) I.ok.above);have w:∀ b o,X.s₀.heap.get? b=some o->b∉X.ex->b∉ch:=λb o e a C=>by
  rcases(j b C).1 with z | z
  .exact a z
  .exact absurd (ih (hH e) z) (vl _)
 have t:∀ x c,X.env.cells.lookup x=some c->∀ v,s.heap.IsCell c v->h'.IsCell c v:=λx c e v Z=>by
  obtain⟨o,D,N⟩:=Z;have g:c∉ch:=λz=>(j c z).2.2.1 x c e rfl;by_cases R:c∈X.fs
  .obtain⟨L,q⟩:=A c o (I.cne x c e) R g D (I.freeC x c e);exact⟨_,q,N⟩
  .exact⟨o,h c o (I.cne x c e) R g D (I.freeC x c e),N⟩
 refine⟨I.ok,I.os,Y,⟨λb o e n C a=>?_,λb o e n C a=>?_,λb o e n a=>?_,λb o e a=>?_,λb xs e=>E b xs (I.base.tups b xs e),λb o xs e=>S b o xs (I.base.uY b o xs e),λb ps e=>?_⟩,?_,λx c e=>?_,?_,λx c e=>?_,λp Q=>?_,M,I.len⟩
 .exact h b o (G b o e) C (w b o e a) (I.base.keep b o e n C a) (I.base.free b o e n a)
 .obtain⟨L,y⟩:=I.base.slot b o e n C a;obtain⟨K,J⟩:=A b _ (G b o e) C (w b o e a) y (I.base.free b o e n a);exact⟨K,J⟩
 .obtain⟨o',y⟩:=I.base.there b o e a;exact f b o' (w b o e a) y (I.base.free b o e n a)
 .obtain⟨o',y⟩:=I.base.there b o e a;exact B b o' (w b o e a) y
 .obtain⟨m1,y⟩:=I.base.tbls b ps e;obtain⟨U,J⟩:=F b _ y;exact⟨m1++U,by rw[J,Array.append_assoc]⟩
 .obtain⟨m,V,W⟩:=I.loc;refine⟨m,T m V,λi x v y J e3=>?_⟩;obtain⟨u,r,l⟩:=W i x v y J e3;refine⟨u,r,?_⟩;rcases l with l | ⟨k,c,e,z⟩
  .exact .inl l
  .exact .inr ⟨k,c,e,t x c e _ z⟩
 .obtain⟨v,z⟩:=I.cell x c e;exact⟨v,t x c e v z⟩
 .obtain⟨m,⟨o,_,_,D,_⟩,_⟩:=I.loc;exact f _ o (λz=>(j _ z).2.1 rfl) D I.free
 .obtain⟨v,o,D,N⟩:=I.cell x c e;exact f c o (λz=>(j c z).2.2.1 x c e rfl) D (I.freeC x c e)
 .obtain⟨e,n,P,O,d⟩:=I.pin p Q;have g:p.1∉ch:=λz=>(j p.1 z).2.2.2 p Q rfl;exact⟨h p.1 p.2 P O g e n,f p.1 p.2 g e n,P,O,d⟩
theorem Inv.un(I:Inv X pins σ H s)(u:Un X.fs [] H H' s.heap h')(c:HOk X.prog X.w H' h'):Inv X pins σ H' { s with heap:=h',toks:=t' }:=by
 obtain⟨m,⟨o,t,v,h,r⟩,_⟩:=id I.loc;obtain⟨l,k⟩:=u.any h I.free (by simp);exact I.step (g':=s.gens) (d':=s.drawn) (ch:=[]) (λ_ z=>nomatch z) (λb o _ d _ e n=>u.keep b o e n d (by simp)) (λb o _ d _ e n=>u.slot b o e n d (by simp)) (λb o _ e n=>u.free b o e n (by simp)) (λb o _ e=>u.there b o e (by simp)) u.tups u.uY u.tbls (λq j=>by
  obtain⟨p,f,g,a,i⟩:=j;rw[h] at a;cases a;exact⟨_,f,g,k,i⟩) c I.bare
theorem Inv.call(I:Inv X pins σ H s)(u:Un (frs X.stack) ch H H' s.heap h')(g:HOk X.prog X.w H' h')(t:YC g')(f:∀ b∈ch,(b∈X.ex\/X.s₀.heap.objs.size<=b)/\b≠X.env.locals/\(∀ x c,X.env.cells.lookup x=some c->c≠b)/\∀ p∈X.pn++pins,p.1≠b) :
  Inv X pins σ H' { s with heap:=h',gens:=g',drawn:=d',toks:=t' }:=by
 obtain⟨m,⟨o,B,C,k,r⟩,_⟩:=id I.loc;obtain⟨w,h⟩:=u.any k I.free λz=>(f _ z).2.1 rfl;exact I.step (ch:=ch) f (λb o h v a e n=>u.keep b o e n (λz=>(fg.mp (I.zK b z)).elim h v) a) (λb o _ _ a e n=>u.any e n a) (λb o a e n=>u.free b o e n a) (λb o a e=>u.there b o e a) u.tups u.uY u.tbls (λA q=>by
  obtain⟨y,i,j,d,l⟩:=q;rw[k] at d;cases d;exact⟨_,i,j,h,l⟩) g t
theorem Inv.turned{it:Addr}(I:Inv X pins σ H s)(k:∀ b o,b≠it->s.heap.get? b=some o->h'.get? b=some o)(h:H it=none)(f:it≠X.env.locals)(w:it∈X.ex\/X.s₀.heap.objs.size<=it)(t:∀ x c,X.env.cells.lookup x=some c->c≠it)(l:∀ p∈X.pn++pins,p.1≠it):Inv X pins σ H { s with heap:=h',toks:=t' }:=by
 have d:∀ b u,H b=some u->b≠it:=λb u e z=>by rw[z,h] at e;cases e
 refine I.step (g':=s.gens) (d':=s.drawn) (ch:=[it]) (λb j=>?_) (λb o _ _ a e _=>k b o (λz=>a (by simp [z])) e) (λb o _ _ a e _=>⟨o.slots,k b o (λz=>a (by simp [z])) e⟩) (λ_ _ _ _ n=>n)
  (λb o a e=>⟨o,k b o (λz=>a (by simp [z])) e⟩) (λ_ _ e=>e) (λ_ _ _ e=>e) (λb B e=>⟨#[],by rw[e];simp⟩) (λm i=>?_) (λb u e=>?_) I.bare
 .have e:b=it:=by simpa using j
  subst e;exact⟨w,f,t,l⟩
 .obtain⟨o,y,A,g,r⟩:=i;exact⟨o,y,A,k _ o (rl f) g,r⟩
 .refine(I.hok b u e).CT (λc v a q=>k c v ?_ q) (λ_ q=>q) λ_ _ q=>q;rcases a with z | z
  .rw[z];exact d b u e
  .exact d c _ z
theorem Inv.tok(I:Inv X pins σ H s)(t:Nat):Inv X pins σ H { s with toks:=t }:=I.un (h':=s.heap) (t':=t) Un.refl I.hok
theorem Inv.kept(I:Inv X pins σ H s)(k:∀ b u,s.heap.get? b=some u->h'.get? b=some u):Inv X pins σ H { s with heap:=h',toks:=t' }:=I.un (Un.kept k) (I.hok.kept k)
theorem Inv.laid{o:HO}(I:Inv X pins σ H s)(k:∀ b u,s.heap.get? b=some u->h'.get? b=some u)(d:s.heap.objs.size<=a)(c:gC X.prog X.w (upd H a o) h' a o) :
  Inv X pins σ (upd H a o) { s with heap:=h',toks:=t' }:=I.un (Un.laid k d (I.hok.fresh d)) (I.hok.laid k d c)
theorem Inv.write{x e:Addr}{o:HO}(I:Inv X pins σ H s)(d:Mut (H x))(f:e=x\/H e=some (.own x))(k:∀ b u,b≠e->s.heap.get? b=some u->h'.get? b=some u)(a:∃ u,h'.get? e=some u)(c:gC X.prog X.w (upd H x o) h' x o):Inv X pins σ (upd H x o) { s with heap:=h',toks:=t' }:=I.un (Un.write d f k a) (I.hok.write d f k a c)
theorem Inv.vw{a:Pn0}(I:Inv X pins σ H s)(h:∀ p∈a,s.heap.get? p.1=some p.2/\H p.1=none/\p.1≠X.env.locals/\p.1∉X.fs/\∀ v,p.2.data≠.cell v):Inv X a σ H s:=
 ⟨I.ok,I.os,I.bare,I.base,I.loc,I.cell,I.free,I.freeC,λp b=>(mm.mp b).elim (λz=>I.pin p (NB _ z)) (h p),I.hok,I.len⟩
theorem EY{N:Ls0}(c:N.Nodup){j:Nat}(a:N[i]?=some x)(b:N[j]?=some x):i=j:=by
 obtain⟨g,e⟩:=gS0 a;obtain⟨f,d⟩:=gS0 b;exact(List.getElem_inj c).mp (e.trans d.symm)
theorem B6{E:VS0}{v:V}{Q:Unit->Shared->Prop}(I:Inv X pins σ H s)(hN:X.N.Nodup)(N:X.N[i]?=some x)(t:Loc X.env.scope x)(r:RelV v u)(h:∀ s',Inv X pins (σ.set i (some v)) H s'->(∃ a,Xs a s.heap s'.heap/\(a=X.env.locals\/X.env.cells.lookup x=some a))->Q () s')(hf:autoParam (X.fn x=true\/X.env.scope.names.lookup x=some .local) wq0):wpAny M A (storeName X.env x u) Q E s:=by
 obtain⟨m,hn,hl⟩:=id I.loc;have O:(X.env.scope.kind == .class || (X.env.scope.kind == .module && X.env.locals != X.env.globals))=false:=by rw[I.ok.kind];rfl
 have C:i < σ.length:=by rw[I.len];exact(gS0 N).1
 have J:=I.cne;have g:∀ {a:Addr} {h':Heap},(∃ o,s.heap.get? a=some o/\H a=none)->Xs a s.heap h'->HOk X.prog X.w H h':=λ{a h'} ha f b ob e=>by
  obtain⟨_,_,w⟩:=ha;refine(I.hok b ob e).CT (λc S hc q=>(f.2 c ?_).trans q) (λ_ q=>q) λ_ _ q=>q;rintro rfl;rcases hc with rfl | hc
  .rw[w] at e;cases e
  .rw[w] at hc;cases hc
 rcases t with hk | hk
 .refine wpAny_storeName_local hk hn (λh' a2 f=>?_) O;obtain⟨oL,_,_,a1,_⟩:=id hn;refine h _ ⟨I.ok,I.os,I.bare,⟨λb o e n G t=>?_,λb o e n G t=>?_,I.base.free,λb o e t=>?_,I.base.tups,I.base.uY,I.base.tbls⟩,⟨_,a2,λj y W l B e3=>?_⟩,λy c e=>?_,I.free,I.freeC,λp hp=>?_,g ⟨oL,a1,I.free⟩ f,by simpa using I.len⟩ ⟨_,f,.inl rfl⟩
  .exact(f.2 b (oj (ih (hH e) I.ok.above))).trans (I.base.keep b o e n G t)
  .obtain⟨Z,l⟩:=I.base.slot b o e n G t;exact⟨Z,(f.2 b (oj (ih (hH e) I.ok.above))).trans l⟩
  .obtain⟨o',l⟩:=I.base.there b o e t;exact⟨o',(f.2 b (oj (ih (hH e) I.ok.above))).trans l⟩
  .by_cases D:j=i
   .subst D;rw[N] at l;cases l;rw[YZ C] at B;cases B;exact⟨u,r,.inl ⟨hk,by simp⟩⟩
   .rw[Zw (rl D)] at B;obtain⟨Y,r',q⟩:=hl j y W l B e3;refine⟨Y,r',?_⟩;rcases q with ⟨k,e⟩ | ⟨k,c,e,z⟩
    .refine .inl ⟨k,?_⟩;have:y≠x:=λe=>D (EY hN l (e ▸ N));simp [this,e]
    .exact .inr ⟨k,c,e,z.sameBut f (J y c e)⟩
  .obtain⟨S,z⟩:=I.cell y c e;exact⟨S,z.sameBut f (J y c e)⟩
  .obtain⟨e,n,T,nf,d⟩:=I.pin p hp;exact⟨(f.2 p.1 T).trans e,n,T,nf,d⟩
 .have F:X.fn x=true:=by
   rcases hf with z | z
   .exact z
   .rw[z] at hk;cases hk
  obtain⟨c,hc⟩:=I.ok.has x (.inl hk);obtain⟨S,z⟩:=I.cell x c hc;refine wpAny_storeName_cell I.ok.kind hk hc z (λh' R f=>?_);obtain⟨oc,L,K⟩:=id z;refine h { s with heap:=h' } ⟨I.ok,I.os,I.bare,⟨λb o e n G t=>?_,λb o e n G t=>?_,I.base.free,λb o e t=>?_,I.base.tups,I.base.uY,I.base.tbls⟩,⟨m,hn.sameBut f (rl (J x c hc)),λj y W l B e3=>?_⟩,λy U e=>?_,I.free,I.freeC,λp hp=>?_,g ⟨oc,L,I.freeC x c hc⟩ f,by simpa using I.len⟩ ⟨c,f,.inr hc⟩
  .exact(f.2 b (oj (ih (hH e) (I.ok.cab x c F hc)))).trans (I.base.keep b o e n G t)
  .obtain⟨Z,l⟩:=I.base.slot b o e n G t;exact⟨Z,(f.2 b (oj (ih (hH e) (I.ok.cab x c F hc)))).trans l⟩
  .obtain⟨o',l⟩:=I.base.there b o e t;exact⟨o',(f.2 b (oj (ih (hH e) (I.ok.cab x c F hc)))).trans l⟩
  .by_cases D:j=i
   .subst D;rw[N] at l;cases l;rw[YZ C] at B;cases B;exact⟨u,r,.inr ⟨.inl hk,c,hc,R⟩⟩
   .rw[Zw (rl D)] at B;obtain⟨Y,r',q⟩:=hl j y W l B e3;refine⟨Y,r',?_⟩;rcases q with q | ⟨k,U,e,z'⟩
    .exact .inl q
    .refine .inr ⟨k,U,e,z'.sameBut f ?_⟩;rintro rfl;exact D (EY hN l (I.ok.inj _ _ _ e hc ▸ N))
  .by_cases P:U=c
   .subst P;exact⟨_,R⟩
   .obtain⟨w2,z2⟩:=I.cell y U e;exact⟨w2,z2.sameBut f P⟩
  .obtain⟨e,n,T,nf,d⟩:=I.pin p hp;refine⟨(f.2 p.1 ?_).trans e,n,T,nf,d⟩;intro q;rw[q,L] at e;have q':oc=p.2:=ov e;exact d S (by rw[<- q'];exact K)
theorem vf{E:VS0}{v:V}{Q:Unit->Shared->Prop}(I:Inv X pins σ H s)(d:X.N.Nodup)(b:X.N[i]?=some x)(a:Loc X.env.scope x)(r:RelV v u)(h:∀ s',Inv X pins (σ.set i (some v)) H s'->Q () s')(c:autoParam (X.fn x=true\/X.env.scope.names.lookup x=some .local) wq0):wpAny M A (storeName X.env x u) Q E s:=
 B6 I d b a r (λs' e _=>h s' e) c
theorem Inv.Vu{s':Shared}(I:Inv X pins σ H s)(g:s'.os=s.os)(u:Un (frs X.stack) ch H H' s.heap s'.heap)(a:HOk X.prog X.w H' s'.heap)(h:YC s'.gens)(d:∀ b∈ch,(b∈X.ex\/X.s₀.heap.objs.size<=b)/\b≠X.env.locals/\(∀ x c,X.env.cells.lookup x=some c->c≠b)/\∀ p∈X.pn++pins,p.1≠b):Inv X pins σ H' s':=by
 obtain⟨i,g',d',t',f⟩:=s';have e:f=s.os:=g;subst e;exact I.call (g':=g') (t':=t') (d':=d') u a h d
end
abbrev XK:=Value->Option Addr->Hp->Prop
abbrev St:=List (Option V)
abbrev VK:=V->Hp->Prop
abbrev TE:=St->Hp->VK->Prop
abbrev TT:=St->Hp->(Bool->Hp->Prop)->Prop
abbrev TA:=St->Hp->(List V->Hp->Prop)->Prop
set_option genInjectivity false in
structure Ends where
 nx:St->Hp->Prop
 rt:VK
 bk:St->Hp->Prop:=λ_ _=>False
 ct:St->Hp->Prop:=λ_ _=>False
abbrev TS:=Ends->St->Hp->Prop
variable {X:_2.Cx}{e tg l:XO}{t:_2.TA}{pos p:ab3}{σ:_2.St}{H:_2.Hp}{v y:_2.V}{ta te:_2.TE}{K:Fg0}{s':Wg}{tc:_2.TT}{es:List XO}{k n:Nat}{o:Option KB}{body:List ad0}{vs:List _2.V}{fp:La0}{R:aa2->Wg->Prop}{op:PySem.CmpOp}{r:List _2.V->_2.Hp->_2.VK->Prop}{C dx f:Wx}{g:Int->Int->Int}{Q:KB×Lv0->Wg->Prop}{us:Lv0}{prog:Qk}{name m qual:XJ}{kw:List (XJ×KB)}{base:ZR}{fd:ec}{ps:Ls0}{outer:List ae2}{E:_2.XK}{gV:List _2.V->List _2.V->List _2.V}{scope:PySem.Scope}{osl:Array (Option KB)}
def EP (X:Cx)(a:Pn0)(σ:St)(Q:VK)(u:Value)(b:Shared):Prop:=∃ v H',Inv X a σ H' b/\RelV v u/\Q v H'
def TP (X:Cx)(a:Pn0)(σ:St)(Q:Bool->Hp->Prop)(b:Bool)(c:Shared):Prop:=∃ H',Inv X a σ H' c/\Q b H'
def AP (X:Cx)(a:Pn0)(σ:St)(Q:List V->Hp->Prop)(us:Lv0)(b:Shared):Prop:=∃ vs H',Inv X a σ H' b/\Vals vs us/\Q vs H'
def SP (X:Cx)(a:Pn0)(D:Ends)(f:Flow)(b:Shared):Prop:=
 match f with
 | .next=>∃ σ' H',Inv X a σ' H' b/\D.nx σ' H'
 | .brk=>∃ σ' H',Inv X a σ' H' b/\D.bk σ' H'
 | .cont=>∃ σ' H',Inv X a σ' H' b/\D.ct σ' H'
 | .ret u=>∃ v σ' H',Inv X a σ' H' b/\RelV v u/\D.rt v H'
def PE (X:Cx)(e:Expr)(t:TE):Prop:=
 ∀ (pins:Pn0) (s:Shared) (σ:St) (H:Hp) (Q:VK),Inv X pins σ H s->t σ H Q->wpAny (model X.prog X.w) X.A (eval e X.env) (EP X pins σ Q) X.xe s
def PT (X:Cx)(e:Expr)(t:TT):Prop:=
 ∀ (pins:Pn0) (s:Shared) (σ:St) (H:Hp) (Q:Bool->Hp->Prop),Inv X pins σ H s->t σ H Q->wpAny (model X.prog X.w) X.A (isTrue e X.env (eval e X.env)) (TP X pins σ Q) X.xe s
def PW (X:Cx)(e:Expr)(t:TT):Prop:=
 ∀ (a:Sem Value) (pins:Pn0) (s:Shared) (σ:St) (H:Hp) (Q:Bool->Hp->Prop),Inv X pins σ H s->t σ H Q->wpAny (model X.prog X.w) X.A (isTrue e X.env a) (TP X pins σ Q) X.xe s
theorem PW.pt{t:TT}(h:PW X e t):PT X e t:=h _
def PA (X:Cx)(a:List Expr)(t:TA):Prop:=
 ∀ (pos:Pos) (pins:Pn0) (s:Shared) (σ:St) (H:Hp) (Q:List V->Hp->Prop),Inv X pins σ H s->t σ H Q->wpAny (model X.prog X.w) X.A (spliced (backTo pos (ew a X.env))) (AP X pins σ Q) X.xe s
def PS (X:Cx)(st:Stmt)(t:TS):Prop:=
 ∀ (pins:Pn0) (s:Shared) (σ:St) (H:Hp) (D:Ends),Inv X pins σ H s->t D σ H->wpAny (model X.prog X.w) X.A (exec st X.env) (SP X pins D) X.xe s
def PSs (X:Cx)(st:List Stmt)(t:TS):Prop:=
 ∀ (pins:Pn0) (s:Shared) (σ:St) (H:Hp) (D:Ends),Inv X pins σ H s->t D σ H->wpAny (model X.prog X.w) X.A (execs st X.env) (SP X pins D) X.xe s
theorem thn{b:Type}{t:Sem b}{Q c:b->Shared->Prop}{E:VS0}{s:Shared}(h:wpAny M A t Q E s)(d:∀ a s,Q a s->c a s):wpAny M A t c E s:=WT h d λ_ _ x=>x
section
def kS (i:Nat):TE:=λσ H Q=>∃ v,σ[i]?=some (some v)/\Q v H
def tC (v:V):TE:=λ_ H Q=>Q v H
theorem Di(q:X.N[i]?=some x)(k:Vis X.env.scope x)(d:autoParam ((x == ("__debug__":Str))=false) wP)(f:autoParam ((x == ("__classdict__":Str))=false) wP):PE X (.Name x pos) (kS i):=by
 intro b s j H Q I h;obtain⟨v,e,h⟩:=h;obtain⟨m,n,p⟩:=I.loc;obtain⟨u,r,l⟩:=p i x v q e k;have fin:EP X b j Q u s:=⟨v,H,I,r,h⟩;rcases l with ⟨hk,o⟩ | ⟨hk,c,g,a⟩
 .exact wpAny_Name (wpAny_loadName_local I.ok.kind hk n o fin) d
 .rcases hk with hk | hk
  .exact wpAny_Name (wpAny_loadName_cell I.ok.kind hk g a fin) d
  .exact wpAny_Name (wpAny_loadName_free I.ok.kind hk g a fin f) d
theorem Ge{i j pos}:PE X (.Constant (.int i) j pos) (tC (.int i)):=λ_ _ _ H _ I h=>wpAny_Constant_int ⟨.int i,H,I.tok _,⟨_,rfl⟩,h⟩
theorem TQ{b j pos}:PE X (.Constant (.bool b) j pos) (tC (.bl b)):=λ_ _ _ H _ I h=>Constant_bool ⟨.bl b,H,I,rfl,h⟩
theorem QK{x j pos}:PE X (.Constant (.str x) j pos) (tC (.str x)):=λ_ _ _ H _ I h=>Calls.Constant_str ⟨.str x,H,I.tok _,⟨_,rfl⟩,h⟩
def Gl (X:Cx)(x:Str):Prop:=X.env.kindOf x=some .globalImplicit
theorem sM{E:VS0}{a:Pn0}{s:Shared}{Q:VS0}(I:Inv X a σ H s)(c:Gl X x)(b:X.mg x=some u)(h:Q u s)(d:autoParam ((x == ("__debug__":Str))=false) wP):wpAny (model X.prog X.w) X.A (eval (.Name x pos) X.env) Q E s:=
 Yu I.ok.kind c (Calls.loadGlobal_global (by rw[I.ok.glob];exact I.mod.glob.keeps I.bk) b h) d
theorem nQ{E:VS0}{a:Pn0}{s:Shared}{Q:VS0}(I:Inv X a σ H s)(e:Gl X x)(d:X.mg x=none)(b:zp x=some u)(h:Q u s)(c:autoParam (x≠"__name__") wP)(f:autoParam ((x == ("__debug__":Str))=false) wP):wpAny (model X.prog X.w) X.A (eval (.Name x pos) X.env) Q E s:=by
 obtain⟨j,i,g⟩:=I.mod.blt;exact Yu I.ok.kind e (Calls.loadGlobal_builtin (by rw[I.ok.glob];exact I.mod.glob.keeps I.bk) d (by rw[I.ok.blt];exact i.keeps I.bk) ((g x c).trans b) h) f
theorem Dj(b:Gl X x)(a:X.mg x=some u)(r:RelV v u)(c:autoParam ((x == ("__debug__":Str))=false) wP):PE X (.Name x pos) (tC v):=
 λ_ _ _ H _ I h=>sM I b a ⟨v,H,I,r,h⟩ c
theorem Nj(d:Gl X x)(c:X.mg x=none)(a:zp x=some u)(r:RelV v u)(b:autoParam (x≠"__name__") wP)(e:autoParam ((x == ("__debug__":Str))=false) wP):PE X (.Name x pos) (tC v):=
 λ_ _ _ H _ I h=>nQ I d c a ⟨v,H,I,r,h⟩ b e
variable {a b:Expr}{tb:TE}
def tB (t:TE):TT:=λσ H Q=>t σ H λx H1=>∃ c,x=.bl c/\Q c H1
theorem Qs{t:TE}(h:PE X e t)(j:autoParam (∀ a,isTrue e X.env a=(do let v <- a;VT e.pos;holding [v] (truthy v))) wT):PT X e (tB t):=by
 intro b s c H Q I i;refine isTrue_plain (thn (h b s c H _ I i) λv m Z=>?_) (j _);obtain⟨x,l,k,f,g⟩:=Z;obtain⟨d,rfl,q⟩:=g;cases f;exact FS ⟨l,k,q⟩
variable {tA tB':TT}{rest:List Expr}
def P5 (t u:TT):TT:=λσ H Q=>t σ H λc H1=>if c=true then u σ H1 Q else Q false H1
def tOr (t u:TT):TT:=λσ H Q=>t σ H λc H1=>if c=true then Q true H1 else u σ H1 Q
def P2 (t:TT):TT:=λσ H Q=>t σ H λc H1=>Q (!c) H1
theorem MZ(f:PT X a tA):PW X (.BoolOp .And [a] pos) tA:=by
 intro g b s d H Q I h;refine isTrue_and (thn (f b s d H Q I h) λc i e=>?_);cases c with
 | true=>exact isTrue_and_nil e
 | false=>exact e
theorem Qq(f:PT X a tA):PW X (.BoolOp .Or [a] pos) tA:=by
 intro g b s d H Q I h;refine isTrue_or (thn (f b s d H Q I h) λc i e=>?_);cases c with
 | false=>exact isTrue_or_nil e
 | true=>exact e
theorem Qr(m:PT X a tA)(l:PW X (.BoolOp .And (b::rest) pos) tB'):PW X (.BoolOp .And (a::b::rest) pos) (P5 tA tB'):=by
 intro j d s e H Q I h;refine isTrue_and (thn (m d s e H _ I h) λc k Z=>?_);obtain⟨i,g,f⟩:=Z;cases c with
 | true=>exact l j d k e i Q g f
 | false=>exact⟨i,g,f⟩
theorem Tz(m:PT X a tA)(l:PW X (.BoolOp .Or (b::rest) pos) tB'):PW X (.BoolOp .Or (a::b::rest) pos) (tOr tA tB'):=by
 intro j d s e H Q I h;refine isTrue_or (thn (m d s e H _ I h) λc k Z=>?_);obtain⟨i,g,f⟩:=Z;cases c with
 | true=>exact⟨i,g,f⟩
 | false=>exact l j d k e i Q g f
theorem Qt(e:PT X a tA):PT X (.UnaryOp .Not a pos) (P2 tA):=by
 intro b s d H Q I h;exact isTrue_not (e b s d H (λc f=>Q (!c) f) I h)
def OU (ta a:TE):TE:=λσ H Q=>ta σ H λx H1=>∃ c,x=.bl c/\if c=true then a σ H1 Q else Q (.bl false) H1
def S_ (ta a:TE):TE:=λσ H Q=>ta σ H λx H1=>∃ c,x=.bl c/\if c=true then Q (.bl true) H1 else a σ H1 Q
theorem QM{op}{t:TE}(h:PE X a t):PE X (.BoolOp op [a] pos) t:=λb s c H Q I d=>BoolOp_one (h b s c H Q I d)
theorem QS(m:PE X a ta)(l:PE X (.BoolOp .And (b::rest) pos) tb):PE X (.BoolOp .And (a::b::rest) pos) (OU ta tb):=by
 intro d s f H Q I h;refine BoolOp_and (thn (m d s f H _ I h) λv j Z=>?_);obtain⟨x,i,g,k,e⟩:=Z;obtain⟨c,rfl,e⟩:=e;cases k;refine FS ?_;cases c with
 | true=>exact l d j f i Q g e
 | false=>exact⟨.bl false,i,g,rfl,e⟩
theorem TL(m:PE X a ta)(l:PE X (.BoolOp .Or (b::rest) pos) tb):PE X (.BoolOp .Or (a::b::rest) pos) (S_ ta tb):=by
 intro d s f H Q I h;refine BoolOp_or (thn (m d s f H _ I h) λv j Z=>?_);obtain⟨x,i,g,k,e⟩:=Z;obtain⟨c,rfl,e⟩:=e;cases k;refine FS ?_;cases c with
 | false=>exact l d j f i Q g e
 | true=>exact⟨.bl true,i,g,rfl,e⟩
end
def SqL (K:Fg0)(H:Hp)(a:Addr)(xs:List V):Prop:=
 Rd H a (.lst xs)\/
  ∃ (o:Obj) (its:Array Value) (n:Nat),K.lookup a=some o/\o.cls=.type "list"/\o.dict=none/\o.data=.seq its n/\its.size<=sizeLine/\Vals xs its.toList
def SqT (K:Fg0)(H:Hp)(a:Addr)(xs:List V):Prop:=
 Rd H a (.tup xs)\/
  ∃ (o:Obj) (its:Array Value) (n:Nat),K.lookup a=some o/\o.cls=.type "tuple"/\o.data=.seq its n/\its.size<=sizeLine/\Vals xs its.toList
noncomputable def WW:Value->Option V
 | .none=>some .non
 | .bool b=>some (.bl b)
 | .int i _=>some (.int i)
 | .str x _=>some (.str x)
 | .bytes b _=>some (.byt b)
 | .float b _=>some (.flt b)
 | .ref a=>some (.ref a)
 | .type n=>some (.ty n)
 | _=>none
theorem RelV.abs{x:V}(r:RelV x u):WW u=some x:=by
 cases x with
 | non=>cases r;rfl
 | bl _=>cases r;rfl
 | int _=>obtain⟨t,rfl⟩:=r;rfl
 | str _=>obtain⟨t,rfl⟩:=r;rfl
 | byt _=>obtain⟨t,rfl⟩:=r;rfl
 | flt _=>obtain⟨t,rfl⟩:=r;rfl
 | ref _=>cases r;rfl
 | ty _=>cases r;rfl
theorem RelV.inj{x:V}(r:RelV x u)(q:RelV y u):x=y:=ov (r.abs.symm.trans q.abs)
theorem Vals.inj:∀ {xs ys:List V} {us:Lv0},Vals xs us->Vals ys us->xs=ys
 | _,_,_,.nil,.nil=>rfl
 | _,_,_,.cons r t,.cons b a=>by rw[r.inj b,Vals.inj t a]
section
variable {pins:Pn0}{s:Shared}{xs ys:List V}
theorem SqL.of(h:H a=some (.lst xs)):SqL K H a xs:=.inl (.inl h)
theorem SqT.of(h:H a=some (.tup xs)):SqT K H a xs:=.inl (.inl h)
theorem Inv.list(I:Inv X pins σ H s)(h:SqL X.K H a xs):∃ its:Lv0,Vals xs its/\PlainL s.heap a its.toArray/\xs.length<=sizeLine:=by
 rcases h with h | ⟨o,its,n,c,f,d,b,g,r⟩
 .obtain⟨z,its,n,r,e⟩:=h.ok I.hok;exact⟨its,r,⟨_,n,e,rfl,rfl,rfl⟩,z⟩
 .refine⟨its.toList,r,⟨o,n,I.kIn a o c,f,d,by simpa using b⟩,?_⟩;have e:=r.length;simp only[Xf] at e;lia
theorem Inv.tuple(I:Inv X pins σ H s)(h:SqT X.K H a xs):∃ its:Lv0,Vals xs its/\IsTup s.heap a its.toArray/\xs.length<=sizeLine:=by
 rcases h with h | ⟨o,its,n,c,d,b,f,r⟩
 .obtain⟨z,its,r,p⟩:=h.ok I.hok;exact⟨its,r,p,z⟩
 .refine⟨its.toList,r,⟨o,I.kIn a o c,d,n,by simpa using b⟩,?_⟩;have e:=r.length;simp only[Xf] at e;lia
theorem Inv.KY(I:Inv X pins σ H s)(h:SqL X.K H a xs)(h':SqL X.K H a ys):xs=ys:=by
 obtain⟨b,r,⟨o,n,e,_,_,d⟩,_⟩:=I.list h;obtain⟨its',g,⟨j,k,c,_,_,f⟩,_⟩:=I.list h';rw[e] at c;cases c;rw[d] at f;injection f with i _
 have:b=its':=by simpa using congrArg Array.toList i
 subst this;exact r.inj g
theorem Inv.Ic(I:Inv X pins σ H s)(h:SqT X.K H a xs)(h':SqT X.K H a ys):xs=ys:=by
 obtain⟨b,r,⟨o,e,_,n,d⟩,_⟩:=I.tuple h;obtain⟨its',g,⟨j,c,_,k,f⟩,_⟩:=I.tuple h';rw[e] at c;cases c;rw[d] at f;injection f with i _
 have:b=its':=by simpa using congrArg Array.toList i
 subst this;exact r.inj g
end
noncomputable abbrev Cx.Bt (X:Cx)(E:VS0):Cx:={ X with xe:=E }
noncomputable abbrev Cx.nox (X:Cx):Cx:=X.Bt λ_ _=>False
theorem Cx.Ok.Bt(ok:X.Ok)(E:VS0):(X.Bt E).Ok:=
 ⟨ok.mod,ok.kind,ok.glob,ok.blt,ok.above,ok.inj,ok.has,ok.cab,ok.hd,ok.frames,ok.stk,ok.exf,ok.bs,ok.bsz,ok.noex,ok.exfs,ok.uX,ok.frf,ok.tb⟩
theorem Cx.Ok.qL{E:VS0}(ok:(X.Bt E).Ok):X.Ok:=
 ⟨ok.mod,ok.kind,ok.glob,ok.blt,ok.above,ok.inj,ok.has,ok.cab,ok.hd,ok.frames,ok.stk,ok.exf,ok.bs,ok.bsz,ok.noex,ok.exfs,ok.uX,ok.frf,ok.tb⟩
section
variable {pins:Pn0}{s:Shared}{E:VS0}
theorem Inv.Bt(I:Inv X pins σ H s)(E:VS0):Inv (X.Bt E) pins σ H s:=⟨I.ok.Bt E,I.os,I.bare,I.base,I.loc,I.cell,I.free,I.freeC,I.pin,I.hok,I.len⟩
theorem Inv.qL(I:Inv (X.Bt E) pins σ H s):Inv X pins σ H s:=⟨I.ok.qL,I.os,I.bare,I.base,I.loc,I.cell,I.free,I.freeC,I.pin,I.hok,I.len⟩
theorem SP.qL{D:Ends}{f:Flow}(h:SP (X.Bt E) pins D f s'):SP X pins D f s':=by
 cases f with
 | next=>obtain⟨a,b,I,q⟩:=h;exact⟨a,b,I.qL,q⟩
 | brk=>obtain⟨a,b,I,q⟩:=h;exact⟨a,b,I.qL,q⟩
 | cont=>obtain⟨a,b,I,q⟩:=h;exact⟨a,b,I.qL,q⟩
 | ret u=>obtain⟨v,a,b,I,r,q⟩:=h;exact⟨v,a,b,I.qL,r,q⟩
theorem PSs.nox{st:List Stmt}{t:TS}(h:PSs X.nox st t):PSs X st t:=λa s b H D I c=>
 WT (h a s b H D (I.Bt _) c) (λ_ _ q=>q.qL) λ_ _ z=>sO z
end
section
variable {st:Stmt}{rest:List Stmt}{t u:TS}
def OS:TS:=λD σ H=>D.nx σ H
def P0 (t u:TS):TS:=λD σ H=>t { D with nx:=u D } σ H
theorem M6:PSs X [] OS:=λ_ _ a H _ I h=>Yc ⟨a,H,I,h⟩
theorem EG(g:PS X st t)(e:PSs X rest u):PSs X (st::rest) (P0 t u):=by
 intro a s c H D I h;refine wpAny_execs_cons (thn (g a s c H { D with nx:=u D } I h) λf d q=>?_);cases f with
 | next=>
  obtain⟨b,j,i,q⟩:=q;exact e a d b j D i q
 | ret v=>exact q
 | brk=>exact q
 | cont=>exact q
theorem M5(c:PS X st t):PSs X [st] t:=by
 intro a s b H D I h;refine wpAny_execs_cons (thn (c a s b H D I h) λf d q=>?_);cases f with
 | next=>exact Yc q
 | ret v=>exact q
 | brk=>exact q
 | cont=>exact q
theorem Inv.quiet{a:Pn0}{s:Shared}(I:Inv X a σ H s):interactive X.env=false:=by simp [interactive,I.ok.kind]
def OT (te:TE):TS:=λD σ H=>te σ H λ_ H1=>D.nx σ H1
theorem M7(f:PE X e te)(d:autoParam (XQ e none pos.line X.env=pure false) wE):PS X (.Expr e pos) (OT te):=by
 intro a s b H D I h;exact wpAny_Expr_any (thn (f a s b H _ I h) λv j ⟨x,i,g,k,c⟩=>⟨b,i,g,c⟩) I.quiet d
def S9 (te:TE):TS:=λD σ H=>te σ H D.rt
theorem Qw(f:PE X e te):PS X (.Return (some e) pos) (S9 te):=by
 intro a s b H D I h;exact wpAny_Return_some (thn (f a s b H _ I h) λv j ⟨x,i,g,c,d⟩=>⟨x,b,i,g,c,d⟩)
def Tb (c:TT)(t u:TS):TS:=λD σ H=>c σ H λb H1=>if b=true then t D σ H1 else u D σ H1
theorem TF{c:Expr}{a b:List Stmt}(l:PT X c tc)(n:PSs X a t)(m:PSs X b u):PS X (.If c a b pos) (Tb tc t u):=by
 intro e s f H D I h;refine wpAny_If (thn (l e s f H _ I h) λd g Z=>?_);obtain⟨k,j,i⟩:=Z;cases d with
 | true=>exact n e g f k D j i
 | false=>exact m e g f k D j i
def JL:TS:=λ_ _ _=>False
theorem Km:PS X st JL:=λ_ _ _ _ _ _ h=>h.elim
end
abbrev TG:=V->St->Hp->(St->Hp->Prop)->Prop
abbrev TGs:=List V->St->Hp->(St->Hp->Prop)->Prop
def PG (X:Cx)(target:Expr)(t:TG):Prop:=
 ∀ (pins:Pn0) (s:Shared) (σ:St) (H:Hp) (v:V) (u:Value) (Q:St->Hp->Prop),Inv X pins σ H s->RelV v u->t v σ H Q->
  wpAny (model X.prog X.w) X.A (assign target X.env u) (λ_ s'=>∃ σ' H',Inv X pins σ' H' s'/\Q σ' H') X.xe s
def PGs (X:Cx)(a:List Expr)(t:TGs):Prop:=
 ∀ (pins:Pn0) (s:Shared) (σ:St) (H:Hp) (vs:List V) (us:Lv0) (Q:St->Hp->Prop),Inv X pins σ H s->Vals vs us->t vs σ H Q->
  wpAny (model X.prog X.w) X.A (ZL ((PP a X.env).map (·.2)) us) (λ_ s'=>∃ σ' H',Inv X pins σ' H' s'/\Q σ' H') X.xe s
noncomputable abbrev SK:=V->V->V->Hp->(Hp->Prop)->Prop
def VR (X:Cx)(t:SK):Prop:=
 ∀ (pins:Pn0) (s:Shared) (σ:St) (H:Hp) (o i v:V) (a b u:Value) (Q:Hp->Prop),Inv X pins σ H s->RelV o a->RelV i b->RelV v u->t o i v H Q->
  wpAny (model X.prog X.w) X.A (setItem a b u) (λ_ s'=>∃ H',Inv X pins σ H' s'/\Q H') X.xe s
def rH (i:Nat):TG:=λv σ H Q=>Q (σ.set i (some v)) H
theorem aL(e:X.N.Nodup)(c:X.N[i]?=some x)(b:Loc X.env.scope x)(d:autoParam (X.fn x=true\/X.env.scope.names.lookup x=some .local) wq0):PG X (.Name x pos) (rH i):=by
 intro a s g H v u Q I r h;exact wpAny_assign_Name (vf I e c b r (λj f=>⟨_,H,f,h⟩) d)
def U7:TGs:=λvs σ H Q=>vs=[]/\Q σ H
def Pp (t:TG)(u:TGs):TGs:=λvs σ H Q=>∃ v r,vs=v::r/\t v σ H λσ' H'=>u r σ' H' Q
theorem cj:PGs X [] U7:=by
 intro a s b H c d Q I r h;obtain⟨e,h⟩:=h;subst e;cases r;exact assignInOrder_nil ⟨b,H,I,h⟩
theorem aD{t:TG}{u:TGs}(k:PG X e t)(j:PGs X es u)(i:autoParam ((PP (e::es) X.env).map (·.2)=assign e X.env::(PP es X.env).map (·.2)) wE):PGs X (e::es) (Pp t u):=by
 intro a s c H o q Q I r h;obtain⟨v,p,l,h⟩:=h;subst l;cases r with
 | cons r f=>
  rw[i];refine Yv (thn (k a s c H _ _ _ I r h) λ_ d Z=>?_);obtain⟨b,n,m,g⟩:=Z;exact j a d b n _ _ Q m f g
def R1 (K:Fg0)(n:Nat)(t:TGs):TG:=λv σ H Q=>∃ a xs,v=.ref a/\SqT K H a xs/\xs.length=n/\t xs σ H Q
theorem Ku{t:TGs}(y:X.calm=true)(h:PGs X es t)(w:autoParam ((PP es X.env).length=n) wE)(f:autoParam ((PP es X.env).findIdx? (·.1)=none) wE):PG X (.Tuple es k pos) (R1 X.K n t):=by
 intro c s g H v u Q I r d;obtain⟨a,j,A,q,x,d⟩:=d;subst A;cases r;obtain⟨l,i,p,C⟩:=I.tuple q;refine assign_Tuple_tuple (I.ok.hd y) p (by simp [w,<- x,i.length]) f λz m=>?_;have B:Inv X c g H { s with heap:=z }:=I.kept (t':=s.toks) λb o e=>m b o (oj (hH e)) e;exact h c _ g H j _ Q B (by simpa using i) d
def Le (a b:TE)(t:SK):TG:=λv σ H Q=>a σ H λo H1=>b σ H1 λi H2=>t o i v H2 λc=>Q σ c
theorem Kv{o i:Expr}{c d:TE}{t:SK}(p:PE X o c)(q:PE X i d)(n:VR X t)(w:autoParam (∀ v,assign (.Subscript o i pos) X.env v=(do
   let O <- holding [v] (eval o X.env)
   let U <- holding [v,O] (eval i X.env)
   VT pos
   holding [v,O,U] (setItem O U v)
   release [v,O,U] [])) wT):PG X (.Subscript o i pos) (Le c d t):=by
 intro a s b H v u Q I r h;rw[w];refine bD (MX (thn (p a s b H _ I h) λO f Z=>?_));obtain⟨x,E,B,j,m⟩:=Z;refine bD (MX (thn (q a f b E _ B m) λU e Z=>?_));obtain⟨y,D,A,g,l⟩:=Z;refine bD (Xh (bD (MX (thn (n a e b D x y v O U u _ A j g r l) λ_ F Z=>?_))));obtain⟨C,z,k⟩:=Z;exact wpAny_release ⟨b,C,z,k⟩
def xj (te:TE)(g:TG):TS:=λD σ H=>te σ H λx H1=>g x σ H1 D.nx
theorem FZ{g:TG}(l:PE X e te)(k:PG X tg g)(j:autoParam (Ws [tg] e pos.line X.env=pure false) wE)(i:autoParam (Wt [tg] e X.env=pure none) wE)(m:autoParam ((PP [tg] X.env).map (·.2)=[assign tg X.env]) wE):PS X (.Assign [tg] e pos) (xj te g):=by
 intro a s b H D I h;refine wpAny_Assign_stores (thn (l a s b H _ I h) λv c Z=>?_) j i;obtain⟨x,o,n,d,f⟩:=Z;rw[m];exact thn (k a c b o x v _ n d f) λ_ p q=>q
theorem Qv{a:Pos}(n:X.N.Nodup)(k:X.N[i]?=some x)(g:Loc X.env.scope x)(m:PE X e te)(j:autoParam (XQ e (some (.Name x a)) pos.line X.env=pure false) wE)(l:autoParam (X.fn x=true\/X.env.scope.names.lookup x=some .local) wq0) :
  PS X (.Assign [.Name x a] e pos) (xj te (rH i)):=by
 intro b s c H D I h;refine wpAny_Assign_Name (thn (m b s c H _ I h) λv t Z=>?_) j;obtain⟨y,q,p,d,f⟩:=Z;exact vf p n k g d (λr o=>⟨_,q,o,f⟩) l
def P1 (i j:Nat)(ta:TA):TS:=λD σ H=>ta σ H λvs H1=>∃ v w,vs=[v,w]/\D.nx ((σ.set i (some v)).set j (some w)) H1
theorem Kl{j:Nat}{y:Str}{a b:Expr}{ta:TA}{m l n:Pos}{kt k2 O}(R:X.calm=true)(B:X.N.Nodup)(Q:X.N[i]?=some x)(P:X.N[j]?=some y)(t:i≠j)(A:X.env.scope.names.lookup x=some .local)(z:X.env.scope.names.lookup y=some .local)(S:PA X [a,b] ta)(M:Wt [.Tuple [.Name x m,.Name y l] kt n] (.Tuple [a,b] k2 O) X.env=pure (some [x,y]))(N:autoParam (Ws [.Tuple [.Name x m,.Name y l] kt n] (.Tuple [a,b] k2 O) pos.line X.env=pure false) wE) :
  PS X (.Assign [.Tuple [.Name x m,.Name y l] kt n] (.Tuple [a,b] k2 O) pos) (P1 i j ta):=by
 intro c s u H D I h;rw[exec_Assign_arm];refine bD (Xh ?_);rw[N];refine bD (hF ?_);rw[if_neg (by decide)];refine bD (Tuple_ (thn (S _ c s u H _ I h) λF f Z=>?_));obtain⟨vs,E,Y,J,k⟩:=Z;obtain⟨v,w,T,k⟩:=k;subst T;obtain⟨d,u2,rfl,G,g⟩:∃ d u2,F=[d,u2]/\RelV v d/\RelV w u2:=by
  cases J with
  | cons p q=>
   cases q with
   | cons L K=>
    cases K;exact⟨_,_,rfl,p,L⟩
 refine Gc ?_ (by show 2<=sizeLine;decide);have W:Inv X c u E { f with heap:=f.heap.push { cls:=.type "tuple",data:=.seq [d,u2].toArray } }:=Y.kept (t':=f.toks) λb o e=>dV _ e;rw[M];refine bD (hF ?_);show wpAny (model X.prog X.w) X.A (do rule "assign.swapped-stores";let items <- unpackItems (.ref f.heap.objs.size) 2 none;ZL [λv=>bindName X.env y v,λv=>bindName X.env x v] items.reverse;pure Flow.next) _ _ _;refine bD (ZU (bD (unpackItems_tuple (items:=#[d,u2]) (I.ok.hd R) (ae3 f.heap _) λh' r=>?_)));have V:=W.kept (h':=h') (t':=f.toks) λb o e=>r b o (oj (hH e)) e;show wpAny _ _ (ZL [λv=>bindName X.env y v,λv=>bindName X.env x v] [u2,d] >>= λ_=>pure Flow.next) _ _ _;refine bD (Yv (wpAny_bindName (vf V B P (.inl z) g (λs2 U=>?_) (.inr z))));refine Yv (wpAny_bindName (vf U B Q (.inl A) G (λs3 C=>assignInOrder_nil (hF ?_)) (.inr A)));rw[List.set_comm _ _ (rl t)] at C;exact⟨_,E,C,k⟩
def JK (c:TT)(d:TS):TS:=λD σ H=>∃ W:Nat->St->Hp->Prop,(∃ m,W m σ H)/\∀ m σ H,W m σ H->
 c σ H λb H1=>if b=true then ∃ N:St->Hp->Prop,(∀ σ' H',N σ' H'->∃ a,a < m/\W a σ' H')/\d { D with nx:=N,ct:=N,bk:=D.nx } σ H1 else D.nx σ H1
theorem Kk{c:Expr}{t:TS}(u:ab4 (model X.prog X.w) X.A X.env X.xe)(L:PT X c tc)(M:PSs X body t):PS X (.While c body [] pos) (JK tc t):=by
 intro d s B H D I h;obtain⟨W,⟨K,E⟩,i⟩:=h;refine wpAny_While (codeAny_whileLoop (λn J=>∃ g A,Inv X d g A J/\W n g A) ?_ K ⟨B,H,I,E⟩);rintro n G ⟨e,z,O,C⟩;refine TX u (thn (L d G e z _ O (i n e z C)) λb F Z=>?_);obtain⟨y,x,l⟩:=Z;cases b with
 | true=>
  obtain⟨N,w,l⟩:=l;rw[if_pos rfl];refine TX u (thn (M d F e y _ x l) λf P k=>?_);cases f with
  | next=>
   obtain⟨a,j,r,o⟩:=k;obtain⟨p,q,m⟩:=w a j o;exact⟨p,q,a,j,r,m⟩
  | cont=>
   obtain⟨a,j,r,o⟩:=k;obtain⟨p,q,m⟩:=w a j o;exact⟨p,q,a,j,r,m⟩
  | brk=>exact k
  | ret v=>exact k
 | false=>
  rw[if_neg pF];exact Yc ⟨e,y,x,l⟩
set_option genInjectivity false in
structure It where
 go:Nat->Hp->Prop
 yld:Nat->Hp->V->Hp->Prop
 stop:Nat->Hp->Prop
def j7 (X:Cx)(a:Pn0)(H:Hp)(b:Addr):Prop:=
 H b=none/\b≠X.env.locals/\b∉X.fs/\(b∈X.ex\/X.s₀.heap.objs.size<=b)/\(∀ x c,X.env.cells.lookup x=some c->c≠b)/\∀ p∈X.pn++a,p.1≠b
theorem Inv.za{a:Pn0}{f:Hp}{s:Shared}{b:Addr}(I:Inv X a σ H s)(d:s.heap.objs.size<=b)(h:f b=none):j7 X a f b:=by
 refine⟨h,Xa (ih I.lt d),I.V7 d,.inr (zq I.sz d),λx c e z=>?_,λp g z=>?_⟩
 .obtain⟨v,q⟩:=I.cell x c e;exact absurd (ih q.lt (by rw[z];exact d)) (vl _)
 .exact absurd (ih (hH (I.pin p g).1) (by rw[z];exact d)) (vl _)
structure Turn (P:Qk) (w:World) (K:Fg0) (tg:Expr) (J:It) (fp:La0) (it:Addr) (tn:Nat->Heap->Prop):Prop where
 mem:it∈fp
 obj:∀ i h,tn i h->∀ b∈fp,∃ o,h.get? b=some o/\∀ v,o.data≠.cell v
 keep:∀ i h h',tn i h->(∀ b∈fp,∀ o,h.get? b=some o->h'.get? b=some o)->tn i h'
 item:∀ (X:Cx),X.prog=P->X.w=w->X.K=K->X.calm=true->∀ (i:Nat) (pins:Pn0) (s:Shared) (σ:St) (H:Hp) (E:VS0),Inv X pins σ H s->(∀ b∈fp,j7 X pins H b)->tn i s.heap->J.go i H->
  wpAny (model P w) X.A (pyNext (.ref it)) (λr s1=>∃ u,r=some u/\
   wpAny (model P w) X.A (KF tg (.ref it) u) (λ_ s2=>∃ x H',Inv X pins σ H' s2/\RelV x u/\J.yld i H x H'/\tn (i + 1) s2.heap/\∀ b∈fp,H' b=none) E s1) E s
 done:∀ (X:Cx),X.prog=P->X.w=w->X.K=K->X.calm=true->∀ (i:Nat) (pins:Pn0) (s:Shared) (σ:St) (H:Hp) (E:VS0),Inv X pins σ H s->(∀ b∈fp,j7 X pins H b)->tn i s.heap->J.stop i H->
  wpAny (model P w) X.A (pyNext (.ref it)) (λr s1=>r=none/\Inv X pins σ H s1) E s
 self:∀ (A:Around) (i:Nat) (s:Shared) (Q:VS0) (E:VS0),tn i s.heap->Q (.ref it) s->wpAny (model P w) A (pyIter (.ref it)) Q E s
abbrev TI:=St->Hp->(It->Hp->Prop)->Prop
def PIE (X:Cx)(a:Pn0)(σ:St)(e:Expr)(R:It->Hp->Prop)(c:Value)(d:Shared):Prop:=
 ∃ (it:Addr) (fp:La0) (tn:Nat->Heap->Prop) (J:It) (H':Hp),c=.ref it/\Inv X a σ H' d/\Turn X.prog X.w X.K e J fp it tn/\tn 0 d.heap/\(∀ b∈fp,j7 X a H' b)/\R J H'
def PI (X:Cx)(b iter:Expr)(a:TI):Prop:=
 ∀ (pins:Pn0) (s:Shared) (σ:St) (H:Hp) (R:It->Hp->Prop),Inv X pins σ H s->a σ H R->
  wpAny (model X.prog X.w) X.A (eval iter X.env) (λv c=>wpAny (model X.prog X.w) X.A (pyIter v) (PIE X pins σ b R) X.xe c) X.xe s
theorem E8{E:VS0}{s:Shared}{it:Addr}{o:Obj}{n:String}{vs:Array Value}{Q:Unit->Shared->Prop}(b:s.heap.get? it=some o)(e:o.cls=.type n)(d:o.data=.fields vs)(c:["enumerate","zip","dict_itemiterator","dict_reverseitemiterator","odict_iterator","itertools.zip_longest","itertools.pairwise"].contains n=false)(a:Q () s):wpAny M A (KF tg (.ref it) u) Q E s:=by
 unfold KF;cases tg <;> first
  | exact hF a
  | (cases u <;> first
    | exact hF a
    | (refine bD (wpAny_load b ?_);rw[e,d];show wpAny M A (if (["enumerate","zip","dict_itemiterator","dict_reverseitemiterator","odict_iterator","itertools.zip_longest","itertools.pairwise"].contains n && vs[0]? == some (rawInt _))=true then _ else _) Q E s;rw[if_neg (by intro h;rw[c,ad1] at h;cases h)];exact hF a))
noncomputable def Itl (K:Fg0)(a:Addr):It:=
 ⟨λi H=>∃ xs x,SqL K H a xs/\xs[i]?=some x,λi H x H'=>H'=H/\∀ xs,SqL K H a xs->xs[i]?=some x,λi H=>∃ xs,SqL K H a xs/\xs.length<=i⟩
noncomputable def Itt (K:Fg0)(a:Addr):It:=
 ⟨λi H=>∃ xs x,SqT K H a xs/\xs[i]?=some x,λi H x H'=>H'=H/\∀ xs,SqT K H a xs->xs[i]?=some x,λi H=>∃ xs,SqT K H a xs/\xs.length<=i⟩
noncomputable def Itr (lo:Int)(n:Nat):It:=⟨λi _=>i < n,λi H x H'=>H'=H/\x=.int (lo + i),λi _=>n<=i⟩
theorem Ia(a it:Addr):Turn P w K tg (Itl K a) [it] it (λi h=>h.IsListIter it a i) where
 mem:=by simp
 obj:=λi h st b g=>by
  have e:b=it:=by simpa using g
  subst e;obtain⟨o,e,c,d⟩:=st;exact⟨o,e,λv z=>by rw[d] at z;cases z⟩
 keep:=λi h n st k=>st.at λo e=>k it (by simp) o e
 item:=by
  intro X B y C N i f s M H E I m st A;subst B y C;obtain⟨O,x,l,t⟩:=A;obtain⟨r,q,p,S⟩:=I.list l;obtain⟨u,U,R⟩:=q.get t;obtain⟨L,J,V,G,F,D⟩:=m it (by simp);refine wpAny_pyNext_list_item st p.isList (x:=u) (by simpa using U) λn j Q=>?_;have Y:Inv X f M H { s with heap:=n }:=I.turned (t':=s.toks) (λb o g e=>(Q.2 b g).trans e) L J G F D;obtain⟨o,e,c,d⟩:=id j;exact⟨u,rfl,E8 (s:={ s with heap:=n }) e c d (by decide) ⟨x,H,Y,R,⟨rfl,λZ T=>by rw[I.KY T l];exact t⟩,j,λb g=>(m b g).1⟩⟩
 done:=by
  intro X B y C N i f s M H E I m st A;subst B y C;obtain⟨O,l,t⟩:=A;obtain⟨r,q,p,S⟩:=I.list l;obtain⟨L,J,V,G,F,D⟩:=m it (by simp);have hl:=q.length;exact wpAny_pyNext_list_end (I.ok.hd N) st p.isList (by simp;lia) λn W=>⟨rfl,I.turned (t':=s.toks) (λb o g e=>W b o g e) L J G F D⟩
 self:=λ_ _ _ _ _ st h=>wpAny_pyIter_listiter st h
theorem FE(a it:Addr):Turn P w K tg (Itt K a) [it] it (λi h=>h.IsTupleIter it a i) where
 mem:=by simp
 obj:=λi h st b j=>by
  have e:b=it:=by simpa using j
  subst e;obtain⟨o,e,c,d⟩:=st;exact⟨o,e,λv z=>by rw[d] at z;cases z⟩
 keep:=λi h q st k=>st.at λo e=>k it (by simp) o e
 item:=by
  intro X B y C N i f s M H E I n st A;subst B y C;obtain⟨O,x,m,t⟩:=A;obtain⟨g,r,p,S⟩:=I.tuple m;obtain⟨u,U,R⟩:=r.get t;obtain⟨L,J,V,G,F,D⟩:=n it (by simp);refine wpAny_pyNext_tuple_item st (show s.heap.IsTuple a g.toArray from p) (x:=u) (by simpa using U) λq l Q=>?_;have Y:Inv X f M H { s with heap:=q }:=I.turned (t':=s.toks) (λb o j e=>(Q.2 b j).trans e) L J G F D;obtain⟨o,e,c,d⟩:=id l;exact⟨u,rfl,E8 (s:={ s with heap:=q }) e c d (by decide) ⟨x,H,Y,R,⟨rfl,λZ T=>by rw[I.Ic T m];exact t⟩,l,λb j=>(n b j).1⟩⟩
 done:=by
  intro X B y C N i f s M H E I n st A;subst B y C;obtain⟨O,m,t⟩:=A;obtain⟨g,r,p,S⟩:=I.tuple m;obtain⟨L,J,V,G,F,D⟩:=n it (by simp);have hl:=r.length;exact wpAny_pyNext_tuple_end (I.ok.hd N) st (show s.heap.IsTuple a g.toArray from p) (by simp;lia) λq W=>⟨rfl,I.turned (t':=s.toks) (λb o j e=>W b o j e) L J G F D⟩
 self:=λ_ _ _ _ _ st h=>wpAny_pyIter_tupleiter st h
theorem FF(it:Addr)(lo:Int)(n:Nat):Turn P w K tg (Itr lo n) [it] it (λi h=>Zx h it (lo + (i:Nat) * 1) ((n:Int) - (i:Nat)) 1) where
 mem:=by simp
 obj:=λi h st b c=>by
  have e:b=it:=by simpa using c
  subst e;exact⟨_,st,λv z=>by
   have D:Data.fields _=Data.cell v:=z;cases D⟩
 keep:=λi h g st k=>k it (by simp) _ st
 item:=by
  intro X p j q m i a s B H E I f st l;subst p j q;obtain⟨A,y,J,x,u,r⟩:=f it (by simp);have W:=Walks.range (prog:=X.prog) (w:=X.w) (I.ok.hd m) it lo 1 n;refine W.item i s _ _ l st λv g C G d F=>?_;obtain⟨t,rfl⟩:=G;have M:Inv X a B H { s with heap:=g,toks:=C }:=I.turned (λb o c e=>F b o (by simpa using c) e) A y x u r;refine⟨_,rfl,E8 (s:={ s with heap:=g,toks:=C }) (n:="range_iterator") d rfl rfl (by decide) ⟨.int (lo + i),H,M,⟨t,?_⟩,⟨rfl,rfl⟩,d,λb c=>(f b c).1⟩⟩;rw[Int.mul_one]
 done:=by
  intro X p j q m i a s B H E I f st l;subst p j q;obtain⟨A,y,J,x,u,r⟩:=f it (by simp);exact Za (I.ok.hd m) st (by have:n<=i:=l;lia) λg L=>⟨rfl,I.turned (t':=s.toks) (λb o c e=>L b o c e) A y x u r⟩
 self:=λ_ _ _ _ _ st h=>Xt st h
def Pg (K:Fg0)(tl:TE):TI:=λσ H R=>tl σ H λx H1=>∃ a,x=.ref a/\(∃ xs,SqL K H1 a xs)/\R (Itl K a) H1
def UJ (K:Fg0)(tl:TE):TI:=λσ H R=>tl σ H λx H1=>∃ a,x=.ref a/\(∃ xs,SqT K H1 a xs)/\R (Itt K a) H1
theorem Nb{tl:TE}(n:PE X l tl):PI X tg l (Pg X.K tl):=by
 intro c s g H R I h;refine thn (n c s g H _ I h) λv d Z=>?_;obtain⟨x,t,f,i,j⟩:=Z;obtain⟨a,e,⟨u,m⟩,q⟩:=j;subst e;cases i;obtain⟨k,w,p,y⟩:=f.list m;refine wpAny_pyIter_list p.isList ?_;refine⟨d.heap.objs.size,[d.heap.objs.size],_,_,t,rfl,f.kept (t':=d.toks) λb o e=>dV _ e,Ia a _,⟨_,ks _ rfl,rfl,rfl⟩,λb r=>?_,q⟩;have e:b=d.heap.objs.size:=by simpa using r
 subst e;exact f.za (ek _) (f.hok.fresh (ek _))
theorem QH{tl:TE}(n:PE X l tl):PI X tg l (UJ X.K tl):=by
 intro d s i H R I h;refine thn (n d s i H _ I h) λv c Z=>?_;obtain⟨x,t,f,j,k⟩:=Z;obtain⟨a,e,⟨u,m⟩,q⟩:=k;subst e;cases j;obtain⟨g,w,p,y⟩:=f.tuple m;refine wpAny_pyIter_tuple (show c.heap.IsTuple a g.toArray from p) ?_;refine⟨c.heap.objs.size,[c.heap.objs.size],_,_,t,rfl,f.kept (t':=c.toks) λb o e=>dV _ e,FE a _,⟨_,ks _ rfl,rfl,rfl⟩,λb r=>?_,q⟩;have e:b=c.heap.objs.size:=by simpa using r
 subst e;exact f.za (ek _) (f.hok.fresh (ek _))
theorem Kf{c:Pn0}{s:Shared}{R:It->Hp->Prop}{E:VS0}{lo a:Int}{t u v:Tok}{d:Nat}(I:Inv X c σ H s)(k:-(2 ^ 62)<=lo)(j:lo < 2 ^ 62)(i:-(2 ^ 62)<=a)(h:a < 2 ^ 62)(q:R (Itr lo (a - lo).toNat) H):wpAny (model X.prog X.w) X.A (pyIter (.ref s.heap.objs.size)) (PIE X c σ tg R) E { s with heap:=s.heap.push { cls:=.type "range",data:=.fields #[.int lo t,.int a u,.int 1 v] },toks:=d }:=by
 refine wpAny_pyIter_range (ae6 ..) (small_one k j i h) ?_;have f:Inv X c σ H { s with heap:=s.heap.push { cls:=.type "range",data:=.fields #[.int lo t,.int a u,.int 1 v] },toks:=d }:=I.kept λb o e=>dV _ e;refine⟨(s.heap.push { cls:=.type "range",data:=.fields #[.int lo t,.int a u,.int 1 v] }).objs.size,[(s.heap.push { cls:=.type "range",data:=.fields #[.int lo t,.int a u,.int 1 v] }).objs.size],_,_,H,rfl,
  f.kept (t':=d) λb o e=>dV _ e,FF _ lo (a - lo).toNat,?_,λb g=>?_,q⟩
 .have m:lo + ((0:Nat):Int) * 1=lo:=by simp
  have l:(((a - lo).toNat:Nat):Int) - ((0:Nat):Int)=Xo lo a 1:=by rw[rangeSize_one];split <;> lia
  show Zx _ _ (lo + ((0:Nat):Int) * 1) ((((a - lo).toNat:Nat):Int) - ((0:Nat):Int)) 1;rw[m,l];exact ks _ rfl
 .have e:b=(s.heap.push { cls:=.type "range",data:=.fields #[.int lo t,.int a u,.int 1 v] }).objs.size:=by simpa using g
  subst e;exact f.za (ek _) (f.hok.fresh (ek _))
def Pe (ta:TA):TI:=λσ H R=>ta σ H λvs H1=>∃ j:Int,vs=[.int j]/\-(2 ^ 62)<=j/\j < 2 ^ 62/\R (Itr 0 j.toNat) H1
theorem Ip{a:Expr}{ta:TA}(m:Gl X "range")(l:X.mg "range"=none)(n:PA X [a] ta)(k:autoParam (ew [a] X.env=[(false,eval a X.env)]) wE):PI X tg (.Call (.Name "range" p) [a] [] pos) (Pe ta):=by
 intro b s d H R I h;refine Call_ (nQ I m l boot_range (ro (thn (n pos b s d H _ I h) λv w Z=>?_) k rfl));obtain⟨u,x,o,g,c⟩:=Z;obtain⟨j,e,c,i,q⟩:=c;subst e;cases g with
 | cons r f=>
  cases f;obtain⟨t,rfl⟩:=r;exact call_range_1 (Kf o (by lia) (by lia) c i (by simpa using q))
def Tc (c:TI)(g:TG)(d:TS):TS:=λD σ H=>c σ H λJ H1=>∃ W:Nat->Nat->St->Hp->Prop,(∃ m,W 0 m σ H1)/\∀ i m σ H,W i m σ H->
 (J.stop i H/\D.nx σ H)\/(J.go i H/\∃ N:St->Hp->Prop,(∀ σ' H',N σ' H'->∃ b,b < m/\W (i + 1) b σ' H')/\∀ x H',J.yld i H x H'->g x σ H' λa H2=>d { D with nx:=N,ct:=N,bk:=D.nx } a H2)
noncomputable def Ac (a:La0)(h:Heap):Pn0:=a.filterMap λb=>(h.get? b).map λo=>(b,o)
theorem pG{b:Addr}{o:Obj}(a:b∈fp)(e:h.get? b=some o):(b,o)∈Ac fp h:=Xm.mpr ⟨b,a,by rw[e];rfl⟩
theorem Ck{p:Addr×Obj}(a:p∈Ac fp h):p.1∈fp/\h.get? p.1=some p.2:=by
 obtain⟨b,c,e⟩:=Xm.mp a;cases q:h.get? b with
 | none=>rw[q] at e;cases e
 | some o=>
  rw[q] at e;have d:(b,o)=p:=ov e;subst d;exact⟨c,q⟩
theorem Inv.pinned{a:Pn0}{s:Shared}(I:Inv X a σ H s)(i:∀ b∈fp,j7 X a H b)(h:∀ b∈fp,∃ o,s.heap.get? b=some o/\∀ v,o.data≠.cell v):Inv X (a++Ac fp s.heap) σ H s:=
 I.vw λp g=>(mm.mp g).elim (λz=>I.pin p (lz _ z)) λz=>by
  obtain⟨c,e⟩:=Ck z;obtain⟨l,k,j,_⟩:=i p.1 c;obtain⟨o,f,d⟩:=h p.1 c;rw[e] at f;cases f;exact⟨e,l,k,j,d⟩
theorem Inv.zH{a pl:Pn0}{s:Shared}(I:Inv X (a++pl) σ H s):Inv X a σ H s:=I.vw λp b=>I.pin p (lz _ (NB _ b))
theorem Qx{iter:Expr}{S:TI}{g:TG}{V:TS}(C:ab4 (model X.prog X.w) X.A X.env X.xe)(hc:X.calm=true)(hi:PI X tg iter S)(hg:PG X tg g)(p:PSs X body V)(hs:autoParam (∀ x,sF iter X.env x=pure x) wT):PS X (.For tg iter body [] pos) (Tc S g V):=by
 intro c s R H D I h;refine wpAny_For (thn (hi c s R H _ I h) λv s1 h1=>thn h1 λa1 s2 h2=>?_) hs;obtain⟨it,F,U,J,H2,e,I2,T,L,f2,W,⟨m0,w0⟩,z⟩:=h2;subst e;have l:∀ {H':Hp},(∀ b∈F,H' b=none)->∀ b∈F,j7 X c H' b:=λhn b p=>⟨hn b p,(f2 b p).2⟩;refine codeAny_forLoop_any (λn s'=>∃ i k H',Inv X c k H' s'/\U i s'.heap/\(∀ b∈F,H' b=none)/\W i n k H') ?_ m0 ⟨0,R,H2,I2,L,λb p=>(f2 b p).1,w0⟩;rintro n s3 ⟨i,j,G,I3,A,E,w3⟩;rcases z i n j G w3 with ⟨stop,qn⟩ | ⟨go,N,hN,step⟩
 .refine TX C (thn (T.done X rfl rfl rfl hc i c s3 j G X.xe I3 (l E) A stop) λr s4 Z=>?_);obtain⟨O,I4⟩:=Z;subst O;exact Yc ⟨j,G,I4,qn⟩
 .refine TX C (thn (T.item X rfl rfl rfl hc i c s3 j G X.xe I3 (l E) A go) λr s4 Z=>?_);obtain⟨u,O,h4⟩:=Z;subst O;refine TX C (thn h4 λ_ Y Z=>?_);obtain⟨x,H5,I5,r5,y5,y,P⟩:=Z;have Q:=I5.pinned (l P) (T.obj _ _ y);refine TX C (thn (hg _ Y j H5 x u _ Q r5 (step x H5 y5)) λ_ s6 Z=>?_);obtain⟨K,H6,I6,q6⟩:=Z;refine TX C (thn (p _ s6 K H6 _ I6 q6) λf M w=>?_);have again:∀ {a:St} {t:Hp},Inv X (c++Ac F Y.heap) a t M->N a t->∃ m,m < n/\∃ i k H',Inv X c k H' M/\U i M.heap/\(∀ b∈F,H' b=none)/\W i m k H':=λ{a t} q B=>by
   obtain⟨m',hm,w7⟩:=hN a t B;refine⟨m',hm,i + 1,a,t,q.zH,T.keep _ _ _ y λb p o e=>(q.pin (b,o) (lz _ (lz _ (pG p e)))).1,λb p=>?_,w7⟩;obtain⟨o,e,d⟩:=T.obj _ _ y b p;exact(q.pin (b,o) (lz _ (lz _ (pG p e)))).2.1
  cases f with
  | next=>obtain⟨a,t,q,B⟩:=w;exact again q B
  | cont=>obtain⟨a,t,q,B⟩:=w;exact again q B
  | brk=>obtain⟨a,t,q,w⟩:=w;exact⟨a,t,q.zH,w⟩
  | ret v=>obtain⟨x7,a,t,q,r7,w⟩:=w;exact⟨x7,a,t,q.zH,r7,w⟩
abbrev R2:=V->V->Hp->VK->Prop
def OpR (X:Cx)(f:Value->Value->Sem Value)(r:R2):Prop:=
 ∀ (pins:Pn0) (s:Shared) (σ:St) (H:Hp) (x y:V) (v u:Value) (Q:VK),Inv X pins σ H s->RelV x v->RelV y u->r x y H Q->
  wpAny (model X.prog X.w) X.A (f v u) (EP X pins σ Q) X.xe s
def UnR (X:Cx)(f:Value->Sem Value)(r:V->Hp->VK->Prop):Prop:=
 ∀ (pins:Pn0) (s:Shared) (σ:St) (H:Hp) (x:V) (v:Value) (Q:VK),Inv X pins σ H s->RelV x v->r x H Q->
  wpAny (model X.prog X.w) X.A (f v) (EP X pins σ Q) X.xe s
def eO (X:Cx)(f:Value)(r:List V->Hp->VK->Prop):Prop:=
 ∀ (pins:Pn0) (s:Shared) (σ:St) (H:Hp) (xs:List V) (us:Lv0) (Q:VK),Inv X pins σ H s->Vals xs us->r xs H Q->
  wpAny (model X.prog X.w) X.A (call f us) (EP X pins σ Q) X.xe s
def tOp (r:R2)(ta a:TE):TE:=λσ H Q=>ta σ H λx H1=>a σ H1 λy H2=>r x y H2 Q
def tUn (r:V->Hp->VK->Prop)(ta:TE):TE:=λσ H Q=>ta σ H λx H1=>r x H1 Q
def rI (C:Int->Int->Prop)(g:Int->Int->V):R2:=λx y H Q=>∃ i j,x=.int i/\y=.int j/\C i j/\Q (g i j) H
def rI0 (g:Int->Int->V):R2:=λx y H Q=>∃ i j,x=.int i/\y=.int j/\Q (g i j) H
noncomputable def rU (g:Int->V):V->Hp->VK->Prop:=λx H Q=>∃ i,x=.int i/\Q (g i) H
section
variable {a b c:Expr}{tb tc:TE}
theorem Sv(o:PE X a ta)(n:PE X b tb){c:Pn0}{s:Shared}{R:V->V->Hp->Prop}(I:Inv X c σ H s)(h:ta σ H λx H1=>tb σ H1 λy H2=>R x y H2){Q:VS0}{f:Value->Value->Sem Value}(m:∀ v u s2 x y H2,Inv X c σ H2 s2->RelV x v->RelV y u->R x y H2->wpAny (model X.prog X.w) X.A (f v u) Q X.xe s2) :
  wpAny (model X.prog X.w) X.A (eval a X.env) (λv e=>wpAny (model X.prog X.w) X.A (eval b X.env) (λu d=>wpAny (model X.prog X.w) X.A (f v u) Q X.xe d) X.xe e) X.xe s:=by
 refine thn (o c s σ H _ I h) λv g Z=>?_;obtain⟨x,H1,q,j,l⟩:=Z;refine thn (n c g σ H1 _ q l) λu s2 Z=>?_;obtain⟨y,H2,p,i,k⟩:=Z;exact m v u s2 x y H2 p j i k
theorem vy{d:Operator}{r:R2}(j:OpR X (WU d) r)(l:PE X a ta)(k:PE X b tb):PE X (.BinOp a d b pos) (tOp r ta tb):=by
 intro c s e H Q I h;exact wpAny_BinOp (Sv l k I h λv u f x y n m i g q=>j c f e n x y v u Q m i g q)
theorem TK{d:UnaryOp}{r:V->Hp->VK->Prop}(i:UnR X (unaryOp d) r)(j:PE X a ta):PE X (.UnaryOp d a pos) (tUn r ta):=by
 intro b s c H Q I h;exact UnaryOp_ (thn (j b s c H _ I h) λv e ⟨x,l,k,f,g⟩=>i b e c l x v Q k f g)
theorem opI{f:Value->Value->Sem Value}{C:Int->Int->Prop}(rule:∀ (i j:Int) (t u:Tok) (s:Shared) (Q:VS0) (E:VS0),C i j->Q (.int (g i j) s.toks) { s with toks:=s.toks + 1 }->wpAny (model X.prog X.w) X.A (f (.int i t) (.int j u)) Q E s) :
  OpR X f (rI C λi j=>.int (g i j)):=by
 intro a s k H x y v u Q I d c h;obtain⟨i,j,rfl,rfl,e,q⟩:=h;obtain⟨t,rfl⟩:=d;obtain⟨b,rfl⟩:=c;exact rule i j t b s _ _ e ⟨.int (g i j),H,I.tok _,⟨_,rfl⟩,q⟩
theorem Gk{f:Value->Value->Sem Value}(rule:∀ (i j:Int) (t u:Tok) (s:Shared) (Q:VS0) (E:VS0),Q (.int (g i j) s.toks) { s with toks:=s.toks + 1 }->wpAny (model X.prog X.w) X.A (f (.int i t) (.int j u)) Q E s) :
  OpR X f (rI0 λi j=>.int (g i j)):=by
 intro a s e H x y v u Q I d c h;obtain⟨i,j,rfl,rfl,q⟩:=h;obtain⟨t,rfl⟩:=d;obtain⟨b,rfl⟩:=c;exact rule i j t b s _ _ ⟨.int (g i j),H,I.tok _,⟨_,rfl⟩,q⟩
theorem Q6{f:Value->Value->Sem Value}{g:Int->Int->Bool}(rule:∀ (i j:Int) (t u:Tok) (s:Shared) (Q:VS0) (E:VS0),Q (.bool (g i j)) s->wpAny (model X.prog X.w) X.A (f (.int i t) (.int j u)) Q E s) :
  OpR X f (rI0 λi j=>.bl (g i j)):=by
 intro a s e H x y v u Q I d c h;obtain⟨i,j,rfl,rfl,q⟩:=h;obtain⟨t,rfl⟩:=d;obtain⟨b,rfl⟩:=c;exact rule i j t b s _ _ ⟨.bl (g i j),H,I,rfl,q⟩
def SS (i j:Int):Prop:=0 < j/\j < 1073741824
def Mf (i j:Int):Prop:=0<=j/\j<=1000000/\i.natAbs < 2 ^ 64
def Mg (i j:Int):Prop:=(-(2 ^ 64) < i/\i < 2 ^ 64)\/(-(2 ^ 64) < j/\j < 2 ^ 64)
theorem Mg.ok{i j:Int}(h:Mg i j):IntMulOk i j:=by
 rcases h with ⟨b,a⟩ | ⟨b,a⟩
 .exact .of_left (intBits_le_64 b a)
 .exact .of_right (intBits_le_64 b a)
theorem Q5:OpR X (WU .Add) (rI0 λi j=>.int (i + j)):=Gk λ_ _ _ _ _ _ _ q=>add_int q
theorem QX:OpR X (WU .Sub) (rI0 λi j=>.int (i - j)):=Gk λ_ _ _ _ _ _ _ q=>sub_int q
theorem Q0:OpR X (WU .Mult) (rI Mg λi j=>.int (i * j)):=opI λ_ _ _ _ _ _ _ a q=>mul_int q a.ok
theorem Nv:OpR X (WU .FloorDiv) (rI SS λi j=>.int (i / j)):=opI λi j _ _ _ _ _ a q=>by
 have c:(0:Int) < j:=a.1;have b:j < 1073741824:=a.2;exact floordiv_int (by lia) (by rw[Int.fdiv_eq_ediv_of_nonneg i (by lia)];exact q) (.inl (PyProof.noPylong_small (by lia)))
theorem Q1:OpR X (WU .Mod) (rI (λ_ j=>0 < j) λi j=>.int (i % j)):=opI λi j _ _ _ _ _ a q=>by
 have b:(0:Int) < j:=a;exact mod_int' (by lia) (by rw[Int.fmod_eq_emod_of_nonneg i (by lia)];exact q)
theorem KO:OpR X (WU .Pow) (rI Mf λi j=>.int (i ^ j.toNat)):=opI λ_ _ _ _ _ _ _ a q=>pow_int_small a.1 a.2.1 a.2.2 q
theorem unI{f:Value->Sem Value}{g:Int->Int}(rule:∀ (i:Int) (t:Tok) (s:Shared) (Q:VS0) (E:VS0),Q (.int (g i) s.toks) { s with toks:=s.toks + 1 }->wpAny (model X.prog X.w) X.A (f (.int i t)) Q E s) :
  UnR X f (rU λi=>.int (g i)):=by
 intro a s c H x v Q I b h;obtain⟨i,rfl,q⟩:=h;obtain⟨t,rfl⟩:=b;exact rule i t s _ _ ⟨.int (g i),H,I.tok _,⟨_,rfl⟩,q⟩
theorem PU:UnR X (unaryOp .USub) (rU λi=>.int (-i)):=unI λ_ _ _ _ _ q=>neg_int q
theorem Ll{a:Pn0}{s:Shared}{Q:VK}{k b:Bool}(I:Inv X a σ H s)(q:Q (.bl k) H)(e:k=b):EP X a σ Q (.bool b) s:=by
 subst e;exact⟨.bl k,H,I,rfl,q⟩
theorem T6:OpR X (Ub .Lt) (rI0 λi j=>.bl (decide (i < j))):=Q6 λ_ _ _ _ _ _ _ q=>lt_int q
theorem T7:OpR X (Ub .LtE) (rI0 λi j=>.bl (decide (i<=j))):=Q6 λ_ _ _ _ _ _ _ q=>le_int q
theorem T8:OpR X (Ub .Gt) (rI0 λi j=>.bl (decide (j < i))):=Q6 λ_ _ _ _ _ _ _ q=>gt_int q
theorem OpR.or{f:Value->Value->Sem Value}{r e:R2}(h:OpR X f r)(h':OpR X f e):OpR X f (λx y H Q=>r x y H Q\/e x y H Q):=by
 intro a s b H x y v u Q I d c q;rcases q with q | q
 .exact h a s b H x y v u Q I d c q
 .exact h' a s b H x y v u Q I d c q
theorem a9(b:Expr)(h:autoParam (op≠.In) wP)(a:autoParam (op≠.NotIn) wP):Xi op b=false:=by
 have d:(op == CmpOp.In)=false:=by cases op <;> first | rfl | exact absurd rfl h
 have c:(op == CmpOp.NotIn)=false:=by cases op <;> first | rfl | exact absurd rfl a
 cases b <;> simp [Xi,d,c]
theorem Ni{r:R2}(i:OpR X (Ub op) r)(l:PE X a ta)(k:PE X b tb)(j:Xi op b=false):PE X (.Compare a [op] [b] pos) (tOp r ta tb):=by
 intro c s d H Q I h;exact wpAny_Compare1 (Sv l k I h λv u e x y n m g f q=>i c e d n x y v u Q m g f q) j
def G9 (t:TE):TT:=λσ H Q=>t σ H λx H'=>∃ k,x=.bl k/\Q k H'
theorem M4{r:R2}(q:OpR X (Ub op) r)(A:PE X a ta)(w:PE X b tb)(t:Xi op b=false):PT X (.Compare a [op] [b] pos) (G9 (tOp r ta tb)):=by
 intro d s f H Q I h;refine wpAny_isTrue_Compare1 (thn (A d s f H _ I h) λv i ⟨x,G,D,m,p⟩=>thn (w d i f G _ D p) λu g ⟨y,F,C,l,o⟩=>
  thn (q d g f F x y v u _ C m l o) λc J ⟨z,E,B,j,k,e,n⟩=>?_) t
 subst e;cases j;exact FS ⟨E,B,n⟩
def zI (r e:R2)(ta d c:TE):TE:=λσ H Q=>ta σ H λx H1=>d σ H1 λy H2=>r x y H2 λz a=>∃ k,z=.bl k/\
 (if k=true then c σ a λb f=>e y b f Q else Q (.bl false) a)
theorem Kx{g:CmpOp}{r m:R2}(L:OpR X (Ub op) r)(j:OpR X (Ub g) m)(P:PE X a ta)(O:PE X b tb)(N:PE X c tc)(M:autoParam (ab5 [op,g] [b,c]=false) wq1):PE X (.Compare a [op,g] [b,c] pos) (zI r m ta tb tc):=by
 intro f s i H Q I h;refine Compare_chain (thn (P f s i H _ I h) λv C ⟨x,W,T,F,K⟩=>chain_link (thn (O f C i W _ T K) λu B ⟨y,V,S,l,J⟩=>
  thn (L f B i V x y v u _ S F l J) λd A ⟨z,p,o,E,k,e,n⟩=>?_)) M
 subst e;cases E;refine FS ?_;cases k with
 | false=>exact ite_ff ⟨.bl false,p,o,rfl,n⟩
 | true=>exact ite_tt (chain_last (thn (N f A i p _ o n) λt w ⟨q,U,R,D,G⟩=>j f w i U y q u t Q R l D G))
theorem Kj{g:CmpOp}{r m:R2}(O:OpR X (Ub op) r)(j:OpR X (Ub g) m)(T:PE X a ta)(S:PE X b tb)(R:PE X c tc)(P:autoParam (ab5 [op,g] [b,c]=false) wq1):PT X (.Compare a [op,g] [b,c] pos) (G9 (zI r m ta tb tc)):=by
 intro f s i H Q I h;refine isTrue_chain (thn (T f s i H _ I h) λv C ⟨x,H1,I1,G,M⟩=>test_link (thn (S f C i H1 _ I1 M) λu B ⟨y,H2,I2,l,L⟩=>
  thn (O f B i H2 x y v u _ I2 G l L) λd A ⟨z,p,o,F,k,e,n⟩=>?_)) P
 subst e;cases F;refine FS ?_;cases k with
 | false=>
  obtain⟨k',V,N⟩:=n;cases V;exact ite_ff ⟨p,o,N⟩
 | true=>
  refine ite_tt (test_last (thn (R f A i p _ o n) λt w ⟨q,H4,Y,E,K⟩=>thn (j f w i H4 y q u t _ Y l E K) λd' s5 Z=>?_));obtain⟨z2,H5,W,D,k2,U,J⟩:=Z;subst U;cases D;exact FS ⟨H5,W,J⟩
theorem xG:(sizeLine:Nat) < 2 ^ 63:=by rw[hG];decide
theorem Gj:OpR X (WU .Add) (λx y H Q=>∃ i j,x=.str i/\y=.str j/\i.length + j.length<=sizeLine/\Q (.str (i++j)) H):=by
 intro a s f H x y v u Q I d c h;obtain⟨i,j,rfl,rfl,e,q⟩:=h;obtain⟨t,rfl⟩:=d;obtain⟨b,rfl⟩:=c;exact add_str (λb g=>⟨.str (i++j),H,I.tok _,⟨_,rfl⟩,q⟩) e
theorem vals1{x:V}(r:Vals [x] us):∃ u,us=[u]/\RelV x u:=by
 cases r with
 | cons b a=>cases a;exact⟨_,rfl,b⟩
theorem vals2{x:V}(r:Vals [x,y] us):∃ u w',us=[u,w']/\RelV x u/\RelV y w':=by
 cases r with
 | cons d c=>
  cases c with
  | cons b a=>cases a;exact⟨_,_,rfl,d,b⟩
theorem LS:eO X (.builtin "abs") (λxs H Q=>∃ i,xs=[.int i]/\Q (.int (if i < 0 then -i else i)) H):=by
 intro a s b H xs c Q I r h;obtain⟨i,rfl,q⟩:=h;obtain⟨u,rfl,t,rfl⟩:=vals1 r;exact call_abs_int λu d=>⟨.int (if i < 0 then -i else i),H,I.tok _,⟨_,rfl⟩,q⟩
theorem Jm(c:X.calm=true):eO X (.builtin "max") (λxs H Q=>∃ i j,xs=[.int i,.int j]/\Q (.int (if j > i then j else i)) H):=by
 intro b s d H xs f Q I r h;obtain⟨i,j,rfl,q⟩:=h;obtain⟨u,e,rfl,⟨t,rfl⟩,⟨l,rfl⟩⟩:=vals2 r;refine max_two_ints (I.ok.hd c) λm g k=>⟨_,H,I.kept k,?_,q⟩;by_cases a:j > i
 .rw[if_pos a,if_pos a];exact⟨_,rfl⟩
 .rw[if_neg a,if_neg a];exact⟨_,rfl⟩
theorem Jl(c:X.calm=true):eO X (.builtin "min") (λxs H Q=>∃ i j,xs=[.int i,.int j]/\Q (.int (if j < i then j else i)) H):=by
 intro b s d H xs f Q I r h;obtain⟨i,j,rfl,q⟩:=h;obtain⟨u,e,rfl,⟨t,rfl⟩,⟨l,rfl⟩⟩:=vals2 r;refine min_two_ints (I.ok.hd c) λm g k=>⟨_,H,I.kept k,?_,q⟩;by_cases a:j < i
 .rw[if_pos a,if_pos a];exact⟨_,rfl⟩
 .rw[if_neg a,if_neg a];exact⟨_,rfl⟩
theorem Jn:eO X (.type "int") (λxs H Q=>(∃ i,xs=[.int i]/\Q (.int i) H)\/∃ k,xs=[.bl k]/\Q (.int (if k then 1 else 0)) H):=by
 intro a s c H xs d Q I r h;rcases h with ⟨i,rfl,q⟩ | ⟨k,rfl,q⟩
 .obtain⟨u,rfl,t,rfl⟩:=vals1 r;exact call_int_int ⟨.int i,H,I,⟨_,rfl⟩,q⟩
 .obtain⟨u,rfl,b⟩:=vals1 r;cases b;exact call_int_bool ⟨.int (if k then 1 else 0),H,I.tok _,⟨_,rfl⟩,q⟩
end
structure G4 (h:Heap) (x dx C:Addr) (mA:SV0):Prop where
 obj:h.get? x=some (ry C dx)
 ns:h.Ns1 dx mA
 ne:dx≠x
theorem IS{d:SV0}(n:h.Ns1 dx d):∃ c,h.get? dx=some c/\∀ name,Yw name c=some (d name):=by
 obtain⟨o,f,p,i,l,k,_,j⟩:=n;refine⟨o,i,λname=>?_⟩;have e:=j name;unfold nsFind findBy at e;rw[<- Array.find?_toList] at e;unfold Yw;rw[l];dsimp only;split
 .rename_i y q;rw[q] at e;exact congrArg some e
 .rename_i q;rw[q] at e;have a:f.toList.any (·.refKey)=false:=by
   rw[List.any_eq_false];intro y g;obtain⟨z,t,b⟩:=k y (Array.mem_toList_iff.mp g);simp [DictEntry.refKey,b]
  have m:¬ f.toList.any (·.refKey)=true:=by rw[a];exact pF
  rw[if_neg m];exact congrArg some e
theorem G4.look{x:Addr}{b:SV0}(I:G4 h x dx C b):∃ a,PySem.W.InstAt h x (ry C dx) C (some a)/\∀ name,Yw name a=some (b name):=
 let ⟨a,c,d⟩:=IS I.ns
 ⟨a,⟨I.obj,rfl,rfl,c⟩,d⟩
section
variable {E:VS0}{s:Shared}{x:Addr}{mA:SV0}{v:Value}
theorem get_map{a:Bool}{Q:VS0}(X:K.In s.heap)(I:G4 s.heap x dx C mA)(f:rp K C name=true)(e:rq K C=true)(g:ck K (.ref C) name=some none)(c:mA name=some v)(b:ab6 v=true)(h:Q v { s with toks:=s.toks + 1 }) :
  wpAny (model prog w) A (getAttr (.ref x) name a) Q E s:=by
 obtain⟨i,J,d⟩:=I.look;exact PySem.W.get_value X J (Yj f).1 (PySem.W.findObj_own e g rfl (by rw[d,c])) b h
theorem Ld{pl:Sem Bool}(X:K.In s.heap)(I:G4 s.heap x dx C mA)(a:rp K C name=true)(g:ck K (.ref C) name=some (some (.ref f)))(d:Zb K (.ref f)=true)(c:mA name=none)(h:Q (.ref f,[.ref x]) s) :
  wpAny (model prog w) A (YM (.ref x) name pl) Q E s:=by
 obtain⟨b,J,e⟩:=I.look;exact PySem.W.method_fn X J (Yj a).1 (Yj a).2 g (beq_iff_eq.mp d) (by show (Yw name b).map (·.isSome)=some false;rw[e,c];rfl) h
theorem My{j:Ls0}{Q:Unit->Shared->Prop}(X:K.In s.heap)(I:G4 s.heap x dx C mA)(n:ck K (.ref C) "__setattr__"=some (some (.builtin "object.__setattr__")))(o:sG K C=true)(m:Zk K C name=some none)(p:rq K C=true)(l:YY mA j)(hsz:j.length<=sizeLine)(h:∀ h',G4 h' x dx C (λy=>if y=name then some v else mA y)->Xs dx s.heap h'->Q () { s with heap:=h',toks:=s.toks + 2 }) :
  wpAny (model prog w) A (setAttr (.ref x) name v) Q E s:=by
 obtain⟨z,J,D⟩:=I.look;refine PySem.W.set_plain X J n (PySem.W.osa_open (s:={ s with toks:=s.toks + 1 }) (r:=none) X J o m λb=>?_);obtain⟨F,q,g⟩:=PySem.W.any_some p;have k:s.heap.get? x=some ⟨.ref C,some dx,.plain,#[]⟩:=I.obj;refine bD (hF (bD (bD (wpAny_loadPart k (bD (PySem.W.Looks.here (s:={ s with toks:=s.toks + 1 }) (PySem.W.looks_clsIn X q) ?_))))));rw[g];refine hF (a:=some dx) (bD (hF (bD ?_)));refine wpAny_nsSet1 (s:={ s with toks:=s.toks + 1 }) I.ns λh' d c=>?_;obtain⟨B,t,u,e,f,i⟩:=d.count (PySem.Within.cons name v l);refine bD (wpAny_lookBehind e (by rw[f];exact pastItsLine_dict (zq i (by rw[tx];lia))) ?_);exact hF (h _ ⟨(c.2 _ (rl I.ne)).trans I.obj,d,I.ne⟩ c)
theorem KU{vs:Lv0}(X:K.In s.heap)(b:se K C=true)(c:ck K (.ref C) "__init__"=some (some (.ref f)))(e:PySem.W.typeIn K (.ref f)=some (.type "function"))(h:SB (model prog w) (A.under (.builtin "type.__call__" ⟨.ref C::vs,kw⟩)) (.call (.ref f) ⟨.ref (s.heap.objs.size + 1)::vs,kw⟩) (ab7 (s.heap.objs.size + 1) R)
   { s with heap:=(s.heap.push ri).push (ry C s.heap.objs.size) }) :
  SB (model prog w) A (.call (.ref C) ⟨vs,kw⟩) R s:=by
 obtain⟨i,g,d,t,os⟩:=s;exact aa3 (YN X b) (Zy X c) (λa=>PySem.W.bind_fn X a e) (.inl rfl) h
theorem IK(X:K.In s.heap)(b:se K C=true)(c:ck K (.ref C) "__init__"=some (some (.builtin "object.__init__")))(e:∀ a,ZM (model prog w) s.heap (bindSpecial (.builtin "object.__init__") a) (.builtin "object.__init__",[a]))(h:SB (model prog w) (A.under (.builtin "type.__call__" ⟨[.ref C],[]⟩)) (.call (.builtin "object.__init__") ⟨[.ref (s.heap.objs.size + 1)],[]⟩) (ab7 (s.heap.objs.size + 1) R)
   { s with heap:=(s.heap.push ri).push (ry C s.heap.objs.size) }) :
  SB (model prog w) A (.call (.ref C) ⟨[],[]⟩) R s:=by
 obtain⟨f,g,d,t,os⟩:=s;exact aa3 (YN X b) (Zy X c) e (.inr ⟨rfl,rfl⟩) h
end
noncomputable def q9 (f:Str)(v:V):List (Str×V)->List (Str×V)
 | []=>[(f,v)]
 | (g,x)::r=>if g=f then (g,v)::r else (g,x)::q9 f v r
theorem yf (f g:Str)(v:V):∀ fs:List (Str×V),(q9 f v fs).lookup g=if g=f then some v else fs.lookup g
 | []=>by
  show Wc g [(f,v)]=_;by_cases h:g=f
  .have a:(g == f)=true:=beq_iff_eq.mpr h;simp only[Wc,a,if_pos h]
  .have a:(g == f)=false:=beq_eq_false_iff_ne.mpr h;simp only[Wc,a,if_neg h]
 | (k,x)::r=>by
  have c:=yf f g v r;rw[show q9 f v ((k,x)::r)=(if k=f then (k,v)::r else (k,x)::q9 f v r) from rfl];by_cases b:k=f
  .rw[if_pos b];by_cases h:g=k
   .have a:(g == k)=true:=beq_iff_eq.mpr h;simp only[Wc,a,if_pos (h.trans b)]
   .have a:(g == k)=false:=beq_eq_false_iff_ne.mpr h;simp only[Wc,a,if_neg (λe:g=f=>h (e.trans b.symm))]
  .rw[if_neg b];by_cases h:g=k
   .have a:(g == k)=true:=beq_iff_eq.mpr h;simp only[Wc,a,if_neg (λe:g=f=>b (h.symm.trans e))]
   .have a:(g == k)=false:=beq_eq_false_iff_ne.mpr h;simp only[Wc,a];exact c
theorem xJ (f:Str)(v:V):∀ fs:List (Str×V),f∈(q9 f v fs).map (·.1)/\∀ g,g∈fs.map (·.1)->g∈(q9 f v fs).map (·.1)
 | []=>⟨by simp [q9],λg h=>by simp at h⟩
 | (k,x)::r=>by
  obtain⟨b,i2⟩:=xJ f v r;rw[show q9 f v ((k,x)::r)=(if k=f then (k,v)::r else (k,x)::q9 f v r) from rfl];by_cases a:k=f
  .rw[if_pos a];subst a;exact⟨by simp,λg h=>by simpa using h⟩
  .rw[if_neg a];refine⟨?_,λg h=>?_⟩
   .rw[qq];exact hY _ b
   .rw[qq] at h ⊢;rcases fg.mp h with e | e
    .exact fg.mpr (.inl e)
    .exact hY _ (i2 g e)
theorem yg (f:Str)(v:V):∀ fs:List (Str×V),(q9 f v fs).length<=fs.length + 1
 | []=>by simp [q9]
 | (k,x)::r=>by
  have b:=yg f v r;rw[show q9 f v ((k,x)::r)=(if k=f then (k,v)::r else (k,x)::q9 f v r) from rfl];by_cases a:k=f
  .rw[if_pos a,tx,tx];lia
  .rw[if_neg a,tx,tx];lia
theorem Bq.some_of(r:Bq (some v) o):∃ u,o=some u/\RelV v u:=by
 cases o with
 | none=>exact(show False from r).elim
 | some u=>exact⟨u,rfl,r⟩
theorem Bq.none_of(r:Bq none o):o=none:=by
 cases o with
 | none=>rfl
 | some u=>exact(show False from r).elim
theorem Ja(r:RelV v u):ab6 u=true:=by
 cases v with
 | non=>cases (show u=WM from r);rfl
 | bl b=>cases (show u=YX b from r);rfl
 | int i=>obtain⟨t,e⟩:=(show ∃ t,u=YL i t from r);cases e;rfl
 | str x=>obtain⟨t,e⟩:=(show ∃ t,u=Yp x t from r);cases e;rfl
 | byt b=>obtain⟨t,e⟩:=(show ∃ t,u=Value.bytes b t from r);cases e;rfl
 | flt b=>obtain⟨t,e⟩:=(show ∃ t,u=ac2 b t from r);cases e;rfl
 | ref a=>cases (show u=rd a from r);rfl
 | ty n=>cases (show u=XM n from r);rfl
section
variable {H':Hp}{fs fs':List (Str×V)}
theorem zC(b:HOk P w H h)(e:H a=some (.ins C dx fs)):∃ mA,G4 h a dx C mA/\(∀ f,Bq (fs.lookup f) (mA f))/\YY mA (fs.map (·.1))/\fs.length<=1000/\H dx=some (.own a):=by
 obtain⟨d,z,g,c,mA,n,r,q⟩:=(show gC P w H h a (.ins C dx fs) from b a _ e);exact⟨mA,⟨c,n,g⟩,r,q,z,d⟩
end
structure Cls (K:Fg0) (C:Addr):Prop where
 pg:rp K C sk=true
 hd:rq K C=true
 po:sG K C=true
 sa:ck K (.ref C) "__setattr__"=some (some (.builtin "object.__setattr__"))
theorem Cls.get(c:Cls K C)(f:Str):rp K C f=true:=c.pg
def iH (K:Fg0)(C:Addr)(f:Str):Prop:=ck K (.ref C) f=some none
theorem iH.S7{f:Str}(n:iH K C f):Zk K C f=some none:=by
 unfold Zk;rw[show ck K (.ref C) f=some none from n]
 rfl
structure Meth (K:Fg0) (C:Addr) (m:Str) (f:Addr):Prop where
 at_:ck K (.ref C) m=some (some (.ref f))
 fn:Zb K (.ref f)=true
 kp:mC K (.ref f)=true
section
variable {pins:Pn0}{s:Shared}{fs:List (Str×V)}{f:Str}{E:VS0}
theorem GL{b:Bool}{Q:VS0}(I:Inv X pins σ H s)(e:H a=some (.ins C dx fs))(c:Cls X.K C)(n:iH X.K C f)(l:fs.lookup f=some v)(h:∀ u s',Inv X pins σ H s'->RelV v u->Q u s'):wpAny (model X.prog X.w) A (getAttr (.ref a) f b) Q E s:=by
 obtain⟨g,O,r,_,_,_⟩:=zC I.hok e;obtain⟨u,i,d⟩:=Bq.some_of (v:=v) (o:=g f) (by rw[<- l];exact r f);exact get_map I.kIn O (c.get f) c.hd n i (Ja d) (h u _ (I.tok _) d)
theorem AM{g:Addr}{pl:Sem Bool}(I:Inv X pins σ H s)(e:H a=some (.ins C dx fs))(c:Cls X.K C)(k:Meth X.K C m g)(l:fs.lookup m=none)(h:Q (.ref g,[.ref a]) s):wpAny (model X.prog X.w) A (YM (.ref a) m pl) Q E s:=by
 obtain⟨b,O,r,_,_,_⟩:=zC I.hok e;have d:b m=none:=Bq.none_of (by rw[<- l];exact r m);exact Ld I.kIn O (c.get m) k.at_ k.fn d h
theorem FL{Q:Unit->Shared->Prop}(I:Inv X pins σ H s)(e:H a=some (.ins C dx fs))(c:Cls X.K C)(n:iH X.K C f)(F:fs.length < 1000)(m:RelV y u)(h:∀ s',Inv X pins σ (upd H a (.ins C dx (q9 f y fs))) s'->Q () s'):wpAny (model X.prog X.w) A (setAttr (.ref a) f u) Q E s:=by
 obtain⟨j,O,r,i,_,k⟩:=zC I.hok e;have p:(fs.map (·.1)).length<=sizeLine:=by rw[lM0,hG];lia
 refine My I.kIn O c.sa c.po n.S7 c.hd i p λB d l=>h _ ?_;have v:∃ o,B.get? dx=some o:=let ⟨o,_,_,D,_⟩:=d.ns;⟨o,D⟩
 refine I.write (x:=a) (e:=dx) (by rw[e];exact XR) (.inr k) (λb q w z=>(l.2 b w).trans z) v ?_;refine⟨by rw[ar O.ne];exact k,?_,O.ne,d.obj,_,d.ns,λg=>?_,λg t=>?_⟩
 .have:=yg f y fs;lia
 .show Bq ((q9 f y fs).lookup g) (if g=f then some u else j g);rw[yf];by_cases q:g=f
  .rw[if_pos q,if_pos q];exact m
  .rw[if_neg q,if_neg q];exact r g
 .by_cases q:g=f
  .rw[q];exact(xJ f y fs).1
  .refine(xJ f y fs).2 g (i g λz=>t ?_);show (if g=f then some u else j g)=none;rw[if_neg q];exact z
theorem Inv.made(I:Inv X pins σ H s):Inv X pins σ (upd (upd H s.heap.objs.size (.own (s.heap.objs.size + 1))) (s.heap.objs.size + 1) (.ins C s.heap.objs.size []))
  { s with heap:=(s.heap.push ri).push (ry C s.heap.objs.size) }:=by
 have d:(s.heap.push ri).get? s.heap.objs.size=some ri:=ks s.heap rfl;have i:((s.heap.push ri).push (ry C s.heap.objs.size)).get? (s.heap.objs.size + 1)=some (ry C s.heap.objs.size):=by
  have:=ks (s.heap.push ri) (o:=ry C s.heap.objs.size) rfl
  rwa [SG] at this
 have h:(s.heap.push ri).Ns s.heap.objs.size (λ_=>none):=⟨ri,#[],_,d,rfl,(λe g=>absurd g (by simp)),λ_=>rfl⟩;have j:=I.laid (a:=s.heap.objs.size) (o:=.own (s.heap.objs.size + 1)) (h':=s.heap.push ri) (t':=s.toks) (λb u q=>dV _ q) (ek _) ⟨_,d⟩;refine j.laid (a:=s.heap.objs.size + 1) (o:=.ins C s.heap.objs.size []) (t':=s.toks) (λb u q=>dV _ q) (Xu (SG _ _)) ?_;have c:s.heap.objs.size≠s.heap.objs.size + 1:=oj (SE _);refine⟨by rw[ar c,ax],Do _,c,i,λ_=>none,(Heap.Ns1.of_empty h).at λo q=>dV _ q,λ_=>XR,λy f=>absurd rfl f⟩
theorem Ow{a:Env}{f:Str}{s:Shared}{Q:VS0}(c:Xj e f a (eval e a)=eval e a)(h:wpAny (model prog w) A (eval e a) (λo b=>wpAny (model prog w) A (getAttr o f true) Q E b) E s):wpAny (model prog w) A (eval (.Attribute e f pos) a) Q E s:=
 Attribute_any_ h (by rw[arm_eval_Attribute,c])
end
def Td (K:Fg0)(ta:TE)(f:Str):TE:=λσ H Q=>ta σ H λx H1=>∃ a C dx fs v,x=.ref a/\H1 a=some (.ins C dx fs)/\Cls K C/\iH K C f/\fs.lookup f=some v/\Q v H1
def Qd (K:Fg0)(ta b:TE)(f:Str):TS:=λD σ H=>b σ H λy H1=>ta σ H1 λx H2=>∃ a C dx fs,x=.ref a/\H2 a=some (.ins C dx fs)/\Cls K C/\iH K C f/\fs.length < 1000/\
 D.nx σ (upd H2 a (.ins C dx (q9 f y fs)))
section
variable {o value:Expr}{f:Str}{pos' tpos:Pos}{tv:TE}
theorem QR(j:PE X e ta)(k:Xj e f X.env (eval e X.env)=eval e X.env):PE X (.Attribute e f pos) (Td X.K ta f):=by
 intro b s d H Q I h;refine Ow k (thn (j b s d H _ I h) λu z Z=>?_);obtain⟨x,t,r,g,a,C,B,A,v,m,o,c,n,l,q⟩:=Z;subst m;obtain rfl:u=rd a:=g;exact GL r o c n l λw y p i=>⟨v,t,p,i,q⟩
theorem Qy(r:PE X o ta)(m:PE X value tv)(p:XQ value (some (.Attribute o f pos')) pos.line X.env=pure false):PS X (.Assign [.Attribute o f pos'] value pos) (Qd X.K ta tv f):=by
 intro b s d H D I h;refine plainObj_wpAny_Assign_Attribute (thn (m b s d H _ I h) λu e ⟨y,B,A,g,q⟩=>thn (r b e d B _ A q) λk F Z=>?_) p;obtain⟨x,K,z,i,a,C,J,G,t,v,c,n,l,j⟩:=Z;subst t;obtain rfl:k=rd a:=i;exact FL z v c n l g λE w=>⟨d,_,w,j⟩
end
section
variable {pins:Pn0}{s:Shared}{E:VS0}{Q:VS0}{c:Value}{b:Bool}
inductive tN (K:Fg0) (H:Hp):V->Value->Prop where
 | non:tN K H .non (.type "NoneType")
 | bl (x:Bool):tN K H (.bl x) (.type "bool")
 | int (i:Int):tN K H (.int i) (.type "int")
 | str (x:Str):tN K H (.str x) (.type "str")
 | flt (x:UInt64):tN K H (.flt x) (.type "float")
 | lst {a:Addr} {xs:List V} (e:H a=some (.lst xs)):tN K H (.ref a) (.type "list")
 | frz {a:Addr} {o:Obj} {xs:List V} (e:H a=some (.frz o (.lst xs))):tN K H (.ref a) (.type "list")
 | tup {a:Addr} {xs:List V} (e:H a=some (.tup xs)):tN K H (.ref a) (.type "tuple")
 | dK {a:Addr} {kvs:List (Key×V)} (e:H a=some (.dK kvs)):tN K H (.ref a) (.type "dict")
 | dT {a:Addr} {kvs:List (List Key×V)} (e:H a=some (.dT kvs)):tN K H (.ref a) (.type "dict")
 | ins {a C dx:Addr} {fs:List (Str×V)} (e:H a=some (.ins C dx fs)) (cl:Cls K C) (ha:ck K (.ref C) "__class__"=some (some (.builtin "object.__class__")))
   (hn:YD K (.builtin "object.__class__") "__get__"=some (some (.builtin "getset_descriptor.__get__"))) (htk:Zl K (.builtin "object.__class__")=some true)
   (hm:ZN K C (.type "object")=some true):tN K H (.ref a) (.ref C)
theorem Co{x:V}{t:Value}(I:Inv X pins σ H s)(d:RelV x u)(v:tN X.K H x t)(e:bq X.K t c=some b)(h:∀ tk,Q (.bool b) { s with toks:=tk }) :
  wpAny (model X.prog X.w) A (call (.builtin "isinstance") [u,c]) Q E s:=by
 cases v with
 | non=>cases (show u=WM from d);exact yv PySem.W.kitx_none I.kIn XR e (λz=>nomatch z) h
 | bl y=>cases (show u=YX y from d);exact yv PySem.W.kitx_bool I.kIn XR e (λz=>nomatch z) h
 | int i=>obtain⟨t,q⟩:=(show ∃ t,u=YL i t from d);cases q;exact yv PySem.W.kitx_int I.kIn XR e (λz=>nomatch z) h
 | str y=>obtain⟨t,q⟩:=(show ∃ t,u=Yp y t from d);cases q;exact yv PySem.W.kitx_str I.kIn XR e (λz=>nomatch z) h
 | flt y=>obtain⟨t,q⟩:=(show ∃ t,u=ac2 y t from d);cases q;exact yv PySem.W.kitx_float I.kIn XR e (λz=>nomatch z) h
 | @lst a k f=>
  cases (show u=rd a from d);obtain⟨_,_,n,_,g⟩:=(show gC X.prog X.w H s.heap a (.lst k) from I.hok a _ f);exact yv aa4 I.kIn ⟨_,g,rfl⟩ e (λz=>nomatch z) h
 | @frz a w k f=>
  cases (show u=rd a from d);obtain⟨_,_,_,n,_,g⟩:=(show gC X.prog X.w H s.heap a (.frz w (.lst k)) from I.hok a _ f);exact yv aa4 I.kIn ⟨_,g,rfl⟩ e (λz=>nomatch z) h
 | @tup a k f=>
  cases (show u=rd a from d);obtain⟨_,_,_,p⟩:=(show gC X.prog X.w H s.heap a (.tup k) from I.hok a _ f);obtain⟨o,g,l,_⟩:=p;exact yv PySem.W.kitx_tuple I.kIn ⟨o,g,l⟩ e (λz=>nomatch z) h
 | @dK a j f=>
  cases (show u=rd a from d);obtain⟨_,_,L,_,p⟩:=(show gC X.prog X.w H s.heap a (.dK j) from I.hok a _ f);obtain⟨o,G,K,g,l,_⟩:=p;exact yv aa5 I.kIn ⟨o,g,l.1⟩ e (λz=>nomatch z) h
 | @dT a j f=>
  cases (show u=rd a from d);obtain⟨_,_,k,_,o,G,K,g,l,_⟩:=(show gC X.prog X.w H s.heap a (.dT j) from I.hok a _ f);exact yv aa5 I.kIn ⟨o,g,l.1⟩ e (λz=>nomatch z) h
 | @ins a C R P f r F B m D=>
  cases (show u=rd a from d);obtain⟨N,O,_⟩:=zC I.hok f;obtain⟨M,J,_⟩:=O.look;exact yv (PySem.W.kitx_own (r.get _) r.hd F B m D) I.kIn J e (λz=>nomatch z) h
end
structure dH (k:Nat) (A:Around):Prop where
 hd:A.handled=none
 dp:A.depth + 3 * k + 5 < recursionLimit
 un:A.units + 16 * k + 200 < cLine
 gd:A.guards=some []
theorem dH.mono{j:Nat}(r:dH k A)(h:j<=k):dH j A:=⟨r.hd,by have:=r.dp;lia,by have:=r.un;lia,r.gd⟩
theorem dH.deeper(r:dH (k + 1) A)(a:Env):dH k (A.deeper a):=
 ⟨r.hd,by have:=r.dp;show A.depth + 1 + 3 * k + 5 < _;lia,by have:=r.un;show A.units + 3 + 16 * k + 200 < _;lia,r.gd⟩
theorem Gy:(A.under (.builtin "type.__call__" ⟨.ref C::us,kw⟩)).depth=A.depth + 1:=by
 first | rfl | simp [Yo,Code.weight,Code.isCreation,aa6,Code.isCaller,Code.frames,aa7,guardIds]
theorem Gx:(A.under (.builtin "type.__call__" ⟨.ref C::us,kw⟩)).units=A.units + 1:=by
 first | rfl | simp [Yo,Code.cUnits,Code.frames,aa7]
theorem E2:(A.under (.builtin "type.__call__" ⟨.ref C::us,kw⟩)).guards=A.guards:=by
 first | rfl | simp [Yo,pushGuards,Code.guards,aa6,guardIds] | (cases A;simp [Yo,pushGuards,Code.guards,aa6,guardIds])
theorem dH.make(r:dH (k + 1) A)(C:Addr)(us:Lv0)(a:List (Str×Value)):dH k (A.under (.builtin "type.__call__" ⟨.ref C::us,a⟩)):=
 ⟨r.hd,by have:=r.dp;rw[Gy];lia,by have:=r.un;rw[Gx];lia,by have:=r.gd;rw[E2];exact this⟩
theorem dH.depth(r:dH k A):A.depth < recursionLimit:=by have:=r.dp;lia
def sR:TA:=λ_ H Q=>Q [] H
def kT (ta:TE)(a:TA):TA:=λσ H Q=>ta σ H λx H1=>a σ H1 λxs H2=>Q (x::xs) H2
theorem rh:PA X [] sR:=λ_ _ _ _ H Q I h=>YE ⟨[],H,I,.nil,h⟩
theorem iq(n:PE X e te)(m:PA X es t)(l:autoParam (ew (e::es) X.env=(false,eval e X.env)::ew es X.env) wE):PA X (e::es) (kT te t):=by
 intro b a s c H Q I h;rw[l];show wpAny _ _ (spliced ((false,eval e X.env)::backTo b (ew es X.env))) _ _ s;refine Yx (thn (n a s c H _ I h) λu f Z=>?_);obtain⟨x,r,p,i,k⟩:=Z;exact thn (m b a f c r _ p k) λv w ⟨d,q,o,g,j⟩=>⟨x::d,q,o,.cons i g,j⟩
def Mn (t:TA):TE:=λσ H Q=>t σ H λxs H1=>xs.length<=sizeLine/\∀ p,H1 p=none->Q (.ref p) (upd H1 p (.tup xs))
def Ta (t:TA):TE:=λσ H Q=>t σ H λxs H1=>xs.length<=sizeLine/\∀ p,H1 p=none->Q (.ref p) (upd H1 p (.lst xs))
theorem Gb{O}(h:PA X es t):PE X (.Tuple es O pos) (Mn t):=by
 intro a s g H Q I k;refine wpAny_Tuple_spliced (thn (h pos a s g H _ I k) λj c ⟨i,f,d,r,z,q⟩=>⟨by rw[<- r.length];exact z,?_⟩);have l:f c.heap.objs.size=none:=d.hok.fresh (ek _);refine⟨.ref c.heap.objs.size,upd f c.heap.objs.size (.tup i),d.laid (t':=c.toks) (λb u e=>dV _ e) (ek _) ?_,rfl,q _ l⟩;exact⟨z,j,r,⟨_,ks _ rfl,rfl,_,rfl⟩⟩
theorem QN(h:PA X es t):PE X (.List es pos) (Ta t):=by
 intro a s g H Q I k;refine wpAny_List_spliced (thn (h pos a s g H _ I k) λj c ⟨i,f,d,r,z,q⟩=>⟨by rw[<- r.length];exact z,?_⟩);have l:f c.heap.objs.size=none:=d.hok.fresh (ek _);refine⟨.ref c.heap.objs.size,upd f c.heap.objs.size (.lst i),d.laid (t':=c.toks) (λb u e=>dV _ e) (ek _) ?_,rfl,q _ l⟩;exact⟨z,j,0,r,ks _ rfl⟩
abbrev Sp:=List V->Hp->VK->XK->Prop
abbrev CXT:=List Env->Hp->Shared->XK->Value->Shared->Prop
structure Fz (P:Qk) (w:World) (K:Fg0) (mg:SV0) (base:Heap) (A:Around) (outer:List Env) (s:Shared) (H:Hp):Prop where
 frames:A.frames=some outer
 mod:Mod K mg base
 bs:∀ b o,base.get? b=some o->s.heap.get? b=some o/\Kpt H b o
 bsz:base.objs.size<=s.heap.objs.size
 uX:s.heap.FunFrames base outer
 frf:∀ b∈frs outer,H b=none
 hok:HOk P w H s.heap
 bare:YC s.gens
 tb:TabsAt base H
def CE (a:List Env)(P:Qk)(w:World)(H:Hp)(s:Shared)(Q:VK)(u:Value)(b:Shared):Prop:=
 ∃ v H',b.os=s.os/\YC b.gens/\Un (frs a) [] H H' s.heap b.heap/\HOk P w H' b.heap/\RelV v u/\Q v H'
def CR (CX:CXT)(a:List Env)(P:Qk)(w:World)(H:Hp)(s:Shared)(Q:VK)(E:XK)(r:Result)(b:Shared):Prop:=
 match r with
 | .ok (.ret u)=>CE a P w H s Q u b
 | .ok _=>False
 | .error e=>CX a H s E e b
structure aB (P:Qk) (w:World) (K:Fg0) (mg:SV0) (base:Heap) (CX:CXT) (k:Nat) (f:Addr) (fd:ec) (ps:Ls0) (sp:Sp):Prop where
 len:∀ vs H Q E,sp vs H Q E->vs.length=ps.length
 run:∀ (A:Around) (outer:List Env) (s:Shared) (H:Hp) (args:Args) (us:Lv0) (vs:List V) (Q:VK) (E:XK),dH k A->Fz P w K mg base A outer s H->aa8 s fd args (ps.zip us)->Vals vs us->sp vs H Q E->
  SB (model P w) A (.call (.ref f) args) (CR CX outer P w H s Q E) s
theorem aB.imp{b:SV0}{CX:CXT}{sp sp':Sp}(F:aB P w K b base CX k f fd ps sp)(h:∀ vs H Q E,sp' vs H Q E->sp vs H Q E):aB P w K b base CX k f fd ps sp':=
 ⟨λvs H Q E q=>F.len vs H Q E (h _ _ _ _ q),λA a s H args c vs Q E g i j d e=>F.run A a s H args c vs Q E g i j d (h _ _ _ _ e)⟩
theorem Fz.make{a:SV0}{s:Shared}(e:Fz P w K a base A outer s H)(C:Addr)(us:Lv0)(b:List (Str×Value)) :
  Fz P w K a base (A.under (.builtin "type.__call__" ⟨.ref C::us,b⟩)) outer s H:=⟨by first | exact e.frames | (simpa [Yo,Code.envs,aa7,pushEnvs] using e.frames),e.mod,e.bs,e.bsz,e.uX,e.frf,e.hok,e.bare,e.tb⟩
section
variable {pins:Pn0}{s:Shared}
theorem Inv.Vl(I:Inv X pins σ H s):Fz X.prog X.w X.K X.mg X.base X.A X.stack s H:=
 ⟨I.ok.frames,I.ok.mod,I.bs,zq I.ok.bsz I.sz,I.stack,I.zr,I.hok,I.bare,I.tb⟩
theorem Inv.after{Q:VK}(I:Inv X pins σ H s)(h:CE X.stack X.prog X.w H s Q u s'):EP X pins σ Q u s':=by
 obtain⟨v,f,os,bare,un,c,r,q⟩:=h;obtain⟨e,g,d,t,a⟩:=s';obtain rfl:a=s.os:=os;exact⟨v,f,I.call (h':=e) (g':=g) (d':=d) (t':=t) (ch:=[]) un c bare (λb z=>absurd z (by simp)),r,q⟩
end
def zJ (sp:Sp)(dvs:List V)(E:XK)(t:TA):TE:=λσ H Q=>t σ H λvs H1=>sp (vs++dvs) H1 Q E
def Eb (C:Addr)(m:Str)(sp:Sp)(dvs:List V)(E:XK)(ta:TE)(t:TA):TE:=λσ H Q=>ta σ H λx H1=>∃ a dx fs,x=.ref a/\H1 a=some (.ins C dx fs)/\fs.lookup m=none/\
 t σ H1 λvs H2=>sp (x::(vs++dvs)) H2 Q E
def JM (C:Addr)(sp:Sp)(dvs:List V)(E:XK)(t:TA):TE:=λσ H Q=>t σ H λvs H1=>∀ x dx,H1 x=none->H1 dx=none->dx≠x->
 sp (.ref x::(vs++dvs)) (upd (upd H1 dx (.own x)) x (.ins C dx [])) (λv H2=>v=.non/\Q (.ref x) H2) E
def Binds (K:Fg0)(a:ec)(ps:Ls0)(ds:Lv0):Prop:=
 ∀ (s:Shared) (us:Lv0),K.In s.heap->(us++ds).length=ps.length->aa8 s a ⟨us,[]⟩ (ps.zip (us++ds))
theorem Binds.all(h:∀ us:Lv0,us.length=ps.length->Zz fd ⟨us,[]⟩=pure (ps.zip us)):Binds K fd ps []:=λs us _ a=>by
 rw[td] at a ⊢;exact .of_eq (h us a)
def Passes (CX:CXT)(X:Cx)(E:XK):Prop:=∀ (pins:Pn0) (σ:St) (H:Hp) (s:Shared) (e:Value) (s':Shared),Inv X pins σ H s->CX X.stack H s E e s'->X.xe e s'
section
variable {CX:CXT}{sp:Sp}{dvs:List V}{ds:Lv0}{apos:Pos}{o:Expr}
theorem z8{a:Pn0}{s:Shared}{Q:VK}(F:aB X.prog X.w X.K X.mg X.base CX k f fd ps sp)(i:dH k X.A)(m:Binds X.K fd ps ds)(l:Vals dvs ds)(g:Passes CX X E)(I:Inv X a σ H s)(r:Vals vs us)(h:sp (vs++dvs) H Q E):wpAny (model X.prog X.w) X.A (call (.ref f) us) (EP X a σ Q) X.xe s:=by
 have c:Vals (vs++dvs) (us++ds):=r.append l;have j:(us++ds).length=ps.length:=by rw[<- c.length];exact F.len _ _ _ _ h
 refine ZV (Xv (F.run X.A X.stack s H ⟨us,[]⟩ (us++ds) (vs++dvs) Q E i I.Vl (m s us I.kIn j) c h) λr d b=>?_);cases r with
 | error e=>exact g a σ H s e d I b
 | ok n=>
  cases n with
  | ret u=>exact I.after b
  | next=>exact sO b
  | brk=>exact sO b
  | cont=>exact sO b
theorem Hk(F:aB X.prog X.w X.K X.mg X.base CX k f fd ps sp)(j:dH k X.A)(n:Gl X x)(l:X.mg x=some (.ref f))(m:mC X.K (.ref f)=true)(v:Binds X.K fd ps ds)(u:Vals dvs ds)(i:Passes CX X E)(w:PA X (e::es) t)(c:autoParam ((x == ("__debug__":Str))=false) wP)(o:autoParam (ew (e::es) X.env=(false,eval e X.env)::ew es X.env) wE)(b:autoParam ((backTo pos (ew es X.env)).any (·.1)=false) wE) :
  PE X (.Call (.Name x p) (e::es) [] pos) (zJ sp dvs E t):=by
 intro a s g H Q I h;refine yt (sM I n l ?_ c);refine Xn (h₀:=X.base) I.ok.mod.kin m (thn (w pos a s g H _ I h) λz A ⟨y,B,d,r,q⟩=>⟨d.kIn,?_⟩) o b;exact z8 F j v u i d r q
theorem KC(F:aB X.prog X.w X.K X.mg X.base CX k f fd ps sp)(d:dH k X.A)(i:Gl X x)(e:X.mg x=some (.ref f))(g:mC X.K (.ref f)=true)(l:Binds X.K fd ps ds)(j:Vals dvs ds)(c:Passes CX X E)(a:autoParam ((x == ("__debug__":Str))=false) wP):PE X (.Call (.Name x p) [] [] pos) (zJ sp dvs E sR):=by
 intro b s m H Q I h;refine yt (sM I i e ?_ a);exact Yk I.kIn g (z8 (us:=[]) F d l j c I .nil h)
theorem Ng{pl:Sem Bool}(D:PE X o ta)(c:Cls X.K C)(j:Meth X.K C m f)(F:aB X.prog X.w X.K X.mg X.base CX k f fd ps sp)(B:dH k X.A)(J:Binds X.K fd ps ds)(G:Vals dvs ds)(z:Passes CX X E)(K:PA X (e::es) t)(d:autoParam (ew (e::es) X.env=(false,eval e X.env)::ew es X.env) wE)(g:autoParam ((backTo pos (ew es X.env)).any (·.1)=false) wE)(A:autoParam (eval (.Call (.Attribute o m apos) (e::es) [] pos) X.env=(do
   let O <- eval o X.env
   VT apos.atName
   let (f,first) <- holding [O] (YM O m pl)
   callWith pos f first (backTo pos (ew (e::es) X.env)) (YO pos (Xp [] X.env)))) wE) :
  PE X (.Call (.Attribute o m apos) (e::es) [] pos) (Eb C m sp dvs E ta t):=by
 intro b s i H Q I h;refine Zp (pl:=pl) (thn (D b s i H _ I h) λu v Z=>?_) A;obtain⟨x,N,p,w,a,S,R,L,M,l,q⟩:=Z;subst L;obtain rfl:u=rd a:=w;refine AM p M c j l ?_;refine Xn (first:=[.ref a]) (h₀:=X.base) I.ok.mod.kin j.kp (thn (K pos b v i N _ p q) λus P ⟨vs,T,n,r,y⟩=>⟨n.kIn,?_⟩) d g;exact z8 (us:=.ref a::us) (vs:=.ref a::vs) F B J G z n (.cons rfl r) y
theorem Kw{pl:Sem Bool}(r:PE X o ta)(c:Cls X.K C)(e:Meth X.K C m f)(F:aB X.prog X.w X.K X.mg X.base CX k f fd ps sp)(p:dH k X.A)(v:Binds X.K fd ps ds)(t:Vals dvs ds)(j:Passes CX X E)(n:autoParam (eval (.Call (.Attribute o m apos) [] [] pos) X.env=(do
   let O <- eval o X.env
   VT apos.atName
   let (f,first) <- holding [O] (YM O m pl)
   callWith pos f first (backTo pos (ew [] X.env)) (YO pos (Xp [] X.env)))) wE) :
  PE X (.Call (.Attribute o m apos) [] [] pos) (Eb C m sp dvs E ta sR):=by
 intro b s g H Q I h;refine Zp (pl:=pl) (thn (r b s g H _ I h) λu z Z=>?_) n;obtain⟨x,D,d,i,a,B,A,w,y,l,q⟩:=Z;subst w;obtain rfl:u=rd a:=i;refine AM d y c e l ?_;exact Yk (first:=[.ref a]) d.kIn e.kp (z8 (us:=[.ref a]) (vs:=[.ref a]) F p v t j d (.cons rfl .nil) q)
structure Mk (K:Fg0) (C f:Addr):Prop where
 makes:se K C=true
 init:ck K (.ref C) "__init__"=some (some (.ref f))
 fn:Zb K (.ref f)=true
 kp:mC K (.ref C)=true
theorem J3{a:Pn0}{s:Shared}{Q:VK}(M:Mk X.K C f)(F:aB X.prog X.w X.K X.mg X.base CX k f fd ps sp)(n:dH (k + 1) X.A)(q:Binds X.K fd ps ds)(p:Vals dvs ds)(m:Passes CX X E)(I:Inv X a σ H s)(r:Vals vs us)(h:∀ x dx,H x=none->H dx=none->dx≠x->sp (.ref x::(vs++dvs)) (upd (upd H dx (.own x)) x (.ins C dx [])) (λv H2=>v=.non/\Q (.ref x) H2) E) :
  wpAny (model X.prog X.w) X.A (call (.ref C) us) (EP X a σ Q) X.xe s:=by
 have g:=h (s.heap.objs.size + 1) s.heap.objs.size (I.hok.fresh (ac3 _)) (I.hok.fresh (ek _)) (oj (SE _));have c:=Inv.made (C:=C) I;have d:Vals (V.ref (s.heap.objs.size + 1)::(vs++dvs)) (rd (s.heap.objs.size + 1)::(us++ds)):=.cons rfl (r.append p);have o:(rd (s.heap.objs.size + 1)::us++ds).length=ps.length:=by
  have e:=d.length;rw[F.len _ _ _ _ g] at e;exact e.symm
 refine ZV (KU (f:=f) I.kIn M.makes M.init (beq_iff_eq.mp M.fn) (Xv (F.run _ X.stack _ _ ⟨rd (s.heap.objs.size + 1)::us,[]⟩ (rd (s.heap.objs.size + 1)::(us++ds)) _ _ E (n.make C us [])
  (c.Vl.make C us []) (q _ (rd (s.heap.objs.size + 1)::us) c.kIn o) d g) λr i b=>?_))
 cases r with
 | error e=>exact m a σ _ _ e i c b
 | ok t=>
  cases t with
  | ret u=>
   obtain⟨v,z,y,j,w,l⟩:=c.after b;subst w;exact⟨j,⟨V.ref (s.heap.objs.size + 1),z,y,rfl,l⟩⟩
  | next=>exact sO b
  | brk=>exact sO b
  | cont=>exact sO b
theorem Nh(M:Mk X.K C f)(F:aB X.prog X.w X.K X.mg X.base CX k f fd ps sp)(j:dH (k + 1) X.A)(m:Gl X x)(l:X.mg x=some (.ref C))(u:Binds X.K fd ps ds)(o:Vals dvs ds)(i:Passes CX X E)(v:PA X (e::es) t)(c:autoParam ((x == ("__debug__":Str))=false) wP)(n:autoParam (ew (e::es) X.env=(false,eval e X.env)::ew es X.env) wE)(b:autoParam ((backTo pos (ew es X.env)).any (·.1)=false) wE) :
  PE X (.Call (.Name x p) (e::es) [] pos) (JM C sp dvs E t):=by
 intro a s g H Q I h;refine yt (sM I m l ?_ c);refine Xn (h₀:=X.base) I.ok.mod.kin M.kp (thn (v pos a s g H _ I h) λy z ⟨w,A,d,r,q⟩=>⟨d.kIn,?_⟩) n b;exact J3 M F j u o i d r q
end
structure ao (N P:Ls0) (sc:Scope):Prop where
 kind:sc.kind=.function
 co:sc.isCoroutine=false
 gen:sc.isGenerator=false
 nd:N.Nodup
 pre:N.take P.length=P
 par:∀ x∈P,sc.names.lookup x=some .local\/sc.names.lookup x=some .cell
 nofree:∀ y∈sc.names,y.2≠.free
theorem CK {kindOf:Str->Option GM}{x:Str}:∀ {a:List (Str×Value)} {m:SV0},(∀ v,(x,v)∉a)->bindL kindOf a m x=m x
 | [],_,_=>rfl
 | (n,v)::r,m,h=>by
  unfold bindL;rw[CK λw b=>h w (hY _ b)];split
  .have:x≠n:=by rintro rfl;exact h v lU
   simp [this]
  .rfl
theorem CM {kindOf:Str->Option GM}{x:Str}:∀ {a:List (Str×Value)} {m:SV0},(∀ v,(x,v)∉a)->bindC kindOf a m x=m x
 | [],_,_=>rfl
 | (n,v)::r,m,h=>by
  unfold bindC;rw[CM λw b=>h w (hY _ b)];split
  .rfl
  .have:x≠n:=by rintro rfl;exact h v lU
   simp [this]
theorem CL {kindOf:Str->Option GM}{x:Str}{v:Value}:∀ {P:Ls0} {vs:Lv0} {i:Nat} {m:SV0},P.Nodup->P[i]?=some x->vs[i]?=some v->kindOf x=some .local->
  bindL kindOf (P.zip vs) m x=some v
 | [],_,_,_,_,h,_,_=>by simp at h
 | _::_,[],_,_,_,_,h,_=>by simp at h
 | p::P,w::vs,0,m,c,b,a,d=>by
  simp at b a;subst b;subst a;show bindL kindOf ((p,w)::P.zip vs) m p=_;unfold bindL;rw[CK λv e=>(tq.mp c).1 (Yd e).1,if_pos d];simp
 | p::P,w::vs,i + 1,m,c,b,a,d=>by
  show bindL kindOf ((p,w)::P.zip vs) m x=_;unfold bindL;exact CL (i:=i) (tq.mp c).2 (by simpa using b) (by simpa using a) d
theorem CN {kindOf:Str->Option GM}{x:Str}{v:Value}:∀ {P:Ls0} {vs:Lv0} {i:Nat} {m:SV0},P.Nodup->P[i]?=some x->vs[i]?=some v->kindOf x≠some .local->
  bindC kindOf (P.zip vs) m x=some v
 | [],_,_,_,_,h,_,_=>by simp at h
 | _::_,[],_,_,_,_,h,_=>by simp at h
 | p::P,w::vs,0,m,c,b,a,d=>by
  simp at b a;subst b;subst a;show bindC kindOf ((p,w)::P.zip vs) m p=_;unfold bindC;rw[CM λv e=>(tq.mp c).1 (Yd e).1,if_neg d];simp
 | p::P,w::vs,i + 1,m,c,b,a,d=>by
  show bindC kindOf ((p,w)::P.zip vs) m x=_;unfold bindC;exact CN (i:=i) (tq.mp c).2 (by simpa using b) (by simpa using a) d
noncomputable def start (N:Ls0)(vs:List V):St:=vs.map some++fC (N.length - vs.length) none
noncomputable def DL (CX:CXT)(P:Qk)(w:World)(K:Fg0)(mg:SV0)(base:Heap)(N:Ls0)(a:Str)(scope:Scope)(f:Addr)(c:Value)(A:Around)(outer:List Env)(s:Shared)(H:Hp)(E:XK):Cx where
 prog:=P
 w:=w
 K:=K
 mg:=mg
 base:=base
 A:=A.deeper (envOfC a scope s.heap.objs.size f c)
 N:=N
 s₀:=s
 H₀:=H
 env:=envOfC a scope s.heap.objs.size f c
 outer:=outer
 stack:=envOfC a scope s.heap.objs.size f c::outer
 ex:=[]
 calm:=true
 fn:=λ_=>true
 pn:=[]
 xe:=λe s'=>wpAny (model P w) (A.deeper (envOfC a scope s.heap.objs.size f c)) (leaving (envOfC a scope s.heap.objs.size f c) e) (λ_ b=>CX outer H s E e b) (λd b=>CX outer H s E d b) s'
theorem Fq{a:Scope}(h:a.names.lookup x=some .cell):∃ c,(IR n a.names []).lookup x=some c:=by
 have q:=Xw a.names n [] (.inl h);exact UM.mp q
theorem IX{CX:CXT}{C:SV0}{N:Ls0}{B:Value}{s s1:Shared}(S:ao N ps scope)(J:A.handled=none)(g:Fz P w K C base A outer s H)(O:vs.length=ps.length)(r:Vals vs us)(x:InCallC s s.heap.objs.size (bindL (envOfC qual scope s.heap.objs.size f B).kindOf (ps.zip us) λ_=>none) (IR (s.heap.objs.size + 1) scope.names []) (bindC (envOfC qual scope s.heap.objs.size f B).kindOf (ps.zip us) λ_=>none) s1) :
  Inv (DL CX P w K C base N qual scope f B A outer s H E) [] (start N vs) H s1:=by
 have I:ps.length<=N.length:=by have:=congrArg List.length S.pre;rw[gs] at this;lia
 obtain⟨t,M,rfl,F⟩:=x.done;have j:∀ b:Addr,b∉(DL CX P w K C base N qual scope f B A outer s H E).ex:=λb z=>absurd (show b∈([]:La0) from z) (by simp);refine⟨⟨g.mod,S.kind,rfl,rfl,ek _,λy z c t d=>?_,λy hy=>?_,λy c _ h=>?_,λ_=>J,ZA g.frames,.inr ⟨rfl,rfl⟩,λb z=>absurd z (j b),g.bs,g.bsz,λb _ _=>j b,λb z=>absurd z (j b),g.uX,g.frf,g.tb⟩,
  rfl,g.bare,Un.kept F,⟨_,x.toInCall.ns,λi y v t d Q=>?_⟩,λy c h=>⟨_,x.cell y c h⟩,g.hok.fresh (ek _),λy c h=>?_,λp m=>absurd (show p∈([]:Pn0) from m) (by simp),g.hok.kept F,?_⟩
 .exact name_of_addr x.apart (Bk t) (Bk d)
 .have hy:scope.names.lookup y=some .cell\/scope.names.lookup y=some .free:=hy;rcases hy with hy | hy
  .exact Fq hy
  .exact absurd rfl (S.nofree _ (Bk hy))
 .exact Wn (x.above y c (Bk h))
 .have o:i < vs.length:=by
   unfold start at d;by_cases o:i < vs.length
   .exact o
   .rw[ic (by simpa using o)] at d;rw[Xq] at d;split at d <;> cases d
  have L:vs[i]?=some v:=by
   unfold start at d;rw[ef (by simpa using o),cm] at d;cases e:vs[i]? with
   | none=>rw[e] at d;cases d
   | some a=>rw[e] at d;cases d;rfl
  obtain⟨u,D,G⟩:=r.get L;have m:ps[i]?=some y:=by
   rw[<- S.pre,UV (by lia)];exact t
  have l:ps.Nodup:=by rw[<- S.pre];exact S.nd.sublist (List.take_sublist _ _)
  refine⟨u,G,?_⟩;rcases S.par y (hW m) with k | k
  .exact .inl ⟨k,CL l m D k⟩
  .obtain⟨c,e⟩:=Fq (n:=s.heap.objs.size + 1) k;refine .inr ⟨.inl k,c,e,?_⟩;have q:=x.cell y c e;rw[CN l m D (by show scope.names.lookup y≠_;rw[k];decide)] at q;exact q
 .exact g.hok.fresh (Wn (x.above y c (Bk h)))
 .unfold start;show _=N.length;rw[bS,lM0,rk];lia
theorem Pr{CX:CXT}{m:SV0}{c:Arguments}{F kV l D a G T:Value}{L R:Option Addr}{N:Ls0}{sp:Sp}(lk:K.lookup f=some ⟨T,R,.func (AC name qual c body scope F kV l D L a G),osl⟩)(C:WV K a qual=true)(S:ao N ps scope)(len:∀ vs H Q E,sp vs H Q E->vs.length=ps.length)(hbody:∀ (A:Around) (outer:List Env) (s:Shared) (H:Hp) (vs:List V) (Q:VK) (E:XK),dH k (A.deeper (envOfC qual scope s.heap.objs.size f a))->sp vs H Q E->
   ∃ t,PSs (DL CX P w K m base N qual scope f a A outer s H E) body t/\t { nx:=λ_ H'=>Q .non H',rt:=Q } (start N vs) H) :
  aB P w K m base CX (k + 1) f (AC name qual c body scope F kV l D L a G) ps sp:=by
 refine⟨len,λA outer s H args O vs Q E B j hb r i=>?_⟩;have Y:=len _ _ _ _ i;have M:K.In s.heap:=j.mod.kin.keeps λb o e=>(j.bs b o e).1;have z:s.heap.NoLimit:=j.mod.nolimit.keeps λb o e=>(j.bs b o e).1;have g:∀ y∈ps.zip O,scope.names.lookup y.1=some .local\/(scope.names.lookup y.1=some .cell/\((IR (s.heap.objs.size + 1) scope.names []).lookup y.1).isSome=true):=λ⟨n,v⟩ U=>by
  rcases S.par n (Yd U).1 with q | q
  .exact .inl q
  .exact .inr ⟨q,Xw _ _ _ (.inl q)⟩
 refine codeAny_call_function B.depth (M _ _ lk) rfl S.co S.gen rfl (PySem.W.codeRec_of M C) (hb _ _ _ _ ?_);refine wpAny_newFunctionEnv_cells S.kind g λa1 Z s1 x=>?_;subst Z;refine⟨z.keeps x.toInCall.keep,codeAny_func ?_⟩;obtain⟨t,W,X⟩:=hbody A outer s H vs Q E (B.deeper _) i;have I:Inv (DL CX P w K m base N qual scope f a A outer s H E) [] (start N vs) H s1:=IX S B.hd j Y r x;refine WT (W [] s1 (start N vs) H _ I X) (λfl s' h=>?_) λe s' h=>h;have fin:∀ {d:St} {H':Hp} {v:V} {u:Value},Inv (DL CX P w K m base N qual scope f a A outer s H E) [] d H' s'->RelV v u->Q v H'->CE outer P w H s Q u s':=
  λ{d H' v u} J p q=>⟨v,H',J.os,J.bare,J.base,J.hok,p,q⟩
 cases fl with
 | ret u=>
  obtain⟨v,d,H',J,p,q⟩:=h;exact fin J p q
 | next=>
  obtain⟨d,H',J,q⟩:=h;exact fin (v:=V.non) (u:=WM) J rfl q
 | brk=>
  obtain⟨_,_,_,q⟩:=h;exact sO q
 | cont=>
  obtain⟨_,_,_,q⟩:=h;exact sO q
section
variable {id T:String}
def tCB (r:List V->Hp->VK->Prop)(t:TA):TE:=λσ H Q=>t σ H λvs H1=>r vs H1 Q
theorem KA(u:eO X (.builtin id) r)(o:Gl X x)(n:X.mg x=none)(l:zp x=some (.builtin id))(v:PA X (e::es) t)(m:autoParam (x≠"__name__") wP)(c:autoParam ((x == ("__debug__":Str))=false) wP)(q:autoParam (ew (e::es) X.env=(false,eval e X.env)::ew es X.env) wE)(b:autoParam ((backTo pos (ew es X.env)).any (·.1)=false) wE):PE X (.Call (.Name x p) (e::es) [] pos) (tCB r t):=by
 intro a s d H Q I h;refine yt (nQ I o n l ?_ m c);exact PyProof.Rows.callWith_builtin1 (thn (v pos a s d H _ I h) λg i ⟨f,y,w,j,k⟩=>u a i d y f g Q w j k) q b
theorem Iu(u:eO X (.type T) r)(o:Gl X x)(n:X.mg x=none)(l:zp x=some (.type T))(v:PA X (e::es) t)(m:autoParam (x≠"__name__") wP)(c:autoParam ((x == ("__debug__":Str))=false) wP)(q:autoParam (ew (e::es) X.env=(false,eval e X.env)::ew es X.env) wE)(b:autoParam ((backTo pos (ew es X.env)).any (·.1)=false) wE):PE X (.Call (.Name x p) (e::es) [] pos) (tCB r t):=by
 intro a s d H Q I h;refine yt (nQ I o n l ?_ m c);exact ro (thn (v pos a s d H _ I h) λg i ⟨f,y,w,j,k⟩=>u a i d y f g Q w j k) q b
end
end _2
variable {prog:Qk}{v cd it acc:KB}{o tg elt iter:XO}{Q:Option KB->Wg->Prop}{lo hi:Option XO}{n j k k1 k2:Nat}{t:_2.TA}{X Y:_2.Cx}{e p f l C z i1 l1 l2 L:Wx}{te ta:_2.TE}{pos p2 apos cpos tp p0:ab3}{r:_2.V->Option Int->Option Int->_2.Hp->_2.VK->Prop}{σ:_2.St}{H H2 H' H₀:_2.Hp}{xs dvs:List _2.V}{ys:Array KB}{its its' us:Lv0}{y:_2.V}{es ifs:List XO}{name qual:XJ}{kvs:List (_2.Key×_2.V)}{K:Fg0}{base:ZR}{st:ad0}{fd:ec}{N ps Nc:Ls0}{osl:Array (Option KB)}{sc scope:PySem.Scope}{env:ae2}{g:_2.TG}{oe:PySem.Obj}{fr:On}{s₀ s2:Wg}{ex fp:La0}{R:aa2->Wg->Prop}{outer:List ae2}{dx:Option Wx}{E:_2.XK}{tn:Nat->ZR->Prop}{J:_2.It}{wi:_2.TI}{RR:KB->Wx->aa2->Wg->Prop}
namespace _h
open PySem PyProof.Rows
section
variable {E:VS0}{s:Shared}
noncomputable def sIx (n d:Nat):Option Int->Nat
 | none=>d
 | some v=>if v < 0 then (v + (n:Int)).toNat else min v.toNat n
theorem Eu(n d:Nat):sIx n d none=d:=rfl
theorem zw(n d k:Nat):sIx n d (some (k:Int))=min k n:=by
 show (if (k:Int) < 0 then ((k:Int) + (n:Int)).toNat else min (k:Int).toNat n)=min k n;rw[if_neg (by lia),ky]
theorem Qc(n d:Nat)(b:d<=n)(o:Option Int):sIx n d o<=n:=by
 cases o with
 | none=>exact b
 | some v=>
  show (if v < 0 then (v + (n:Int)).toNat else min v.toNat n)<=n;by_cases a:v < 0
  .rw[if_pos a];lia
  .rw[if_neg a];exact Nat.min_le_right _ _
theorem HN(v:Int)(n d:Nat):(if v < 0 then max (v + (n:Int)) 0 else min v (n:Int))=((sIx n d (some v):Nat):Int):=by
 show (if v < 0 then max (v + (n:Int)) 0 else min v (n:Int))=(((if v < 0 then (v + (n:Int)).toNat else min v.toNat n):Nat):Int);by_cases a:v < 0
 .simp only[if_pos a];lia
 .simp only[if_neg a];lia
theorem G3(lo a:Option Int)(n:Nat):Xd lo a 1 (n:Int)=(((sIx n 0 lo:Nat):Int),((sIx n n a:Nat):Int)):=by
 have b:¬ ((1:Int) < 0):=by lia
 unfold Xd;simp only[b,if_false];refine Prod.ext ?_ ?_
 .cases lo with
  | none=>rfl
  | some v=>exact HN v n 0
 .cases a with
  | none=>rfl
  | some v=>exact HN v n n
theorem Ga(i j:Nat):SZ (i:Int) (j:Int) 1=j - i:=by
 unfold SZ;have a:(1:Int) > 0:=by lia
 simp only[a,if_true,Int.ediv_one];split <;> lia
theorem zM{o:Option Int}{Q:Option Int->Shared->Prop}(p:IsPart v o)(h:Q o s):wpAny (model prog w) A (Builtin.Slice.slicePartIndex v) Q E s:=by
 cases p with
 | none=>exact slicePart_none h
 | int i t=>exact slicePart_int h
theorem xl{f:Addr}{e d:Value}{lo b:Option Int}{Q:Int×Int×Nat->Shared->Prop}(i:s.heap.IsSliceOf f e d .none)(pl:IsPart e lo)(g:IsPart d b)(h:Q (((sIx n 0 lo:Nat):Int),1,sIx n n b - sIx n 0 lo) s):wpAny (model prog w) A (Yy (.ref f) (pure (n:Int))) Q E s:=by
 obtain⟨os,a,j,c⟩:=id i;unfold Yy Builtin.Slice.sliceFields;refine bD (bD (Ol a c (x:=e) rfl (bD (Ol a c (x:=d) rfl (bD (Ol a c (x:=.none) rfl (hF ?_)))))));refine bD (slicePart_none ?_);show wpAny _ _ (if ((1:Int) == 0)=true then _ else _) _ _ s;rw[if_neg (by decide)];refine bD (zM pl (bD (zM g (bD (hF ?_)))));show wpAny _ _ (match Xd lo b 1 (n:Int) with | (lo,b)=>pure (lo,(1:Int),SZ lo b 1)) _ _ s;rw[G3 lo b n];show wpAny _ _ (pure (((sIx n 0 lo:Nat):Int),(1:Int),SZ ((sIx n 0 lo:Nat):Int) ((sIx n n b:Nat):Int) 1)) _ _ s;rw[Ga];exact hF h
theorem Kr(xs:Array Value)(i k:Nat):((el k).filterMap λ(m:Nat)=>xs[((i:Int) + (m:Int) * 1).toNat]?).toArray=((xs.toList.drop i).take k).toArray:=by
 have e:(λ(m:Nat)=>xs[((i:Int) + (m:Int) * 1).toNat]?)=λm=>xs[i + m]?:=by
  funext m
  have:((i:Int) + (m:Int) * 1).toNat=i + m:=by lia
  rw[this]
 rw[e];have:=pick_run xs i k;rw[Yz] at this;have a:((λx=>xs[x]?) ∘ λx=>i + x)=λm=>xs[i + m]?:=rfl;rw[a] at this;rw[this]
theorem we{t d:Addr}{items:Array Value}{k j:Value}{lo b:Option Int}{Q:VS0}(c:IsTup s.heap t items)(l:s.heap.IsSliceOf d k j .none)(pl:IsPart k lo)(n:IsPart j b)(o:¬ (sIx items.size 0 lo=0/\sIx items.size items.size b=items.size))(h:Q (.ref s.heap.objs.size) { s with heap:=s.heap.push { cls:=.type "tuple",data:=.seq ((items.toList.drop (sIx items.size 0 lo)).take (sIx items.size items.size b - sIx items.size 0 lo)).toArray } })(hsz:items.size<=sizeLine):wpAny (model prog w) A (ac8 (.ref t) (.ref d)) Q E s:=by
 have a:sizeOk (.seq ((items.toList.drop (sIx items.size 0 lo)).take (sIx items.size items.size b - sIx items.size 0 lo)).toArray):=by
  show ((items.toList.drop (sIx items.size 0 lo)).take (sIx items.size items.size b - sIx items.size 0 lo)).toArray.size<=sizeLine;rw[hL,gs,lr,Xf];lia
 have v:sIx items.size items.size b<=items.size:=Qc _ _ (ek _) b;obtain⟨os,e,g,p⟩:=id l;have i:s.TypeIs (.ref d) "slice":=⟨os,e,g⟩;unfold ac8
 try with_reducible refine MX ?_
 first | refine bD (hF ?_) | skip
 refine bD (wpAny_sequenceKey c.typeIs (by decide) ?_);refine bD (Xr (name:=mu "__getitem__") c.typeIs Qn
  (XS Qn c.typeIs entry_tuple_getitem ?_ (args_tuple_getitem _ _)))
 show wpAny _ _ (Builtin.Tuple.tupleItemsOf (.ref t) >>= _) _ _ s;refine bD (tupleItemsOf_ c ?_);refine bD (wpAny_typeOf i ?_);rw[if_pos (by decide)];refine bD (xl l pl n ?_);have f:¬ ((((sIx items.size 0 lo:Nat):Int) == 0 && (1:Int) == 1 && (sIx items.size items.size b - sIx items.size 0 lo) == items.size)=true):=by
  intro q;rw[sE,sE] at q;have u:((sIx items.size 0 lo:Nat):Int)=0:=eq_of_beq q.1.1;have r:sIx items.size items.size b - sIx items.size 0 lo=items.size:=eq_of_beq q.2;exact o ⟨by lia,by lia⟩
 show wpAny _ _ (if (((sIx items.size 0 lo:Nat):Int) == 0 && (1:Int) == 1 && (sIx items.size items.size b - sIx items.size 0 lo) == items.size)=true then _ else _) _ _ s;rw[if_neg f,Kr]
 first
  | exact bD (m:=Va _) (Gc (hF ⟨_,rfl,hF h⟩) a)
  | exact bD (m:=Va _) (Gc (bD (hF (hF ⟨_,rfl,hF h⟩))) a)
  | exact bD (bD (m:=Va _) (Gc (hF (hF ⟨_,rfl,hF h⟩)) a))
  | exact bD (bD (m:=Va _) (Gc (hF ⟨_,rfl,hF h⟩) a))
end
end _h
namespace _2
open PySem PySem.Spec PyProof.Rows
abbrev TO:=St->Hp->(Option Int->Hp->Prop)->Prop
def PO (X:Cx)(e:Option Expr)(t:TO):Prop:=
 ∀ (pins:Pn0) (s:Shared) (σ:St) (H:Hp) (Q:Option Int->Hp->Prop),Inv X pins σ H s->t σ H Q->
  wpAny (model X.prog X.w) X.A (evalPart e X.env) (λu s'=>∃ o H',Inv X pins σ H' s'/\IsPart u o/\Q o H') X.xe s
def G_:TO:=λ_ H Q=>Q none H
def OR (t:TE):TO:=λσ H Q=>t σ H λx H1=>∃ i,x=.int i/\Q (some i) H1
section
variable {e:Expr}{tl th:TO}
theorem M9:PO X none G_:=by
 intro a s b H Q I h;rw[evalPart_none];exact hF ⟨none,H,I,.none,h⟩
theorem M8(h:PE X e te):PO X (some e) (OR te):=by
 intro a s b H Q I f;rw[evalPart_some];refine thn (h a s b H _ I f) λu k Z=>?_;obtain⟨x,j,g,c,d⟩:=Z;obtain⟨i,rfl,q⟩:=d;obtain⟨t,rfl⟩:=c;exact⟨some i,j,g,.int i t,q⟩
def SlR (X:Cx)(r:V->Option Int->Option Int->Hp->VK->Prop):Prop:=
 ∀ (pins:Pn0) (s:Shared) (σ:St) (H:Hp) (x:V) (v b a:Value) (lo hi:Option Int) (c:Addr) (Q:VK),Inv X pins σ H s->RelV x v->s.heap.IsSliceOf c b a .none->IsPart b lo->IsPart a hi->r x lo hi H Q->
  ∃ T id,typeLookup (.type T) "__getitem__"=pure (some (.builtin id))/\s.TypeIs v T/\wpAny (model X.prog X.w) X.A (ac8 v (.ref c)) (EP X pins σ Q) X.xe s
def tSl (r:V->Option Int->Option Int->Hp->VK->Prop)(te:TE)(tl a:TO):TE:=λσ H Q=>te σ H λx H1=>tl σ H1 λl H2=>a σ H2 λu b=>r x l u b Q
theorem EI(z:SlR X r)(C:PE X e te)(A:PO X lo tl)(w:PO X hi th):PE X (.Subscript e (.Slice lo hi none p2) pos) (tSl r te tl th):=by
 intro a s d H Q I h;refine Subscript_ (thn (C a s d H _ I h) λv j Z=>?_);obtain⟨x,L,J,k,o⟩:=Z;refine wpAny_Slice (thn (A a j d L _ J o) λf i ⟨l,K,G,t,n⟩=>thn (w a i d K _ G n) λvu c Z=>?_);obtain⟨u,g,F,p,m⟩:=Z;rw[evalPart_none];refine hF ?_;have E:Inv X a d g { c with heap:=c.heap.push { cls:=.type "slice",data:=.fields #[f,vu,.none] } }:=F.kept (t':=c.toks) λb M q=>dV _ q;obtain⟨T,id,D,y,B⟩:=z a { c with heap:=c.heap.push { cls:=.type "slice",data:=.fields #[f,vu,.none] } } d g x v f vu l u c.heap.objs.size Q E k (ZW ..) t p m;show wpAny (model X.prog X.w) X.A (ZO e (.Slice lo hi none p2) v (.ref c.heap.objs.size)) (EP X a d Q) X.xe { c with heap:=c.heap.push { cls:=.type "slice",data:=.fields #[f,vu,.none] } };exact tail_any (ops:=[.ref c.heap.objs.size,v]) y D B (by with_unfolding_all rfl)
noncomputable def BW (xs:List V)(lo a:Option Int):List V:=(xs.drop (_h.sIx xs.length 0 lo)).take (_h.sIx xs.length xs.length a - _h.sIx xs.length 0 lo)
theorem yE(xs:List V)(lo a:Option Int):(BW xs lo a).length<=xs.length:=by
 unfold BW;rw[gs,lr];lia
noncomputable def Tr (K:Fg0):V->Option Int->Option Int->Hp->VK->Prop:=λx lo hi H Q=>∃ a xs,x=.ref a/\SqT K H a xs/\
 ¬ (_h.sIx xs.length 0 lo=0/\_h.sIx xs.length xs.length hi=xs.length)/\∀ p,H p=none->Q (.ref p) (upd H p (.tup (BW xs lo hi)))
theorem P_:SlR X (Tr X.K):=by
 intro g s u H x v y w lo f z Q I k t m l h;obtain⟨a,d,rfl,n,p,q⟩:=h;cases k;obtain⟨e,r,j,i⟩:=I.tuple n;have c:e.toArray.size=d.length:=by rw[hL];exact r.length.symm
 refine⟨"tuple",_,Qn.lookup,j.typeIs,?_⟩;refine _h.we j t m l (by rw[c];exact p) ?_ (by rw[c];exact i);rw[c];refine⟨.ref s.heap.objs.size,_,I.laid (t':=s.toks) (o:=.tup (BW d lo f)) (λb A q=>dV _ q) (ek _) ?_,rfl,q _ (I.hok.fresh (ek _))⟩;exact⟨zq (yE d lo f) i,_,(r.drop (_h.sIx d.length 0 lo)).take (_h.sIx d.length d.length f - _h.sIx d.length 0 lo),ae3 _ _⟩
end
noncomputable def ixN (n:Nat)(i:Int):Option Nat:=if 0<=i then (if i < n then some i.toNat else none) else if -(n:Int)<=i then some (i + n).toNat else none
noncomputable def atI {α:Type}(xs:List α)(i:Int):Option α:=(ixN xs.length i).bind λj=>xs[j]?
theorem Hx{i:Int}(h:ixN n i=some j):seqIndex? i n=some j/\j < n/\-(n:Int)<=i/\i < n:=by
 unfold ixN at h;by_cases b:0<=i
 .rw[if_pos b] at h;by_cases a:i < n
  .rw[if_pos a] at h;have e:i.toNat=j:=ov h;exact⟨by rw[ac4 b a,e],by lia,by lia,a⟩
  .rw[if_neg a] at h;cases h
 .rw[if_neg b] at h;by_cases a:-(n:Int)<=i
  .rw[if_pos a] at h;have e:(i + n).toNat=j:=ov h;exact⟨by rw[aa9 (by lia) a,e],by lia,a,by lia⟩
  .rw[if_neg a] at h;cases h
theorem DZ{a:Type}{xs:List a}{i:Int}{v:a}(h:atI xs i=some v):∃ j,seqIndex? i xs.length=some j/\xs[j]?=some v/\j < xs.length/\-(xs.length:Int)<=i/\i < xs.length:=by
 unfold atI at h;cases e:ixN xs.length i with
 | none=>rw[e] at h;cases h
 | some j=>
  rw[e] at h;obtain⟨f,d,c,b⟩:=Hx e;exact⟨j,f,h,d,c,b⟩
theorem Oy{a:Type}{xs:List a}{v:a}(h:xs[j]?=some v):atI xs (j:Int)=some v:=by
 have b:j < xs.length:=(gS0 h).1;have e:ixN xs.length (j:Int)=some j:=by
  unfold ixN;rw[if_pos (by lia),if_pos (by lia)];simp
 unfold atI;rw[e];exact h
theorem lV{a:Type}(xs:List a)(v:a):atI (xs++[v]) (-1)=some v:=by
 have b:(xs++[v]).length=xs.length + 1:=by simp
 have e:ixN (xs++[v]).length (-1)=some xs.length:=by
  unfold ixN;rw[b,if_neg (by decide),if_pos (by lia)]
  congr 1
  lia
 unfold atI;rw[e];show (xs++[v])[xs.length]?=some v;simp
def HX (b:Expr):Prop:=∀ o i,subscripted b false o i=operate [o,i] (ac8 o i)
def IxR (X:Cx)(r:R2):Prop:=
 ∀ (value slice:Expr) (pins:Pn0) (s:Shared) (σ:St) (H:Hp) (x y:V) (v u:Value) (Q:VK),Inv X pins σ H s->RelV x v->RelV y u->r x y H Q->
  subscripted slice false v u=operate [v,u] (ac8 v u)->wpAny (model X.prog X.w) X.A (ZO value slice v u) (EP X pins σ Q) X.xe s
def MtR (X:Cx)(id:String)(r:V->List V->Hp->VK->Prop):Prop:=
 ∀ (pins:Pn0) (s:Shared) (σ:St) (H:Hp) (x:V) (xs:List V) (v:Value) (us:Lv0) (Q:VK),Inv X pins σ H s->RelV x v->Vals xs us->r x xs H Q->
  wpAny (model X.prog X.w) X.A (call (.builtin id) (v::us)) (EP X pins σ Q) X.xe s
section
variable {a b:Expr}{tb:TE}
theorem IxR.or{r f:R2}(h:IxR X r)(h':IxR X f):IxR X (λx y H Q=>r x y H Q\/f x y H Q):=by
 intro a slice b s c H x y v u Q I e d q g;rcases q with q | q
 .exact h a slice b s c H x y v u Q I e d q g
 .exact h' a slice b s c H x y v u Q I e d q g
theorem TM{r:R2}(j:IxR X r)(l:PE X a ta)(k:PE X b tb)(i:HX b):PE X (.Subscript a b pos) (tOp r ta tb):=by
 intro c s d H Q I h;exact Subscript_ (Sv l k I h λv u e x y n m g f q=>j a b c e d n x y v u Q m g f q (i _ _))
def Tv (K:Fg0):R2:=λx y H Q=>∃ p xs i v,x=.ref p/\y=.int i/\SqL K H p xs/\atI xs i=some v/\Q v H
def Tt (K:Fg0):R2:=λx y H Q=>∃ p xs i v,x=.ref p/\y=.int i/\SqT K H p xs/\atI xs i=some v/\Q v H
def Tu:R2:=λx y H Q=>∃ z i c,x=.str z/\y=.int i/\z.length<=sizeLine/\atI z.cps.toList i=some c/\Q (.str ⟨#[c]⟩) H
theorem NZ:IxR X (Tv X.K):=by
 intro c slice a s k H x y v u Q I B A h l;obtain⟨p,K,i,z,rfl,rfl,C,E,q⟩:=h;cases B;obtain⟨t,rfl⟩:=A;obtain⟨f,r,e,L⟩:=I.list C;obtain⟨j,b,J,N,G,F⟩:=DZ E;obtain⟨w,n,d⟩:=r.get J;have D:=r.length;have M:=xG;have fin:EP X a k Q w s:=⟨z,H,I,d,q⟩;by_cases m:0<=i
 .have g:i.toNat=j:=by
   rw[ac4 m F] at b;exact ov b
  exact item_listR e.isList m (by lia) (by rw[g];simpa using n) fin l
 .have g:(i + (f.toArray.size:Int)).toNat=j:=by
   rw[aa9 (by lia) G] at b;rw[hL,<- D];exact ov b
  exact Zc (x:=w) e.isList.typeIs YF.lookup
   (wpAny_getItem_list_neg (Q:=λr o=>r=w/\EP X a k Q r o) e.isList (by lia) (by rw[hL] <;> lia) (by lia) (by rw[g];simpa using n) ⟨rfl,fin⟩) l
theorem Rw:IxR X (Tt X.K):=by
 intro b slice a s d H x y v u Q I k g h m;obtain⟨p,E,i,z,rfl,rfl,n,A,q⟩:=h;cases k;obtain⟨t,rfl⟩:=g;obtain⟨l,r,e,F⟩:=I.tuple n;obtain⟨j,C,B,L,K,J⟩:=DZ A;obtain⟨w,D,c⟩:=r.get B;have o:=r.length;have G:=xG;have fin:EP X a d Q w s:=⟨z,H,I,c,q⟩;exact Zc (x:=w) e.typeIs Qn.lookup
  (getItem_tuple (j:=j) (Q:=λr f=>r=w/\EP X a d Q r f) e (by lia) (by lia) (by rw[hL,<- o];exact C) (by simpa using D) ⟨rfl,fin⟩) m
theorem Rx:IxR X Tu:=by
 intro a slice b s w H x y v u Q I f e h g;obtain⟨z,i,c,rfl,rfl,B,l,q⟩:=h;obtain⟨t,rfl⟩:=f;obtain⟨A,rfl⟩:=e;obtain⟨j,d,o,D,n,m⟩:=DZ l;have k:z.cps.toList.length=z.length:=by simp [Str.length]
 rw[k] at d n m;have C:=xG;exact tail_any (typeIs_str s z t) slot_str_getitem.lookup (getItem_str (c:=c) (by
  have r:decide (i < -(2 ^ 63:Int))=false:=decide_eq_false (by lia);have p:decide (i≥2 ^ 63)=false:=decide_eq_false (by lia);rw[r,p,Bool.or_false]) (by rw[d];simpa using o) ⟨.str ⟨#[c]⟩,H,I.tok _,⟨_,rfl⟩,q⟩) g
def rIx (K:Fg0):R2:=λx y H Q=>Tv K x y H Q\/Tt K x y H Q\/Tu x y H Q
theorem Ry:IxR X (rIx X.K):=NZ.or (Rw.or Rx)
theorem Gv(a:Lv0)(n j:Nat)(u:Value):Fk (·.setIfInBounds j u) { cls:=.type "list",data:=.seq a.toArray n }={ cls:=.type "list",data:=.seq (a.set j u).toArray n }:=by
 simp [Fk]
theorem Inv.lst {a:Pn0}{σ:St}{H:Hp}{s:Shared}{p:Addr}{xs:List V}(I:Inv X a σ H s)(h:H p=some (.lst xs)) :
  ∃ (its:Lv0) (n:Nat),Vals xs its/\s.heap.get? p=some { cls:=.type "list",data:=.seq its.toArray n }/\xs.length<=sizeLine:=by
 obtain⟨z,its,n,r,e⟩:=I.hok p _ h;exact⟨its,n,r,e,z⟩
theorem Inv.Ri{a:Pn0}{s:Shared}{ys:List V}{c:Nat}{f:Obj->Obj}(I:Inv X a σ H s)(h:H p=some (.lst xs))(g:s.heap.get? p=some { cls:=.type "list",data:=.seq its.toArray n })(d:f { cls:=.type "list",data:=.seq its.toArray n }={ cls:=.type "list",data:=.seq its'.toArray c })(r:Vals ys its')(hz:ys.length<=sizeLine)(t:Nat) :
  Inv X a σ (upd H p (.lst ys)) { s with heap:=s.heap.update p f,toks:=t }:=by
 have e:(s.heap.update p f).get? p=some { cls:=.type "list",data:=.seq its'.toArray c }:=by
  rw[SV f g (by rw[d] <;> rfl),d]
 refine I.write (x:=p) (e:=p) (by rw[h];trivial) (.inl rfl) (λb u i q=>(SC _ _ (rl i)).trans q) ⟨_,e⟩ ?_;exact⟨hz,its',c,r,e⟩
noncomputable def ED:V->V->V->Hp->(Hp->Prop)->Prop:=λo i v H Q=>∃ p xs k j,o=.ref p/\i=.int k/\H p=some (.lst xs)/\ixN xs.length k=some j/\Q (upd H p (.lst (xs.set j v)))
theorem set_list:VR X ED:=by
 intro a s y H o i v F G u Q I B C A h;obtain⟨p,z,k,j,rfl,rfl,g,E,q⟩:=h;cases B;obtain⟨t,rfl⟩:=C;obtain⟨b,n,r,d,D⟩:=I.lst g;obtain⟨c,K,m,l⟩:=Hx E;have e:=r.length;have J:=xG;have x:Inv X a y (upd H p (.lst (z.set j v))) { s with heap:=s.heap.update p (Fk (·.setIfInBounds j u)) }:=
  I.Ri g d (Gv b n j u) (r.set A j) (by rw[tr];exact D) s.toks
 by_cases w:0<=k
 .have f:k.toNat=j:=by
   rw[ac4 w l] at c;exact ov c
  exact PySem.W.ki_setAt d w (by lia) (by rw[hL,<- e];exact l) (by rw[f];exact⟨_,x,q⟩)
 .have f:(k + (b.toArray.size:Int)).toNat=j:=by
   rw[aa9 (by lia) m] at c;rw[hL,<- e];exact ov c
  exact PySem.W.ki_setBack d (by lia) (by rw[hL,<- e];exact m) (by lia) (by rw[f];exact⟨_,x,q⟩)
theorem CY(lo a:Option Int)(n:Nat):(sN lo a none n).1=((_h.sIx n 0 lo:Nat):Int)/\(sN lo a none n).2.1=((_h.sIx n n a:Nat):Int)/\(sN lo a none n).2.2=1:=by
 refine⟨?_,?_,rfl⟩
 .cases lo with
  | none=>simp [sN,_h.sIx]
  | some i=>
   simp only[sN,_h.sIx,ab8,show (1:Int) > 0 by decide,if_true];by_cases h:i < 0
   .simp only[h,if_true] <;> lia
   .simp only[h,if_false] <;> lia
 .cases a with
  | none=>simp [sN,_h.sIx]
  | some i=>
   simp only[sN,_h.sIx,ab8,show (1:Int) > 0 by decide,if_true];by_cases h:i < 0
   .simp only[h,if_true] <;> lia
   .simp only[h,if_false] <;> lia
theorem Bv(a:Lv0)(lo b:Option Int):ZH a.toArray lo b none=((a.drop (_h.sIx a.length 0 lo)).take (_h.sIx a.length a.length b - _h.sIx a.length 0 lo)).toArray:=by
 obtain⟨e,d,c⟩:=CY lo b a.toArray.size;unfold ZH;rw[e,d,c];simp only[sliceRange_one,pick_run,hL] <;> rfl
noncomputable def Ts (K:Fg0):V->Option Int->Option Int->Hp->VK->Prop:=λx lo hi H Q=>∃ a xs,x=.ref a/\SqL K H a xs/\∀ p,H p=none->Q (.ref p) (upd H p (.lst (BW xs lo hi)))
theorem Mw:SlR X (Ts X.K):=by
 intro f s t H x v w u lo e y Q I i p k j h;obtain⟨a,c,rfl,n,q⟩:=h;cases i;obtain⟨l,r,g,m⟩:=I.list n;have d:=r.length;refine⟨"list",_,YF.lookup,g.isList.typeIs,?_⟩;refine YH g.isList p k j .none (by simp) ?_ (by rw[hL] <;> lia);rw[Bv,<- d];refine⟨.ref s.heap.objs.size,_,I.laid (t':=s.toks) (o:=.lst (BW c lo e)) (λb z q=>dV _ q) (ek _) ?_,rfl,q _ (I.hok.fresh (ek _))⟩;exact⟨zq (yE c lo e) m,_,0,(r.drop (_h.sIx c.length 0 lo)).take (_h.sIx c.length c.length e - _h.sIx c.length 0 lo),ks _ rfl⟩
noncomputable def tX:V->Bool
 | .non=>true
 | .bl _=>true
 | .int _=>true
 | .str _=>true
 | _=>false
noncomputable def eqV:V->V->Bool
 | .non,.non=>true
 | .bl a,.bl b=>a == b
 | .bl a,.int b=>(if a then 1 else 0) == b
 | .int a,.bl b=>a == (if b then 1 else 0)
 | .int a,.int b=>a == b
 | .str a,.str b=>a == b
 | _,_=>false
theorem Sf{s:Shared}{x:V}(e:RelV y u)(c:RelV x v)(fy:tX y=true)(fx:tX x=true):SeqAt.EqAt A s u v (eqV y x):=by
 cases y with
 | non=>
  cases e;cases x with
  | non=>cases c;exact YW _
  | bl b=>cases c;exact SeqAt.EqAt.none_bool b
  | int b=>obtain⟨t,rfl⟩:=c;exact SeqAt.EqAt.none_int b t
  | str b=>obtain⟨t,rfl⟩:=c;exact SeqAt.EqAt.none_str b t
  | _=>exact absurd (show false=true from fx) pF
 | bl a=>
  cases e;cases x with
  | non=>cases c;exact SeqAt.EqAt.bool_none a
  | bl b=>cases c;exact SeqAt.EqAt.bool_bool a b
  | int b=>obtain⟨t,rfl⟩:=c;exact SeqAt.EqAt.bool_int a b t
  | str b=>obtain⟨t,rfl⟩:=c;exact SeqAt.EqAt.bool_str a b t
  | _=>exact absurd (show false=true from fx) pF
 | int a=>
  obtain⟨d,rfl⟩:=e;cases x with
  | non=>cases c;exact SeqAt.EqAt.int_none a d
  | bl b=>cases c;exact SeqAt.EqAt.int_bool a d b
  | int b=>obtain⟨t,rfl⟩:=c;exact SeqAt.EqAt.int_int a d b t
  | str b=>obtain⟨t,rfl⟩:=c;exact ZS a d b t
  | _=>exact absurd (show false=true from fx) pF
 | str a=>
  obtain⟨d,rfl⟩:=e;cases x with
  | non=>cases c;exact SeqAt.EqAt.str_none a d
  | bl b=>cases c;exact SeqAt.EqAt.str_bool a d b
  | int b=>obtain⟨t,rfl⟩:=c;exact ZT a d b t
  | str b=>obtain⟨t,rfl⟩:=c;exact SeqAt.EqAt.str_str a d b t
  | _=>exact absurd (show false=true from fx) pF
 | _=>exact absurd (show false=true from fy) pF
noncomputable def eqU (x:V)(u:Value):Bool:=match u with
 | .none=>eqV .non x
 | .bool b=>eqV (.bl b) x
 | .int i _=>eqV (.int i) x
 | .str z _=>eqV (.str z) x
 | _=>false
theorem Ls{x:V}(r:RelV y u)(f:tX y=true):eqU x u=eqV y x:=by
 cases y with
 | non=>cases r;rfl
 | bl b=>cases r;rfl
 | int i=>obtain⟨t,rfl⟩:=r;rfl
 | str z=>obtain⟨t,rfl⟩:=r;rfl
 | _=>exact absurd (show false=true from f) pF
theorem D6 {x:V}:∀ {xs:List V} {us:Lv0},Vals xs us->xs.all tX=true->us.any (eqU x)=xs.any λy=>eqV y x
 | _,_,.nil,_=>rfl
 | y::xs,u::us,.cons r t,f=>by
  rw[XW,sE] at f;rw[List.any_cons,List.any_cons,Ls r f.1,D6 t f.2]
theorem Aw {A:Around}{s:Shared}{x:V}{v:Value}(a:RelV x v)(fx:tX x=true):∀ {xs:List V} {us:Lv0},Vals xs us->xs.all tX=true->∀ u∈us,SeqAt.EqAt A s u v (eqU x u)
 | _,_,.nil,_=>λu hu=>by cases hu
 | y::xs,u::us,.cons r t,f=>λb hu=>by
  rw[XW,sE] at f;rcases fg.mp hu with rfl | hu
  .rw[Ls r f.1];exact Sf r a f.1 fx
  .exact Aw a fx t f.2 b hu
noncomputable def inV (x:V)(xs:List V):Bool:=xs.any λy=>eqV y x
def rIn (K:Fg0)(a:Bool):R2:=λx y H Q=>∃ p xs,y=.ref p/\(SqL K H p xs\/SqT K H p xs)/\tX x=true/\xs.all tX=true/\Q (.bl (if a then !inV x xs else inV x xs)) H
theorem IA:OpR X (Ub .In) (rIn X.K false):=by
 intro f s j H x y v u Q I e g h;obtain⟨p,k,rfl,hq,fx,b,q⟩:=h;cases g;rcases hq with hq | hq
 .obtain⟨a,r,c,i⟩:=I.list hq;refine SeqAt.in_listAt (eqU x) c.isList (λw d=>Aw e fx r b w (by simpa using d)) ⟨.bl _,H,I,rfl,?_⟩;rw[show a.toArray.any (eqU x)=a.any (eqU x) by simp,D6 r b];exact q
 .obtain⟨a,r,c,i⟩:=I.tuple hq;refine SeqAt.in_tupleAt (eqU x) c (λw d=>Aw e fx r b w (by simpa using d)) ⟨.bl _,H,I,rfl,?_⟩;rw[show a.toArray.any (eqU x)=a.any (eqU x) by simp,D6 r b];exact q
theorem DR:eO X (.builtin "len") (λxs H Q=>∃ p ys,xs=[.ref p]/\(SqL X.K H p ys\/SqT X.K H p ys)/\Q (.int ys.length) H):=by
 intro e s i H xs j Q I r h;obtain⟨p,ys,rfl,hq,q⟩:=h;obtain⟨u,rfl,f⟩:=vals1 r;cases f;have k:=xG;rcases hq with hq | hq
 .obtain⟨d,b,c,g⟩:=I.list hq;have a:=b.length;exact Calls.call_len_list c.isList (by simp only[hL] <;> lia) ⟨.int ys.length,H,I.tok _,⟨s.toks + 1,by rw[hL,a]⟩,q⟩
 .obtain⟨d,b,c,g⟩:=I.tuple hq;have a:=b.length;exact len_tuple c (by simp only[hL] <;> lia) ⟨.int ys.length,H,I.tok _,⟨s.toks + 1,by rw[hL,a]⟩,q⟩
theorem DQ:eO X (.builtin "len") (λxs H Q=>∃ z,xs=[.str z]/\z.length<=sizeLine/\Q (.int z.length) H):=by
 intro a s b H xs c Q I r h;obtain⟨z,rfl,d,q⟩:=h;obtain⟨u,rfl,t,rfl⟩:=vals1 r;have e:=xG;exact len_str (by lia) ⟨.int z.length,H,I.tok _,⟨_,rfl⟩,q⟩
theorem DP:eO X (.type "list") (λxs H Q=>∃ p ys,xs=[.ref p]/\(SqL X.K H p ys\/SqT X.K H p ys)/\∀ l,H l=none->Q (.ref l) (upd H l (.lst ys))):=by
 intro g s y H xs A Q I r h;obtain⟨p,ys,rfl,hq,q⟩:=h;obtain⟨u,rfl,z⟩:=vals1 r;cases z;have fin:∀ (a:Lv0),Vals ys a->ys.length<=sizeLine->∀ (c:Heap) (f:Nat),(∀ b x,s.heap.get? b=some x->c.get? b=some x)->
   c.get? s.heap.objs.size=some { cls:=.type "list",dict:=none,data:=.seq a.toArray f,slots:=#[] }->EP X g y Q (.ref s.heap.objs.size) { s with heap:=c }:=λa d j c f i e=>
  ⟨.ref s.heap.objs.size,_,I.laid (t':=s.toks) i (ek _) (show gC X.prog X.w _ c _ (.lst ys) from ⟨j,a,f,d,e⟩),rfl,q _ (I.hok.fresh (ek _))⟩
 rcases hq with hq | hq
 .obtain⟨a,d,m,j⟩:=I.list hq;have k:=d.length;obtain⟨o,t,w,n,v⟩:=m.isList;exact call_list_seq p (.inl rfl) t w v (λc f i e=>fin a d j c f i e) (by simp only[hL] <;> lia)
 .obtain⟨a,d,m,j⟩:=I.tuple hq;have k:=d.length;obtain⟨o,t,w,n,v⟩:=m;exact call_list_seq p (.inr rfl) t w v (λc f i e=>fin a d j c f i e) (by simp only[hL] <;> lia)
theorem BZ:eO X (.type "tuple") (λxs H Q=>∃ p ys,xs=[.ref p]/\((SqL X.K H p ys/\∀ l,H l=none->Q (.ref l) (upd H l (.tup ys)))\/(SqT X.K H p ys/\Q (.ref p) H))):=by
 intro a s j H xs x Q I r h;obtain⟨p,ys,rfl,h⟩:=h;obtain⟨u,rfl,t⟩:=vals1 r;cases t;rcases h with ⟨i,q⟩ | ⟨i,q⟩
 .obtain⟨c,f,g,k⟩:=I.list i;have m:=f.length;refine call_tuple_list g.isList (λd v=>?_) (by simp only[hL] <;> lia);have n:Inv X a j H { s with heap:=d }:=I.kept (t':=s.toks) v;have w:Inv X a j (upd H d.objs.size (.tup ys)) { s with heap:=d.push { cls:=.type "tuple",data:=.seq c.toArray } }:=
   n.laid (t':=s.toks) (λb o e=>dV _ e) (ek _) (show gC X.prog X.w _ _ _ (.tup ys) from ⟨k,c,f,ae3 _ _⟩)
  exact⟨.ref d.objs.size,_,w,rfl,q _ (n.hok.fresh (ek _))⟩
 .obtain⟨c,f,g,k⟩:=I.tuple i;exact call_tuple_same g ⟨.ref p,H,I,rfl,q⟩
def tyV (K:Fg0)(T:String)(x:V)(H:Hp):Prop:=match x with
 | .str _=>T="str"
 | .int _=>T="int"
 | .ref p=>(T="list"/\∃ xs,SqL K H p xs)\/(T="tuple"/\∃ o,K.lookup p=some o/\o.cls=.type "tuple"/\o.dict=none)\/
   (T="dict"/\((∃ kvs,H p=some (.dK kvs))\/∃ kvs,H p=some (.dT kvs)))\/(T="set"/\∃ S n,H p=some (.set S n))
 | _=>False
theorem PV{f:Pn0}{s:Shared}{T:String}{x:V}(I:Inv X f σ H s)(r:RelV x v)(g:tyV X.K T x H) :
  s.TypeIs v T/\∀ a,v=.ref a->∃ m,s.heap.get? a=some m/\m.dict=none:=by
 cases x with
 | str z=>
  obtain⟨t,rfl⟩:=r;cases (show T="str" from g);exact⟨typeIs_str s z t,λ_ e=>nomatch e⟩
 | int i=>
  obtain⟨t,rfl⟩:=r;cases (show T="int" from g);exact⟨typeIs_int s i t,λ_ e=>nomatch e⟩
 | ref p=>
  cases r;rcases g with ⟨rfl,y,u⟩ | ⟨rfl,o,b,w,j⟩ | ⟨rfl,b⟩ | ⟨rfl,S,n,b⟩
  .obtain⟨q,_,l,_⟩:=I.list u;refine⟨l.isList.typeIs,λa e=>?_⟩;cases e;obtain⟨o,n,e,c,j,_⟩:=l;exact⟨o,e,j⟩
  .refine⟨⟨o,I.kIn p o b,w⟩,λa e=>?_⟩;cases e;exact⟨o,I.kIn _ o b,j⟩
  .have z:∃ o,s.heap.get? p=some o/\o.ExactDict:=by
    rcases b with ⟨h,b⟩ | ⟨h,b⟩
    .obtain⟨_,_,_,_,o,_,_,e,d,_⟩:=I.hok p _ b;exact⟨o,e,d⟩
    .obtain⟨_,_,_,_,o,_,_,e,d,_⟩:=I.hok p _ b;exact⟨o,e,d⟩
   obtain⟨o,e,d⟩:=z;refine⟨⟨o,e,d.1⟩,λa k=>?_⟩;cases k;exact⟨o,e,d.2.1⟩
  .obtain⟨o,_,_,_,e,d,_⟩:=I.hok p _ b;refine⟨⟨o,e,d.1⟩,λa k=>?_⟩;cases k;exact⟨o,e,d.2.1⟩
 | _=>exact sO g
def tBM (K:Fg0)(T:String)(r:V->List V->Hp->VK->Prop)(a:TE)(t:TA):TE:=λσ H Q=>a σ H λx H1=>tyV K T x H1/\t σ H1 λxs H2=>r x xs H2 Q
variable {e:Expr}{to:TE}{T id:String}{r:V->List V->Hp->VK->Prop}
theorem O3(B:PlainAttrs T)(f:Slot T name id)(j:typeOf (.builtin id)=pure (.type "method_descriptor"))(E:MtR X id r)(D:PE X o to)(F:PA X (e::es) t)(d:autoParam (Xj o name X.env (eval o X.env)=eval o X.env) wE)(g:autoParam (((backTo cpos (ew (e::es) X.env)).all (λx=>!x.1) && (YO cpos (Xp [] X.env)).all (λx=>x.1.isSome)
   && decide ((e::es).length + ([]:List ab0).length + (if ([]:List ab0).isEmpty then 0 else 1) < 30))=true) wE)(c:autoParam ((apos.endLine == cpos.line)=true) wE)(C:autoParam (ew (e::es) X.env=(false,eval e X.env)::ew es X.env) wE)(b:autoParam ((backTo cpos (ew es X.env)).any (·.1)=false) wE) :
  PE X (.Call (.Attribute o name apos) (e::es) [] cpos) (tBM X.K T r to t):=by
 intro a s i H Q I h;refine wpAny_Call_method_late d g c rfl (thn (D a s i H _ I h) λv w Z=>?_);obtain⟨x,M,m,k,q,A⟩:=Z;obtain⟨J,G⟩:=PV m k q;refine⟨T,id,B,f,j,J,G,?_⟩;have l:=F cpos a w i M _ m A;rw[C] at l ⊢;refine Calls.callWith_builtin (by show (false || (backTo cpos (ew es X.env)).any (·.1))=false;rw[b] <;> rfl) (Calls.evalArgs_plain ?_);exact thn l λp u ⟨n,L,K,y,z⟩=>E a u i L x n v p Q K k y z
end
def MtM (X:Cx)(id:String)(r:V->List V->Hp->VK->Prop):Prop:=
 ∀ (pins:Pn0) (s:Shared) (σ:St) (H:Hp) (x:V) (xs:List V) (v:Value) (us:Lv0) (Q:VK),Inv X pins σ H s->RelV x v->Vals xs us->r x xs H Q->
  wpAny (model X.prog X.w) X.A (call (.builtin id) (v::us)) (EP X pins σ Q) X.xe s
theorem Vals.one{x:V}(h:Vals [x] us):∃ u,us=[u]/\RelV x u:=by
 cases h with
 | cons r t=>cases t;exact⟨_,rfl,r⟩
theorem Vals.rep(h:Vals xs us):∀ k:Nat,Vals (fC k xs).flatten (fC k us).flatten
 | 0=>.nil
 | k + 1=>by
  rw[xt,xt,rr,rr];exact Vals.append h (Vals.rep h k)
theorem foldl_rep (a:Lv0):∀ (k:Nat) (acc:Lv0),
  ad2 (λc b=>c++b) acc.toArray (fC k a.toArray)=(acc++(fC k a).flatten).toArray
 | 0,acc=>by simp
 | k + 1,acc=>by
  have e:acc.toArray++a.toArray=(acc++a).toArray:=by simp
  have d:(acc++a)++(fC k a).flatten=acc++(fC (k + 1) a).flatten:=by
   rw[xt,rr,Xx]
  rw[<- d,<- foldl_rep a k (acc++a),<- e,xt,List.foldl_cons]
section
variable {pins:Pn0}{s:Shared}{b:Addr}{ys zs:List V}
theorem Inv.Us{f:Array Value->Array Value}(I:Inv X pins σ H s)(g:H l=some (.lst xs))(e:s.heap.get? l=some { cls:=.type "list",data:=.seq its.toArray n })(c:f its.toArray=its'.toArray)(a:Vals ys its')(hz:ys.length<=sizeLine) :
  Inv X pins σ (upd H l (.lst ys)) { s with heap:=s.heap.update l (Fk f),toks:=t' }:=by
 have q:=PySem.IsL.update e f;rw[c] at q;refine I.write (x:=l) (e:=l) (by rw[g];exact trivial) (.inl rfl) (λh u d b=>(SC s.heap (Fk f) (rl d)).trans b) ⟨_,q⟩ ?_;exact⟨hz,its',_,a,q⟩
theorem Inv.Ut(I:Inv X pins σ H s)(a:Vals ys its)(hz:ys.length<=sizeLine) :
  Inv X pins σ (upd H s.heap.objs.size (.lst ys)) { s with heap:=s.heap.push { cls:=.type "list",data:=.seq its.toArray },toks:=t' }:=
 I.laid (λ_ _ q=>dV _ q) (ek _) ⟨hz,its,0,a,ks _ rfl⟩
theorem Inv.fresh(I:Inv X pins σ H s):H s.heap.objs.size=none:=I.hok.fresh (ek _)
theorem Inv.IM(I:Inv X pins σ H s)(a:H l=some (.lst xs)):xs.length<=sizeLine/\∃ (its:Lv0) (n:Nat),Vals xs its/\xs.length=its.length/\s.heap.get? l=some { cls:=.type "list",data:=.seq its.toArray n }:=by
 obtain⟨z,its,n,r,e⟩:=I.hok l _ a;exact⟨z,its,n,r,r.length,e⟩
theorem EW(h:n<=sizeLine):VP n=false:=by
 unfold VP;exact decide_eq_false (by lia)
end
noncomputable def De:V->List V->Hp->VK->Prop:=λx vs H Q=>∃ l xs y,x=.ref l/\vs=[y]/\H l=some (.lst xs)/\xs.length < sizeLine/\Q .non (upd H l (.lst (xs++[y])))
theorem IJ:MtM X "list.append" De:=by
 intro b s i H x k v m Q I d f h;obtain⟨l,j,y,rfl,rfl,c,o,q⟩:=h;cases d;obtain⟨u,rfl,g⟩:=f.one;obtain⟨z,a,n,r,p,e⟩:=I.IM c;refine ZX Zq ⟨_,e,rfl⟩ F.entry_list_append (F.args_list_append_2 _ _) (PySem.list_append l a.toArray n u (by rw[hL];lia)) ⟨e,?_⟩;refine⟨.non,_,I.Us (its':=a++[u]) c e (by simp) (r.append (.cons g .nil)) ?_,rfl,q⟩;rw[bS,XF];lia
noncomputable def Dd:V->List V->Hp->VK->Prop:=λx vs H Q=>∃ l b xs zs,x=.ref l/\vs=[.ref b]/\H l=some (.lst xs)/\H b=some (.lst zs)/\xs.length + zs.length<=sizeLine/\Q .non (upd H l (.lst (xs++zs)))
theorem II:MtM X "list.extend" Dd:=by
 intro g s A H x D v E Q I j k h;obtain⟨l,b,C,B,rfl,rfl,i,w,G,q⟩:=h;cases j;obtain⟨u,rfl,m⟩:=k.one;cases m;obtain⟨z,c,n,r,J,e⟩:=I.IM i;obtain⟨z2,a,p,o,t,y⟩:=I.IM w;have f:c.toArray.size + a.toArray.size<=sizeLine:=by rw[hL,hL];lia
 have d:¬ (!c.toArray.isEmpty && VP (c.toArray.size + a.toArray.size))=true:=by
  rw[EW f,ad3];exact pF
 refine ZX Zr ⟨_,e,rfl⟩ F.entry_list_extend (F.args_list_extend_2 _ _)
  (AutoSeq1.list_extend_list_list_0 l c.toArray n b a.toArray p d (by rw[hL];lia) (by lia)) ⟨e,y,?_⟩
 refine⟨.non,_,I.Us (its':=c++a) i e (by simp) (r.append o) ?_,rfl,q⟩;rw[bS];lia
def Tw:R2:=λx y H Q=>∃ l b xs zs,x=.ref l/\y=.ref b/\H l=some (.lst xs)/\H b=some (.lst zs)/\xs.length + zs.length<=sizeLine/\∀ p,H p=none->Q (.ref p) (upd H p (.lst (xs++zs)))
theorem Q4:OpR X (WU .Add) Tw:=by
 intro d s t H x y v u Q I g f h;obtain⟨l,b,A,w,rfl,rfl,k,m,C,q⟩:=h;cases g;cases f;obtain⟨z,c,n,r,D,e⟩:=I.IM k;obtain⟨z2,a,B,i,j,p⟩:=I.IM m;refine PySem.P.add_list e p ?_ (by rw[hL,hL];lia);have o:c.toArray++a.toArray=(c++a).toArray:=by simp
 rw[o];exact⟨.ref _,_,I.Ut (t':=s.toks) (r.append i) (by rw[bS];lia),rfl,q _ I.fresh⟩
def Qo:R2:=λx y H Q=>∃ l k xs,x=.ref l/\y=.int k/\H l=some (.lst xs)/\-(2 ^ 63)<=k/\k < 2 ^ 63/\xs.length * k.toNat<=sizeLine/\
 ∀ p,H p=none->Q (.ref p) (upd H p (.lst (fC k.toNat xs).flatten))
theorem len_rep{a:Type}(xs:List a)(k:Nat):(fC k xs).flatten.length=k * xs.length:=by
 induction k with
 | zero=>simp
 | succ k b=>rw[xt,rr,bS,b,Nat.succ_mul,Zd]
theorem QY:OpR X (WU .Mult) Qo:=by
 intro p s L H x y v u Q I C B h;obtain⟨l,k,M,rfl,rfl,E,J,G,w,q⟩:=h;cases C;obtain⟨t,rfl⟩:=B;obtain⟨z,b,n,r,D,e⟩:=I.IM E;have f:b.toArray.size * k.toNat<=sizeLine:=by rw[hL,<- D];exact w
 have i:¬ b.toArray.size * k.toNat > (2 ^ 63 - 1) / 8:=by
  have:(sizeLine:Nat)<=(2 ^ 63 - 1) / 8:=by decide
  lia
 have g:¬ (!Builtin.List.listFitsIndex k)=true:=by
  rw[fitsIndex_both J G];exact pF
 have c:¬ VP (b.toArray.size * k.toNat)=true:=by
  rw[EW f];exact pF
 have d:ad2 (λo j=>o++j) #[] (fC (if b.toArray.isEmpty=true then 0 else k.toNat) b.toArray)=(fC k.toNat b).flatten.toArray:=by
  have K:∀ m:Nat,ad2 (λo j=>o++j) #[] (fC m b.toArray)=(fC m b).flatten.toArray:=λm=>by
   have:=foldl_rep b m [];rw[Xk] at this;exact this
  rw[K];cases b with
  | nil=>simp
  | cons a N=>rw[if_neg (by simp)]
 refine wpAny_binaryOp_repeat_ref (T:="list") (U:="int") (by decide) ⟨_,e,rfl⟩ (λA=>typeIs_int A k t) noFill_list_mul F.fills_int_mul F.slot_int_rmul repeat_list F.slot_int_index.lookup
  (ZX F.slot_int_rmul (typeIs_int s k t) F.entry_int_rmul (F.args_int_rmul_2 _ _) (int___rmul___int_list k t l b.toArray n)
   ⟨e,rfl,⟨_,e,rfl⟩,ZX F.slot_list_mul ⟨_,e,rfl⟩ F.entry_list_mul (F.args_list_mul_2 _ _) (AutoListH.list___mul___list_int_3 l b.toArray n k t g i c) ⟨e,?_⟩⟩)
 rw[d];exact⟨.ref _,_,I.Ut (t':=s.toks) (r.rep k.toNat) (by rw[len_rep,Nat.mul_comm];exact w),rfl,q _ I.fresh⟩
end _2
namespace _a
open PySem PySem.W PySem.Calls PyProof.Rows
theorem y_{P:Params}:∀ (ns:Li0) (vs:Lv0),WellAll P h vs (ns.map WData.int)->ac9 vs ns:=by
 intro ns
 induction ns with
 | nil=>
  intro vs w;rw[List.map_nil] at w;cases w;exact .nil
 | cons n ns c=>
  intro vs w;rw[qq] at w;cases w with
  | cons a b=>
   cases a;exact .cons _ _ (c _ b)
theorem Ig{l:XY}(u:l.most=some n){P:Params}{args:List WData}{b:Lv0}(c:l.row.toRowW.claim.pre args=true)(j:WellAll P h b args) :
  ∃ a vs ns,b=[rd a]/\args=[WData.list (ns.map WData.int)]/\h.get? a=some { cls:=.type "list",data:=.seq vs.toArray }/\ac9 vs ns/\ns.length<=n:=by
 have k:WShape.hasAll [] args [.list .int]=true:=(pre_splitW c).1;have m:l.pre.holds [] { args:=args }=true:=(pre_splitW c).2;obtain⟨d,r,rfl,x,w⟩:=hasAllW_cons k;obtain rfl:=hasAllW_nil w;obtain⟨y,rfl,v⟩:=hasW_list x;obtain⟨ns,rfl⟩:=items_int v;have e:ns.length<=n:=by
  unfold OpenLaw.pre at m;have i:(WTm.not (.lt (.lit (.int (n:Int))) (.len (.arg 0)))).holds [] { args:=[.list (ns.map .int)] }=true:=by
   have i:=(holds_andW m).1;rw[u] at i;exact i
  have g:=condW_of i (w_not (w_lt w_lit (w_len_list (w_arg rfl))));rw[lM0] at g;refine Xb λq=>?_;have s:(n:Int) < ((ns.length:Nat):Int):=by lia
  first
   | (rw[decide_eq_true s] at g;exact absurd g (by decide))
   | (simp at g;lia)
 cases j with
 | cons p o=>
  cases o;cases p with
  | list t f=>exact⟨_,_,ns,rfl,rfl,t,y_ ns _ f,e⟩
theorem Im(l:XY)(args:List WData):l.row.toRowW.claim.post args (.bool true) args=true:=
 postW_of (r:=l.row.toRowW) (X:=(true == true))
  (show WShape.has [] (.bool true) .bool=true by first | rfl | decide | simp [WShape.has,WShape.arms,WShape.armsAll])
  (show (WTm.eq .res (.lit (.bool true))).value [] { args:=args,res:=some (.bool true),after:=args }=some (.bool (true == true)) from w_eq_bool (w_res rfl) w_lit) rfl
theorem Fy{l:XY}{q:Qk}{c:Ls0}{XP:(SV0)->Heap->Prop}{z:World->Heap->Prop}{d:DefRec}(D:l.most=some n)(t:d.params.defaults=[])(call:∀ (w:World) (s₀ b:Shared) (mg m:SV0) (k:Addr) (o:Obj) (pm cd g:Value) (a:Addr) (vs:Lv0) (ns:Li0),
   Ground q c [] XP w s₀ mg m b.heap->z w b.heap->
   b.heap.get? k=some o->o.data=.func (docDef d.name d.params d.body d.scope pm cd g)->b.heap.CodeRec cd d.name->mg d.name=some (.ref k)->
   b.heap.get? a=some { cls:=.type "list",data:=.seq vs.toArray }->ac9 vs ns->ns.length<=n->b.gens=#[]->
   SB (model l.prog w) ZI (.call (.ref k) ⟨[.ref a],[]⟩) (λr s'=>r=.ok (.ret (.bool true))/\OldK b.heap s'.heap/\s'.os=b.os/\YC s'.gens) b) :
  WalkO q c XP z l.row.toRowW d [] (λf vs=>ad4 f vs):=by
 intro w s₀ b mg m G Y k o pm cd g M kV C I u y s H args v N h x A p F;obtain rfl:M=.none:=Dflts.none y t;obtain rfl:kV=.none:=Dflts.noKw y;obtain⟨a,vs,ns,rfl,rfl,i,e,j⟩:=Ig D h p;refine enter_call (Xv (call w s₀ b mg m k o pm cd g a vs ns G Y C (fd_plain I) u s i e j H) λr s' B=>?_);obtain⟨rfl,L,K,J⟩:=B;exact⟨.inl ⟨.bool true,.bool true,[],rfl,λ_=>rfl,.bool true,Im l _,λ_=>⟨List.Pairwise.nil,λ_ E=>(nomatch E)⟩⟩,L,K,J⟩
end _a
namespace _2
open PySem PySem.Spec PyProof.Rows
theorem B2:∀ {vs:Lv0} {ns:Li0},ac9 vs ns->Vals (ns.map V.int) vs
 | _,_,.nil=>.nil
 | _,_,.cons n t h=>.cons ⟨t,rfl⟩ (B2 h)
def SN (H:Hp):Prop:=∀ b,H b=none\/(∃ o xs,H b=some (.frz o (.lst xs)))\/∃ ps,H b=some (.tbl ps)
noncomputable def inClass (s:Stmt)(j:Nat):Stmt:=match s with
 | .ClassDef _ _ _ body _ _ _ _ _ _ _=>body.getD j (.Pass ⟨0,0,0,0⟩)
 | _=>.Pass ⟨0,0,0,0⟩
noncomputable def gf (s:Stmt):Arguments:=match s with
 | .FunctionDef _ a _ _ _ _ _ _ _ _=>a
 | _=>{ posonlyargs:=[],args:=[],vararg:=none,kwonlyargs:=[],kw_defaults:=[],kwarg:=none,defaults:=[] }
noncomputable def c5 (s:Stmt):List Stmt:=match s with
 | .FunctionDef _ _ b _ _ _ _ _ _ _=>b
 | _=>[]
noncomputable def ae (s:Stmt):Scope:=match s with
 | .FunctionDef _ _ _ _ _ _ sc _ _ _=>sc
 | _=>{ kind:=.function,names:=[],isGenerator:=false,isCoroutine:=false }
abbrev CX0:CXT:=λ_ _ _ _ _ _=>False
abbrev E0:XK:=λ_ _ _=>False
theorem Ae:Passes CX0 X E0:=λ_ _ _ _ _ _ _ h=>h.elim
structure Fun (K:Fg0) (x qual:Str) (st:Stmt) (f:Addr) (fd:ec):Prop where
 ex:∃ (oc:Value) (od:Option Addr) (kV doc pm:Value) (an:Option Addr) (cdv ct:Value) (osl:Array (Option Value)),
  fd=AC x qual (gf st) (c5 st) (ae st) .none kV doc pm an cdv ct/\K.lookup f=some ⟨oc,od,.func fd,osl⟩/\WV K cdv qual=true
 kp:mC K (.ref f)=true
section
variable {mg:SV0}
theorem Fun.ok{sp:Sp}(F:Fun K x qual st f fd)(S:ao N ps (ae st))(len:∀ vs H Q E,sp vs H Q E->vs.length=ps.length)(hbody:∀ (a:Value) (A:Around) (outer:List Env) (s:Shared) (H:Hp) (vs:List V) (Q:VK) (E:XK),dH k (A.deeper (envOfC qual (ae st) s.heap.objs.size f a))->sp vs H Q E->
   ∃ t,PSs (DL CX0 P w K mg base N qual (ae st) f a A outer s H E).nox (c5 st) t/\t { nx:=λ_ H'=>Q .non H',rt:=Q } (start N vs) H):aB P w K mg base CX0 (k + 1) f fd ps sp:=by
 obtain⟨l,j,kV,g,i,n,a,m,d,rfl,lk,c⟩:=F.ex;refine Pr lk c S len λA outer s H vs Q E e b=>?_;obtain⟨t,h,q⟩:=hbody a A outer s H vs Q E e b;exact⟨t,h.nox,q⟩
theorem Fun.binds(F:Fun K x qual st f fd)(h:∀ (kV a pm:Value) (d:Option Addr) (b c:Value) (us:Lv0),us.length=ps.length->Zz (AC x qual (gf st) (c5 st) (ae st) .none kV a pm d b c) ⟨us,[]⟩=pure (ps.zip us)):Binds K fd ps []:=by
 obtain⟨j,i,kV,a,pm,d,b,c,e,rfl,lk,g⟩:=F.ex;exact .all (h kV a pm d b c)
theorem rJ{i:Value}{h g:Option Addr}{kV b d a e:Value}(l:K.lookup f=some ⟨i,h,.func (AC x qual (gf st) (c5 st) (ae st) .none kV b d g a e),osl⟩)(c:WV K a qual=true)(k:mC K (.ref f)=true):Fun K x qual st f (AC x qual (gf st) (c5 st) (ae st) .none kV b d g a e):=⟨⟨i,h,kV,b,d,g,a,e,osl,rfl,l,c⟩,k⟩
end
theorem IW{A B:Prop}(h:B):if false=true then A else B:=by
 rw[if_neg pF];exact h
theorem IV{A B:Prop}(h:A):if true=true then A else B:=by
 rw[if_pos rfl];exact h
def aS (H a:Hp):Prop:=∀ b o,H b=some o->a b=some o
theorem aS.refl(H:Hp):aS H H:=λ_ _ h=>h
theorem aS.trans{d:Hp}(a:aS H d)(b:aS d H2):aS H H2:=λc o h=>b c o (a c o h)
theorem aS.free(e:aS H H')(h:H' l=Option.none):H l=Option.none:=by
 cases q:H l with
 | none=>rfl
 | some o=>
  rw[e l o q] at h;cases h
theorem aS.seq(e:aS H H')(h:SqL K H a xs):SqL K H' a xs:=by
 rcases h with (h | ⟨o,h⟩) | h
 .exact .inl (.inl (e _ _ h))
 .exact .inl (.inr ⟨o,e _ _ h⟩)
 .exact .inr h
noncomputable def takes (cells:List (Str×Addr)):List (Str×GM)->List (Str×Addr)->List (Str×Addr)
 | [],acc=>acc
 | (n,k)::r,acc=>takes cells r (if k=nj then (n,(cells.lookup n).getD 0)::acc else acc)
theorem BX(h:∀ y∈sc.names,y.2=.free->∃ c,env.cells.lookup y.1=some c):Ze sc env=pure (takes env.cells sc.names []):=by
 have o:∀ (l:List (Str×GM)) (acc:List (Str×Addr)),(∀ y∈l,y.2=.free->∃ c,env.cells.lookup y.1=some c)->
   (forIn l acc (λ(x:Str×GM) (b:List (Str×Addr))=>match x with
    | (name,kind)=>if (kind == nj)=true then do let c <- cellOf env name;pure (Uz ((name,c)::b)) else pure (Uz b)):Sem (List (Str×Addr)))=pure (takes env.cells l acc):=by
  intro l
  induction l with
  | nil=>intro acc _;rfl
  | cons x l i=>
   intro acc e;obtain⟨n,k⟩:=x;rw[Xl];by_cases f:k=nj
   .subst f;obtain⟨c,j⟩:=e (n,.free) lU rfl;have a:env.cells.lookup n=some c:=j;have p:cellOf env n=pure c:=by unfold cellOf;rw[a]
    have g:takes env.cells ((n,nj)::l) acc=takes env.cells l ((n,c)::acc):=by
     show takes env.cells l (if nj=nj then (n,(env.cells.lookup n).getD 0)::acc else acc)=_;rw[if_pos rfl,a]
     rfl
    rw[g,<- i ((n,c)::acc) λy d=>e y (hY _ d)];show ((if (nj == nj)=true then (do let c <- cellOf env n;pure (Uz ((n,c)::acc))) else pure (Uz acc)) >>= _)=_;rw[if_pos (by decide),p,pure_bind,pure_bind]
   .have g:takes env.cells ((n,k)::l) acc=takes env.cells l acc:=by
     show takes env.cells l (if k=nj then _ else acc)=_;rw[if_neg f]
    have m:(k == nj)=false:=by simpa using f
    rw[g,<- i acc λy d=>e y (hY _ d)];show ((if (k == nj)=true then _ else pure (Uz acc)) >>= _)=_;rw[m,if_neg pF,pure_bind]
 have:=o sc.names [] h;unfold Ze
 first
  | exact(congrArg (λz=>z >>= λb=>pure b) this).trans (pure_bind _ _)
  | exact this
  | simpa using this
theorem B4 {cells:List (Str×Addr)}{n:Str}{c:Addr}:∀ (names:List (Str×GM)) (acc:List (Str×Addr)),(takes cells names acc).lookup n=some c->
  acc.lookup n=some c\/((n,nj)∈names/\c=(cells.lookup n).getD 0)
 | [],_,h=>.inl h
 | (m,k)::r,acc,h=>by
  rcases B4 r _ h with q | ⟨d,b⟩
  .by_cases a:k=nj
   .rw[if_pos a] at q;subst a;by_cases e:n=m
    .subst e;rw[fw,beq_self_eq_true] at q;exact .inr ⟨lU,(ov q).symm⟩
    .have:(n == m)=false:=by simpa using e
     rw[fw,this] at q;exact .inl q
   .rw[if_neg a] at q;exact .inl q
  .exact .inr ⟨hY _ d,b⟩
theorem B5 {cells:List (Str×Addr)}{n:Str}:∀ (names:List (Str×GM)) (acc:List (Str×Addr)),(acc.lookup n).isSome=true->((takes cells names acc).lookup n).isSome=true
 | [],_,h=>h
 | (m,k)::r,acc,h=>by
  refine B5 r _ ?_;by_cases a:k=nj
  .rw[if_pos a];cases e:n == m with
   | true=>rw[fw,e];rfl
   | false=>rw[fw,e];exact h
  .rw[if_neg a];exact h
theorem xi {cells:List (Str×Addr)}{n:Str}:∀ (names:List (Str×GM)) (acc:List (Str×Addr)),(n,nj)∈names->((takes cells names acc).lookup n).isSome=true
 | [],_,h=>by simp at h
 | (m,k)::r,acc,h=>by
  rcases fg.mp h with e | h
  .cases e;refine B5 r _ ?_;rw[if_pos rfl,fw,beq_self_eq_true]
   rfl
  .exact xi r _ h
structure Blk (N:Ls0) (osc sc:Scope) (Nc:Ls0) (fr:On):Prop where
 kind:sc.kind=.function
 own:∀ y∈sc.names,y.2=.cell->sc.names.lookup y.1=some .cell
 free:∀ y∈sc.names,y.2=.free->osc.names.lookup y.1=some .cell\/osc.names.lookup y.1=some .free
 locs:∀ y∈sc.names,y.2=.local->sc.names.lookup y.1=some .local
 nd:Nc.Nodup
 len:Nc.length=fr.length
 whence:∀ p∈Nc.zip fr,(p.2.all λj=>decide (N[j]?=some p.1) && decide (sc.names.lookup p.1=some .free))=true
noncomputable abbrev bcl (cells:List (Str×Addr))(a:Scope)(C:Addr):List (Str×Addr):=IR (C + 1) a.names (takes cells a.names [])
theorem HP {x:Str}{c:Addr}:∀ (names:List (Str×GM)) (n:Nat) (acc:List (Str×Addr)),(IR n names acc).lookup x=some c->acc.lookup x=some c\/(n<=c/\(x,vq)∈names)
 | [],_,_,h=>.inl h
 | (y,k)::r,n,acc,h=>by
  unfold IR at h;split at h
  .rename_i e;have f:k=vq:=by simpa using e
   subst f;rcases HP r _ _ h with q | ⟨b,a⟩
   .rw[fw] at q;cases d:x == y with
    | true=>
     rw[d] at q;cases q;rw[beq_iff_eq.mp d];exact .inr ⟨ek _,lU⟩
    | false=>rw[d] at q;exact .inl q
   .exact .inr ⟨Xy b,hY _ a⟩
  .rcases HP r _ _ h with q | ⟨b,a⟩
   .exact .inl q
   .exact .inr ⟨b,hY _ a⟩
theorem GW {x:Str}{c:Addr}:∀ (names:List (Str×GM)) (n:Nat) (acc:List (Str×Addr)),(x,vq)∈names->(IR n names acc).lookup x=some c->n<=c
 | [],_,_,m,_=>nomatch m
 | (y,k)::r,n,acc,m,h=>by
  unfold IR at h;by_cases a:(x,vq)∈r
  .split at h
   .exact Xy (GW r _ _ a h)
   .exact GW r _ _ a h
  .have e:(x,vq)=(y,k):=(fg.mp m).resolve_right a;cases e;rw[if_pos (by rfl)] at h;rcases HP r _ _ h with q | ⟨b,_⟩
   .rw[fw,beq_self_eq_true] at q;cases q;exact ek _
   .exact Xy b
theorem GV {x:Str}:∀ (names:List (Str×GM)) (n:Nat) (acc:List (Str×Addr)),(x,vq)∉names->(IR n names acc).lookup x=acc.lookup x
 | [],_,_,_=>rfl
 | (y,k)::r,n,acc,m=>by
  unfold IR;have a:(x,vq)∉r:=λz=>m (hY _ z);split
  .rename_i c;have d:k=vq:=by simpa using c
   subst d;rw[GV r _ _ a,fw];have:(x == y)=false:=by
    cases b:x == y with
    | false=>rfl
    | true=>exact absurd (by rw[beq_iff_eq.mp b];exact lU) m
   rw[this]
  .exact GV r _ _ a
theorem GX:∀ (names:List (Str×GM)) (n:Nat) (acc:List (Str×Addr)),(∀ x y c,acc.lookup x=some c->acc.lookup y=some c->x=y)->(∀ x c,acc.lookup x=some c->c < n)->
  ∀ x y c,(IR n names acc).lookup x=some c->(IR n names acc).lookup y=some c->x=y
 | [],_,_,h,_=>h
 | (z,k)::r,n,acc,h,lt=>by
  unfold IR;split
  .refine GX r (n + 1) ((z,n)::acc) (λx y c a d=>?_) λx c a=>?_
   .rw[fw] at a d;cases b:x == z with
    | true=>
     cases e:y == z with
     | true=>rw[beq_iff_eq.mp b,beq_iff_eq.mp e]
     | false=>
      rw[b] at a;rw[e] at d;cases a;exact absurd (lt y n d) (vl _)
    | false=>
     cases e:y == z with
     | true=>
      rw[b] at a;rw[e] at d;cases d;exact absurd (lt x n a) (vl _)
     | false=>rw[b] at a;rw[e] at d;exact h x y c a d
   .rw[fw] at a;cases b:x == z with
    | true=>rw[b] at a;cases a;exact SE _
    | false=>rw[b] at a;exact UF (lt x c a)
  .exact GX r n acc h lt
theorem IE{E:VS0}{s:Shared}{g:Addr}{d:List (Str×Addr)}{f:Env}{Q:Env->Shared->Prop}(m:∀ h':Heap,h'.Ns s.heap.objs.size (λ_=>none)->(∀ b o,s.heap.get? b=some o->h'.get? b=some o)->(∀ n c,(IR (s.heap.objs.size + 1) sc.names d).lookup n=some c->d.lookup n=some c\/h'.IsCell c none)->
   Q { scope:=sc,locals:=s.heap.objs.size,globals:=g,cells:=IR (s.heap.objs.size + 1) sc.names d,qual:=qual,func:=none,code:=f.code,frame:=f.frame,builtins:=f.builtins } { s with heap:=h' }) :
  wpAny M A (YA sc g d [] qual none .none (some f)) Q E s:=by
 simp only[YA,Option.isSome_some,if_true];refine bD (wpAny_alloc ?_);refine bD (wpAny_layCells _ (λname kind cells=>by cases i:kind == vq <;> simp [i]) _ _ _ _ ?_);have t:∀ (names:List (Str×GM)) (h:Heap) (a:List (Str×Addr)) (P:Str->Addr->Prop),(∀ n c,a.lookup n=some c->P n c\/h.IsCell c none)->∀ n c,(IR h.objs.size names a).lookup n=some c->P n c\/(pushCells h names).IsCell c none:=by
  intro names
  induction names with
  | nil=>intro h a P x;exact x
  | cons p r j=>
   intro h a P x;obtain⟨y,k⟩:=p;unfold IR pushCells;split
   .have:=j (h.push { cls:=.type "cell",data:=.cell none }) ((y,h.objs.size)::a) P λn c e=>by
     rw[fw] at e;cases l:n == y with
     | true=>rw[l] at e;cases e;exact .inr ⟨_,ks _ rfl,rfl⟩
     | false=>
      rw[l] at e;rcases x n c e with q | q
      .exact .inl q
      .exact .inr (q.keeps λb o e=>dV _ e)
    rwa [SG] at this
   .exact j h a P x
 have ok:=t sc.names (s.heap.push { cls:=.type "dict",data:=.dict #[] }) d (λn c=>d.lookup n=some c) λn c e=>.inl e;rw[SG] at ok;rw[show ({ s with heap:=s.heap.push { cls:=.type "dict",data:=.dict #[] } }:Shared).heap.objs.size=s.heap.objs.size + 1 from SG ..];refine bD ?_;rw[ad5];exact hF (hF (m _ ((Heap.Ns.new s.heap (.type "dict")).keeps (pushCells_keeps _ _)) (λb o e=>pushCells_keeps _ _ b o (dV _ e)) ok))
noncomputable abbrev cK (X:Cx)(a:Scope)(b:Ls0)(s₀:Shared)(H₀:Hp)(C:Addr)(ex:La0)(pn:Pn0):Cx where
 prog:=X.prog
 w:=X.w
 K:=X.K
 mg:=X.mg
 base:=X.base
 A:=X.A
 N:=b
 s₀:=s₀
 H₀:=H₀
 env:=compEnvC a (bcl X.env.cells a C) C X.env
 outer:=X.stack
 stack:=X.stack
 ex:=ex
 fn:=λx=>a.names.lookup x == some .cell
 calm:=X.calm
 pn:=pn
 xe:=λ_ _=>False
noncomputable def w8 (a:On)(σ:St):St:=a.map λo=>o.bind λj=>(σ[j]?).join
theorem q8{k:GM}(h:(relabel sc env).names.lookup x=some k):sc.names.lookup x=some k\/(k=.cell/\sc.names.lookup x=some .free):=by
 have j:∀ l:List (Str×GM),(l.map λ(n,k)=>if (k == nj && env.scope.kind == .function && env.kindOf n == some .cell) then (n,vq) else (n,k)).lookup x=some k->l.lookup x=some k\/(k=.cell/\l.lookup x=some .free):=by
  intro l
  induction l with
  | nil=>intro h;simp at h
  | cons p r g=>
   intro h;obtain⟨n,d⟩:=p;rw[qq] at h;by_cases e:(d == nj && env.scope.kind == .function && env.kindOf n == some .cell)=true
   .have b:Wc x ((n,vq)::r.map λ(n,k)=>if (k == nj && env.scope.kind == .function && env.kindOf n == some .cell) then (n,vq) else (n,k))=some k:=by
     have c:=h;simp only[e,if_true] at c;exact c
    have i:d=.free:=by
     simp only[sE] at e;simpa using e.1.1
    subst i;cases a:x == n with
    | true=>
     rw[fw,a] at b;rw[fw,a];cases b;exact .inr ⟨rfl,rfl⟩
    | false=>
     rw[fw,a] at b;rw[fw,a];exact g b
   .have f:(d == nj && env.scope.kind == .function && env.kindOf n == some .cell)=false:=by simpa using e
    have b:Wc x ((n,d)::r.map λ(n,k)=>if (k == nj && env.scope.kind == .function && env.kindOf n == some .cell) then (n,vq) else (n,k))=some k:=by
     have c:=h;simp only[f,SL,if_false] at c;exact c
    cases a:x == n with
    | true=>
     rw[fw,a] at b;rw[fw,a];exact .inl b
    | false=>
     rw[fw,a] at b;rw[fw,a];exact g b
 exact j _ h
theorem Dc(h:sc.names.lookup x=some .free):(relabel sc env).names.lookup x=some .cell\/(relabel sc env).names.lookup x=some .free:=by
 have f:∀ l:List (Str×GM),l.lookup x=some .free->(l.map λ(n,k)=>if (k == nj && env.scope.kind == .function && env.kindOf n == some .cell) then (n,vq) else (n,k)).lookup x=some .cell\/(l.map λ(n,k)=>if (k == nj && env.scope.kind == .function && env.kindOf n == some .cell) then (n,vq) else (n,k)).lookup x=some .free:=by
  intro l
  induction l with
  | nil=>intro h;simp at h
  | cons p r d=>
   intro h;obtain⟨n,c⟩:=p;rw[qq];by_cases e:(c == nj && env.scope.kind == .function && env.kindOf n == some .cell)=true
   .simp only[e,if_true];cases a:x == n with
    | true=>left;simp [fw,a]
    | false=>
     rw[fw,a] at h;simp only[fw,a];exact d h
   .have b:(c == nj && env.scope.kind == .function && env.kindOf n == some .cell)=false:=by simpa using e
    simp only[b,SL,if_false];cases a:x == n with
    | true=>
     rw[fw,a] at h
     right
     simp only[fw,a];exact h
    | false=>
     rw[fw,a] at h;simp only[fw,a];exact d h
 exact f _ h
section
variable {pins:Pn0}
theorem kL(B:Blk X.N X.env.scope sc Nc fr)(ok:X.Ok){n:Str}{c:Addr}(h:(takes X.env.cells sc.names []).lookup n=some c):X.env.cells.lookup n=some c:=by
 rcases B4 _ _ h with q | ⟨d,b⟩
 .simp at q
 .obtain⟨e,a⟩:=ok.has n (B.free _ d rfl);rw[a] at b;rw[a,b]
  rfl
theorem CJ(B:Blk X.N X.env.scope sc Nc fr)(ok:X.Ok){n:Str}{c:Addr}(h:(bcl X.env.cells sc C).lookup n=some c):X.env.cells.lookup n=some c\/C < c:=by
 rcases HP _ _ _ h with q | ⟨q,_⟩
 .exact .inl (kL B ok q)
 .exact .inr q
theorem iy{n:Str}{k:GM}:∀ {l:List (Str×GM)},l.lookup n=some k->(n,k)∈l:=λh=>Bk h
theorem Su(B:Blk X.N X.env.scope sc Nc fr){g:Pn0}(I:Inv X pins σ H₀ s₀)(d:s₀.heap.objs.size<=C)(hex:∀ b∈ex,b < s₀.heap.objs.size/\b∉X.fs/\b≠X.env.locals/\(∀ x c,X.env.cells.lookup x=some c->c≠b)/\∀ o,X.base.get? b≠some o):(cK X sc Nc s₀ H₀ C ex g).Ok where
 mod:=I.ok.mod
 kind:=B.kind
 glob:=I.ok.glob
 blt:=I.ok.blt
 above:=d
 inj:=GX _ _ _ (λx y c j i=>I.ok.inj x y c (kL B I.ok j) (kL B I.ok i)) λx c h=>by
  obtain⟨v,o,e,_⟩:=I.cell x c (kL B I.ok h);exact UF (ih (hH e) d)
 has:=λx hx=>by
  have f:sc.names.lookup x=some .cell\/sc.names.lookup x=some .free:=by
   rcases hx with hx | hx
   .rcases q8 hx with q | ⟨_,q⟩
    .exact .inl q
    .exact .inr q
   .rcases q8 hx with q | ⟨_,q⟩
    .exact .inr q
    .exact .inr q
  refine UM.mp (Xw _ _ _ ?_);rcases f with q | q
  .exact .inl q
  .exact .inr (xi _ _ (iy q))
 cab:=λx c h e=>by
  have k:sc.names.lookup x=some .cell:=by simpa using h
  exact zq d (Xy (GW _ _ _ (iy k) e))
 hd:=I.ok.hd
 frames:=I.ok.frames
 stk:=.inl rfl
 exf:=λb a=>⟨λe=>by have:=(hex b a).1;rw[e] at this;exact absurd (ih this d) (vl _),λx c h=>by
  rcases CJ B I.ok h with q | q
  .exact(hex b a).2.2.2.1 x c q
  .exact λz=>absurd (Nat.lt_trans (ih (hex b a).1 d) q) (by rw[z];exact vl _)⟩
 bs:=λb o e=>I.bs b o e
 bsz:=zq I.ok.bsz I.sz
 noex:=λb o e a=>(hex b a).2.2.2.2 o e
 exfs:=λb a f=>by
  rcases fg.mp (I.zK b f) with e | e
  .exact(hex b a).2.2.1 e
  .exact(hex b a).2.1 e
 uX:=I.stack
 frf:=λb a=>I.zr b a
 tb:=I.tb
end
noncomputable abbrev gR (us:Lv0)(n:Nat):Obj:={ cls:=.type "list",data:=.seq us.toArray n }
theorem GB{a:Type}{fr:List a}{o:a}(d:Nc[i]?=some x)(c:fr[i]?=some o):(x,o)∈Nc.zip fr:=by
 have b:(Nc.zip fr)[i]?=some (x,o):=by
  rw[KM];exact⟨d,c⟩
 exact hW b
theorem Oq{a:Pn0}(B:Blk X.N X.env.scope sc Nc fr){s₄:Shared}{D:Addr}{o:Obj}{Z:SV0}(ok:(cK X sc Nc s₀ H₀ C ex (X.pn++a)).Ok)(I:Inv X a σ H₀ s₀)(V:s₀.heap.objs.size<=C)(ho:s₄.os=s₀.os)(hg:s₄.gens=s₀.gens)(n:∀ b u,s₀.heap.get? b=some u->s₄.heap.get? b=some u)(hn:s₄.heap.Ns C Z)(hw:∀ x c,(bcl X.env.cells sc C).lookup x=some c->(takes X.env.cells sc.names []).lookup x=some c\/s₄.heap.IsCell c none)(hD:s₀.heap.get? D=some o)(U:H₀ D=none)(T:D≠X.env.locals)(R:D∉X.fs)(S:∀ v,o.data≠.cell v) :
  Inv (cK X sc Nc s₀ H₀ C ex (X.pn++a)) [(D,o)] (w8 fr σ) H₀ s₄:=by
 have t:∀ b,b≠X.env.locals->b∉X.fs->b∉frs X.stack:=λb H G h3=>by
  rcases fg.mp (I.zK b h3) with e | e
  .exact H e
  .exact G e
 have w:∀ {b:Addr} {u:Obj},s₀.heap.get? b=some u->b≠C:=λe z=>absurd (ih (hH e) (by rw[z];exact V)) (vl _);refine⟨ok,ho,by rw[hg];exact I.bare,Un.kept n,⟨Z,hn,λi x v H G h3=>?_⟩,λx c h=>?_,I.hok.fresh V,λx c h=>?_,λp hp=>?_,I.hok.kept n,?_⟩
 .have d:(fr.map λo=>o.bind λj=>(σ[j]?).join)[i]?=some (some v):=G;rw[cm] at d;cases W:fr[i]? with
  | none=>rw[W] at d;cases d
  | some Y=>
   rw[W] at d;have h4:(Y.bind λj=>(σ[j]?).join)=some v:=ov d;cases Y with
   | none=>cases h4
   | some j=>
    have hz:=B.whence _ (GB H W);have f:(decide (X.N[j]?=some x) && decide (sc.names.lookup x=some .free))=true:=hz;rw[sE] at f;have M:X.N[j]?=some x:=of_decide_eq_true f.1;have s:sc.names.lookup x=some .free:=of_decide_eq_true f.2;have h5:σ[j]?=some (some v):=by
     have K:(σ[j]?).join=some v:=h4;cases L:σ[j]? with
     | none=>rw[L] at K;cases K
     | some y=>rw[L] at K;exact congrArg some K
    have A:=B.free _ (iy s) rfl;obtain⟨m,hm,hl⟩:=I.loc;have N:Vis X.env.scope x:=by rcases A with k | k;exact .inr (.inl k);exact .inr (.inr k)
    obtain⟨u,r,l⟩:=hl j x v M h5 N;refine⟨u,r,.inr ⟨Dc s,?_⟩⟩;rcases l with ⟨k,_⟩ | ⟨_,c,hc,g⟩
    .have J:X.env.scope.names.lookup x=some .local:=k;rcases A with q | q
     .rw[q] at J;cases J
     .rw[q] at J;cases J
    .obtain⟨c',F⟩:=UM.mp (xi (cells:=X.env.cells) sc.names [] (iy s));have E:=kL B I.ok F;rw[hc] at E;cases E;obtain⟨O,Q,P⟩:=g;exact⟨c,(GV _ _ _ λz=>by have:=B.own _ z rfl;rw[s] at this;cases this).trans F,O,n _ _ Q,P⟩
 .rcases hw x c h with q | q
  .obtain⟨v,O,H,G⟩:=I.cell x c (kL B I.ok q);exact⟨v,O,n _ _ H,G⟩
  .exact⟨_,q⟩
 .rcases CJ B I.ok h with q | q
  .exact I.freeC x c q
  .exact I.hok.fresh (zq V (Wn q))
 .rcases mm.mp hp with hp | hp
  .obtain⟨M,s,L,e4,e5⟩:=I.pin p hp;exact⟨n _ _ M,s,w M,t _ L e4,e5⟩
  .have e:p=(D,o):=by simpa using hp
   subst e;exact⟨n _ _ hD,U,w hD,t _ T R,S⟩
 .show (fr.map _).length=Nc.length;rw[lM0,B.len]
theorem HM{a:Pn0}{s:Shared}(B:Blk X.N X.env.scope sc Nc fr)(I:Inv X a σ H s):Ze sc X.env=pure (takes X.env.cells sc.names []):=
 BX λy b c=>I.ok.has y.1 (B.free y b c)
theorem Fw:∀ {a:List Bool} {us:Lv0},Vals (a.map V.bl) us->LSm.BoolsAre us a
 | [],_,.nil=>.nil
 | _::_,_,.cons r t=>by
  obtain rfl:=(show _=YX _ from r);exact .cons _ (Fw t)
theorem Jo(w:X.calm=true):eO X (.builtin "all") (λxs H Q=>∃ (p:Addr) (c:List Bool),xs=[.ref p]/\SqL X.K H p (c.map V.bl)/\Q (.bl (c.all id)) H):=by
 intro g s y H xs z Q I r h;obtain⟨p,c,rfl,o,q⟩:=h;obtain⟨u,rfl,m⟩:=vals1 r;cases m;obtain⟨a,l,n,D⟩:=I.list o;have j:=Fw l;have f:=n.isList;have d:p < s.heap.objs.size:=by obtain⟨_,e,_⟩:=f;exact hH e
 refine call_all_walk (wpAny_pyIter_list f ⟨s.heap.objs.size,[s.heap.objs.size,p],[s.heap.objs.size],a.toArray.size,_,_,λi=>(c[i]?).getD true,rfl,Walks.list (A:=X.A.in1) (I.ok.hd w) _ p (oj d) a.toArray,⟨⟨_,ks _ rfl,rfl,rfl⟩,f.push _⟩,
  λi v C F G x k=>?_,λE B t=>?_⟩)
 .obtain⟨b,e,rfl⟩:=j.get i v (by simpa using x);simp only[e,Option.getD_some] at k;exact FS k
 .have e:((el a.toArray.size).all λi=>(c[i]?).getD true)=c.all id:=by rw[hL,j.length,LSm.range_all c]
  rw[e];exact⟨.bl _,H,I.kept (LSm.kept_iter t),rfl,q⟩
structure kJ (K:Fg0):Prop where
 bb:bq K (.type "bool") (.type "bool")=some true
 bi:bq K (.type "bool") (.type "int")=some true
 bl:bq K (.type "bool") (.type "list")=some false
 bt:bq K (.type "bool") (.type "tuple")=some false
 ib:bq K (.type "int") (.type "bool")=some false
 ii:bq K (.type "int") (.type "int")=some true
 il:bq K (.type "int") (.type "list")=some false
 it:bq K (.type "int") (.type "tuple")=some false
 nb:bq K (.type "NoneType") (.type "bool")=some false
 ni:bq K (.type "NoneType") (.type "int")=some false
 nl:bq K (.type "NoneType") (.type "list")=some false
 nt:bq K (.type "NoneType") (.type "tuple")=some false
 sb:bq K (.type "str") (.type "bool")=some false
 si:bq K (.type "str") (.type "int")=some false
 sl:bq K (.type "str") (.type "list")=some false
 st:bq K (.type "str") (.type "tuple")=some false
 lb:bq K (.type "list") (.type "bool")=some false
 li:bq K (.type "list") (.type "int")=some false
 ll:bq K (.type "list") (.type "list")=some true
 lt:bq K (.type "list") (.type "tuple")=some false
 tb:bq K (.type "tuple") (.type "bool")=some false
 ti:bq K (.type "tuple") (.type "int")=some false
 tl:bq K (.type "tuple") (.type "list")=some false
 tt:bq K (.type "tuple") (.type "tuple")=some true
 db:bq K (.type "dict") (.type "bool")=some false
 di:bq K (.type "dict") (.type "int")=some false
 dl:bq K (.type "dict") (.type "list")=some false
 dt:bq K (.type "dict") (.type "tuple")=some false
inductive Kn (H:Hp):V->Prop where
 | non:Kn H .non
 | bl (b:Bool):Kn H (.bl b)
 | int (i:Int):Kn H (.int i)
 | str (x:Str):Kn H (.str x)
 | lst {a:Addr} {xs:List V} (e:H a=some (.lst xs)):Kn H (.ref a)
 | tup {a:Addr} {xs:List V} (e:H a=some (.tup xs)):Kn H (.ref a)
 | dK {a:Addr} {kvs:List (Key×V)} (e:H a=some (.dK kvs)):Kn H (.ref a)
noncomputable def isB:V->Bool
 | .bl _=>true
 | _=>false
noncomputable def isI:V->Bool
 | .bl _=>true
 | .int _=>true
 | _=>false
noncomputable def isL (H:Hp):V->Bool
 | .ref a=>match H a with
  | some (.lst _)=>true
  | _=>false
 | _=>false
noncomputable def isT (H:Hp):V->Bool
 | .ref a=>match H a with
  | some (.tup _)=>true
  | _=>false
 | _=>false
theorem HB(h:H a=some (.lst xs)):isL H (.ref a)=true:=by simp only[isL,h]
theorem HA(h:H a=some (.tup xs)):isL H (.ref a)=false:=by simp only[isL,h]
theorem GI{xs:List (Key×V)}(h:H a=some (.dK xs)):isL H (.ref a)=false:=by simp only[isL,h]
theorem Hz(h:H a=some (.lst xs)):isT H (.ref a)=false:=by simp only[isT,h]
theorem Hy(h:H a=some (.tup xs)):isT H (.ref a)=true:=by simp only[isT,h]
theorem GG{xs:List (Key×V)}(h:H a=some (.dK xs)):isT H (.ref a)=false:=by simp only[isT,h]
theorem aA{a:Pn0}{s:Shared}{x:V}{c:String}{t:Value}{b f:Bool}{Q:VK}(I:Inv X a σ H s)(r:Vals [x,.ty c] us)(h:tN X.K H x t)(e:bq X.K t (.type c)=some b)(j:f=b)(q:Q (.bl f) H) :
  wpAny (model X.prog X.w) X.A (call (.builtin "isinstance") us) (EP X a σ Q) X.xe s:=by
 obtain⟨u,g,rfl,i,d⟩:=vals2 r;obtain rfl:g=XM c:=d;subst j;exact Co I i h e λk=>⟨.bl f,H,I.tok _,rfl,q⟩
theorem LR(F:kJ X.K):eO X (.builtin "isinstance") (λxs H Q=>∃ x,xs=[x,.ty "bool"]/\Kn H x/\Q (.bl (isB x)) H):=by
 intro a s c H xs d Q I r h;obtain⟨x,rfl,k,q⟩:=h;cases k with
 | non=>exact aA I r .non F.nb rfl q
 | bl b=>exact aA I r (.bl b) F.bb rfl q
 | int i=>exact aA I r (.int i) F.ib rfl q
 | str y=>exact aA I r (.str y) F.sb rfl q
 | lst e=>exact aA I r (.lst e) F.lb rfl q
 | tup e=>exact aA I r (.tup e) F.tb rfl q
 | dK e=>exact aA I r (.dK e) F.db rfl q
theorem LP(F:kJ X.K):eO X (.builtin "isinstance") (λxs H Q=>∃ x,xs=[x,.ty "int"]/\Kn H x/\Q (.bl (isI x)) H):=by
 intro a s c H xs d Q I r h;obtain⟨x,rfl,k,q⟩:=h;cases k with
 | non=>exact aA I r .non F.ni rfl q
 | bl b=>exact aA I r (.bl b) F.bi rfl q
 | int i=>exact aA I r (.int i) F.ii rfl q
 | str y=>exact aA I r (.str y) F.si rfl q
 | lst e=>exact aA I r (.lst e) F.li rfl q
 | tup e=>exact aA I r (.tup e) F.ti rfl q
 | dK e=>exact aA I r (.dK e) F.di rfl q
theorem LO(F:kJ X.K):eO X (.builtin "isinstance") (λxs H Q=>∃ x,xs=[x,.ty "list"]/\Kn H x/\Q (.bl (isL H x)) H):=by
 intro a s c H xs d Q I r h;obtain⟨x,rfl,k,q⟩:=h;cases k with
 | non=>exact aA I r .non F.nl rfl q
 | bl b=>exact aA I r (.bl b) F.bl rfl q
 | int i=>exact aA I r (.int i) F.il rfl q
 | str y=>exact aA I r (.str y) F.sl rfl q
 | lst e=>exact aA I r (.lst e) F.ll (HB e) q
 | tup e=>exact aA I r (.tup e) F.tl (HA e) q
 | dK e=>exact aA I r (.dK e) F.dl (GI e) q
theorem LM(F:kJ X.K):eO X (.builtin "isinstance") (λxs H Q=>∃ x,xs=[x,.ty "tuple"]/\Kn H x/\Q (.bl (isT H x)) H):=by
 intro a s c H xs d Q I r h;obtain⟨x,rfl,k,q⟩:=h;cases k with
 | non=>exact aA I r .non F.nt rfl q
 | bl b=>exact aA I r (.bl b) F.bt rfl q
 | int i=>exact aA I r (.int i) F.it rfl q
 | str y=>exact aA I r (.str y) F.st rfl q
 | lst e=>exact aA I r (.lst e) F.lt (Hz e) q
 | tup e=>exact aA I r (.tup e) F.tt (Hy e) q
 | dK e=>exact aA I r (.dK e) F.dt (GG e) q
section
variable {pins:Pn0}{s:Shared}
theorem Inv.moved(I:Inv X pins σ H s)(a:∀ b∈ch,j7 X pins H b)(g:∀ b o,b∉ch->s.heap.get? b=some o->h'.get? b=some o):Inv X pins σ H { s with heap:=h',toks:=t' }:=by
 have h:∀ {b:Addr} {u:HO},H b=some u->b∉ch:=λe d=>by rw[(a _ d).1] at e;cases e
 refine I.step (g':=s.gens) (d':=s.drawn) (ch:=ch) (λb d=>⟨(a b d).2.2.2.1,(a b d).2.1,(a b d).2.2.2.2.1,(a b d).2.2.2.2.2⟩) (λb o _ _ f e _=>g b o f e) (λb o _ _ f e _=>⟨o.slots,g b o f e⟩) (λ_ _ _ _ n=>n)
  (λb o f e=>⟨o,g b o f e⟩) (λ_ _ e=>e) (λ_ _ _ e=>e) (λb p e=>⟨#[],by rw[e];simp⟩) (λm j=>?_) (λb u e=>?_) I.bare
 .obtain⟨o,k,l,i,r⟩:=j;exact⟨o,k,l,g _ o (λd=>(a _ d).2.1 rfl) i,r⟩
 .exact(I.hok b u e).CT (λc v f q=>g c v (by rcases f with z | z <;> first | (rw[z];exact h e) | exact h z) q) (λ_ q=>q) λ_ _ q=>q
theorem Inv.Dk{T:Addr}{x:V}(I:Inv X pins σ H s)(d:∀ b∈ch,j7 X pins H b)(k:s.heap.objs.size<=T)(h:∀ b o,b∉ch->s.heap.get? b=some o->h'.get? b=some o)(w:IsTup h' T #[u,v])(t:RelV x u)(p:RelV y v):Inv X pins σ (upd H T (.tup [x,y])) { s with heap:=h',toks:=t' }:=by
 have j:∀ {b:Addr} {u:HO},H b=some u->b∉ch:=λe f=>by rw[(d _ f).1] at e;cases e
 have C:H T=none:=I.hok.fresh k;have neT:∀ {b:Addr} {o:Obj},s.heap.get? b=some o->b≠T:=λe=>oj (ih (hH e) k);have a:∀ {b:Addr} {u:HO},H b=some u->b≠T:=λe z=>by rw[z,C] at e;cases e
 refine I.step (g':=s.gens) (d':=s.drawn) (ch:=ch) (λb f=>⟨(d b f).2.2.2.1,(d b f).2.1,(d b f).2.2.2.2.1,(d b f).2.2.2.2.2⟩) (λb o _ _ g e _=>h b o g e) (λb o _ _ g e _=>⟨o.slots,h b o g e⟩) (λb o _ e n=>by rw[ar (neT e)];exact n)
  (λb o g e=>⟨o,h b o g e⟩) (λb i e=>by rw[ar (a e)];exact e) (λb o i e=>by rw[ar (a e)];exact e) (λb G e=>⟨#[],by rw[ar (a e),e];simp⟩) (λm B=>?_) (λb o e=>?_) I.bare
 .obtain⟨o,D,E,A,r⟩:=B;exact⟨o,D,E,h _ o (λf=>(d _ f).2.1 rfl) A,r⟩
 .by_cases f:b=T
  .subst f;rw[ax] at e;cases e;exact⟨(by show 2<=sizeLine;decide),[u,v],.cons t (.cons p .nil),w⟩
  .rw[ar f] at e;exact(I.hok b o e).CT (λc l g q=>h c l (by rcases g with z | z <;> first | (rw[z];exact j e) | exact j z) q) (λc q=>by rw[ar (a q)];exact q) (λc i q=>by rw[ar (a q)];exact q) λc o F q=>by rw[ar (a q)];exact q
end
noncomputable def Itz (a b:Addr):It:=
 ⟨λi H=>∃ xs ys x y,H a=some (.lst xs)/\H b=some (.lst ys)/\xs[i]?=some x/\ys[i]?=some y,
  λi H v H'=>∃ t xs ys x y,H t=none/\H a=some (.lst xs)/\H b=some (.lst ys)/\xs[i]?=some x/\ys[i]?=some y/\v=.ref t/\H'=upd H t (.tup [x,y]),
  λi H=>∃ xs ys,H a=some (.lst xs)/\H b=some (.lst ys)/\(xs.length<=i\/ys.length<=i)⟩
def PH (z TI TO c i2 e d:Addr)(i:Nat)(h:Heap):Prop:=IsZip h z TI TO .none/\IsPair h TI (.ref c) (.ref i2)/\(∃ a b,IsPair h TO a b)/\h.IsListIter c e i/\h.IsListIter i2 d i
structure zE (z TI TO i1 i2:Addr):Prop where
 TIz:TI≠z
 TOz:TO≠z
 i1z:i1≠z
 i2z:i2≠z
 TITO:TI≠TO
 TIi1:TI≠i1
 TIi2:TI≠i2
 TOi1:TO≠i1
 TOi2:TO≠i2
 i12:i1≠i2
theorem JF{kt:Nat}(z TI TO m i2 B l2:Addr)(D:zE z TI TO m i2) :
  Turn P w K (.Tuple es kt tp) (Itz B l2) [z,TI,TO,m,i2] z (PH z TI TO m i2 B l2) where
 mem:=by simp
 obj:=λi h st b j=>by
  obtain⟨r,l,⟨a,c,n⟩,⟨o1,e1,_,d1⟩,⟨o2,e2,_,d2⟩⟩:=st;simp only[fg,lh,or_false] at j;rcases j with rfl | rfl | rfl | rfl | rfl
  .exact⟨_,r,λv q=>by cases q⟩
  .exact⟨_,l,λv q=>by cases q⟩
  .exact⟨_,n,λv q=>by cases q⟩
  .exact⟨_,e1,λv q=>by rw[d1] at q;cases q⟩
  .exact⟨_,e2,λv q=>by rw[d2] at q;cases q⟩
 keep:=λi h h' st k=>by
  obtain⟨r,l,⟨a,c,n⟩,F,C⟩:=st;exact⟨k z (by simp) _ r,k TI (by simp) _ l,⟨a,c,k TO (by simp) _ n⟩,F.at λo e=>k m (by simp) o e,C.at λo e=>k i2 (by simp) o e⟩
 item:=by
  intro X V S W hc i G s σ H E I J st U;subst V S W;obtain⟨xs,ys,x,y,t,j,hx,hy⟩:=U;obtain⟨r,l,⟨a0,b0,n⟩,F,C⟩:=st;obtain⟨Q,na,N,ea,_⟩:=I.lst t;obtain⟨O,nb,M,Y,_⟩:=I.lst j;have A:∀ b∈[z,TI,TO,m,i2],H b=none:=λb j=>(J b j).1;have g:∀ b∈[z,TI,TO,m,i2],B≠b:=λb j e=>by rw[e,A b j] at t;cases t
  have f:∀ b∈[z,TI,TO,m,i2],l2≠b:=λb d e=>by rw[e,A b d] at j;cases j
  have Z:YP z TI TO m i2 B l2:=⟨D.TIz,D.TOz,D.i1z,D.i2z,D.TITO,D.TIi1,D.TIi2,D.TOi1,D.TOi2,D.i12,g z (by simp),g TO (by simp),g m (by simp),g i2 (by simp),f z (by simp),f TO (by simp),f m (by simp),f i2 (by simp)⟩;obtain⟨u,hu,ru⟩:=N.get hx;obtain⟨v,hv,rv⟩:=M.get hy;refine Zs Z r l n F C (xs:=Q.toArray) (ys:=O.toArray) ⟨_,ea,rfl,_,rfl⟩ ⟨_,Y,rfl,_,rfl⟩ (x:=u) (y:=v) (by simpa using hu) (by simpa using hv) λh' a1 a2 a3 a4 a5 a6 L=>?_;refine⟨_,rfl,wpAny_letOwnedTupleGo_zip a1 λa7 R p=>?_⟩;have zT:s.heap.objs.size≠z:=Xa (hH r);refine⟨.ref s.heap.objs.size,upd H s.heap.objs.size (.tup [x,y]),?_,rfl,⟨_,xs,ys,x,y,I.hok.fresh (ek _),t,j,hx,hy,rfl,rfl⟩,?_,λb d=>?_⟩
  .refine I.Dk (t':=s.toks) (ch:=[z,TO,m,i2]) (u:=u) (v:=v) (λb d=>J b (by simp at d ⊢;rcases d with e | e | e | e <;> simp [e])) (ek _) (λb o d e=>?_) ⟨_,p.extBut _ _ zT a5,rfl,_,rfl⟩ ru rv;simp only[fg,lh,or_false,not_or] at d;exact p.extBut b o d.1 (L b o d.1 d.2.1 d.2.2.1 d.2.2.2 e)
  .exact⟨R,p.extBut _ _ D.TIz (L _ _ D.TIz D.TITO D.TIi1 D.TIi2 l),⟨_,_,p.extBut _ _ D.TOz a2⟩,a3.extBut p.extBut D.i1z,a4.extBut p.extBut D.i2z⟩
  .rw[ar]
   .exact A b d
   .have T:∃ o,s.heap.get? b=some o:=by
     obtain⟨o1,e1,_⟩:=F;obtain⟨o2,e2,_⟩:=C;simp only[fg,lh,or_false] at d;rcases d with rfl | rfl | rfl | rfl | rfl
     .exact⟨_,r⟩
     .exact⟨_,l⟩
     .exact⟨_,n⟩
     .exact⟨_,e1⟩
     .exact⟨_,e2⟩
    obtain⟨o,e⟩:=T;exact oj (hH e)
 done:=by
  intro X V S W hc i G s σ H E I J st U;subst V S W;obtain⟨xs,ys,t,j,hl⟩:=U;obtain⟨r,l,⟨a0,b0,n⟩,F,C⟩:=st;obtain⟨Q,na,N,ea,_⟩:=I.lst t;obtain⟨O,nb,M,Y,_⟩:=I.lst j;have A:∀ b∈[z,TI,TO,m,i2],H b=none:=λb j=>(J b j).1;have g:∀ b∈[z,TI,TO,m,i2],B≠b:=λb j e=>by rw[e,A b j] at t;cases t
  have f:∀ b∈[z,TI,TO,m,i2],l2≠b:=λb d e=>by rw[e,A b d] at j;cases j
  have Z:YP z TI TO m i2 B l2:=⟨D.TIz,D.TOz,D.i1z,D.i2z,D.TITO,D.TIi1,D.TIi2,D.TOi1,D.TOi2,D.i12,g z (by simp),g TO (by simp),g m (by simp),g i2 (by simp),f z (by simp),f TO (by simp),f m (by simp),f i2 (by simp)⟩;have la:=N.length;have lb:=M.length;refine ZC (I.ok.hd hc) Z r l n F C (xs:=Q.toArray) (ys:=O.toArray) ⟨_,ea,rfl,_,rfl⟩ ⟨_,Y,rfl,_,rfl⟩ ?_ λh' L=>⟨rfl,I.moved (t':=s.toks) (ch:=[z,TO,m,i2]) (λb d=>J b (by simp at d ⊢;rcases d with e | e | e | e <;> simp [e])) λb o d e=>?_⟩
  .rcases hl with hl | hl
   .left;simp;lia
   .right;simp;lia
  .simp only[fg,lh,or_false,not_or] at d;exact L b o d.1 d.2.1 d.2.2.1 d.2.2.2 e
 self:=λ_ _ _ _ _ st h=>YQ st.1 h
def UI (ta:TA):TI:=λσ H R=>ta σ H λvs H1=>∃ (p q:Addr) (xs ys:List V),vs=[.ref p,.ref q]/\H1 p=some (.lst xs)/\H1 q=some (.lst ys)/\R (Itz p q) H1
theorem QE{a b:Expr}{ta:TA}{kt:Nat}{p:Pos}(M:Gl X "zip")(K:X.mg "zip"=none)(N:PA X [a,b] ta)(J:autoParam (ew [a,b] X.env=[(false,eval a X.env),(false,eval b X.env)]) wE)(f:autoParam (ew [b] X.env=[(false,eval b X.env)]) wE) :
  PI X (.Tuple es kt tp) (.Call (.Name "zip" p) [a,b] [] pos) (UI ta):=by
 intro d s t H R I h;refine Call_ (nQ I M K (by decide +kernel:zp "zip"=some (.type "zip")) (ro (thn (N pos d s t H _ I h) λY c ⟨W,x,k,z,A⟩=>?_) (by rw[J,f]) (by rw[f];rfl)));obtain⟨C,B,xs,ys,e,P,O,q⟩:=A;subst e;obtain⟨u,V,rfl,y,l⟩:=vals2 z;cases y;cases l;obtain⟨F,na,ra,T,_⟩:=k.lst P;obtain⟨E,nb,Z,S,_⟩:=k.lst O;refine call_zip_2 (xs:=F.toArray) (ys:=E.toArray) ⟨_,T,rfl,_,rfl⟩ ⟨_,S,rfl,_,rfl⟩ λQ v r o n m G L=>YQ v ?_;have U:Inv X d t x { c with heap:=Q }:=k.kept (t':=c.toks) L;have lt:∀ i j:Nat,i < j->c.heap.objs.size + i≠c.heap.objs.size + j:=λi j h e=>by lia
 have D:zE (c.heap.objs.size + 4) (c.heap.objs.size + 2) (c.heap.objs.size + 3) c.heap.objs.size (c.heap.objs.size + 1):=
  ⟨lt 2 4 (by decide),lt 3 4 (by decide),lt 0 4 (by decide),lt 1 4 (by decide),lt 2 3 (by decide),(lt 0 2 (by decide)).symm,(lt 1 2 (by decide)).symm,(lt 0 3 (by decide)).symm,(lt 1 3 (by decide)).symm,lt 0 1 (by decide)⟩
 refine⟨_,_,_,_,x,rfl,U,JF _ _ _ _ _ C B D,⟨v,r,⟨_,_,o⟩,n,m⟩,λb w=>?_,q⟩;have g:c.heap.objs.size<=b:=by
  simp only[fg,lh,or_false] at w;rcases w with rfl | rfl | rfl | rfl | rfl <;> lia
 exact k.za g (k.hok.fresh g)
noncomputable def Ite (a:Addr):It:=
 ⟨λi H=>∃ xs x,H a=some (.lst xs)/\xs[i]?=some x,
  λi H v H'=>∃ t xs x,H t=none/\H a=some (.lst xs)/\xs[i]?=some x/\v=.ref t/\H'=upd H t (.tup [.int i,x]),
  λi H=>∃ xs,H a=some (.lst xs)/\xs.length<=i⟩
def W4 (e it l:Addr)(i:Nat)(h:Heap):Prop:=(∃ a,IsEnum h e it i a)/\h.IsListIter it l i
theorem Ib{kt:Nat}(e it l:Addr)(D:e≠it):Turn P w K (.Tuple es kt tp) (Ite l) [e,it] e (W4 e it l) where
 mem:=by simp
 obj:=λi h st b n=>by
  obtain⟨⟨c,d⟩,⟨U,M,_,d1⟩⟩:=st;simp only[fg,lh,or_false] at n;rcases n with rfl | rfl
  .exact⟨_,d,λv q=>by cases q⟩
  .exact⟨_,M,λv q=>by rw[d1] at q;cases q⟩
 keep:=λi h R st k=>by
  obtain⟨⟨c,d⟩,g⟩:=st;exact⟨⟨c,k e (by simp) _ d⟩,g.at λo e=>k it (by simp) o e⟩
 item:=by
  intro X G y J Q i j s S H E I m st C;subst G y J;obtain⟨N,x,p,O⟩:=C;obtain⟨⟨c,d⟩,g⟩:=st;obtain⟨t,W,r,L,_⟩:=I.lst p;have V:∀ b∈[e,it],H b=none:=λb n=>(m b n).1;obtain⟨u,Y,T⟩:=r.get O;refine wpAny_pyNext_enum_item d g (items:=t.toArray) ⟨_,L,rfl,_,rfl⟩ (x:=u) (by simpa using Y) D λR a1 a2 a3 a4 B=>?_;refine⟨_,rfl,wpAny_letOwnedTupleGo_enum a1 λZ F f=>?_⟩;have eT:s.heap.objs.size≠e:=Xa (hH d);refine⟨.ref s.heap.objs.size,upd H s.heap.objs.size (.tup [.int i,x]),?_,rfl,⟨_,N,x,I.hok.fresh (ek _),p,O,rfl,rfl⟩,?_,λb a=>?_⟩
  .refine I.Dk (t':=s.toks + 1) (ch:=[e,it]) (u:=.int i s.toks) (v:=u) m (ek _) (λb o a q=>?_) ⟨_,f.extBut _ _ eT a3,rfl,_,rfl⟩ ⟨_,rfl⟩ T;simp only[fg,lh,or_false,not_or] at a;exact f.extBut b o a.1 (B b o a.1 a.2 q)
  .exact⟨⟨_,by simpa using F⟩,a2.extBut f.extBut (rl D)⟩
  .rw[ar]
   .exact V b a
   .have A:∃ o,s.heap.get? b=some o:=by
     obtain⟨U,M,_⟩:=g;simp only[fg,lh,or_false] at a;rcases a with rfl | rfl
     .exact⟨_,d⟩
     .exact⟨_,M⟩
    obtain⟨o,q⟩:=A;exact oj (hH q)
 done:=by
  intro X G y J Q i j s S H E I m st C;subst G y J;obtain⟨N,p,hl⟩:=C;obtain⟨⟨c,d⟩,g⟩:=st;obtain⟨t,W,r,L,_⟩:=I.lst p;have la:=r.length;exact wpAny_pyNext_enum_end (I.ok.hd Q) d g (items:=t.toArray) ⟨_,L,rfl,_,rfl⟩ (by simp;lia) λR B=>⟨rfl,I.moved (t':=s.toks) (ch:=[it]) (λb a=>m b (by simp at a ⊢;simp [a])) λb o a q=>B b o (λz=>a (by simp [z])) q⟩
 self:=λ_ _ _ _ _ st h=>by obtain⟨⟨c,d⟩,_⟩:=st;exact wpAny_pyIter_enum d h
def Ph (ta:TA):TI:=λσ H R=>ta σ H λvs H1=>∃ (p:Addr) (xs:List V),vs=[.ref p]/\H1 p=some (.lst xs)/\R (Ite p) H1
theorem Nd{a:Expr}{ta:TA}{kt:Nat}{p:Pos}(z:Gl X "enumerate")(w:X.mg "enumerate"=none)(A:PA X [a] ta)(v:autoParam (ew [a] X.env=[(false,eval a X.env)]) wE) :
  PI X (.Tuple es kt tp) (.Call (.Name "enumerate" p) [a] [] pos) (Ph ta):=by
 intro c s i H R I h;refine Call_ (nQ I z w (by decide +kernel:zp "enumerate"=some (.type "enumerate")) (ro (thn (A pos c s i H _ I h) λJ g Z=>?_) v rfl));obtain⟨G,m,f,o,r⟩:=Z;obtain⟨l,F,e,B,q⟩:=r;subst e;obtain⟨u,rfl,n⟩:=vals1 o;cases n;obtain⟨M,L,K,D,_⟩:=f.lst B;refine call_enumerate_1 D λC j y t x=>wpAny_pyIter_enum j ?_;have E:Inv X c i m { g with heap:=C }:=f.kept (t':=g.toks) x;refine⟨_,_,_,_,m,rfl,E,Ib _ _ l (Nat.succ_ne_self _),⟨⟨_,by simpa using j⟩,y⟩,λb k=>?_,q⟩;have d:g.heap.objs.size<=b:=by
  simp only[fg,lh,or_false] at k;rcases k with rfl | rfl <;> lia
 exact f.za d (f.hok.fresh d)
noncomputable def q_ (xs:List V)(lo a st:Option Int):List V:=
 (XT (sN lo a st xs.length).1 (sN lo a st xs.length).2.1 (sN lo a st xs.length).2.2).filterMap (xs[·]?)
theorem Vals.places:∀ {xs:List V} {us:Lv0},Vals xs us->∀ a:List Nat,Vals (a.filterMap (xs[·]?)) (a.filterMap (us[·]?))
 | _,_,_,[]=>.nil
 | xs,us,h,j::a=>by
  have c:=Vals.places h a;cases b:xs[j]? with
  | some x=>
   obtain⟨u,e,r⟩:=h.get b;simp only[sX,b,e];exact .cons r c
  | none=>
   have d:=h.none_of b;simp only[sX,b,d];exact c
def S8 (K:Fg0)(te:TE)(tl d c:TO):TE:=λσ H Q=>te σ H λx H1=>tl σ H1 λl H2=>d σ H2 λu e=>c σ e λk b=>k≠some 0/\∃ a xs,x=.ref a/\SqL K b a xs/\∀ p,b p=none->Q (.ref p) (upd b p (.lst (q_ xs l u k)))
theorem Iq{e:Expr}{st:Expr}{tl y w:TO}(U:PE X e te)(T:PO X lo tl)(R:PO X hi y)(S:PO X (some st) w):PE X (.Subscript e (.Slice lo hi (some st) p2) pos) (S8 X.K te tl y w):=by
 intro c s g H Q I h;refine Subscript_ (thn (U c s g H _ I h) λv D Z=>?_);obtain⟨x,H1,I1,E,K⟩:=Z;refine wpAny_Slice (thn (T c D g H1 _ I1 K) λp C ⟨l,H2,I2,M,J⟩=>thn (R c C g H2 _ I2 J) λvu B ⟨u,H3,Y,L,G⟩=>thn (S c B g H3 _ Y G) λt f Z=>?_);obtain⟨k,H4,W,pk,F⟩:=Z;obtain⟨O,a,i,rfl,P,q⟩:=F;cases E;have n:Inv X c g H4 { f with heap:=f.heap.push { cls:=.type "slice",data:=.fields #[p,vu,t] } }:=W.kept (t':=f.toks) λb N q=>dV _ q;obtain⟨d,r,A,hz⟩:=n.list P;have j:=r.length;show wpAny (model X.prog X.w) X.A (ZO e (.Slice lo hi (some st) p2) (.ref a) (.ref f.heap.objs.size)) (EP X c g Q) X.xe { f with heap:=f.heap.push { cls:=.type "slice",data:=.fields #[p,vu,t] } };refine tail_any (ops:=[.ref a,.ref f.heap.objs.size]) A.isList.typeIs YF.lookup (YH A.isList (ZW ..) M L pk O ?_ (by rw[hL] <;> lia)) (by with_unfolding_all rfl);refine⟨.ref _,_,n.laid (t':=f.toks) (o:=.lst (q_ i l u k)) (λb N q=>dV _ q) (ek _) ?_,rfl,q _ (n.hok.fresh (ek _))⟩;have z:Vals (q_ i l u k) (ZH d.toArray l u k).toList:=by
  have e:(ZH d.toArray l u k).toList=(XT (sN l u k i.length).1 (sN l u k i.length).2.1 (sN l u k i.length).2.2).filterMap (d[·]?):=by
   simp [ZH,j]
  rw[e];exact r.places _
 have m:=slicePick_size_le d.toArray l u k;have V:=z.length;simp only[Xf,hL] at V m;exact⟨by lia,_,0,z,ks _ rfl⟩
abbrev lW (h:Heap)(z TI TO T:Addr)(f:Bool):Prop:=h.get? z=some { cls:=.type "zip",dict:=none,data:=.fields #[rawInt T,.bool f,.bool false,.ref TI,.ref TO],slots:=#[] }
section
variable {E:VS0}{s:Shared}
theorem Jp{Q:Option Obj->Shared->Prop}(h:Q (s.heap.get? a) s):wpAny M A (ac5 a) Q E s:=λc p b=>by
 unfold ac5;rw[Sem.wp_loadIfAlive];exact h
theorem HG{TI TO T:Addr}{f:Bool}{d:Obj}{Q:Bool->Shared->Prop}(a:lW s.heap z TI TO T f)(e:s.heap.get? T=some d)(h:∀ h',lW h' z TI TO T true->Xs z s.heap h'->Q false { s with heap:=h' }) :
  wpAny (model prog w) A (DM (.ref z)) Q E s:=by
 unfold DM;refine bD (Ol a rfl (x:=rawInt T) rfl ?_);show wpAny _ _ (ac5 ((T:Int).toNat) >>= _) _ _ _;have g:((T:Nat):Int).toNat=T:=ky T;rw[g];refine bD (Jp ?_);rw[e];show wpAny _ _ (field (.ref z) 1 >>= _) _ _ _;refine bD (Ol a rfl (x:=.bool f) rfl ?_);cases f with
 | true=>exact hF (h _ a (.refl ..))
 | false=>
  show wpAny _ _ (setField (.ref z) 1 (.bool true) >>= λ_=>pure false) _ _ _;exact bD (wpAny_setField_rec a (by simp) λh' b c=>hF (h h' b c))
theorem Jw{TI TO i2 T:Addr}{f:Bool}{I:Obj}{xs:Array Value}{x y:Value}{Q:VS0}(D:YP z TI TO i1 i2 l1 l2)(h:lW s.heap z TI TO T f)(B:IsPair s.heap TI (.ref i1) (.ref i2))(L:s.heap.get? T=some I)(O:s.heap.IsListIter i1 l1 k1)(N:s.heap.IsListIter i2 l2 k2)(q:s.heap.IsList l1 xs)(p:s.heap.IsList l2 ys)(K:xs[k1]?=some x)(J:ys[k2]?=some y)(M:∀ h',lW h' z TI TO T true->h'.IsListIter i1 l1 (k1 + 1)->h'.IsListIter i2 l2 (k2 + 1)->IsPair h' s.heap.objs.size x y->(∀ c o,c≠z->c≠i1->c≠i2->s.heap.get? c=some o->h'.get? c=some o)->Q (.ref s.heap.objs.size) { s with heap:=h' }) :
  wpAny (model prog w) A (Builtin.«zip.__next__» ⟨[.ref z],[]⟩) (λfin s'=>∃ v,fin=.done (.ret v)/\Q v s') E s:=by
 show wpAny _ _ (field (.ref z) 2 >>= λa=>_) _ _ _;refine bD (Ol h rfl (x:=.bool false) rfl ?_);show wpAny _ _ (field (.ref z) 3 >>= λa=>_) _ _ _;refine bD (Ol h rfl (x:=.ref TI) rfl (bD (ZD B rfl ?_)));show wpAny _ _ (DM (.ref z) >>= λa=>_) _ _ _;refine bD (HG h L λj l b=>?_);simp only[SL,if_false];have n:j.IsListIter i1 l1 k1:=O.extBut b.extBut D.i1z;have m:j.IsListIter i2 l2 k2:=N.extBut b.extBut D.i2z;have F:j.IsList l1 xs:=q.extBut b.extBut D.l1z;have C:j.IsList l2 ys:=p.extBut b.extBut D.l2z;rw[ZY];refine bD ?_;rw[Xl];refine bD (bD (MX ?_));show wpAny _ _ (Te (.ref i1) >>= λv=>pure (some v)) _ _ _;refine bD (Xz n F K λP u d=>hF (hF ?_));show wpAny _ _ (forIn [rd i2] _ _) _ _ _;rw[Xl];refine bD (bD (MX ?_));show wpAny _ _ (Te (.ref i2) >>= λv=>pure (some v)) _ _ _;refine bD (Xz (m.extBut d.extBut D.i12.symm) (C.extBut d.extBut D.l2i1) J λG r g=>hF (hF ?_));show wpAny _ _ (forIn ([]:Lv0) _ _) _ _ _;rw[ad5];refine hF ?_;show wpAny _ _ (newTuple [x,y] >>= λt=>ret t) _ _ _;refine bD (wpAny_newTuple (hF ⟨_,rfl,?_⟩));have i:G.objs.size=s.heap.objs.size:=by rw[g.1,d.1,b.1]
 have k:lW G z TI TO T true:=g.extBut _ _ D.i2z.symm (d.extBut _ _ D.i1z.symm l);have H:=M (G.push { cls:=.type "tuple",data:=.seq #[x,y] }) (dV _ k) ((u.extBut g.extBut D.i12).at λo e=>dV _ e) (r.at λo e=>dV _ e)
  (by rw[<- i];exact ks _ rfl) λc o c1 c2 c3 e=>dV _ (g.extBut _ _ c3 (d.extBut _ _ c2 (b.extBut _ _ c1 e)))
 rw[<- i] at H;exact H
theorem IG{TI TO i2 T:Addr}{f:Bool}{h:Obj}{xs:Array Value}{x y:Value}(D:YP z TI TO i1 i2 l1 l2)(a:lW s.heap z TI TO T f)(g:IsPair s.heap TI (.ref i1) (.ref i2))(k:s.heap.get? T=some h)(n:s.heap.IsListIter i1 l1 k1)(m:s.heap.IsListIter i2 l2 k2)(e:s.heap.IsList l1 xs)(d:s.heap.IsList l2 ys)(j:xs[k1]?=some x)(i:ys[k2]?=some y)(l:∀ h',lW h' z TI TO T true->h'.IsListIter i1 l1 (k1 + 1)->h'.IsListIter i2 l2 (k2 + 1)->IsPair h' s.heap.objs.size x y->(∀ c o,c≠z->c≠i1->c≠i2->s.heap.get? c=some o->h'.get? c=some o)->Q (some (.ref s.heap.objs.size)) { s with heap:=h' }) :
  wpAny (model prog w) A (pyNext (.ref z)) Q E s:=by
 have b:s.TypeIs (.ref z) "zip":=⟨_,a,rfl⟩;unfold pyNext;exact bD (wpAny_attempt (Xr (name:=mu "__next__") b Ye
  (XS Ye b F.entry_zip_next (Jw D a g k n m e d j i λh' u t r q p=>hF (l h' u t r q p)) (ab1 _))))
theorem Ju{TI TO i2 T:Addr}{f:Bool}{F:Obj}{xs:Array Value}{Q:Fin->Shared->Prop}(B:A.handled=none)(D:YP z TI TO i1 i2 l1 l2)(g:lW s.heap z TI TO T f)(u:IsPair s.heap TI (.ref i1) (.ref i2))(J:s.heap.get? T=some F)(L:s.heap.IsListIter i1 l1 k1)(K:s.heap.IsListIter i2 l2 k2)(p:s.heap.IsList l1 xs)(n:s.heap.IsList l2 ys)(i:xs[k1]?=none\/ys[k2]?=none)(C:∀ h' e,(∀ c o,c≠z->c≠i1->c≠i2->s.heap.get? c=some o->h'.get? c=some o)->(∃ o,h'.get? e=some o/\o.cls=.type "StopIteration")->E (.ref e) { s with heap:=h' }) :
  wpAny (model prog w) A (Builtin.«zip.__next__» ⟨[.ref z],[]⟩) Q E s:=by
 show wpAny _ _ (field (.ref z) 2 >>= λa=>_) _ _ _;refine bD (Ol g rfl (x:=.bool false) rfl ?_);show wpAny _ _ (field (.ref z) 3 >>= λa=>_) _ _ _;refine bD (Ol g rfl (x:=.ref TI) rfl (bD (ZD u rfl ?_)));show wpAny _ _ (DM (.ref z) >>= λa=>_) _ _ _;refine bD (HG g J λk G b=>?_);simp only[SL,if_false];have h:k.IsListIter i1 l1 k1:=L.extBut b.extBut D.i1z;have m:k.IsListIter i2 l2 k2:=K.extBut b.extBut D.i2z;have j:k.IsList l1 xs:=p.extBut b.extBut D.l1z;have y:k.IsList l2 ys:=n.extBut b.extBut D.l2z;rw[ZY];refine bD ?_;rw[Xl];refine bD (bD (MX ?_));show wpAny _ _ (Te (.ref i1) >>= λv=>pure (some v)) _ _ _;cases l:xs[k1]? with
 | none=>
  exact bD (Zt B h j l λh' e r t=>C h' e (λc o c1 c2 c3 q=>r c o c2 (b.extBut _ _ c1 q)) t)
 | some x=>
  have H:ys[k2]?=none:=by rcases i with q | q;(rw[l] at q;cases q);exact q
  refine bD (Xz h j l λM I d=>hF (hF ?_));show wpAny _ _ (forIn [rd i2] _ _) _ _ _;rw[Xl];refine bD (bD (MX ?_));show wpAny _ _ (Te (.ref i2) >>= λv=>pure (some v)) _ _ _;exact bD (Zt B (m.extBut d.extBut D.i12.symm) (y.extBut d.extBut D.l2i1) H λh' e r t=>C h' e (λc o c1 c2 c3 q=>r c o c3 (d.extBut _ _ c2 (b.extBut _ _ c1 q))) t)
theorem IF{TI TO i2 T:Addr}{f:Bool}{l:Obj}{xs:Array Value}(p:A.handled=none)(D:YP z TI TO i1 i2 l1 l2)(a:lW s.heap z TI TO T f)(k:IsPair s.heap TI (.ref i1) (.ref i2))(r:s.heap.get? T=some l)(v:s.heap.IsListIter i1 l1 k1)(u:s.heap.IsListIter i2 l2 k2)(i:s.heap.IsList l1 xs)(h:s.heap.IsList l2 ys)(d:xs[k1]?=none\/ys[k2]?=none)(t:∀ h',(∀ c o,c≠z->c≠i1->c≠i2->s.heap.get? c=some o->h'.get? c=some o)->Q none { s with heap:=h' }):wpAny (model prog w) A (pyNext (.ref z)) Q E s:=by
 have g:s.TypeIs (.ref z) "zip":=⟨_,a,rfl⟩;unfold pyNext;refine bD (wpAny_attempt (Xr (name:=mu "__next__") g Ye
  (XS Ye g F.entry_zip_next (Ju p D a k r v u i h d λh' e n q=>?_) (ab1 _))))
 obtain⟨o,m,j⟩:=q;exact bD (wpAny_isInstance (T:="StopIteration") (b:=true) ⟨o,m,j⟩ isSubtype_stop (hF (t _ n)))
theorem Lp{I S:Addr}{res:Value}(J:Nat->Lv0->Shared->Prop)(j:n < sizeLine)(a:∀ i acc s,J i acc s->acc.length=i)(item:∀ i acc s E,i < n->J i acc s->wpAny (model prog w) A.in1 (pyNext (.ref I)) (λr s'=>∃ v c,r=some v/\s'.heap.get? S=some (gR acc c)/\∀ h',Xs S s'.heap h'->h'.get? S=some (gR (acc++[v]) (c + 1))->J (i + 1) (acc++[v]) { s' with heap:=h' }) E s)(done:∀ acc s E,J n acc s->wpAny (model prog w) A.in1 (pyNext (.ref I)) (λr s'=>r=none/\R (.ok (.ret res)) s') E s) :
  ∀ (k i:Nat) (acc:Lv0) (s:Shared),n - i=k->i<=n->J i acc s->SB (model prog w) A (.builtin "list.extend.loop" ⟨[.ref S,.ref I,res],[]⟩) R s:=by
 intro k
 induction k with
 | zero=>
  intro i acc s g h hJ;obtain rfl:i=n:=by lia
  refine Zm ZJ ?_;rw[XZ Xg _];show wpAny _ A.in1 (pyNext (.ref I) >>= λr=>_) _ _ s;refine bD (thn (done acc s _ hJ) λr s' Z=>?_);obtain⟨b,q⟩:=Z;subst b;exact hF q
 | succ k f=>
  intro i acc s g h hJ;refine Zm ZJ ?_;rw[XZ Xg _];show wpAny _ A.in1 (pyNext (.ref I) >>= λr=>_) _ _ s;refine bD (thn (item i acc s _ (by lia) hJ) λr s' Z=>?_);obtain⟨v,c,b,d,q⟩:=Z;subst b;have l:=a i acc s hJ;show wpAny _ A.in1 (ab9 S (·.push v) >>= λr=>_) _ _ _;have e:Fk (·.push v) (gR acc c)=gR (acc++[v]) (c + 1):=by
   show Fk (·.push v) { cls:=.type "list",dict:=none,data:=.seq acc.toArray c,slots:=#[] }=_;rw[mapSeq_push,List.push_toArray]
  refine bD (Yf d rfl (hF ⟨ZP Xg _,f (i + 1) (acc++[v]) _ (by lia) (by lia) (q _ (Heap.SameBut.update ..) ?_)⟩) (by rw[hL];lia) (by show (acc.toArray.push v).size<=sizeLine + 1;rw[Array.size_push,hL];lia));rw[SV _ d (by rw[e];rfl),e]
end
theorem H8:typeLookup (.type "zip") "__len__"=pure none:=by rw[typeLookup_type,Zu];kernel_rfl
theorem FA:typeLookup (.type "zip") "__length_hint__"=pure none:=by rw[typeLookup_type,Zu];kernel_rfl
section
variable {pins:Pn0}{s:Shared}
theorem Inv.adopt{S:Addr}{c:Nat}(I:Inv X pins σ H s)(f:j7 X pins H S)(t:s.heap.get? S=some (gR us c))(r:Vals xs us)(hz:xs.length<=sizeLine):Inv X pins σ (upd H S (.lst xs)) s:=by
 have a:∀ {b:Addr} {u:HO},H b=some u->b≠S:=λe z=>by rw[z,f.1] at e;cases e
 refine⟨I.ok,I.os,I.bare,⟨I.base.keep,I.base.slot,λb o e n h=>?_,I.base.there,λb g e=>?_,λb o u e=>?_,λb k e=>?_⟩,I.loc,I.cell,?_,λx d e=>?_,λp i=>?_,λb u e=>?_,I.len⟩
 .have l:b≠S:=λz=>by
   rcases f.2.2.2.1 with q | q
   .exact h (by rw[z];exact q)
   .exact absurd (ih (hH e) (by rw[z];exact q)) (vl _)
  rw[ar l];exact I.base.free b o e n h
 .have q:=I.base.tups b g e;rw[ar (a q)];exact q
 .have q:=I.base.uY b o u e;rw[ar (a q)];exact q
 .obtain⟨m,q⟩:=I.base.tbls b k e;exact⟨m,by rw[ar (a q)];exact q⟩
 .rw[ar (rl f.2.1)];exact I.free
 .rw[ar (f.2.2.2.2.1 x d e)];exact I.freeC x d e
 .obtain⟨y,w,v⟩:=I.pin p i;exact⟨y,by rw[ar (f.2.2.2.2.2 p i)];exact w,v⟩
 .by_cases j:b=S
  .subst j;rw[ax] at e;cases e;exact⟨hz,us,c,r,t⟩
  .rw[ar j] at e;exact(I.hok b u e).CT (λ_ _ _ q=>q) (λd q=>by rw[ar (a q)];exact q) (λd g q=>by rw[ar (a q)];exact q) λd o A q=>by rw[ar (a q)];exact q
theorem j7.heap{b:Addr}(f:j7 X pins H b)(h:H' b=none):j7 X pins H' b:=⟨h,f.2⟩
theorem Cc:∀ a:La0,Vals (a.map V.ref) (a.map rd)
 | []=>.nil
 | _::r=>.cons rfl (Cc r)
def VM (H:Hp)(xs ys:List V)(Q:VK):Prop:=∀ (S:Addr) (a:La0) (H':Hp),H S=none->aS H H'->H' S=some (.lst (a.map V.ref))->a.length=min xs.length ys.length->
 (∀ (j:Nat) t x y,a[j]?=some t->xs[j]?=some x->ys[j]?=some y->H' t=some (.tup [x,y]))->(∀ t∈a,H t=none)->Q (.ref S) H'
theorem E4{E:VS0}{TI TO i2:Addr}{ys:List V}{Q:VK}(D:zE z TI TO i1 i2)(I:Inv X pins σ H s)(hc:X.calm=true)(hf:∀ b∈[z,TI,TO,i1,i2],j7 X pins H b)(st:PH z TI TO i1 i2 l1 l2 0 s.heap)(ha:H l1=some (.lst xs))(hb:H l2=some (.lst ys))(hn:min xs.length ys.length < sizeLine)(q:VM H xs ys Q):wpAny (model X.prog X.w) X.A (call (.type "list") [.ref z]) (EP X pins σ Q) E s:=by
 obtain⟨hz,f2,⟨a0,b0,d9⟩,h1,h2⟩:=st;obtain⟨S,d4⟩:∃ S,S=s.heap.objs.size:=⟨_,rfl⟩;have fS:j7 X pins H S:=by rw[d4];exact I.za (ek _) (I.hok.fresh (ek _))
 have f9:∀ b∈[z,TI,TO,i1,i2],b < S:=λb d=>by
  have f0:∃ o,s.heap.get? b=some o:=by
   obtain⟨o1,e1,_⟩:=h1;obtain⟨o2,L,_⟩:=h2;simp only[fg,lh,or_false] at d;rcases d with rfl | rfl | rfl | rfl | rfl
   .exact⟨_,hz⟩
   .exact⟨_,f2⟩
   .exact⟨_,d9⟩
   .exact⟨_,e1⟩
   .exact⟨_,L⟩
  obtain⟨o,e⟩:=f0;rw[d4];exact hH e
 have G:∀ b∈[z,TI,TO,i1,i2],b≠S:=λb d=>oj (f9 b d);have b6:∀ w:Hp,aS H w->(∀ b∈[z,TI,TO,i1,i2],w b=none)->YP z TI TO i1 i2 l1 l2:=λw N W=>by
  have b9:∀ b∈[z,TI,TO,i1,i2],l1≠b:=λb d e=>by have:=N _ _ ha;rw[e,W b d] at this;cases this
  have b8:∀ b∈[z,TI,TO,i1,i2],l2≠b:=λb d e=>by have:=N _ _ hb;rw[e,W b d] at this;cases this
  exact⟨D.TIz,D.TOz,D.i1z,D.i2z,D.TITO,D.TIi1,D.TIi2,D.TOi1,D.TOi2,D.i12,b9 z (by simp),b9 TO (by simp),b9 i1 (by simp),b9 i2 (by simp),b8 z (by simp),b8 TO (by simp),b8 i1 (by simp),b8 i2 (by simp)⟩
 let J:Nat->Lv0->Shared->Prop:=λi b7 m=>∃ (w:Hp) (B:La0) (c:Nat),Inv X pins σ w m/\b7=B.map rd/\B.length=i/\w S=none/\m.heap.get? S=some (gR b7 c)/\aS H w/\
  (∀ (j:Nat) t x y,B[j]?=some t->xs[j]?=some x->ys[j]?=some y->w t=some (.tup [x,y]))/\(∀ t∈B,w t≠none/\H t=none)/\(∀ b∈[z,TI,TO,i1,i2],w b=none)/\(∃ o,m.heap.get? TO=some o)/\IsPair m.heap TI (.ref i1) (.ref i2)/\m.heap.IsListIter i1 l1 i/\m.heap.IsListIter i2 l2 i/\
  ((B=[]/\IsZip m.heap z TI TO .none/\∃ a b,IsPair m.heap TO a b)\/∃ t r f,B=t::r/\lW m.heap z TI TO t f)
 have alive:∀ {w:Hp} {m:Shared} {t:Addr},Inv X pins σ w m->w t≠none->∃ o,m.heap.get? t=some o:=λ{w m t} T h=>by
  cases e:w t with
  | none=>exact absurd e h
  | some o=>
   have lt:=T.hok.lt e;have x:=T.hok t o e;cases L:m.heap.get? t with
   | some ob=>exact⟨ob,rfl⟩
   | none=>
    exfalso;cases o with
    | lst _=>obtain⟨_,_,_,_,n⟩:=x;rw[L] at n;cases n
    | tup _=>obtain⟨_,_,_,p⟩:=x;obtain⟨_,n,_⟩:=p;rw[L] at n;cases n
    | dK _=>obtain⟨_,_,_,_,_,_,_,n,_⟩:=x;rw[L] at n;cases n
    | dT _=>obtain⟨_,_,_,_,_,_,_,n,_⟩:=x;rw[L] at n;cases n
    | set _ _=>obtain⟨_,_,_,_,n,_⟩:=x;rw[L] at n;cases n
    | ins _ _ _=>obtain⟨_,_,_,n,_⟩:=x;rw[L] at n;cases n
    | own _=>obtain⟨_,n⟩:=x;rw[L] at n;cases n
    | xd _=>obtain⟨_,⟨_,_,_,n,_⟩,_⟩:=x;rw[L] at n;cases n
    | rng _ _=>obtain⟨_,_,_,n⟩:=x;rw[L] at n;cases n
    | frz _ _=>obtain⟨n,_⟩:=x;rw[L] at n;cases n
    | tbl _=>obtain⟨_,_,_,_,n,_⟩:=x;rw[L] at n;cases n
    | cod _ _=>obtain⟨⟨_,n⟩,_⟩:=x;rw[L] at n;cases n
    | met _ _=>have n:m.heap.get? t=some _:=x;rw[L] at n;cases n
    | ext _=>obtain⟨_,⟨_,n⟩,_⟩:=x;rw[L] at n;cases n
 have d8:∀ {w:Hp},(∀ b∈[z,TI,TO,i1,i2],w b=none)->∀ b∈[z,TO,i1,i2],j7 X pins w b:=λ{w} W b d=>by
  have e0:b∈[z,TI,TO,i1,i2]:=by
   simp only[fg,lh,or_false] at d ⊢;rcases d with e | e | e | e <;> simp [e]
  exact(hf b e0).heap (W b e0)
 have step:∀ (i:Nat) (w:Hp) (B:La0) (c:Nat) (m:Shared) (C:Heap) (x y:V) (u v:Value),Inv X pins σ w m->B.length=i->w S=none->m.heap.get? S=some (gR (B.map rd) c)->aS H w->
   (∀ (j:Nat) t x y,B[j]?=some t->xs[j]?=some x->ys[j]?=some y->w t=some (.tup [x,y]))->(∀ t∈B,w t≠none/\H t=none)->(∀ b∈[z,TI,TO,i1,i2],w b=none)->(∀ b∈[z,TI,TO,i1,i2],∃ o,m.heap.get? b=some o)->IsPair m.heap TI (.ref i1) (.ref i2)->xs[i]?=some x->ys[i]?=some y->RelV x u->RelV y v->
   (∀ b o,b∉[z,TO,i1,i2]->m.heap.get? b=some o->C.get? b=some o)->(∃ o,C.get? TO=some o)->IsPair C m.heap.objs.size u v->C.IsListIter i1 l1 (i + 1)->C.IsListIter i2 l2 (i + 1)->(∃ t r f,B++[m.heap.objs.size]=t::r/\lW C z TI TO t f)->
   ∃ v' c',some (rd m.heap.objs.size)=some v'/\C.get? S=some (gR (B.map rd) c')/\∀ g,Xs S C g->g.get? S=some (gR (B.map rd++[v']) (c' + 1))->J (i + 1) (B.map rd++[v']) { m with heap:=g }:=by
  intro i w B c m C x y u v T hl R hS N a8 K W ex A hx hy ru rv U f1 hT P O b4;have g0:S < m.heap.objs.size:=hH hS;have ST:S≠m.heap.objs.size:=oj g0;have fT:w m.heap.objs.size=none:=T.hok.fresh (ek _);have g7:S∉[z,TO,i1,i2]:=λhm=>by
   simp only[fg,lh,or_false] at hm;rcases hm with e | e | e | e
   .exact G z (by simp) e.symm
   .exact G TO (by simp) e.symm
   .exact G i1 (by simp) e.symm
   .exact G i2 (by simp) e.symm
  refine⟨_,c,rfl,U S _ g7 hS,λg sb hg=>?_⟩;have I1:Inv X pins σ (upd w m.heap.objs.size (.tup [x,y])) { m with heap:=C }:=T.Dk (t':=m.toks) (d8 W) (ek _) U ⟨_,hT,rfl,_,rfl⟩ ru rv;have nT:∀ b∈[z,TI,TO,i1,i2],b≠m.heap.objs.size:=λb d=>by obtain⟨o,e⟩:=ex b d;exact oj (hH e)
  have b5:(upd w m.heap.objs.size (.tup [x,y])) S=none:=by rw[ar ST];exact R
  have I2:Inv X pins σ (upd w m.heap.objs.size (.tup [x,y])) { m with heap:=g }:=I1.moved (t':=m.toks) (ch:=[S]) (λb d=>by
   have e:b=S:=by simpa using d
   rw[e];exact fS.heap b5) λb o d e=>(sb.2 b λz'=>d (by simp [z'])).trans e
  have e9:∀ {t:Addr},w t≠none->t≠m.heap.objs.size:=λh e=>h (by rw[e];exact fT);refine⟨upd w m.heap.objs.size (.tup [x,y]),B++[m.heap.objs.size],c + 1,I2,by rw[gp];rfl,by rw[bS,hl];rfl,b5,hg,λb o e=>?_,λj t x' y' ht d3 c9=>?_,λt ht=>?_,λb d=>?_,?_,?_,?_,?_,?_⟩
  .have e':=N b o e;rw[ar (λz'=>by rw[z',fT] at e';cases e')];exact e'
  .by_cases hj:j < B.length
   .rw[ef hj] at ht;have e':=a8 j t x' y' ht d3 c9;rw[ar (e9 (by rw[e'];simp))];exact e'
   .have f':j=B.length:=by
     have:=(gS0 ht).1;rw[bS,XF] at this;lia
    subst f';rw[ic (ek _),SD] at ht;have et:t=m.heap.objs.size:=(ov ht).symm;rw[hl] at d3 c9;rw[hx] at d3;rw[hy] at c9;cases d3;cases c9;rw[et];exact ax
  .rcases mm.mp ht with z' | z'
   .rw[ar (e9 (K t z').1)];exact K t z'
   .have e:t=m.heap.objs.size:=by simpa using z'
    rw[e,ax];exact⟨by simp,N.free fT⟩
  .rw[ar (nT b d)];exact W b d
  .obtain⟨o,e⟩:=f1;exact⟨o,(sb.2 TO (G TO (by simp))).trans e⟩
  .exact(sb.2 TI (G TI (by simp))).trans (U TI _ (by simp [D.TIz,D.TITO,D.TIi1,D.TIi2]) A)
  .exact P.extBut sb.extBut (G i1 (by simp))
  .exact O.extBut sb.extBut (G i2 (by simp))
  .obtain⟨t,r,f,e,a7⟩:=b4;exact .inr ⟨t,r,f,e,(sb.2 z (G z (by simp))).trans a7⟩
 refine callType_codes (Q₁:=λe8 d6=>e8=.ref S/\d6={ s with heap:=s.heap.push { cls:=.type "list",data:=.seq #[] } }) F.called_list (F.typeCall_list_1 _) F.entry_list_init (code_list_new _ ⟨by rw[d4],rfl⟩) λe8 d6 f5=>?_;obtain⟨rfl,rfl⟩:=f5;have d5:(s.heap.push { cls:=.type "list",data:=.seq #[] }).get? S=some { cls:=.type "list",data:=.seq #[] }:=by rw[d4];exact ks _ rfl
 have e6:∀ b o,s.heap.get? b=some o->(s.heap.push { cls:=.type "list",data:=.seq #[] }).get? b=some o:=λb o e=>dV _ e;have I0:Inv X pins σ H { s with heap:=s.heap.push { cls:=.type "list",data:=.seq #[] } }:=I.kept (t':=s.toks) e6;refine⟨⟨_,d5,rfl⟩,F.args_list_init_2 _ _,?_⟩;show wpAny _ X.A.in1.in1 (Zf (.ref S) >>= λf8=>Builtin.List.listUpdate (.ref S) (λ_=>#[]) >>= λ_=>letGo f8.toList.reverse >>= λ_=>Wu (.ref S) (.ref z) .none) _ _ _;unfold Zf;refine bD (bD (ZD d5 rfl (hF ?_)));show wpAny _ X.A.in1.in1 (ab9 S (λ_=>#[]) >>= λ_=>letGo (#[]:Array Value).toList.reverse >>= λ_=>Wu (.ref S) (.ref z) .none) _ _ _;refine bD (Yf d5 rfl (bD (wpAny_letGo ?_)));have e4:=SV (Fk (λ_=>(#[]:Array Value))) d5 rfl;have up1:∀ b o,b≠S->s.heap.get? b=some o->((s.heap.push { cls:=.type "list",data:=.seq #[] }).update S (Fk (λ_=>(#[]:Array Value)))).get? b=some o:=λb o nb e=>(SC _ _ (rl nb)).trans (e6 b o e);generalize h6:(s.heap.push { cls:=.type "list",data:=.seq #[] }).update S (Fk (λ_=>(#[]:Array Value)))=g1 at e4 up1;have b':∀ g:Heap,(∀ b o,b≠S->s.heap.get? b=some o->g.get? b=some o)->g.get? z=some _:=λg k=>k z _ (G z (by simp)) hz;have e5:∀ m:Shared,m.heap.get? z=some { cls:=.type "zip",dict:=none,data:=.fields #[.none,.bool false,.bool false,.ref TI,.ref TO],slots:=#[] }->m.TypeIs (.ref z) "zip":=λm e=>⟨_,e,rfl⟩;unfold Wu;refine bD (wpAny_typeOf (e5 _ (b' g1 up1)) ?_);have b1:YI (.ref S) (.ref z)=false:=by simp [YI,(G z (by simp)).symm]
 have b2:(XM "zip" == XM "list")=false:=by decide
 have b3:(XM "zip" == XM "tuple")=false:=by decide
 simp only[b1,b2,b3,Bool.or_false,SL,if_false];refine bD (YQ (b' g1 up1) (bD (MX ?_)));unfold Builtin.List.listLengthHint;refine bD (Zn (e5 _ (b' g1 up1)) H8 ?_);show wpAny _ X.A.in1.in1 (specialOf (rd z) (mu "__length_hint__") >>= λa=>_) _ _ _;refine bD (Zn (e5 _ (b' g1 up1)) FA (hF ?_));show wpAny _ X.A.in1.in1 (rule "list.extend.makes-room" >>= λ_=>Builtin.List.listTouch (.ref S) >>= λ_=>again (.builtin "list.extend.loop" ⟨[.ref S,.ref z,.none],[]⟩)) _ _ _;refine bD (ZU (bD ?_));show wpAny _ X.A.in1.in1 (ab9 S (·.push .none) >>= λ_=>ab9 S (·.pop)) _ _ _;refine bD (Yf e4 rfl ?_);have b5:=SV (Fk (·.push WM)) e4 rfl;refine Yf (hz:=by seq_fits) b5 rfl ?_;have f4:=SV (Fk (·.pop)) b5 rfl;have M:∀ b o,b≠S->s.heap.get? b=some o->((g1.update S (Fk (·.push WM))).update S (Fk (·.pop))).get? b=some o:=
  λb o nb e=>(SC _ _ (rl nb)).trans ((SC _ _ (rl nb)).trans (up1 b o nb e))
 generalize h5:(g1.update S (Fk (·.push WM))).update S (Fk (·.pop))=g3 at f4 M;have I3:Inv X pins σ H { s with heap:=g3 }:=I.moved (t':=s.toks) (ch:=[S]) (λb d=>by
  have e:b=S:=by simpa using d
  rw[e];exact fS) λb o d e=>M b o (λz'=>d (by simp [z'])) e
 obtain⟨c0,g6⟩:∃ c0,g3.get? S=some (gR [] c0):=⟨_,f4⟩;have J0:J 0 [] { s with heap:=g3 }:=⟨H,[],c0,I3,rfl,rfl,fS.1,g6,aS.refl H,λj t x y h=>by simp at h,λt h=>by simp at h,λb d=>(hf b d).1,⟨_,M TO _ (G TO (by simp)) d9⟩,M TI _ (G TI (by simp)) f2,h1.at λo e=>M i1 o (G i1 (by simp)) e,h2.at λo e=>M i2 o (G i2 (by simp)) e,
  .inl ⟨rfl,M z _ (G z (by simp)) hz,a0,b0,M TO _ (G TO (by simp)) d9⟩⟩
 refine hF ⟨ZP Xg _,Lp J hn (λi b7 m h=>?_) (λi b7 m E' hi h=>?_) (λb7 m E' h=>?_) _ 0 [] _ rfl (Do _) J0⟩
 .obtain⟨_,B,_,_,e,l,_⟩:=h;rw[e,lM0,l]
 .obtain⟨w,B,c,T,rfl,hl,R,hS,N,a8,K,W,a',A,P,O,b4⟩:=h;have Z:=b6 w N W;obtain⟨ia,na,ra,ea,_⟩:=T.lst (N _ _ ha);obtain⟨ib,nb,rb,eb,_⟩:=T.lst (N _ _ hb);have g5:i < xs.length:=by lia
  have g2:i < ys.length:=by lia
  have hx:xs[i]?=some xs[i]:=gE0 g5;have hy:ys[i]?=some ys[i]:=gE0 g2;obtain⟨u,hu,ru⟩:=ra.get hx;obtain⟨v,hv,rv⟩:=rb.get hy;have LA:m.heap.IsList l1 ia.toArray:=⟨_,ea,rfl,_,rfl⟩;have LB:m.heap.IsList l2 ib.toArray:=⟨_,eb,rfl,_,rfl⟩;have f6:∀ zo:∃ o,m.heap.get? z=some o,∀ to:∃ o,m.heap.get? TO=some o,∀ b∈[z,TI,TO,i1,i2],∃ o,m.heap.get? b=some o:=λzo to b d=>by
   obtain⟨o1,e1,_⟩:=P;obtain⟨o2,L,_⟩:=O;simp only[fg,lh,or_false] at d;rcases d with rfl | rfl | rfl | rfl | rfl
   .exact zo
   .exact⟨_,A⟩
   .exact to
   .exact⟨_,e1⟩
   .exact⟨_,L⟩
  rcases b4 with ⟨rfl,c4,a,b,Y⟩ | ⟨t,r,f,rfl,a7⟩
  .refine Zs Z c4 A Y P O LA LB (x:=u) (y:=v) (by simpa using hu) (by simpa using hv) λC a1 a2 a3 a4 a5 a6 U=>?_;exact step i w [] c m C _ _ u v T hl R hS N a8 K W (f6 ⟨_,c4⟩ ⟨_,Y⟩) A hx hy ru rv (λb o d e=>by
    simp only[fg,lh,or_false,not_or] at d;exact U b o d.1 d.2.1 d.2.2.1 d.2.2.2 e) ⟨_,a2⟩ a5 a3 a4 ⟨_,[],false,rfl,a1⟩
  .obtain⟨ot,et⟩:=alive T (K t lU).1;refine IG Z a7 A et P O LA LB (x:=u) (y:=v) (by simpa using hu) (by simpa using hv) λC a1 a2 a3 a4 U=>?_;exact step i w (t::r) c m C _ _ u v T hl R hS N a8 K W (f6 ⟨_,a7⟩ a') A hx hy ru rv (λb o d e=>by
    simp only[fg,lh,or_false,not_or] at d;exact U b o d.1 d.2.2.1 d.2.2.2 e) (by obtain⟨o,e⟩:=a';exact⟨o,U TO o D.TOz D.TOi1 D.TOi2 e⟩) a4 a2 a3 ⟨t,r++[_],true,rfl,a1⟩
 .obtain⟨w,B,c,T,rfl,hl,R,hS,N,a8,K,W,a',A,P,O,b4⟩:=h;have Z:=b6 w N W;obtain⟨ia,na,ra,ea,_⟩:=T.lst (N _ _ ha);obtain⟨ib,nb,rb,eb,_⟩:=T.lst (N _ _ hb);have LA:m.heap.IsList l1 ia.toArray:=⟨_,ea,rfl,_,rfl⟩;have LB:m.heap.IsList l2 ib.toArray:=⟨_,eb,rfl,_,rfl⟩;have la:=ra.length;have lb:=rb.length;have d7:ia.toArray[min xs.length ys.length]?=none\/ib.toArray[min xs.length ys.length]?=none:=by
   by_cases h4:xs.length<=ys.length
   .left;simp;lia
   .right;simp;lia
  have fin:∀ C,(∀ b o,b∉[z,TO,i1,i2]->m.heap.get? b=some o->C.get? b=some o)->wants (λr e7=>r=.none/\EP X pins σ Q (.ref S) e7) E (.ok (.ret .none)) { m with heap:=C }:=λC U=>by
   have I4:Inv X pins σ w { m with heap:=C }:=T.moved (t':=m.toks) (d8 W) U;have g8:C.get? S=some (gR (B.map rd) c):=U S _ (λhm=>by
    simp only[fg,lh,or_false] at hm;rcases hm with e | e | e | e
    .exact G z (by simp) e.symm
    .exact G TO (by simp) e.symm
    .exact G i1 (by simp) e.symm
    .exact G i2 (by simp) e.symm) hS
   have I5:=I4.adopt (fS.heap R) g8 (Cc B) (by rw[lM0,hl];lia);have f7:aS H (upd w S (.lst (B.map V.ref))):=λb o e=>by rw[ar (aU (N b o e) R)];exact N b o e
   exact⟨rfl,.ref S,_,I5,rfl,q S B _ fS.1 f7 ax hl (λj t x y ht hx hy=>by
    have e:=a8 j t x y ht hx hy;rw[ar (aU e R)];exact e) λt ht=>(K t ht).2⟩
  rcases b4 with ⟨rfl,c4,a,b,Y⟩ | ⟨t,r,f,rfl,a7⟩
  .exact ZC (I.ok.hd hc) Z c4 A Y P O LA LB d7 λC U=>⟨rfl,fin C λb o d e=>by
    simp only[fg,lh,or_false,not_or] at d;exact U b o d.1 d.2.1 d.2.2.1 d.2.2.2 e⟩
  .obtain⟨ot,et⟩:=alive T (K t lU).1;exact IF (I.ok.hd hc) Z a7 A et P O LA LB d7 λC U=>⟨rfl,fin C λb o d e=>by
    simp only[fg,lh,or_false,not_or] at d;exact U b o d.1 d.2.2.1 d.2.2.2 e⟩
def Ec (t:TA):TE:=λσ H Q=>t σ H λvs H1=>∃ (p q:Addr) (xs ys:List V),vs=[.ref p,.ref q]/\H1 p=some (.lst xs)/\H1 q=some (.lst ys)/\min xs.length ys.length < sizeLine/\VM H1 xs ys Q
theorem Gd{a b:Expr}{ta:TA}{p c:Pos}(S:X.calm=true)(R:Gl X "list")(O:X.mg "list"=none)(v:Gl X "zip")(o:X.mg "zip"=none)(T:PA X [a,b] ta)(M:autoParam (ew [a,b] X.env=[(false,eval a X.env),(false,eval b X.env)]) wE)(k:autoParam (ew [b] X.env=[(false,eval b X.env)]) wE)(g:autoParam (ew [Expr.Call (.Name "zip" p2) [a,b] [] c] X.env=[(false,eval (.Call (.Name "zip" p2) [a,b] [] c) X.env)]) wE) :
  PE X (.Call (.Name "list" p) [.Call (.Name "zip" p2) [a,b] [] c] [] pos) (Ec ta):=by
 intro f s y H Q I h;refine yt (nQ I R O (by decide +kernel:zp "list"=some (.type "list")) ?_);refine ro ?_ (by rw[g];rfl) rfl;rw[g];show wpAny _ _ (spliced ((false,eval (.Call (.Name "zip" p2) [a,b] [] c) X.env)::backTo pos [])) _ _ s;refine Yx (Call_ (nQ I v o (by decide +kernel:zp "zip"=some (.type "zip")) (ro (thn (T c f s y H _ I h) λus d ⟨vs,Z,m,E,F⟩=>?_) (by rw[M,k]) (by rw[k];rfl))));obtain⟨l1,l2,xs,ys,e,B,A,N,q⟩:=F;subst e;obtain⟨u,w',rfl,C,n⟩:=vals2 E;cases C;cases n;obtain⟨J,na,ra,W,_⟩:=m.lst B;obtain⟨G,nb,rb,V,_⟩:=m.lst A;refine call_zip_2 (xs:=J.toArray) (ys:=G.toArray) ⟨_,W,rfl,_,rfl⟩ ⟨_,V,rfl,_,rfl⟩ λU K x w t r L P=>?_;have Y:Inv X f y Z { d with heap:=U }:=m.kept (t':=d.toks) P;have lt:∀ i j:Nat,i < j->d.heap.objs.size + i≠d.heap.objs.size + j:=λi j h e=>by lia
 have D:zE (d.heap.objs.size + 4) (d.heap.objs.size + 2) (d.heap.objs.size + 3) d.heap.objs.size (d.heap.objs.size + 1):=
  ⟨lt 2 4 (by decide),lt 3 4 (by decide),lt 0 4 (by decide),lt 1 4 (by decide),lt 2 3 (by decide),(lt 0 2 (by decide)).symm,(lt 1 2 (by decide)).symm,(lt 0 3 (by decide)).symm,(lt 1 3 (by decide)).symm,lt 0 1 (by decide)⟩
 refine YE ?_;refine E4 D Y S (λb z=>?_) ⟨K,x,⟨_,_,w⟩,t,r⟩ B A N q;have l:d.heap.objs.size<=b:=by
  simp only[fg,lh,or_false] at z;rcases z with rfl | rfl | rfl | rfl | rfl <;> lia
 exact m.za l (m.hok.fresh l)
end
section
variable {p:Pos}
structure Mk0 (K:Fg0) (C:Addr):Prop where
 makes:se K C=true
 init:ck K (.ref C) "__init__"=some (some (.builtin "object.__init__"))
 kp:mC K (.ref C)=true
def Ha (C:Addr):TE:=λ_ H Q=>∀ x dx,H x=none->H dx=none->dx≠x->Q (.ref x) (upd (upd H dx (.own x)) x (.ins C dx []))
theorem Ir(M:Mk0 X.K C)(k:Gl X x)(j:X.mg x=some (.ref C))(c:autoParam ((x == ("__debug__":Str))=false) wP):PE X (.Call (.Name x p) [] [] pos) (Ha C):=by
 intro d s n H Q I h;refine yt (sM I k j ?_ c);refine Yk I.kIn M.kp (ZV ?_);have i:=h (s.heap.objs.size + 1) s.heap.objs.size (I.hok.fresh (ac3 _)) (I.hok.fresh (ek _)) (oj (SE _));have m:=Inv.made (C:=C) I;have Y:=YN (M:=model X.prog X.w) I.kIn M.makes;refine IK I.kIn M.makes M.init (λa=>PySem.W.Looks.of_pure (PySem.W.oi_bind a)) ?_;have l:((s.heap.push ri).push (ry C s.heap.objs.size)).get? (s.heap.objs.size + 1)=some (ry C s.heap.objs.size):=by
  have:=ks (s.heap.push ri) (o:=ry C s.heap.objs.size) rfl
  rwa [SG] at this
 have g:ZM (model X.prog X.w) ((s.heap.push ri).push (ry C s.heap.objs.size)) (typeOf (.ref (s.heap.objs.size + 1))) (.ref C):=(PySem.W.Looks.ld l).andThen .now;have f:ZM (model X.prog X.w) ((s.heap.push ri).push (ry C s.heap.objs.size)) (isInstance (.ref (s.heap.objs.size + 1)) (.type "object")) true:=g.andThen (Y.top.keeps λb o e=>dV _ (dV _ e));refine codeAny_call_builtin PySem.W.oi_plain PySem.W.entry_oi (@PySem.W.check_slot (model X.prog X.w) _ _ _ "object.__init__" "object" "__init__" (.ref (s.heap.objs.size + 1)) [] [] _ PySem.W.oi_kind PySem.W.oi_split f (PySem.W.oi_args (.ref (s.heap.objs.size + 1))) ?_);rw[PySem.W.oi_run];exact hF (And.intro rfl ⟨V.ref (s.heap.objs.size + 1),_,m,rfl,i⟩)
end
theorem DH {a b:Type}{f:a->Option b}{g:a->b}:∀ {l:List a},(∀ k∈l,f k=some (g k))->l.filterMap f=l.map g
 | [],_=>rfl
 | k::l,h=>by
  rw[sX,h k lU,qq,DH λj c=>h j (hY _ c)]
theorem U4(a:Li0)(h:k < a.length):(a.map V.int)[k]?=some (V.int (a.getD k 0)):=by
 rw[cm,hP,gE0 h]
 rfl
theorem TJ(a:Li0):q_ (a.map V.int) (some 0) none (some 2)=(el ((a.length + 1) / 2)).map λk=>V.int (a.getD (2 * k) 0):=by
 have e:sN (some 0) none (some 2) (a.map V.int).length=(0,(a.length:Int),2):=by
  simp [sN];lia
 unfold q_;rw[e];have d:XT 0 (a.length:Int) 2=(el ((a.length + 1) / 2)).map λk=>2 * k:=by
  unfold XT;have c:(if (2:Int) > 0 then (if (0:Int) < (a.length:Int) then ((a.length:Int) - 0 + 2 - 1) / 2 else 0) else (if (0:Int) > (a.length:Int) then (0 - (a.length:Int) - 2 - 1) / (-2) else 0)).toNat=(a.length + 1) / 2:=by
   rw[if_pos (by decide)];split <;> lia
  simp only[c];refine VU λk _=>?_;lia
 simp only[d,Yz];refine DH λk b=>?_;have:=Os.mp b;exact U4 a (show 2 * k < a.length by lia)
theorem TH(a:Li0):q_ (a.map V.int) (some 1) none (some 2)=(el (a.length / 2)).map λk=>V.int (a.getD (2 * k + 1) 0):=by
 have e:sN (some 1) none (some 2) (a.map V.int).length=(min 1 (a.length:Int),(a.length:Int),2):=by
  simp [sN];lia
 unfold q_;rw[e];have d:XT (min 1 (a.length:Int)) (a.length:Int) 2=(el (a.length / 2)).map λk=>2 * k + 1:=by
  unfold XT;have c:(if (2:Int) > 0 then (if min 1 (a.length:Int) < (a.length:Int) then ((a.length:Int) - min 1 (a.length:Int) + 2 - 1) / 2 else 0) else (if min 1 (a.length:Int) > (a.length:Int) then (min 1 (a.length:Int) - (a.length:Int) - 2 - 1) / (-2) else 0)).toNat=a.length / 2:=by
   rw[if_pos (by decide)];split <;> lia
  simp only[c];refine VU λk b=>?_;have:=Os.mp b;lia
 simp only[d,Yz];refine DH λk b=>?_;have:=Os.mp b;exact U4 a (show 2 * k + 1 < a.length by lia)
noncomputable def SQ (lo c:Int)(n:Nat):It:=⟨λi _=>i < n,λi H x H'=>H'=H/\x=.int (lo + i * c),λi _=>n<=i⟩
theorem Ea(it:Addr)(lo c:Int)(n:Nat):Turn P w K tg (SQ lo c n) [it] it (λi h=>Zx h it (lo + (i:Nat) * c) ((n:Int) - (i:Nat)) c) where
 mem:=by simp
 obj:=λi h st b d=>by
  obtain rfl:b=it:=by simpa using d
  exact⟨_,st,λv z=>by cases (show Data.fields _=Data.cell v from z)⟩
 keep:=λi h j st k=>k it (by simp) _ st
 item:=by
  intro X q l r p i a s C H E I g st m;subst q l r;obtain⟨B,A,L,y,x,u⟩:=g it (by simp);refine(Walks.range (prog:=X.prog) (w:=X.w) (I.ok.hd p) it lo c n).item i s _ _ m st λv j D G f F=>?_;obtain⟨t,rfl⟩:=G;have N:Inv X a C H { s with heap:=j,toks:=D }:=I.turned (λb o d e=>F b o (by simpa using d) e) B A y x u;exact⟨_,rfl,E8 (s:={ s with heap:=j,toks:=D }) (n:="range_iterator") f rfl rfl (by decide) ⟨.int (lo + i * c),H,N,⟨t,rfl⟩,⟨rfl,rfl⟩,f,λb d=>(g b d).1⟩⟩
 done:=by
  intro X q l r p i a s C H E I g st m;subst q l r;obtain⟨B,A,L,y,x,u⟩:=g it (by simp);have J:n<=i:=m;exact Za (I.ok.hd p) st (by lia) λj M=>⟨rfl,I.turned (t':=s.toks) (λb o d e=>M b o d e) B A y x u⟩
 self:=λ_ _ _ _ _ st h=>Xt st h
theorem jG(a:Li0)(k:Nat)(h:k<=a.length):BW (a.map V.int) (some (k:Int)) none=(a.drop k).map V.int:=by
 have e:_h.sIx (a.map V.int).length 0 (some (k:Int))=k:=by
  simp only[_h.sIx,lM0];split <;> lia
 unfold BW;rw[e,show _h.sIx (a.map V.int).length (a.map V.int).length none=a.length by simp [_h.sIx]];rw[ng (by simp),YJ]
noncomputable def sgn (c:Nat):Str:=⟨#[c]⟩
noncomputable def Its (x:Str):It:=⟨λi _=>i < x.cps.size,λi H v H'=>H'=H/\∃ c,x.cps[i]?=some c/\v=.str (sgn c),λi _=>x.cps.size<=i⟩
theorem JG(it:Addr)(x:Str)(t:Tok):Turn P w K tg (Its x) [it] it (λi h=>h.IsStrIter it "str_ascii_iterator" x t i) where
 mem:=by simp
 obj:=λi h st b g=>by
  obtain rfl:b=it:=by simpa using g
  obtain⟨o,e,c,d⟩:=st;exact⟨o,e,λv z=>by rw[d] at z;cases z⟩
 keep:=λi h m st k=>let ⟨o,e,r⟩:=st;⟨o,k it (by simp) o e,r⟩
 item:=by
  intro X q n u G i f s F H E I l st p;subst q n u;obtain⟨D,C,L,B,A,y⟩:=l it (by simp);have a:i < x.cps.size:=p;refine wpAny_pyNext_ascii_item st (c:=x.cps[i]) (by simp [a]) λm j J=>?_;have N:Inv X f F H { s with heap:=m,toks:=s.toks + 1 }:=I.turned (λb o g e=>(J.2 b g).trans e) D C B A y;obtain⟨o,e,c,d⟩:=id j;exact⟨_,rfl,E8 (s:={ s with heap:=m,toks:=s.toks + 1 }) e c d (by decide) ⟨.str (sgn x.cps[i]),H,N,⟨_,rfl⟩,⟨rfl,_,by simp [a],rfl⟩,j,λb g=>(l b g).1⟩⟩
 done:=by
  intro X q n u G i f s F H E I l st p;subst q n u;obtain⟨D,C,L,B,A,y⟩:=l it (by simp);have a:x.cps.size<=i:=p;exact wpAny_pyNext_ascii_end (I.ok.hd G) st (by simpa using a) λm M=>⟨rfl,I.turned (t':=s.toks) (λb o g e=>M b o g e) D C B A y⟩
 self:=λ_ _ _ _ _ st h=>wpAny_pyIter_striter_ascii st h
def UK (tl:TE):TI:=λσ H R=>tl σ H λx H1=>∃ z,x=.str z/\z.cps.all (· < 128)=true/\R (Its z) H1
theorem QJ{l:Expr}{tl:TE}(j:PE X l tl):PI X tg l (UK tl):=by
 intro a s f H R I h;refine thn (j a s f H _ I h) λv c Z=>?_;obtain⟨x,n,d,g,i⟩:=Z;obtain⟨z,rfl,m,q⟩:=i;obtain⟨t,rfl⟩:=g;refine wpAny_pyIter_ascii m ?_;refine⟨c.heap.objs.size,[c.heap.objs.size],_,_,n,rfl,d.kept (t':=c.toks) λb o e=>dV _ e,JG _ z t,⟨_,ks _ rfl,rfl,rfl⟩,λb k=>?_,q⟩;obtain rfl:b=c.heap.objs.size:=by simpa using k
 exact d.za (ek _) (d.hok.fresh (ek _))
def Kg:R2:=λx y H Q=>∃ z n,x=.str z/\y=.int n/\(n=0\/n=1)/\z.length<=sizeLine/\Q (.str (if n=0 then sk else z)) H
theorem Nu:OpR X (WU .Mult) Kg:=by
 intro a s e H x y v u Q I c b h;obtain⟨z,n,rfl,rfl,d,g,q⟩:=h;obtain⟨t,rfl⟩:=c;obtain⟨f,rfl⟩:=b;rcases d with rfl | rfl
 .refine PySem.P.mul_str_none (by decide) (by decide) ⟨.str sk,H,I.tok _,⟨_,rfl⟩,by simpa using q⟩
 .refine PySem.P.mul_str (by decide) (λ_ h=>absurd h (by simp)) (λ_ h=>absurd h (by simp)) ?_;rw[if_neg (by decide),if_pos (by simp)];exact⟨.str z,H,I,⟨_,rfl⟩,by simpa using q⟩
structure TyS (K:Fg0):Prop where
 bs:bq K (.type "bool") (.type "str")=some false
 is:bq K (.type "int") (.type "str")=some false
 ns:bq K (.type "NoneType") (.type "str")=some false
 ss:bq K (.type "str") (.type "str")=some true
 ls:bq K (.type "list") (.type "str")=some false
 ts:bq K (.type "tuple") (.type "str")=some false
 ds:bq K (.type "dict") (.type "str")=some false
noncomputable def isS:V->Bool
 | .str _=>true
 | _=>false
theorem LN(F:TyS X.K):eO X (.builtin "isinstance") (λxs H Q=>∃ x,xs=[x,.ty "str"]/\Kn H x/\Q (.bl (isS x)) H):=by
 intro a s c H xs d Q I r h;obtain⟨x,rfl,k,q⟩:=h;cases k with
 | non=>exact aA I r .non F.ns rfl q
 | bl b=>exact aA I r (.bl b) F.bs rfl q
 | int i=>exact aA I r (.int i) F.is rfl q
 | str y=>exact aA I r (.str y) F.ss rfl q
 | lst e=>exact aA I r (.lst e) F.ls rfl q
 | tup e=>exact aA I r (.tup e) F.ts rfl q
 | dK e=>exact aA I r (.dK e) F.ds rfl q
section
variable {E:VS0}{s:Shared}
noncomputable abbrev Hd (n:Int):Obj:={ cls:=.type "range_iterator",data:=.fields #[rawInt (n - 1),rawInt n,rawInt (-1)] }
theorem Ti{n:Int}(h:0<=n):Xo 0 n 1=n:=by
 unfold Xo;rw[if_pos (by decide),Int.ediv_one];split <;> lia
theorem tI{r:Addr}{n:Int}{t u v:Tok}{Q:VS0}(b:IsRange s.heap r 0 n 1 t u v)(d:0<=n)(g:n < 2 ^ 62)(h:Q (.ref s.heap.objs.size) { s with heap:=s.heap.push (Hd n) }):wpAny (model prog w) A (call (.builtin "range.__reversed__") [.ref r]) Q E s:=by
 have c:s.TypeIs (.ref r) "range":=⟨_,b,rfl⟩;have f:(sT 0 && sT n && sT 1 && sT (-1) && sT (0 - 1) && sT n)=true:=by
  simp only[sT,sE,decide_eq_true_eq];lia
 refine XS XG c F.entry_range_reversed ?_ (F.args_range_reversed_1 _);unfold Builtin.«range.__reversed__»;refine bD (We (a:=rd r) rfl ?_);refine bD ?_;unfold Builtin.Range.rangeFields;refine bD (Ol b rfl (x:=.int 0 t) rfl ?_);refine bD (We (a:=some (0:Int)) rfl ?_);refine bD (Ol b rfl (x:=.int n u) rfl ?_);refine bD (We (a:=some n) rfl ?_);refine bD (Ol b rfl (x:=.int 1 v) rfl ?_);refine bD (We (a:=some (1:Int)) rfl ?_);refine hF ?_;dsimp only;rw[Ti d,f];simp only[Bool.not_true,SL,if_false,if_true];have e:(0:Int) + (n - 1) * 1=n - 1:=by lia
 rw[e]
 first
 | exact bD (Gc (hF ⟨_,rfl,h⟩))
 | exact bD (hF (bD (Gc (hF ⟨_,rfl,h⟩))))
theorem yO:isSubtype (.type "range_iterator") (.type "reversed")=pure false:=by rw[isSubtype_type];kernel_rfl
theorem tG{r:Addr}{n:Int}{t u v:Tok}{Q₁:VS0}(c:IsRange s.heap r 0 n 1 t u v)(f:0<=n)(e:n < 2 ^ 62)(h:Q₁ (.ref s.heap.objs.size) { s with heap:=s.heap.push (Hd n) }) :
  SB (model prog w) A (.call (.builtin "reversed.__new__") ⟨[.type "reversed",.ref r],[]⟩) (wants Q₁ E) s:=by
 have d:s.TypeIs (.ref r) "range":=⟨_,c,rfl⟩;refine codeAny_of_tree ?_;show wpAny _ A.in1 (checkBuiltinCall "reversed.__new__" ⟨[.type "reversed",.ref r],[]⟩ >>= λ_=>again (.builtin "reversed.__new__" ⟨[.type "reversed",.ref r],[]⟩)) _ _ s;refine bD (We (F.newCall_reversed_1 _) (hF ⟨ZP ZE _,Zm F.entry_reversed_new ?_⟩));rw[XZ ZE _];unfold Builtin.«reversed.__new__»;refine bD (We (newClass_reversed _) ?_)
 try dsimp only
 refine bD (We (a:=()) (by first | rfl | kernel_rfl) ?_);refine bD (We (a:=()) (by first | rfl | kernel_rfl) ?_)
 try dsimp only
 refine bD (Zn d XG.lookup ?_)
 try dsimp only
 refine bD (We (XG.bind _) ?_)
 try dsimp only
 have b:¬ ((ae0 "range.__reversed__" == WM)=true):=pF
 first
 | rw[if_neg b]
 | (show wpAny _ _ (if (ae0 "range.__reversed__" == WM)=true then _ else _) _ _ _;rw[if_neg b])
 refine bD (ZU ?_);refine bD (m:=runValue (.call (.builtin "range.__reversed__") ⟨[.ref r],[]⟩)) (show wpAny _ _ (call (.builtin "range.__reversed__") [.ref r]) _ _ _ from tI c f e ?_)
 first
 | exact hF h
 | exact bD (hF (hF h))
theorem tH{r:Addr}{n:Int}{t u v:Tok}{Q:VS0}(c:IsRange s.heap r 0 n 1 t u v)(e:0<=n)(d:n < 2 ^ 62)(h:Q (.ref s.heap.objs.size) { s with heap:=s.heap.push (Hd n) }):wpAny (model prog w) A (call (.type "reversed") [.ref r]) Q E s:=by
 refine callType_other (U:="range_iterator") (Q₁:=λb a=>b=.ref s.heap.objs.size/\a={ s with heap:=s.heap.push (Hd n) }) (by decide +kernel) F.create_reversed ⟨_,_,F.mro_reversed⟩ F.made_reversed yO (F.typeCall_reversed_1 _) (tG c e d ⟨rfl,rfl⟩) ?_;rintro b a ⟨rfl,rfl⟩;exact⟨⟨_,ks _ rfl,rfl⟩,h⟩
end
structure ExcAt (n:Nat) (H:Hp) (h:Heap) (e:Addr) (cls:Value) (dx:Option Addr):Prop where
 ge:n<=e
 free:H e=none
 rcd:∃ oe vs,h.get? e=some oe/\oe.cls=cls/\oe.dict=dx/\oe.data=.fields vs/\1 < vs.size/\
  (vs[1]?=some .none\/∃ T oT ts,vs[1]?=some (.ref T)/\n<=T/\T≠e/\H T=none/\h.get? T=some oT/\oT.data=.fields ts/\ts[3]?=some .none)
open PySem PySem.Spec PyProof.Rows PySem.W
open Builtin Builtin.ObjectAttr
noncomputable def XdO (d:Addr)(a:List (Str×V)):HO:=HO.ext λh=>∃ mA,h.Ns1 d mA/\(∀ f,Bq (a.lookup f) (mA f))/\YY mA (a.map (·.1))
open PySem PySem.Spec PyProof.Rows
structure XAt (X:Cx) (pins:Pn0) (n:Nat):Prop where
 s0:X.s₀.heap.objs.size<=n
 loc:X.env.locals < n
 cel:∀ x c,X.env.cells.lookup x=some c->c < n
 pin:∀ p∈X.pn++pins,p.1 < n
def XP (X:Cx)(W:St->XK)(b:Value)(a:Shared):Prop:=∃ e cls dx H' σ' n,b=.ref e/\Inv X [] σ' H' a/\XAt X [] n/\ExcAt n H' a.heap e cls dx/\W σ' cls dx H'
section
variable {pins:Pn0}{s:Shared}{cls:Value}
noncomputable def W3 (e:Addr)(cls:Value)(a:Option Addr):HO:=HO.ext λh=>∃ o vs,h.get? e=some o/\o.cls=cls/\o.dict=a/\o.data=.fields vs
end
noncomputable def XDk (H:Hp):Option Addr->List (Str×V)->Prop
 | some d,a=>H d=some (XdO d a)
 | none,a=>a=[]
theorem XDk.mono(e:∀ b o,H b=some o->H' b=some o):∀ {dx:Option Addr} {a:List (Str×V)},XDk H dx a->XDk H' dx a
 | some _,_,h=>e _ _ h
 | none,_,h=>h
noncomputable def vv:V->Value
 | .ref a=>.ref a
 | .ty n=>.type n
 | _=>.none
noncomputable def isC:V->Bool
 | .ref _=>true
 | .ty _=>true
 | _=>false
theorem S2{x:V}(h:isC x=true)(r:RelV x u):u=vv x:=by
 cases x with
 | ref a=>exact r
 | ty n=>exact r
 | _=>cases h
noncomputable abbrev cE (b:Bool)(elt:Expr)(a:List zk)(c:Scope)(pos:Pos):Expr:=match b with
 | false=>.ListComp elt a c pos
 | true=>.SetComp elt a c pos
theorem Ly{b:Bool}{a:List zk}{d:Nat}:(model prog w).den (.compLoop (cE b elt a sc pos) d it acc env)=(YR (cE b elt a sc pos) d it acc env).onRaise (λx=>do noteFrame x env;theTreesLotGoes x):=by cases b <;> rfl
theorem JE{b:Bool}{a:List zk}{d:Nat}:A.under (.compLoop (cE b elt a sc pos) d it acc env)=A:=by cases b <;> rfl
structure Acc {α:Type} (RO:List α->Obj->Prop) (Y:Cx) (D:Addr) (pl:Pn0) (ys:List α) (σ:St) (H:Hp) (s:Shared):Prop where
 us:∃ o,Inv Y ((D,o)::pl) σ H s/\RO ys o
 exD:D∈Y.ex
 nd:∀ p∈Y.pn++pl,p.1≠D
noncomputable abbrev TBg (a:Type):=List a->St->Hp->(List a->St->Hp->Prop)->Prop
abbrev TB:=TBg V
def RL (ys:List V)(o:Obj):Prop:=∃ us,o=gR us us.length/\Vals ys us
def PB {b:Type}(RO:List b->Obj->Prop)(Y:Cx)(D:Addr)(m:Sem Fin->Sem Fin)(t:TBg b):Prop:=
 ∀ (k:Sem Fin) (c:Pn0) (s:Shared) (ys:List b) (σ:St) (H:Hp) (Q:List b->St->Hp->Prop) (R:Fin->Shared->Prop),Acc RO Y D c ys σ H s->t ys σ H Q->
  (∀ a σ' H' s',Acc RO Y D c a σ' H' s'->Q a σ' H'->wpAny (model Y.prog Y.w) Y.A k R (λ_ _=>False) s')->wpAny (model Y.prog Y.w) Y.A (m k) R (λ_ _=>False) s
section
variable {D:Addr}{α:Type}{RO:List α->Obj->Prop}
def uw (te:TE):TB:=λys σ H Q=>ys.length < sizeLine/\te σ H λy H'=>Q (ys++[y]) σ H'
noncomputable abbrev Bb (elt:Expr)(D:Addr)(a:Env)(k:Sem Fin):Sem Fin:=(eval elt a >>= λx=>call (.builtin "list.append") [.ref D,x] >>= λ_=>pure ()) >>= λ_=>k
theorem Acc.pins{pl:Pn0}{ys:List α}{b:St}{s s':Shared}{o:Obj}(a:Acc RO Y D pl ys σ H s)(I:Inv Y ((D,o)::pl) b H' s')(r:RO ys o):Acc RO Y D pl ys b H' s':=⟨⟨o,I,r⟩,a.exD,a.nd⟩
theorem vA(L:Y.xe=λ_ _=>False)(N:PE Y elt te):PB RL Y D (Bb elt D Y.env) (uw te):=by
 intro k u s r h H Q R a ⟨K,q⟩ M;obtain⟨_,I,d,rfl,t⟩:=a.us;have g:=N _ s h H _ I q;rw[L] at g;refine bD (bD (thn g λy s7 ⟨E,n,i,F,G⟩=>bD ?_));obtain⟨pD,A,w,J,S⟩:=i.pin (D,gR d d.length) (lz _ lU);have f:d.length=r.length:=t.length.symm;refine append_at (hsz:=by rw[hL,f];exact Wn K) pD λB j l=>hF ?_;have m:Inv Y u h n s7:=i.vw λp z=>i.pin p (lz _ (hY _ z));have C:Inv Y u h n { s7 with heap:=B }:=m.turned (t':=s7.toks) (it:=D) (λb o O e=>(j.2 b O).trans e) A w (.inl a.exD) (λx c e=>(i.ok.exf D a.exD).2 x c e) a.nd;have P:B.get? D=some (gR (d++[y]) (d++[y]).length):=by
  rw[l];simp
 refine M (r++[E]) h n _ ⟨⟨_,C.vw λp z=>?_,d++[y],rfl,t.append (.cons F .nil)⟩,a.exD,a.nd⟩ G;rcases fg.mp z with e | z
 .subst e;exact⟨P,A,w,J,λv z=>by cases z⟩
 .exact C.pin p (lz _ z)
noncomputable def bIf (a:TT)(t:TBg α):TBg α:=λys σ H Q=>a σ H λb H'=>if b=true then t ys σ H' Q else Q ys σ H'
noncomputable abbrev ifK (c:Expr)(a:Env)(m:Sem Fin->Sem Fin)(k:Sem Fin):Sem Fin:=(forIn [c] true λc r=>if r=true then do let ok <- isTrue c a (eval c a);pure (Uz ok) else pure (Uz r)) >>= λok=>if ok=true then m k else k
theorem TR{c:Expr}{g:TT}{m:Sem Fin->Sem Fin}{t:TBg α}(r:Y.xe=λ_ _=>False)(v:PT Y c g)(u:PB RO Y D m t):PB RO Y D (ifK c Y.env m) (bIf g t):=by
 intro k p s f e H Q R a q l;obtain⟨w,I,i⟩:=a.us;have d:=v _ s e H _ I q;rw[r] at d;refine bD (wpAny_tests_one (thn d λb h Z=>?_));obtain⟨o,n,j⟩:=Z;cases b with
 | true=>exact u k p h f e o Q R (a.pins n i) (by simpa using j) l
 | false=>exact l f e o h (a.pins n i) (by simpa using j)
noncomputable def CP (J:It)(g:TG)(t:TBg α):TBg α:=λys σ H Q=>∃ W:Nat->Nat->List α->St->Hp->Prop,(∃ m,W 0 m ys σ H)/\∀ i m ys σ H,W i m ys σ H->
 (J.stop i H/\Q ys σ H)\/(J.go i H/\∀ x H',J.yld i H x H'->g x σ H' λa H2=>t ys a H2 λb σ' c=>∃ d,d < m/\W (i + 1) d b σ' c)
theorem O9{b:Bool}{w:List zk}{d:Nat}{it:Addr}{m:Sem Fin->Sem Fin}{t:TBg α}(hx:Y.xe=λ_ _=>False)(hc:Y.calm=true)(T:Turn Y.prog Y.w Y.K tg J fp it tn)(hg:PG Y tg g)(hm:PB RO Y D m t)(I:YR (cE b elt w sc pos) d (.ref it) (.ref D) Y.env=(VT p0 >>= λ_=>pyNext (.ref it) >>= λr=>match r with
   | none=>pure (.done .next)
   | some v=>KF tg (.ref it) v >>= λ_=>assign tg Y.env v >>= λ_=>m (again (.compLoop (cE b elt w sc pos) d (.ref it) (.ref D) Y.env)))){pl:Pn0}{ys:List α}{s:Shared}{Q:List α->St->Hp->Prop}(a:Acc RO Y D pl ys σ H s)(st:tn 0 s.heap)(f:∀ b∈fp,j7 Y pl H b/\D≠b)(q:CP J g t ys σ H Q)(hR:∀ j σ' H' s',Acc RO Y D pl j σ' H' s'->Q j σ' H'->R (.ok .next) s'):SB (model Y.prog Y.w) Y.A (.compLoop (cE b elt w sc pos) d (.ref it) (.ref D) Y.env) R s:=by
 obtain⟨W,⟨m0,w0⟩,N⟩:=q;have k:∀ {H':Hp} {o:Obj},(∀ b∈fp,H' b=none)->∀ b∈fp,j7 Y ((D,o)::pl) H' b:=λhn b B=>by
  obtain⟨⟨_,f1,f2,f3,f4,f5⟩,f6⟩:=f b B;refine⟨hn b B,f1,f2,f3,f4,λp hp=>?_⟩;rcases mm.mp hp with hp | hp
  .exact f5 p (NB _ hp)
  .rcases fg.mp hp with e | hp
   .subst e;exact f6
   .exact f5 p (lz _ hp)
 refine codeAny_loop rfl (λn s'=>∃ i j σ' H',Acc RO Y D pl j σ' H' s'/\tn i s'.heap/\(∀ b∈fp,H' b=none)/\W i n j σ' H') (λn s3 hI=>?_) m0 ⟨0,ys,σ,H,a,st,λb B=>(f b B).1.1,w0⟩;rw[Ly,JE];refine wpAny_noted ?_;rw[I];obtain⟨i,y,c,V,a3,O,U,w3⟩:=hI;obtain⟨a2,I3,P⟩:=a3.us;have l:∀ {M:Model} {A:Around} {α:Type} {t:Sem α} {Q:α->Shared->Prop} {E:VS0} {s:Shared},wpAny M A t Q (λ_ _=>False) s->wpAny M A t Q E s:=λh=>WT h (λ_ _ x=>x) λ_ _ x=>x.elim;refine bD (Xh (bD ?_));rcases N i n y c V w3 with ⟨stop,qn⟩ | ⟨go,step⟩
 .refine l (thn (T.done Y rfl rfl rfl hc i _ s3 c V _ I3 (k U) O stop) λr s4 Z=>?_);obtain⟨hr,I4⟩:=Z;subst hr;exact hF (hR y c V s4 (a3.pins I4 P) qn)
 .refine l (thn (T.item Y rfl rfl rfl hc i _ s3 c V _ I3 (k U) O go) λr s4 Z=>?_);obtain⟨u,hr,h4⟩:=Z;subst hr;refine bD (l (thn h4 λ_ s5 Z=>?_));obtain⟨x,H5,I5,r5,y5,F,a5⟩:=Z;have a8:=I5.pinned (k a5) (T.obj _ _ F);have S:=hg _ s5 c H5 x u _ a8 r5 (step x H5 y5);rw[hx] at S;refine bD (l (thn S λ_ s6 Z=>?_));obtain⟨L,H6,I6,q6⟩:=Z;have a6:Acc RO Y D (pl++Ac fp s5.heap) y L H6 s6:=⟨⟨a2,I6,P⟩,a.exD,λp hp=>by
   rcases mm.mp hp with hp | hp
   .exact a.nd p (NB _ hp)
   .rcases mm.mp hp with hp | hp
    .exact a.nd p (lz _ hp)
    .exact λz=>(f p.1 (Ck hp).1).2 z.symm⟩
  refine l (hm _ _ s6 y L H6 _ _ a6 q6 λa1 X H7 s7 a7 ⟨m',a4,w7⟩=>hF ⟨rfl,m',a4,i + 1,a1,X,H7,?_,?_,?_,w7⟩)
  .obtain⟨C,K,G⟩:=a7.us;exact⟨⟨C,K.vw λp hp=>K.pin p (lz _ (by
    rcases fg.mp hp with e | hp
    .subst e;exact lU
    .exact hY _ (NB _ hp))),G⟩,a.exD,a.nd⟩
  .obtain⟨C,K,G⟩:=a7.us;exact T.keep _ _ _ F λb B o e=>(K.pin (b,o) (lz _ (hY _ (lz _ (pG B e))))).1
  .intro b B;obtain⟨C,K,G⟩:=a7.us;obtain⟨o,e,d⟩:=T.obj _ _ F b B;exact(K.pin (b,o) (lz _ (hY _ (lz _ (pG B e))))).2.1
end
theorem Je{b:Bool}{a:List zk}{d:Nat}:(model prog w).den (.compStart (cE b elt a sc pos) d it acc env)=(compStart (cE b elt a sc pos) d it acc env).onRaise (λx=>do noteFrame x env;VT theWindowsPlace):=by cases b <;> rfl
theorem H_{b:Bool}{a:List zk}{d:Nat}:A.under (.compStart (cE b elt a sc pos) d it acc env)=A:=by cases b <;> rfl
theorem wR{s:Shared}{b:Bool}{a:List zk}{d:Nat}(f:a[d]?=some ⟨tg,iter,ifs,0⟩)(same:SB (model prog w) A (.compLoop (cE b elt a sc pos) d it acc env) R s)(c:wpAny (model prog w) A (pyIter it) (λe s2=>SB (model prog w) A (.compLoop (cE b elt a sc pos) d e acc env) R s2) (notedBy (model prog w) A env λx s2=>R (.error x) s2) s) :
  SB (model prog w) A (.compStart (cE b elt a sc pos) d it acc env) R s:=by
 have g:(clausesOf (cE b elt a sc pos))[d]?=some ⟨tg,iter,ifs,0⟩:=by cases b <;> exact f
 apply codeAny_of_tree;rw[Je,H_];apply wpAny_notedAt (pos:=theWindowsPlace) (m:=compStart (cE b elt a sc pos) d it acc env);simp only[compStart,g];apply bD;apply wpAny_askSetting;apply wpAny_ite;split
 .exact hF ⟨rfl,same⟩
 .apply bD;apply ZU;apply bD;apply Xh;exact bD (WT c (λ_ _ q=>hF ⟨rfl,q⟩) λ_ _ q=>q)
section
variable {D:Addr}{α:Type}{RO:List α->Obj->Prop}
noncomputable def L7 (a:TI)(g:TG)(t:TBg α):TBg α:=λys σ H Q=>a σ H λJ H1=>CP J g t ys σ H1 Q
noncomputable abbrev O1 (b:Bool)(elt:Expr)(c:List zk)(f:Scope)(pos:Pos)(d:Nat)(iter:Expr)(D:Addr)(a:Env)(k:Sem Fin):Sem Fin:=
 eval iter a >>= λx=>VT iter.pos >>= λ_=>sF iter a x >>= λx=>holding [x] (pyIter x) >>= λe=>runOwn (.compStart (cE b elt c f pos) d e (.ref D) a) a >>= λ_=>k
theorem Nk{b:Bool}{c:List zk}{d:Nat}{m:Sem Fin->Sem Fin}{t:TBg α}(A:Y.xe=λ_ _=>False)(U:Y.calm=true)(z:c[d]?=some ⟨tg,iter,ifs,0⟩)(P:PI Y tg iter wi)(S:PG Y tg g)(N:PB RO Y D m t)(o:∀ it,YR (cE b elt c sc pos) d (.ref it) (.ref D) Y.env=(VT p0 >>= λ_=>pyNext (.ref it) >>= λr=>match r with
   | none=>pure (.done .next)
   | some v=>KF tg (.ref it) v >>= λ_=>assign tg Y.env v >>= λ_=>m (again (.compLoop (cE b elt c sc pos) d (.ref it) (.ref D) Y.env))))(M:autoParam (∀ x,sF iter Y.env x=pure x) wT):PB RO Y D (O1 b elt c sc pos d iter D Y.env) (L7 wi g t):=by
 intro k G s ys C H Q R a q O;obtain⟨us,I,E⟩:=a.us;have w:=P _ s C H _ I q;rw[A] at w;refine bD (thn w λv s1 X=>bD (Xh (bD ?_)));rw[M];refine hF (bD (MX (thn X λL s2 W=>?_)));obtain⟨it,fp,tn,J,H2,e,I2,T,u,f2,cw⟩:=W;subst e;have a2:=a.pins I2 E;refine bD (wpAny_runOwn ?_);have K:∀ {R:Result->Shared->Prop},(∀ l j y i,Acc RO Y D G l j y i->Q l j y->R (.ok .next) i)->SB (model Y.prog Y.w) Y.A (.compLoop (cE b elt c sc pos) d (.ref it) (.ref D) Y.env) R s2:=λhR=>
  O9 A U T S N (o it) a2 u (λb V=>by
   obtain⟨f0,f1,f3,f4,Z,B⟩:=f2 b V;exact⟨⟨f0,f1,f3,f4,Z,λp hp=>B p (by
    rcases mm.mp hp with hp | hp
    .exact NB _ hp
    .exact lz _ (hY _ hp))⟩,B (D,_) (lz _ lU)⟩) cw hR
 have fin:=K (R:=λr i=>match r with | .ok f=>wpAny (model Y.prog Y.w) Y.A k R (λ_ _=>False) i | .error e=>False) λl j y i a' F=>O l j y i a' F;have n:SB (model Y.prog Y.w) Y.A (.compLoop (cE b elt c sc pos) d (.ref it) (.ref D) Y.env) (λr i=>match r with | .ok f=>wpAny (model Y.prog Y.w) Y.A k R (λ_ _=>False) i | .error e=>cameBackBy (model Y.prog Y.w) Y.A Y.env (λ_ _=>False) e i) s2:=
  Xv fin λr i h=>by cases r with | ok f=>exact h | error e=>exact h.elim
 exact wR z n (WT (T.self Y.A 0 _ _ (λ_ _=>False) u n) (λ_ _ h=>h) λ_ _ h=>h.elim)
end
theorem Fo{α:Type}{RO:List α->Obj->Prop}{b:Bool}{j:List zk}{m:Addr->Env->Sem Fin->Sem Fin}{t:TBg α}{a5:Sem Value}{o0:Obj}(b5:j[0]?=some ⟨tg,iter,ifs,0⟩)(mk:∀ {P:VS0} {E:VS0} {s:Shared},P (.ref s.heap.objs.size) { s with heap:=s.heap.push o0 }->wpAny (model X.prog X.w) X.A a5 P E s)(a':o0.isFreed=false)(a2:RO [] o0)(nc:∀ ys o,RO ys o->∀ v,o.data≠.cell v)(B:Blk X.N X.env.scope sc Nc fr)(hc:X.calm=true)(hg:∀ s₀ H₀ C ex pn,PG (cK X sc Nc s₀ H₀ C ex pn) tg g)(hm:∀ s₀ H₀ C ex pn D,PB RO (cK X sc Nc s₀ H₀ C ex pn) D (m D (cK X sc Nc s₀ H₀ C ex pn).env) t)(R:∀ (it D:Addr) (env:Env),YR (cE b elt j sc pos) 0 (.ref it) (.ref D) env=(VT p0 >>= λ_=>pyNext (.ref it) >>= λr=>match r with
   | none=>pure (.done .next)
   | some v=>KF tg (.ref it) v >>= λ_=>assign tg env v >>= λ_=>m D env (again (.compLoop (cE b elt j sc pos) 0 (.ref it) (.ref D) env)))){a:Pn0}{it:Addr}(K:Inv X a σ H2 s2)(T:Turn X.prog X.w X.K tg J fp it tn)(N:tn 0 s2.heap)(V:∀ b∈fp,j7 X a H2 b){QF:List α->St->Hp->Prop}(cw:CP J g t [] (w8 fr σ) H2 QF){E:VS0}(b6:∀ D C s' H' ys o σ',Inv X a σ H' s'->(∃ m,s'.heap.Ns C m)->C≠D->j7 X a H' C->j7 X a H' D->s'.heap.get? D=some o->RO ys o->QF ys σ' H'->RR (.ref D) C (.ok .next) s') :
  wpAny (model X.prog X.w) X.A a5 (λacc a1=>wpAny (model X.prog X.w) X.A (YA sc X.env.globals (takes X.env.cells sc.names []) [] X.env.qual none .none (some X.env)) (λI Z=>
   SB (model X.prog X.w) X.A (.compStart (cE b elt j sc pos) 0 (.ref it) acc { I with scope:=relabel sc X.env }) (RR acc I.locals) Z) E a1) E s2:=by
 refine mk (IE λl d f i=>?_);dsimp only at d f i ⊢;generalize U:s2.heap.push o0=q at d f i ⊢;have w:q.objs.size=s2.heap.objs.size + 1:=by rw[<- U,SG]
 generalize F:q.objs.size=C at d i ⊢;generalize k:s2.heap.objs.size=D at w ⊢;have b8:D≠C:=by rw[<- F,w];exact oj (SE _)
 have L:∀ b o,s2.heap.get? b=some o->q.get? b=some o:=λb o e=>by rw[<- U];exact dV _ e
 have b7:q.get? D=some o0:=by rw[<- U,<- k];exact ks _ a'
 have I3:Inv X a σ H2 { s2 with heap:=q }:=K.kept (t':=s2.toks) L;have a7:H2 D=none:=K.hok.fresh (by rw[k];exact ek _);have fD:j7 X a H2 D:=K.za (by rw[k];exact ek _) a7;have b9:∀ b∈fp,∃ o,s2.heap.get? b=some o/\∀ v,o.data≠.cell v:=T.obj 0 _ N;have y:∀ b∈fp,b < D:=λb hb=>by obtain⟨o,e,_⟩:=b9 b hb;rw[<- k];exact hH e
 have a6:D∉fp:=λhb=>vl _ (y D hb);have a8:C∉fp:=λhb=>by have:=y C hb;rw[<- F,w] at this;exact absurd (Nat.lt_of_succ_lt this) (vl _)
 have A:∀ b,(b∈X.ex\/X.s₀.heap.objs.size<=b)->∀ o,X.base.get? b≠some o:=λb h o e=>by
  rcases h with h | h
  .exact K.ok.noex b o e h
  .exact absurd (ih (hH e) (zq K.ok.bsz h)) (vl _)
 have hex:∀ b∈D::fp,b < q.objs.size/\b∉X.fs/\b≠X.env.locals/\(∀ x c,X.env.cells.lookup x=some c->c≠b)/\∀ o,X.base.get? b≠some o:=λb hb=>by
  have fb:j7 X a H2 b:=by
   rcases fg.mp hb with e | hb
   .rw[e];exact fD
   .exact V b hb
  refine⟨?_,fb.2.2.1,fb.2.1,fb.2.2.2.2.1,A b fb.2.2.2.1⟩;rcases fg.mp hb with e | hb
  .rw[e,w];exact SE _
  .rw[w];exact UF (y b hb)
 have H:q.objs.size<=C:=by rw[F];exact ek _
 have ok:(cK X sc Nc { s2 with heap:=q } H2 C (D::fp) (X.pn++a)).Ok:=Su B I3 H hex;have O:∀ b u,q.get? b=some u->l.get? b=some u:=f;have J0:Inv (cK X sc Nc { s2 with heap:=q } H2 C (D::fp) (X.pn++a)) [(D,o0)] (w8 fr σ) H2 { s2 with heap:=l }:=
  Oq B ok I3 H rfl rfl O d i b7 a7 fD.2.1 fD.2.2.1 (nc _ _ a2)
 have a0:Acc RO (cK X sc Nc { s2 with heap:=q } H2 C (D::fp) (X.pn++a)) D [] [] (w8 fr σ) H2 { s2 with heap:=l }:=
  ⟨⟨_,J0,a2⟩,lU,λp S=>fD.2.2.2.2.2 p (by simpa using S)⟩
 have b0:∀ b∈fp,j7 (cK X sc Nc { s2 with heap:=q } H2 C (D::fp) (X.pn++a)) [] H2 b/\D≠b:=λb hb=>
  ⟨⟨(V b hb).1,λe=>a8 (by have e':b=C:=e;rw[<- e'];exact hb),ok.exfs b (hY _ hb),.inl (hY _ hb),(ok.exf b (hY _ hb)).2,λp S=>(V b hb).2.2.2.2.2 p (by simpa using S)⟩,λz=>a6 (by rw[z];exact hb)⟩
 have G:SB (model X.prog X.w) X.A (.compLoop (cE b elt j sc pos) 0 (.ref it) (.ref D) (compEnvC sc (bcl X.env.cells sc C) C X.env)) (RR (.ref D) C) { s2 with heap:=l }:=by
  refine O9 (Y:=cK X sc Nc { s2 with heap:=q } H2 C (D::fp) (X.pn++a)) (D:=D) rfl hc T (hg _ _ _ _ _) (hm _ _ _ _ _ D) (R it D _) a0 (T.keep _ _ _ N (λb _ o e=>O b o (L b o e))) b0 cw λys b' H3 s4 a4 hq=>?_;obtain⟨o4,W,rv⟩:=a4.us;obtain⟨pD,pH,_,_,_⟩:=W.pin (D,o4) (lz _ lU);obtain⟨b1,b4,_⟩:=W.loc;have un:Un (frs X.stack) fp H2 H3 s2.heap s4.heap:=by
   have M:Un (frs X.stack) (D::fp) H2 H3 q s4.heap:=W.base;have nx:∀ {b:Addr} {o:Obj},s2.heap.get? b=some o->b∉fp->b∉D::fp:=λe h1 h2=>by
    rcases fg.mp h2 with z | z
    .exact oj (hH e) (by rw[k];exact z)
    .exact h1 z
   exact⟨λb o e n hb Q=>M.keep b o (L b o e) n hb (nx e Q),λb o e n hb Q=>M.slot b o (L b o e) n hb (nx e Q),λb o e n Q=>M.free b o (L b o e) n (nx e Q),
    λb o e Q=>M.there b o (L b o e) (nx e Q),M.tups,M.uY,M.tbls⟩
  have I5:Inv X a σ H3 s4:=K.Vu W.os un W.hok W.bare λb hb=>⟨(V b hb).2.2.2.1,(V b hb).2.1,(V b hb).2.2.2.2.1,(V b hb).2.2.2.2.2⟩;exact b6 D C s4 _ ys o4 _ I5 ⟨b1,b4⟩ (rl b8) (K.za (by rw[k,<- F,w];exact ac3 _) W.free) (K.za (by rw[k];exact ek _) pH) pD rv hq
 exact wR b5 G (WT (T.self X.A 0 _ _ (λ_ _=>False) (T.keep _ _ _ N (λb _ o e=>O b o (L b o e))) G) (λ_ _ h=>h) λ_ _ h=>h.elim)
theorem yF{c:List zk}{m:Addr->Env->Sem Fin->Sem Fin}{t:TB}(q:c[0]?=some ⟨tg,iter,ifs,0⟩)(B:Blk X.N X.env.scope sc Nc fr)(K:X.calm=true)(I:∀ s₀ H₀ C ex k,PG (cK X sc Nc s₀ H₀ C ex k) tg g)(H:∀ s₀ H₀ C ex k D,PB RL (cK X sc Nc s₀ H₀ C ex k) D (m D (cK X sc Nc s₀ H₀ C ex k).env) t)(f:∀ (it D:Addr) (env:Env),YR (.ListComp elt c sc pos) 0 (.ref it) (.ref D) env=(VT p0 >>= λ_=>pyNext (.ref it) >>= λr=>match r with
   | none=>pure (.done .next)
   | some v=>KF tg (.ref it) v >>= λ_=>assign tg env v >>= λ_=>m D env (again (.compLoop (.ListComp elt c sc pos) 0 (.ref it) (.ref D) env)))){a:Pn0}{it:Addr}(N:Inv X a σ H2 s2)(T:Turn X.prog X.w X.K tg J fp it tn)(n:tn 0 s2.heap)(L:∀ b∈fp,j7 X a H2 b){Q:VK}(M:CP J g t [] (w8 fr σ) H2 λys _ H'=>ys.length < sizeLine/\∀ l,H' l=none->Q (.ref l) (upd H' l (.lst ys))){E:VS0}(s:∀ D C s' H',Inv X a σ H' s'->(∃ m,s'.heap.Ns C m)->j7 X a H' C->Q (.ref D) H'->RR (.ref D) C (.ok .next) s') :
  wpAny (model X.prog X.w) X.A (newList []) (λacc j=>wpAny (model X.prog X.w) X.A (YA sc X.env.globals (takes X.env.cells sc.names []) [] X.env.qual none .none (some X.env)) (λd i=>
   SB (model X.prog X.w) X.A (.compStart (.ListComp elt c sc pos) 0 (.ref it) acc { d with scope:=relabel sc X.env }) (RR acc d.locals) i) E j) E s2:=by
 refine Fo (RO:=RL) (b:=false) (elt:=elt) (pos:=pos) (o0:=gR [] 0) q (λh=>Gc h) rfl ⟨[],rfl,.nil⟩ (λys o ⟨x,e,_⟩ v z=>by subst e;cases z) B K I H f N T n L M λD C s' H' ys o w O G F u fD pD ⟨x,e,y⟩ ⟨p,A⟩=>?_;subst e;exact s D C s' _ (O.adopt fD pD y (Wn p)) G ⟨by rw[ar F];exact u.1,u.2⟩ (A D fD.1)
def m6 (b:On)(a:TI)(g:TG)(t:TB):TE:=λσ H Q=>a σ H λJ H1=>CP J g t [] (w8 b σ) H1 λys _ H'=>ys.length < sizeLine/\∀ l,H' l=none->Q (.ref l) (upd H' l (.lst ys))
theorem vz{rest:List zk}{m:Addr->Env->Sem Fin->Sem Fin}{t:TB}(E:X.calm=true)(z:PI X tg iter wi)(B:Blk X.N X.env.scope sc Nc fr)(A:∀ s₀ H₀ C ex f,PG (cK X sc Nc s₀ H₀ C ex f) tg g)(y:∀ s₀ H₀ C ex f D,PB RL (cK X sc Nc s₀ H₀ C ex f) D (m D (cK X sc Nc s₀ H₀ C ex f).env) t)(c:∀ (it D:Addr) (env:Env),YR (.ListComp elt (⟨tg,iter,ifs,0⟩::rest) sc pos) 0 (.ref it) (.ref D) env=(VT p0 >>= λ_=>pyNext (.ref it) >>= λr=>match r with
   | none=>pure (.done .next)
   | some v=>KF tg (.ref it) v >>= λ_=>assign tg env v >>= λ_=>m D env (again (.compLoop (.ListComp elt (⟨tg,iter,ifs,0⟩::rest) sc pos) 0 (.ref it) (.ref D) env))))(w:autoParam (∀ x,sF iter X.env x=pure x) wT) :
  PE X (.ListComp elt (⟨tg,iter,ifs,0⟩::rest) sc pos) (m6 fr wi g t):=by
 intro a s l H Q I h;rw[eval_ListComp];refine YK (use:=none) rfl w (HM B I) B.kind B.locs (thn (z a s l H _ I h) λv U K=>thn K λu S G=>?_);obtain⟨it,W,R,J,Y,e,N,T,i,L,M⟩:=G;subst e;refine yF (RR:=λk C=>compPost (model X.prog X.w) X.A X.xe none (EP X a l Q) k C) rfl B E A y c N T i L M λD C p P O j d q=>?_;obtain⟨m,j⟩:=j;exact⟨m,j,λV n=>⟨.ref D,P,O.turned (t':=p.toks) (λb o F e=>(n.2 b F).trans e) d.1 d.2.1 d.2.2.2.1 d.2.2.2.2.1 d.2.2.2.2.2,rfl,q⟩⟩
theorem EH{k d:Pos}{rest:List zk}{m:Addr->Env->Sem Fin->Sem Fin}{t:TB}(hN:X.N.Nodup)(E:X.N[i]?=some x)(M:X.env.scope.names.lookup x=some .local)(Y:X.calm=true)(V:PI X tg iter wi)(B:Blk X.N X.env.scope sc Nc fr)(W:∀ s₀ H₀ C ex n,PG (cK X sc Nc s₀ H₀ C ex n) tg g)(U:∀ s₀ H₀ C ex n D,PB RL (cK X sc Nc s₀ H₀ C ex n) D (m D (cK X sc Nc s₀ H₀ C ex n).env) t)(f:∀ (it D:Addr) (env:Env),YR (.ListComp elt (⟨tg,iter,ifs,0⟩::rest) sc pos) 0 (.ref it) (.ref D) env=(VT p0 >>= λ_=>pyNext (.ref it) >>= λr=>match r with
   | none=>pure (.done .next)
   | some v=>KF tg (.ref it) v >>= λ_=>assign tg env v >>= λ_=>m D env (again (.compLoop (.ListComp elt (⟨tg,iter,ifs,0⟩::rest) sc pos) 0 (.ref it) (.ref D) env))))(w:autoParam (XQ (.ListComp elt (⟨tg,iter,ifs,0⟩::rest) sc pos) (some (.Name x k)) d.line X.env=pure true) wE)(R:autoParam (∀ x,sF iter X.env x=pure x) wT) :
  PS X (.Assign [.Name x k] (.ListComp elt (⟨tg,iter,ifs,0⟩::rest) sc pos) d) (xj (m6 fr wi g t) (rH i)):=by
 intro c s K H D I h;rw[exec_Assign_Name_used _ _ _ _ w];refine bD (Xh (bD ?_));show wpAny _ X.A (do let _ <- comprehension (.ListComp elt (⟨tg,iter,ifs,0⟩::rest) sc pos) sc X.env _ (newList []) false (eval iter X.env) (some (assign (.Name x k) X.env))) _ _ s;refine bD (WT (YK (use:=some (assign (.Name x k) X.env)) (Q:=λ_ l=>SP X c D .next l) rfl R (HM B I) B.kind B.locs
  (thn (V c s K H _ I h) λv s1 h1=>thn h1 λP s2 h2=>?_)) (λ_ l S=>hF (hF S)) λ_ _ e=>e)
 obtain⟨it,fp,tn,J,H2,e,I2,T,p,f2,cw⟩:=h2;subst e;refine yF (Q:=λx H1=>rH i x K H1 D.nx) (RR:=λG C=>compPost (model X.prog X.w) X.A X.xe (some (assign (.Name x k) X.env)) (λ_ l=>SP X c D .next l) G C) rfl B Y W U f I2 T p f2 cw λL C l H' I' A j q=>?_;obtain⟨m,A⟩:=A;show wpAny _ X.A (assign (.Name x k) X.env (.ref L)) _ _ _;refine wpAny_assign_Name (B6 I' hN E (.inl M) (v:=.ref L) rfl (λO I3 y=>?_) (.inr M));obtain⟨a,N,ha⟩:=y;have F:C≠a:=by
  rcases ha with e | e
  .rw[e];exact j.2.1
  .exact λz=>j.2.2.2.2.1 _ _ e (by rw[z])
 exact⟨m,A.sameBut N F,λh' u=>⟨_,H',I3.turned (t':=O.toks) (λb o Z e=>(u.2 b Z).trans e) j.1 j.2.1 j.2.2.2.1 j.2.2.2.2.1 j.2.2.2.2.2,q⟩⟩
end _2
namespace _3
open PySem _2
def VS (o:Obj)(c:Addr)(q:Str):Prop:=∃ fd,o.data=.func fd/\fd.code=.ref c/\fd.qualname=q
set_option genSizeOf true in
inductive D where
 | non | bl (b:Bool) | int (i:Int) | str (x:Str) | lst (xs:List D) | tup (xs:List D) | ktup (xs:List D) | ins (C:Addr) (ns:Ls0) (xs:List D) | scr (ns:Li0) | ty (n:String) | adr (a:Addr) | cel (p:Addr) (xs:List D) | dct | dcs (k:Str) (i:Int) | fn (o:Unit->Obj) (f:Addr) (v:V) (r:D)
noncomputable def mpT (a:List (Int×Int×Int)):List (List Key×V):=a.map λq=>([.inl q.1,.inl q.2.1],.int q.2.2)
noncomputable def ON (F:Hp)(p:Addr):Option Addr->Prop
 | some C=>∃ dx a,F p=some (.ins C dx a)
 | none=>F p=some (.dK [])
theorem ON.to{F a:Hp}(e:∀ o,F p=some o->(∀ vs,o≠.lst vs)->a p=some o):∀ {c:Option Addr},ON F p c->ON a p c
 | some _,⟨d,b,h⟩=>⟨d,b,e _ h λ_ z=>by cases z⟩
 | none,h=>e _ h λ_ z=>by cases z
mutual
noncomputable def Rep (K:Fg0)(F:Hp):D->V->Prop
 | .non,v=>v=.non
 | .bl b,v=>v=.bl b
 | .int i,v=>v=.int i
 | .str x,v=>v=.str x
 | .ty n,v=>v=.ty n
 | .adr a,v=>v=.ref a
 | .cel p xs,v=>v=.ref p/\∃ vs,F p=some (.lst vs)/\aI K F xs vs
 | .scr ns,v=>∃ p,v=.ref p/\SqL K F p (ns.map V.int)
 | .lst xs,v=>∃ p vs,v=.ref p/\F p=some (.lst vs)/\aI K F xs vs
 | .tup xs,v=>∃ p vs,v=.ref p/\F p=some (.tup vs)/\aI K F xs vs
 | .ktup xs,v=>∃ p vs,v=.ref p/\SqT K F p vs/\aI K F xs vs
 | .ins C ns xs,v=>∃ p dx d,v=.ref p/\F p=some (.ins C dx d)/\d.map (·.1)=ns/\aI K F xs (d.map (·.2))
 | .dct,v=>∃ p,v=.ref p/\F p=some (.dK [])
 | .dcs k i,v=>∃ p,v=.ref p/\F p=some (.dK [(.inr k,.int i)])
 | .fn o f v r,x=>x=.ref f/\(∃ c q,F f=some (.frz (o ()) (.cod c q))/\VS (o ()) c q)/\Rep K F r v
noncomputable def aI (K:Fg0)(F:Hp):List D->List V->Prop
 | [],vs=>vs=[]
 | x::xs,vs=>∃ v a,vs=v::a/\Rep K F x v/\aI K F xs a
end
theorem SqT.same{H b:Hp}{xs:List V}(e:aS H b)(h:SqT K H a xs):SqT K b a xs:=by
 rcases h with (h | ⟨o,h⟩) | h
 .exact .inl (.inl (e _ _ h))
 .exact .inl (.inr ⟨o,e _ _ h⟩)
 .exact .inr h
mutual
theorem Rep.mono {K:Fg0}{F k:Hp}(e:aS F k):∀ {d:D} {v:V},Rep K F d v->Rep K k d v
 | .non,_,h=>h
 | .bl _,_,h=>h
 | .int _,_,h=>h
 | .str _,_,h=>h
 | .ty _,_,h=>h
 | .adr _,_,h=>h
 | .cel _ _,_,⟨f,i,a,g⟩=>⟨f,i,e _ _ a,aI.mono e g⟩
 | .scr _,_,⟨p,f,a⟩=>⟨p,f,e.seq a⟩
 | .lst _,_,⟨p,i,f,a,g⟩=>⟨p,i,f,e _ _ a,aI.mono e g⟩
 | .tup _,_,⟨p,i,f,a,g⟩=>⟨p,i,f,e _ _ a,aI.mono e g⟩
 | .ktup _,_,⟨p,i,f,a,g⟩=>⟨p,i,f,SqT.same e a,aI.mono e g⟩
 | .ins _ _ _,_,⟨p,m,l,f,a,g,j⟩=>⟨p,m,l,f,e _ _ a,g,aI.mono e j⟩
 | .dct,_,⟨p,f,a⟩=>⟨p,f,e _ _ a⟩
 | .dcs _ _,_,⟨p,f,a⟩=>⟨p,f,e _ _ a⟩
 | .fn _ _ _ _,_,⟨f,⟨c,q,a,j⟩,g⟩=>⟨f,⟨c,q,e _ _ a,j⟩,Rep.mono e g⟩
theorem aI.mono {K:Fg0}{F a:Hp}(e:aS F a):∀ {xs:List D} {vs:List V},aI K F xs vs->aI K a xs vs
 | [],_,h=>h
 | _::_,_,⟨v,b,f,d,c⟩=>⟨v,b,f,Rep.mono e d,aI.mono e c⟩
end
inductive Sl where
 | fz (d:D) | ow (d:D) | ln (d:D)
abbrev G:=List (Option Sl)
inductive RV where
 | fz (d:D) | fr (d:D) | two (xs ys:List D) | rws (xss:List (List D))
noncomputable def RV.pl:RV->Bool
 | .fz _=>true
 | .fr _=>true
 | _=>false
noncomputable def RV.d:RV->D
 | .fz d=>d
 | .fr d=>d
 | .two xs ys=>.tup [.lst xs,.lst ys]
 | .rws xss=>.lst (xss.map .lst)
set_option backward.eqns.nonrecursive false in
noncomputable def RV.sl:RV->Sl
 | .fz d=>.fz d
 | .fr d=>.ow d
 | .two xs ys=>.fz (.tup [.lst xs,.lst ys])
 | .rws xss=>.ow (.lst (xss.map .lst))
set_option genInjectivity false in
structure Bs where
 F:Hp
 H:Hp
 own:List (Nat×Addr)
noncomputable def Own (K:Fg0)(F H:Hp)(p:Addr):D->Prop
 | .lst xs=>∃ vs,H p=some (.lst vs)/\aI K F xs vs
 | .cel q xs=>p=q/\∃ vs,H p=some (.lst vs)/\aI K F xs vs
 | .ins C ns xs=>∃ dx a,H p=some (.ins C dx a)/\a.map (·.1)=ns/\aI K F xs (a.map (·.2))
 | _=>False
theorem Own.mono{F i H g:Hp}(e:aS F i)(h:g p=H p):∀ {d:D},Own K F H p d->Own K i g p d
 | .lst _,⟨f,a,b⟩=>⟨f,h.trans a,b.mono e⟩
 | .cel _ _,⟨z,f,a,b⟩=>⟨z,f,h.trans a,b.mono e⟩
 | .ins _ _ _,⟨k,j,a,b,c⟩=>⟨k,j,h.trans a,b,c.mono e⟩
theorem Own.some {K:Fg0}{F H:Hp}{p:Addr}:∀ {d:D},Own K F H p d->∃ o,H p=some o
 | .lst _,⟨_,a,_⟩=>⟨_,a⟩
 | .cel _ _,⟨_,_,a,_⟩=>⟨_,a⟩
 | .ins _ _ _,⟨_,_,a,_⟩=>⟨_,a⟩
theorem Own.rep{F H:Hp}{o:HO}(h:F p=none)(g:H p=Option.some o):∀ {d:D},Own K F H p d->Rep K (upd F p o) d (.ref p)
 | .lst _,Z=>by
  obtain⟨f,a,b⟩:=Z;rw[g] at a;cases a;exact⟨p,f,rfl,ax,b.mono λx u e=>by rw[ar (aU e h)];exact e⟩
 | .cel _ _,Z=>by
  obtain⟨z,f,a,b⟩:=Z;rw[g] at a;cases a;subst z;exact⟨rfl,f,ax,b.mono λx u e=>by rw[ar (aU e h)];exact e⟩
 | .ins _ _ _,Z=>by
  obtain⟨j,i,a,b,c⟩:=Z;rw[g] at a;cases a;exact⟨p,j,i,rfl,ax,b,c.mono λx u e=>by rw[ar (aU e h)];exact e⟩
def Hld (Γ:G)(i:Nat)(d:D):Prop:=Γ[i]?=some (some (Sl.ow d))\/Γ[i]?=some (some (Sl.ln d))
structure En (K:Fg0) (B:Bs) (F:Hp) (σ:St) (H:Hp) (Γ:G):Prop where
 sub:aS F H
 len:σ.length=Γ.length
 fz:∀ (i:Nat) (d:D),Γ[i]?=some (some (Sl.fz d))->∃ v,σ[i]?=some (some v)/\Rep K F d v
 hl:∀ (i:Nat) (d:D),Hld Γ i d->∃ p,σ[i]?=some (some (V.ref p))/\F p=none/\Own K F H p d
 ow:∀ (i:Nat) (d:D) (p:Addr),Γ[i]?=some (some (Sl.ow d))->σ[i]?=some (some (V.ref p))->B.H p=none
 ln:∀ (i:Nat) (d:D) (p:Addr),Γ[i]?=some (some (Sl.ln d))->σ[i]?=some (some (V.ref p))->(i,p)∈B.own
 dis:∀ (i j:Nat) (d e:D) (p:Addr),Hld Γ i d->Hld Γ j e->σ[i]?=some (some (V.ref p))->σ[j]?=some (some (V.ref p))->i=j
 par:∀ (i:Nat) (p:Addr),(i,p)∈B.own->σ[i]?=some (some (V.ref p))/\∃ d,Γ[i]?=some (some (Sl.ln d))
 keep:aS B.F F
 new:∀ (b:Addr) (o:HO),F b=some o->B.F b=some o\/B.H b=none
 rest:∀ (b:Addr) (o:HO),B.H b=some o->(∀ i,(i,b)∉B.own)->H b=some o
 dom:∀ b,H b=none->B.H b=none
section
variable {B:Bs}{F:Hp}{σ:St}{H:Hp}{Γ:G}
theorem En.alloc(e:En K B F σ H Γ)(hl:H l=none)(o:HO):En K B F σ (upd H l o) Γ where
 sub:=λb u h=>by rw[ar (aU (e.sub b u h) hl)];exact e.sub b u h
 len:=e.len
 fz:=e.fz
 hl:=λi d h=>by
  obtain⟨p,g,f,a⟩:=e.hl i d h;obtain⟨u,c⟩:=a.some;exact⟨p,g,f,a.mono (aS.refl F) (ar (aU c hl))⟩
 ow:=e.ow
 ln:=e.ln
 dis:=e.dis
 par:=e.par
 keep:=e.keep
 new:=e.new
 rest:=λb u h n=>by rw[ar (aU (e.rest b u h n) hl)];exact e.rest b u h n
 dom:=λb h=>by
  by_cases q:b=l
  .subst q;exact e.dom _ hl
  .rw[ar q] at h;exact e.dom b h
theorem bu{F:Hp}{o:HO}(h:F l=none):aS F (upd F l o):=λb u e=>by rw[ar (aU e h)];exact e
theorem En.freeze(e:En K B F σ H Γ){o:HO}(c:F l=none)(j:H l=some o)(k:B.H l=none)(g:∀ (i:Nat) (d:D),Hld Γ i d->σ[i]?≠some (some (V.ref l))):En K B (upd F l o) σ H Γ where
 sub:=λb u h=>by
  by_cases q:b=l
  .subst q;rw[ax] at h;cases h;exact j
  .rw[ar q] at h;exact e.sub b u h
 len:=e.len
 fz:=λi d h=>by
  obtain⟨v,a,f⟩:=e.fz i d h;exact⟨v,a,f.mono (bu c)⟩
 hl:=λi d h=>by
  obtain⟨p,a,f,m⟩:=e.hl i d h;have q:p≠l:=λz=>g i d h (z ▸ a);exact⟨p,a,by rw[ar q];exact f,m.mono (bu c) rfl⟩
 ow:=e.ow
 ln:=e.ln
 dis:=e.dis
 par:=e.par
 keep:=e.keep.trans (bu c)
 new:=λb u h=>by
  by_cases q:b=l
  .subst q;exact .inr k
  .rw[ar q] at h;exact e.new b u h
 rest:=e.rest
 dom:=e.dom
noncomputable def gu (K:Fg0)(F H:Hp):La0->List (List D)->Prop
 | [],xss=>xss=[]
 | q::qs,xss=>∃ xs a vs,xss=xs::a/\H q=some (.lst vs)/\aI K F xs vs/\gu K F H qs a
theorem gu.mono{F b H a:Hp}(s:aS F b):∀ {qs:La0} {xss:List (List D)},(∀ q∈qs,a q=H q)->gu K F H qs xss->gu K b a qs xss
 | [],_,_,h=>h
 | q::qs,_,e,⟨d,c,f,l,k,j,i⟩=>⟨d,c,f,l,(e q (.head _)).trans k,j.mono s,gu.mono s (λz g=>e z (.tail _ g)) i⟩
noncomputable def qF (K:Fg0)(B:Bs)(F:Hp)(σ:St)(H:Hp)(Γ:G)(v:V):RV->Prop
 | .fz d=>Rep K F d v
 | .fr d=>∃ p,v=.ref p/\F p=none/\Own K F H p d/\B.H p=none/\∀ (i:Nat) (e:D),Hld Γ i e->σ[i]?≠some (some (V.ref p))
 | .rws xss=>∃ p qs,v=.ref p/\H p=some (.lst (qs.map V.ref))/\(p::qs).Nodup/\gu K F H qs xss/\∀ z,z∈p::qs->F z=none/\B.H z=none/\∀ (i:Nat) (e:D),Hld Γ i e->σ[i]?≠some (some (V.ref z))
 | .two xs ys=>∃ t p q vs a,v=.ref t/\H t=some (.tup [.ref p,.ref q])/\H p=some (.lst vs)/\H q=some (.lst a)/\aI K F xs vs/\aI K F ys a/\p≠q/\∀ z,z=t\/z=p\/z=q->F z=none/\B.H z=none/\∀ (i:Nat) (e:D),Hld Γ i e->σ[i]?≠some (some (V.ref z))
theorem OH{F b:Hp}{q:Addr}{vs:List V}{xs ys:List D}{w:V}(s:aS F b)(h:b q=some (.lst vs))(c:aI K b xs vs)(r:Rep K F (.lst (.adr q::ys)) w):Rep K b (.lst (.lst xs::ys)) w:=by
 obtain⟨a,g,rfl,e,v,f,rfl,rfl,d⟩:=r;exact⟨a,_,rfl,s _ _ e,_,_,rfl,⟨q,vs,rfl,h,c⟩,d.mono s⟩
theorem En.HF:∀ {qs:La0} {xss:List (List D)} {F:Hp},En K B F σ H Γ->gu K F H qs xss->qs.Nodup->(∀ z∈qs,F z=none/\B.H z=none/\∀ (i:Nat) (e:D),Hld Γ i e->σ[i]?≠some (some (V.ref z)))->
  ∃ F',aS F F'/\En K B F' σ H Γ/\aI K F' (xss.map .lst) (qs.map V.ref)/\∀ z,z∉qs->F' z=F z
 | [],_,F,e,h,_,_=>by cases h;exact⟨F,aS.refl F,e,rfl,λ_ _=>rfl⟩
 | q::qs,_,F,e,⟨J,I,g,v,u,t,s⟩,m,j=>by
  subst v;obtain⟨p,n⟩:=tq.mp m;obtain⟨k,G,E⟩:=j q (.head _);have x:=e.freeze k u G E;have d:=bu (o:=.lst g) k;obtain⟨F',f,y,l,r⟩:=En.HF (qs:=qs) x (s.mono d λ_ _=>rfl) n λz c=>by
   obtain⟨C,b2,A⟩:=j z (.tail _ c);exact⟨by rw[ar (a:=q) (b:=z) (λw=>p (by rw[<- w];exact c))];exact C,b2,A⟩
  refine⟨F',d.trans f,y,⟨_,_,rfl,⟨q,g,rfl,f _ _ ax,t.mono (d.trans f)⟩,l⟩,λz c=>?_⟩;rw[fg,not_or] at c;rw[r z c.2,ar c.1]
theorem En.He(e:En K B F σ H Γ){qs:La0}{xss:List (List D)}(k:H p=some (.lst (qs.map V.ref)))(d:(p::qs).Nodup)(r:gu K F H qs xss)(a:∀ z,z∈p::qs->F z=none/\B.H z=none/\∀ (i:Nat) (e:D),Hld Γ i e->σ[i]?≠some (some (V.ref z))) :
  ∃ F',aS F F'/\En K B F' σ H Γ/\F' p=none/\Own K F' H p (.lst (xss.map .lst)):=by
 obtain⟨g,f⟩:=tq.mp d;obtain⟨F',b,l,c,h⟩:=e.HF r f λz j=>a z (.tail _ j);exact⟨F',b,l,(h p g).trans (a p (.head _)).1,_,k,c⟩
theorem En.JJ(e:En K B F σ H Γ){xs ys:List D}{q:Addr}{w:V}{vs:List V}(j:H p=some (.lst [.str x,w]))(h:Rep K F (.lst (.adr q::ys)) w)(g:H q=some (.lst vs))(f:aI K F xs vs)(d:p≠q)(b:∀ z,z=p\/z=q->F z=none/\B.H z=none/\∀ (i:Nat) (e:D),Hld Γ i e->σ[i]?≠some (some (V.ref z))) :
  ∃ F',aS F F'/\En K B F' σ H Γ/\F' p=none/\Own K F' H p (.lst [.str x,.lst (.lst xs::ys)]):=by
 obtain⟨c,l,k⟩:=b q (.inr rfl);have a:=bu (o:=.lst vs) c;exact⟨upd F q (.lst vs),a,e.freeze c g l k,(ar d).trans (b p (.inl rfl)).1,_,j,_,_,rfl,rfl,_,_,rfl,OH a ax (f.mono a) h,rfl⟩
theorem En.frozen(e:En K B F σ H Γ){v:V}:∀ {r:RV},qF K B F σ H Γ v r->∃ F',aS F F'/\En K B F' σ H Γ/\Rep K F' r.d v
 | .fz d,h=>⟨F,aS.refl F,e,h⟩
 | .fr d,Z=>by
  obtain⟨p,g,a,b,f,c⟩:=Z;subst g;obtain⟨o,y⟩:=b.some;exact⟨upd F p o,bu a,e.freeze a y f c,b.rep a y⟩
 | .rws G,Z=>by
  obtain⟨p,W,g,a,b,f,c⟩:=Z;subst g;obtain⟨F',I,P,s,J⟩:=e.He a b f c;obtain⟨_,b2,u⟩:=c p (.head _);exact⟨_,I.trans (bu s),P.freeze s a b2 u,J.rep s a⟩
 | .two U T,Z=>by
  obtain⟨t,p,q,i,j,g,a,b,f,c,L,A,n⟩:=Z;subst g;obtain⟨S,R,Q⟩:=n t (.inl rfl);obtain⟨E,b2,u⟩:=n p (.inr (.inl rfl));obtain⟨c1,c2,c3⟩:=n q (.inr (.inr rfl));have x:t≠p:=λz=>by rw[z,b] at a;cases a
  have w:t≠q:=λz=>by rw[z,f] at a;cases a
  have O:=e.freeze E b b2 u;have D:upd F p (.lst i) q=none:=by rw[ar (rl A)];exact c1
  have N:=O.freeze D f c2 c3;have C:upd (upd F p (.lst i)) q (.lst j) t=none:=by rw[ar w,ar x];exact S
  have M:=N.freeze C a R Q;have m:=bu (o:=.lst i) E;have l:=bu (o:=.lst j) D;have k:=bu (o:=.tup [.ref p,.ref q]) C;exact⟨_,(m.trans l).trans k,M,t,_,rfl,ax,⟨_,_,rfl,⟨p,i,rfl,by rw[ar (rl x),ar A];exact ax,(c.mono ((m.trans l).trans k))⟩,_,_,rfl,⟨q,j,rfl,by rw[ar (rl w)];exact ax,L.mono ((m.trans l).trans k)⟩,rfl⟩⟩
theorem En.norm(e:En K B F σ H Γ){v:V}:∀ {r:RV},qF K B F σ H Γ v r->∃ F' b,aS F F'/\En K B F' σ H Γ/\qF K B F' σ H Γ v b/\b.sl=r.sl/\b.pl=true
 | .fz d,h=>⟨F,.fz d,aS.refl F,e,h,rfl,rfl⟩
 | .fr d,h=>⟨F,.fr d,aS.refl F,e,h,rfl,rfl⟩
 | .rws a,Z=>by
  obtain⟨p,u,l,o,n,m,f⟩:=Z;subst l;obtain⟨F',j,c,q,k⟩:=e.He o n m f;obtain⟨_,b2,t⟩:=f p (.head _);exact⟨F',.fr (.lst (a.map .lst)),j,c,⟨p,rfl,q,k,b2,t⟩,rfl,rfl⟩
 | .two i g,h=>by
  obtain⟨F',s,c,r⟩:=e.frozen h;exact⟨F',.fz (.tup [.lst i,.lst g]),s,c,r,rfl,rfl⟩
def Po (K:Fg0)(B:Bs)(F:Hp)(σ:St)(Q:RV->G->Prop):VK:=λv H'=>∃ F' Γ' r,aS F F'/\En K B F' σ H' Γ'/\qF K B F' σ H' Γ' v r/\Q r Γ'
abbrev TE3:=G->(RV->G->Prop)->Prop
def Ref (K:Fg0)(t:TE)(b:TE3):Prop:=∀ (B:Bs) (F:Hp) (σ:St) (H:Hp) (Γ:G) (Q:RV->G->Prop) (a:VK),En K B F σ H Γ->b Γ Q->(∀ v H',Po K B F σ Q v H'->a v H')->t σ H a
theorem Po.mono{F d:Hp}{Q:RV->G->Prop}{v:V}{H:Hp}(s:aS F d)(h:Po K B d σ Q v H):Po K B F σ Q v H:=by
 obtain⟨e,c,r,a,b⟩:=h;exact⟨e,c,r,s.trans a,b⟩
theorem oa(e:En K B F σ H Γ){Q:RV->G->Prop}{v:V}{d:D}(r:Rep K F d v)(q:Q (.fz d) Γ):Po K B F σ Q v H:=⟨F,Γ,.fz d,aS.refl F,e,r,q⟩
theorem En.Au(e:En K B F σ H Γ)(b:H l=none):∀ (i:Nat) (d:D),Hld Γ i d->σ[i]?≠some (some (V.ref l)):=λi d h z=>by
 obtain⟨p,f,g,c⟩:=e.hl i d h;rw[f] at z;cases z;obtain⟨o,a⟩:=c.some;rw[b] at a;cases a
theorem En.nof(e:En K B F σ H Γ)(a:H l=none):F l=none:=by
 cases q:F l with
 | none=>rfl
 | some o=>have:=e.sub _ _ q;rw[a] at this;cases this
theorem mz(e:En K B F σ H Γ){Q:RV->G->Prop}{vs:List V}{xs:List D}(a:H l=none)(r:aI K F xs vs)(q:Q (.fr (.lst xs)) Γ):Po K B F σ Q (.ref l) (upd H l (.lst vs)):=
 ⟨F,Γ,.fr (.lst xs),aS.refl F,e.alloc a _,⟨l,rfl,e.nof a,⟨vs,ax,r⟩,e.dom _ a,e.Au a⟩,q⟩
theorem Dg(e:En K B F σ H Γ){Q:RV->G->Prop}{vs:List V}{xs:List D}(a:H l=none)(r:aI K F xs vs)(q:Q (.fz (.tup xs)) Γ):Po K B F σ Q (.ref l) (upd H l (.tup vs)):=
 ⟨upd F l (.tup vs),Γ,.fz (.tup xs),bu (e.nof a),(e.alloc a _).freeze (e.nof a) ax (e.dom _ a) (e.Au a),⟨l,vs,rfl,ax,r.mono (bu (e.nof a))⟩,q⟩
set_option backward.eqns.nonrecursive false in
def Hb (i:Nat)(Γ:G)(Q:RV->G->Prop):Prop:=match Γ[i]? with
 | some (some (.fz d))=>Q (.fz d) Γ
 | some (some (.ow d))=>Q (.fz d) (Γ.set i (some (Sl.fz d)))
 | _=>False
theorem aR{b:Type}{l:List b}{a:b}(h:i≠j):(l.set i a)[j]?=l[j]?:=by rw[YG,if_neg h]
theorem AN{c:Type}{l:List c}{a b:c}(h:l[i]?=some b):(l.set i a)[i]?=some a:=by
 rw[YG,if_pos rfl,if_pos (gS0 h).1]
theorem En.give(e:En K B F σ H Γ){d:D}(h:Γ[i]?=some (some (Sl.ow d))):∃ F' p,aS F F'/\σ[i]?=some (some (V.ref p))/\Rep K F' d (.ref p)/\En K B F' σ H (Γ.set i (some (Sl.fz d))):=by
 obtain⟨p,m,l,s⟩:=e.hl i d (.inl h);obtain⟨o,r⟩:=s.some;have n:=s.rep l r;have back:∀ {j u},j≠i->(Γ.set i (some (Sl.fz d)))[j]?=u->Γ[j]?=u:=λC q=>by rw[aR (rl C)] at q;exact q
 have f:∀ {j x},Hld (Γ.set i (some (Sl.fz d))) j x->j≠i/\Hld Γ j x:=λ{j x} q=>by
  by_cases z:j=i
  .subst z;rcases q with q | q <;> rw[AN h] at q <;> cases q
  .exact⟨z,q.imp (back z) (back z)⟩
 refine⟨upd F p o,p,bu l,m,n,?_,?_,?_,?_,?_,?_,?_,?_,?_,?_,e.rest,e.dom⟩
 .intro b u q;by_cases z:b=p
  .subst z;rw[ax] at q;cases q;exact r
  .rw[ar z] at q;exact e.sub b u q
 .rw[tr];exact e.len
 .intro j x q;by_cases z:j=i
  .subst z;rw[AN h] at q;cases q;exact⟨_,m,n⟩
  .obtain⟨v,a,b⟩:=e.fz j x (back z q);exact⟨v,a,b.mono (bu l)⟩
 .intro j x q;obtain⟨z,q⟩:=f q;obtain⟨g,a,b,c⟩:=e.hl j x q;have A:g≠p:=λy=>z (e.dis j i x d p q (.inl h) (y ▸ a) m);exact⟨g,a,by rw[ar A];exact b,c.mono (bu l) rfl⟩
 .intro j x g q a;obtain⟨z,_⟩:=f (.inl q);exact e.ow j x g (back z q) a
 .intro j x g q a;obtain⟨z,_⟩:=f (.inr q);exact e.ln j x g (back z q) a
 .intro j k x y g w t;exact e.dis j k x y g (f w).2 (f t).2
 .intro j g q;obtain⟨a,y,b⟩:=e.par j g q;have z:j≠i:=λz=>by subst z;rw[h] at b;cases b
  exact⟨a,y,by rw[aR (rl z)];exact b⟩
 .exact e.keep.trans (bu l)
 .intro b u q;by_cases z:b=p
  .subst z;exact .inr (e.ow i d _ h m)
  .rw[ar z] at q;exact e.new b u q
theorem MR(i:Nat):Ref K (kS i) (Hb i):=by
 intro B F g H j Q l e h k;unfold Hb at h;split at h
 .rename_i d q;obtain⟨v,b,a⟩:=e.fz i d q;exact⟨v,b,k _ _ (oa e a h)⟩
 .rename_i d q;obtain⟨f,p,s,b,a,c⟩:=e.give q;exact⟨_,b,k _ _ ⟨f,_,.fz d,s,c,a,h⟩⟩
 .exact h.elim
def t3C (d:D)(Γ:G)(Q:RV->G->Prop):Prop:=Q (.fz d) Γ
theorem Cf{v:V}{d:D}(h:∀ F,Rep K F d v):Ref K (tC v) (t3C d):=λB F a H b Q c e q k=>k _ _ (oa e (h F) q)
inductive Bo where
 | d (x:D) | v (i:Nat)
noncomputable def bare:D->D
 | .cel _ xs=>.lst xs
 | .non=>.non
 | .bl b=>.bl b
 | .int i=>.int i
 | .str x=>.str x
 | .lst xs=>.lst xs
 | .tup xs=>.tup xs
 | .ktup xs=>.ktup xs
 | .ins C ns xs=>.ins C ns xs
 | .scr ns=>.scr ns
 | .ty n=>.ty n
 | .adr a=>.adr a
 | .dct=>.dct
 | .dcs k i=>.dcs k i
 | .fn o f v r=>.fn o f v r
set_option backward.eqns.nonrecursive false in
noncomputable def Gat (Γ:G)(i:Nat):Option D:=match Γ[i]? with
 | some (some (.fz d))=>some d
 | some (some (.ow d))=>some (bare d)
 | some (some (.ln d))=>some (bare d)
 | _=>none
set_option backward.eqns.nonrecursive false in
noncomputable def Bo.at (Γ:G):Bo->Option D
 | .d x=>some x
 | .v i=>Gat Γ i
noncomputable def yJ (K:Fg0)(F:Hp)(σ:St):Bo->V->Prop
 | .d x,v=>Rep K F x v
 | .v i,v=>σ[i]?=some (some v)
noncomputable def oQ (K:Fg0)(F H:Hp):D->V->Prop
 | .lst xs,v=>∃ p vs,v=.ref p/\H p=some (.lst vs)/\aI K F xs vs
 | .cel q xs,v=>v=.ref q/\∃ vs,H q=some (.lst vs)/\aI K F xs vs
 | .ins C ns xs,v=>∃ p dx a,v=.ref p/\H p=some (.ins C dx a)/\a.map (·.1)=ns/\aI K F xs (a.map (·.2))
 | d,v=>Rep K F d v
theorem Rep.b{F H:Hp}(s:aS F H):∀ {d:D} {v:V},Rep K F d v->oQ K F H d v
 | .non,_,h=>h
 | .bl _,_,h=>h
 | .int _,_,h=>h
 | .str _,_,h=>h
 | .ty _,_,h=>h
 | .adr _,_,h=>h
 | .dct,_,h=>h
 | .dcs _ _,_,h=>h
 | .fn _ _ _ _,_,h=>h
 | .cel _ _,_,⟨e,f,c,a⟩=>⟨e,f,s _ _ c,a⟩
 | .scr _,_,h=>h
 | .tup _,_,h=>h
 | .ktup _,_,h=>h
 | .lst _,_,⟨p,f,e,c,a⟩=>⟨p,f,e,s _ _ c,a⟩
 | .ins _ _ _,_,⟨p,j,i,e,c,a,g⟩=>⟨p,j,i,e,s _ _ c,a,g⟩
theorem Own.b{F H:Hp}:∀ {d:D},Own K F H p d->oQ K F H (bare d) (.ref p)
 | .lst _,⟨e,c,a⟩=>⟨p,e,rfl,c,a⟩
 | .cel _ _,Z=>by obtain⟨z,e,c,a⟩:=Z;subst z;exact⟨_,e,rfl,c,a⟩
 | .ins _ _ _,⟨h,g,c,a,f⟩=>⟨p,h,g,rfl,c,a,f⟩
theorem yJ.mono{F b:Hp}(s:aS F b):∀ {a:Bo} {v:V},yJ K F σ a v->yJ K b σ a v
 | .d _,_,h=>Rep.mono s h
 | .v _,_,h=>h
theorem En.get(e:En K B F σ H Γ){d:D}(h:Gat Γ i=some d):∃ v,σ[i]?=some (some v)/\oQ K F H d v:=by
 unfold Gat at h;split at h
 .cases h;rename_i q;obtain⟨v,a,c⟩:=e.fz i _ q;exact⟨v,a,c.b e.sub⟩
 .cases h;rename_i q;obtain⟨p,a,c,b⟩:=e.hl i _ (.inl q);exact⟨_,a,b.b⟩
 .cases h;rename_i q;obtain⟨p,a,c,b⟩:=e.hl i _ (.inr q);exact⟨_,a,b.b⟩
 .cases h
theorem En.bo (e:En K B F σ H Γ):∀ {bo:Bo} {v:V} {d:D},yJ K F σ bo v->bo.at Γ=some d->oQ K F H d v
 | .d x,v,d,h,q=>by cases q;exact Rep.b e.sub h
 | .v i,v,d,h,q=>by
  obtain⟨u,a,b⟩:=e.get q;rw[show σ[i]?=some (some v) from h] at a;cases a;exact b
abbrev Tag {a:Sort _}(_:a):Type:=Unit
def m1 (o:Option D)(k:D->Prop)(_:Tag k):Prop:=match o with
 | some d=>k d
 | none=>False
theorem NN{d:D}{k:D->Prop}{t:Tag k}:m1 (some d) k t=k d:=rfl
theorem de{o:Option D}{k:D->Prop}{t:Tag k}:m1 o k t↔∃ d,o=some d/\k d:=by
 cases o with
 | none=>exact⟨λh=>h.elim,λZ=>by obtain⟨_,h,_⟩:=Z;cases h⟩
 | some d=>exact⟨λh=>⟨d,rfl,h⟩,λZ=>by obtain⟨_,h,q⟩:=Z;cases h;exact q⟩
def mL (o:Option (List D))(k:List D->Prop)(_:Tag k):Prop:=match o with
 | some d=>k d
 | none=>False
theorem NJ{d:List D}{k:List D->Prop}{t:Tag k}:mL (some d) k t=k d:=rfl
theorem xE{o:Option (List D)}{k:List D->Prop}{t:Tag k}:mL o k t↔∃ d,o=some d/\k d:=by
 cases o with
 | none=>exact⟨λh=>h.elim,λZ=>by obtain⟨_,h,_⟩:=Z;cases h⟩
 | some d=>exact⟨λh=>⟨d,rfl,h⟩,λZ=>by obtain⟨_,h,q⟩:=Z;cases h;exact q⟩
def mI (o:Option D)(k:Int->Prop)(_:Tag k):Prop:=match o with
 | some (.int d)=>k d
 | _=>False
theorem NK{d:Int}{k:Int->Prop}{t:Tag k}:mI (some (.int d)) k t=k d:=rfl
theorem Ue{o:Option D}{k:Int->Prop}{t:Tag k}(h:mI o k t):∃ j,o=some (.int j)/\k j:=by
 rcases o with _ | d
 .exact h.elim
 cases d <;> first | exact h.elim | exact⟨_,rfl,h⟩
def bT (c:Bool)(p q:Prop)(_:Tag p)(_:Tag q):Prop:=match c with
 | true=>p
 | false=>q
theorem WI{p q:Prop}{s:Tag p}{t:Tag q}:bT true p q s t=p:=rfl
theorem WJ{p q:Prop}{s:Tag p}{t:Tag q}:bT false p q s t=q:=rfl
theorem xY{c:Bool}{p:Prop}{s:Tag p}{t:Tag False}(h:bT c p False s t):c=true/\p:=by cases c;exact h.elim;exact⟨rfl,h⟩
noncomputable def one?:List D->Option D
 | [d]=>some d
 | _=>none
theorem Q7{ds:List D}{d:D}(h:one? ds=some d):ds=[d]:=by
 rcases ds with _ | ⟨a,_ | ⟨b,c⟩⟩
 .cases h
 .cases h;rfl
 .cases h
theorem T9{d:D}:one? [d]=some d:=rfl
noncomputable def Rj:D->Option (List D)
 | .lst xs=>some xs
 | _=>none
theorem lst_is{d:D}{xs:List D}(h:Rj d=some xs):d=.lst xs:=by cases d <;> cases h;rfl
theorem Uq{xs:List D}:Rj (.lst xs)=some xs:=rfl
noncomputable def JH:D->Option (List D)
 | .tup xs=>some xs
 | _=>none
theorem tup_is{d:D}{xs:List D}(h:JH d=some xs):d=.tup xs:=by cases d <;> cases h;rfl
theorem S5{xs:List D}:JH (.tup xs)=some xs:=rfl
abbrev TB3:=G->(Bo->G->Prop)->Prop
def PoB (K:Fg0)(B:Bs)(F:Hp)(σ:St)(Q:Bo->G->Prop):VK:=λv H'=>∃ F' Γ' a,aS F F'/\En K B F' σ H' Γ'/\yJ K F' σ a v/\Q a Γ'
def Br (K:Fg0)(t:TE)(b:TB3):Prop:=∀ (B:Bs) (F:Hp) (σ:St) (H:Hp) (Γ:G) (Q:Bo->G->Prop) (a:VK),En K B F σ H Γ->b Γ Q->(∀ v H',PoB K B F σ Q v H'->a v H')->t σ H a
def bor (i:Nat)(Γ:G)(Q:Bo->G->Prop):Prop:=m1 (Gat Γ i) (λ_=>Q (.v i) Γ) ⟨⟩
def bof (b:TE3)(Γ:G)(Q:Bo->G->Prop):Prop:=b Γ λx a=>Q (.d x.d) a
theorem J9(i:Nat):Br K (kS i) (bor i):=by
 intro B F f H b Q g e q k;obtain⟨d,c,q⟩:=de.1 q;obtain⟨v,a,_⟩:=e.get c;exact⟨v,a,k _ _ ⟨F,b,.v i,aS.refl F,e,a,q⟩⟩
theorem MQ{t:TE}{g:TE3}(h:Ref K t g):Br K t (bof g):=by
 intro B F i H j Q p e q k;refine h B F i H j _ _ e q (λv r Z=>?_);obtain⟨s,a,x,l,o,m,n⟩:=Z;obtain⟨f,b,d,c⟩:=o.frozen m;exact k _ _ ⟨f,a,.d x.d,l.trans b,d,c,n⟩
def qm (K:Fg0)(r:R2)(c:D->D->TE3):Prop:=∀ (B:Bs) (F:Hp) (σ:St) (H:Hp) (Γ:G) (x y:V) (dx a:D) (Q:RV->G->Prop) (b:VK),En K B F σ H Γ->oQ K F H dx x->oQ K F H a y->c dx a Γ Q->(∀ v H',Po K B F σ Q v H'->b v H')->r x y H b
def xk (c:D->D->TE3)(f e:TB3)(Γ:G)(Q:RV->G->Prop):Prop:=f Γ λx b=>e b λy a=>m1 (x.at a) (λdx=>m1 (y.at a) (λd=>c dx d a Q) ⟨⟩) ⟨⟩
theorem lg{r:R2}{ta f:TE}{l j:TB3}{i:D->D->TE3}(h:qm K r i)(C:Br K ta l)(A:Br K f j):Ref K (tOp r ta f) (xk i l j):=by
 intro B F a H m Q M e q k;refine C B F a H m _ _ e q (λv P Z=>?_);obtain⟨S,c,x,n,I,s,w⟩:=Z;refine A B S a P c _ _ I w (λu O Z=>?_);obtain⟨R,b,y,g,d,o,Z⟩:=Z;obtain⟨L,G,Z⟩:=de.1 Z;obtain⟨J,E,t⟩:=de.1 Z;exact h B R a O b v u L J Q M d (d.bo (s.mono g) G) (d.bo o E) t λz N p=>k z N (p.mono (n.trans g))
def Mo (b:D->TE3)(c:TB3)(Γ:G)(Q:RV->G->Prop):Prop:=c Γ λx a=>m1 (x.at a) (λdx=>b dx a Q) ⟨⟩
def VN (K:Fg0)(r:V->Hp->VK->Prop)(b:D->TE3):Prop:=∀ (B:Bs) (F:Hp) (σ:St) (H:Hp) (Γ:G) (x:V) (dx:D) (Q:RV->G->Prop) (a:VK),En K B F σ H Γ->oQ K F H dx x->b dx Γ Q->(∀ v H',Po K B F σ Q v H'->a v H')->r x H a
theorem J_{r:V->Hp->VK->Prop}{ta:TE}{d:TB3}{b:D->TE3}(h:VN K r b)(l:Br K ta d):Ref K (λσ H Q=>ta σ H λx H1=>r x H1 Q) (Mo b d):=by
 intro B F σ H f Q o e q k;refine l B F σ H f _ _ e q (λv H1 Z=>?_);obtain⟨t,a,x,g,c,i,Z⟩:=Z;obtain⟨n,m,j⟩:=de.1 Z;exact h B t σ H1 a v n Q o c (c.bo i m) j λz s p=>k z s (p.mono g)
end
variable {a e:XO}{pos' px:ab3}{C:Int->Int->Prop}{op:PySem.CmpOp}{is:List Nat}{ls:On}{σc:_2.St}{ns:Li0}
open PySem _2 PySem.Spec PyProof.Rows
structure P3 (K:Fg0) (X:Cx) (e:Expr) (t:TE) (t3:TE3):Prop where
 pe:PE X e t
 rf:Ref K t t3
structure P3B (K:Fg0) (X:Cx) (e:Expr) (t:TE) (t3:TB3):Prop where
 pe:PE X e t
 rf:Br K t t3
section
variable {X:Cx}{b c:Expr}{ta tb tc:TE}{a3 b3 c3:TB3}
theorem P3.opd{b:TE3}(h:P3 K X a ta b):P3B K X a ta (bof b):=⟨h.pe,MQ h.rf⟩
theorem bv(i:Nat)(d:autoParam (X.N[i]?=some x) wE)(b:autoParam (Vis X.env.scope x) wq2)(c:autoParam ((x == ("__debug__":Str))=false) wP)(a:autoParam ((x == ("__classdict__":Str))=false) wP):P3B K X (.Name x pos) (kS i) (bor i):=⟨Di d b c a,J9 i⟩
theorem jQ{B:Bs}{F:Hp}{H:Hp}{Γ:G}{Q:RV->G->Prop}{i:Int}(e:En K B F σ H Γ)(q:Q (.fz (.int i)) Γ):Po K B F σ Q (.int i) H:=oa (d:=.int i) e rfl q
theorem F_{B:Bs}{F:Hp}{H:Hp}{Γ:G}{Q:RV->G->Prop}{i:Str}(e:En K B F σ H Γ)(q:Q (.fz (.str i)) Γ):Po K B F σ Q (.str i) H:=oa (d:=.str i) e rfl q
theorem x8{B:Bs}{F:Hp}{H:Hp}{Γ:G}{Q:RV->G->Prop}{i:Bool}(e:En K B F σ H Γ)(q:Q (.fz (.bl i)) Γ):Po K B F σ Q (.bl i) H:=oa (d:=.bl i) e rfl q
theorem p3v(i:Nat)(d:autoParam (X.N[i]?=some x) wE)(b:autoParam (Vis X.env.scope x) wq2)(c:autoParam ((x == ("__debug__":Str))=false) wP)(a:autoParam ((x == ("__classdict__":Str))=false) wP):P3 K X (.Name x pos) (kS i) (Hb i):=⟨Di d b c a,MR i⟩
theorem ag{i j pos}:P3 K X (.Constant (.int i) j pos) (tC (.int i)) (t3C (.int i)):=⟨Ge,Cf λ_=>rfl⟩
theorem og{i j pos}:P3 K X (.Constant (.bool i) j pos) (tC (.bl i)) (t3C (.bl i)):=⟨TQ,Cf λ_=>rfl⟩
theorem eA{x j pos}:P3 K X (.Constant (.str x) j pos) (tC (.str x)) (t3C (.str x)):=⟨QK,Cf λ_=>rfl⟩
theorem gG{i:Int}(b:Gl X x)(a:∃ t,X.mg x=some (.int i t))(c:autoParam ((x == ("__debug__":Str))=false) wP):P3 K X (.Name x pos) (tC (.int i)) (t3C (.int i)):=
 ⟨let ⟨t,a⟩:=a;Dj (v:=.int i) b a ⟨t,rfl⟩ c,Cf λ_=>rfl⟩
theorem jR{x y v:Int}{a:Pos}(h:x ^ y.toNat=v)(b:Mf x y):P3 K X (.BinOp (.Constant (.int x) j pos') .Pow (.Constant (.int y) k a) pos) (tOp (rI Mf λi j=>.int (i ^ j.toNat)) (tC (.int x)) (tC (.int y))) (t3C (.int v)):=
 ⟨vy KO Ge Ge,λB F d H f Q c e q k=>⟨x,y,rfl,rfl,b,by show c (.int (x ^ y.toNat)) H;rw[h];exact k _ _ (jQ e q)⟩⟩
set_option backward.eqns.nonrecursive false in
def i2 (C:Int->Int->Prop)(f:Int->Int->D)(x y:D)(Γ:G)(Q:RV->G->Prop):Prop:=match x,y with
 | .int i,.int j=>C i j/\Q (.fz (f i j)) Γ
 | _,_=>False
set_option backward.eqns.nonrecursive false in
def i2' (f:Int->Int->D)(x y:D)(Γ:G)(Q:RV->G->Prop):Prop:=match x,y with
 | .int i,.int j=>Q (.fz (f i j)) Γ
 | _,_=>False
theorem opI{f:Int->Int->D}{g:Int->Int->V}(h:∀ F i j,Rep K F (f i j) (g i j)):qm K (rI C g) (i2 C f):=by
 intro B F c H d x y m l Q n e b a q k;unfold i2 at q;split at q
 .cases b;cases a;exact⟨_,_,rfl,rfl,q.1,k _ _ (oa e (h F _ _) q.2)⟩
 .exact q.elim
theorem Gk{f:Int->Int->D}{g:Int->Int->V}(h:∀ F i j,Rep K F (f i j) (g i j)):qm K (rI0 g) (i2' f):=by
 intro B F c H d x y m l Q n e b a q k;unfold i2' at q;split at q
 .cases b;cases a;exact⟨_,_,rfl,rfl,k _ _ (oa e (h F _ _) q)⟩
 .exact q.elim
set_option backward.eqns.nonrecursive false in
def OK (x y:D)(Γ:G)(Q:RV->G->Prop):Prop:=match x,y with
 | .int i,.int j=>Q (.fz (.int (i + j))) Γ
 | .lst xs,.lst ys=>xs.length + ys.length<=sizeLine/\Q (.fr (.lst (xs++ys))) Γ
 | .str i,.str j=>i.length + j.length<=sizeLine/\Q (.fz (.str (i++j))) Γ
 | _,_=>False
theorem aI.length{F:Hp}:∀ {xs:List D} {vs:List V},aI K F xs vs->vs.length=xs.length
 | [],_,h=>by cases h;rfl
 | _::_,_,Z=>by obtain⟨v,c,b,d,a⟩:=Z;subst b;simp [a.length]
theorem aI.append{F:Hp}:∀ {xs ys:List D} {vs a:List V},aI K F xs vs->aI K F ys a->aI K F (xs++ys) (vs++a)
 | [],_,_,_,h,b=>by cases h;exact b
 | _::_,_,_,_,⟨v,a,e,d,c⟩,b=>by subst e;exact⟨v,_,rfl,d,c.append b⟩
theorem aI.get{F:Hp}:∀ {xs:List D} {vs:List V},aI K F xs vs->∀ {i:Nat} {d:D},xs[i]?=some d->∃ v,vs[i]?=some v/\Rep K F d v
 | [],_,_,i,d,e=>by simp at e
 | x::xs,_,⟨v,h,c,g,f⟩,0,d,e=>by subst c;simp at e;subst e;exact⟨v,rfl,g⟩
 | x::xs,_,⟨v,h,c,g,f⟩,i + 1,d,e=>by
  subst c;obtain⟨u,a,b⟩:=f.get (i:=i) (d:=d) (by simpa using e);exact⟨u,by simpa using a,b⟩
theorem aI.N8{F:Hp}:∀ {xs:List D} {vs:List V},aI K F xs vs->∀ {i:Nat} {v:V},vs[i]?=some v->∃ d,xs[i]?=some d/\Rep K F d v:=λ{xs vs} h {i v} e=>by
 have c:i < vs.length:=(gS0 e).1;rw[h.length] at c;obtain⟨u,a,b⟩:=h.get (gE0 c);rw[e] at a;cases a;exact⟨_,gE0 c,b⟩
theorem aI.take{F:Hp}:∀ {xs:List D} {vs:List V} (n:Nat),aI K F xs vs->aI K F (xs.take n) (vs.take n)
 | _,_,0,_=>by simp [aI]
 | [],_,n + 1,h=>by cases h;simp [aI]
 | x::xs,_,n + 1,Z=>by obtain⟨v,d,c,b,a⟩:=Z;subst c;exact⟨v,_,rfl,b,aI.take n a⟩
theorem aI.drop{F:Hp}:∀ {xs:List D} {vs:List V} (n:Nat),aI K F xs vs->aI K F (xs.drop n) (vs.drop n)
 | _,_,0,h=>h
 | [],_,n + 1,h=>by cases h;simp [aI]
 | x::xs,_,n + 1,Z=>by obtain⟨v,c,b,d,a⟩:=Z;subst b;exact aI.drop n a
theorem aI.set{F:Hp}{d:D}{v:V}(r:Rep K F d v):∀ {xs:List D} {vs:List V} (n:Nat),aI K F xs vs->aI K F (xs.set n d) (vs.set n v)
 | [],_,_,h=>by cases h;simp [aI]
 | x::xs,_,0,Z=>by obtain⟨u,c,b,e,a⟩:=Z;subst b;exact⟨v,c,rfl,r,a⟩
 | x::xs,_,n + 1,Z=>by obtain⟨u,c,b,e,a⟩:=Z;subst b;exact⟨u,_,rfl,e,aI.set r n a⟩
theorem aI.ints{F:Hp}:∀ (ns:Li0),aI K F (ns.map D.int) (ns.map V.int)
 | []=>rfl
 | n::ns=>⟨_,_,rfl,rfl,aI.ints ns⟩
theorem aI.wa{F:Hp}:∀ {ns:Li0} {vs:List V},aI K F (ns.map D.int) vs->vs=ns.map V.int
 | [],_,h=>h
 | n::ns,_,Z=>by
  obtain⟨v,d,c,b,a⟩:=Z;rw[c,aI.wa a];have:v=.int n:=b;rw[this];rfl
abbrev Qp:R2:=λx y H Q=>rI0 (λi j=>.int (i + j)) x y H Q\/Tw x y H Q\/(∃ i j,x=.str i/\y=.str j/\i.length + j.length<=sizeLine/\Q (.str (i++j)) H)
theorem Nw:OpR X (WU .Add) Qp:=Q5.or (Q4.or Gj)
theorem addRef:qm K Qp OK:=by
 intro B F n H o x y s r Q t e b a q k;unfold OK at q;split at q
 .cases b;cases a;exact .inl ⟨_,_,rfl,rfl,k _ _ (jQ e q)⟩
 .obtain⟨p,g,rfl,m,d⟩:=b;obtain⟨h,f,rfl,j,c⟩:=a;refine .inr (.inl ⟨p,h,g,f,rfl,rfl,m,j,by rw[d.length,c.length];exact q.1,λl i=>k _ _ (mz e i (d.append c) q.2)⟩)
 .cases b;cases a;exact .inr (.inr ⟨_,_,rfl,rfl,q.1,k _ _ (F_ e q.2)⟩)
 .exact q.elim
theorem aJ(d:P3B K X a ta a3)(c:P3B K X b tb b3):P3 K X (.BinOp a .Add b pos) (tOp Qp ta tb) (xk OK a3 b3):=⟨vy Nw d.pe c.pe,lg addRef d.rf c.rf⟩
theorem dk(d:P3B K X a ta a3)(c:P3B K X b tb b3):P3 K X (.BinOp a .Sub b pos) (tOp (rI0 λi j=>.int (i - j)) ta tb) (xk (i2' λi j=>.int (i - j)) a3 b3):=⟨vy QX d.pe c.pe,lg (Gk λ_ _ _=>rfl) d.rf c.rf⟩
theorem ir(d:P3B K X a ta a3)(c:P3B K X b tb b3):P3 K X (.BinOp a .Mult b pos) (tOp (rI Mg λi j=>.int (i * j)) ta tb) (xk (i2 Mg λi j=>.int (i * j)) a3 b3):=⟨vy Q0 d.pe c.pe,lg (opI λ_ _ _=>rfl) d.rf c.rf⟩
theorem cJ(d:P3B K X a ta a3)(c:P3B K X b tb b3):P3 K X (.BinOp a .FloorDiv b pos) (tOp (rI SS λi j=>.int (i / j)) ta tb) (xk (i2 SS λi j=>.int (i / j)) a3 b3):=⟨vy Nv d.pe c.pe,lg (opI λ_ _ _=>rfl) d.rf c.rf⟩
theorem pE(d:P3B K X a ta a3)(c:P3B K X b tb b3):P3 K X (.BinOp a .Mod b pos) (tOp (rI (λ_ j=>0 < j) λi j=>.int (i % j)) ta tb) (xk (i2 (λ_ j=>0 < j) λi j=>.int (i % j)) a3 b3):=⟨vy Q1 d.pe c.pe,lg (opI λ_ _ _=>rfl) d.rf c.rf⟩
theorem Np(d:P3B K X a ta a3)(c:P3B K X b tb b3):P3 K X (.BinOp a .Pow b pos) (tOp (rI Mf λi j=>.int (i ^ j.toNat)) ta tb) (xk (i2 Mf λi j=>.int (i ^ j.toNat)) a3 b3):=⟨vy KO d.pe c.pe,lg (opI λ_ _ _=>rfl) d.rf c.rf⟩
def Oi (f:Int->Int->Bool)(x y:D)(Γ:G)(Q:RV->G->Prop):Prop:=i2' (λi j=>.bl (f i j)) x y Γ Q
noncomputable abbrev GS (i j:Int):Bool:=decide (i < j)
noncomputable abbrev xQ (i j:Int):Bool:=decide (i<=j)
noncomputable abbrev zb (i j:Int):Bool:=decide (j < i)
structure C3 (K:Fg0) (X:Cx) (op:CmpOp) (r:R2) (o3:D->D->TE3):Prop where
 op:OpR X (Ub op) r
 rf:qm K r o3
theorem Fv:C3 K X .Lt (rI0 λi j=>.bl (decide (i < j))) (Oi GS):=⟨T6,Gk λ_ _ _=>rfl⟩
theorem Bj:C3 K X .LtE (rI0 λi j=>.bl (decide (i<=j))) (Oi xQ):=⟨T7,Gk λ_ _ _=>rfl⟩
theorem wV:C3 K X .Gt (rI0 λi j=>.bl (decide (j < i))) (Oi zb):=⟨T8,Gk λ_ _ _=>rfl⟩
noncomputable def eqS:D->D->Option Bool
 | .int i,.int j=>some (decide (i=j))
 | .str i,.str j=>some (decide (i=j))
 | .bl i,.bl j=>some (decide (i=j))
 | .non,.non=>some true
 | .int _,.str _=>some false
 | .str _,.int _=>some false
 | .bl _,.str _=>some false
 | .str _,.bl _=>some false
 | .non,.int _=>some false
 | .int _,.non=>some false
 | .non,.str _=>some false
 | .str _,.non=>some false
 | .non,.bl _=>some false
 | .bl _,.non=>some false
 | _,_=>none
theorem i9{r:R2}{c:D->D->TE3}(h:C3 K X op r c)(e:P3B K X a ta a3)(d:P3B K X b tb b3)(f:Xi op b=false):P3 K X (.Compare a [op] [b] pos) (tOp r ta tb) (xk c a3 b3):=⟨Ni h.op e.pe d.pe f,lg h.rf e.rf d.rf⟩
set_option backward.eqns.nonrecursive false in
def zm (h f:D->D->TE3)(j i c3:TB3)(Γ:G)(Q:RV->G->Prop):Prop:=j Γ λx e=>i e λy b=>∃ dx d,x.at b=some dx/\y.at b=some d/\h dx d b λz c=>match z with
 | .fz (.bl true)=>c3 c λw a=>∃ d g,y.at a=some d/\w.at a=some g/\f d g a Q
 | .fz (.bl false)=>Q (.fz (.bl false)) c
 | _=>False
theorem Ce{r E:R2}{G f:D->D->TE3}(h:qm K r G)(h':qm K E f)(U:Br K ta a3)(T:Br K tb b3)(S:Br K tc c3):Ref K (zI r E ta tb tc) (zm G f a3 b3 c3):=by
 intro B F c H J Q QQ e q k;refine U B F c H J _ _ e q (λv H1 Z=>?_);obtain⟨F1,l,x,L,e1,N,R⟩:=Z;refine T B F1 c H1 l _ _ e1 R (λu H2 Z=>?_);obtain⟨F2,j,y,A,n,C,dx,o,Y,X,P⟩:=Z;refine h B F2 c H2 j v u dx o _ _ n (n.bo (N.mono A) Y) (n.bo C X) P λz H3 Z=>?_;obtain⟨F3,i,z3,t,I,d,b⟩:=Z;have a:=(L.trans A).trans t
 revert d b
 split
 .intro d b;refine⟨true,d,?_⟩;rw[if_pos rfl];refine S B F3 c H3 i _ _ I b (λw H4 Z=>?_);obtain⟨F4,g,w3,s,m,M,o,dw,W,V,O⟩:=Z;exact h' B F4 c H4 g u w o dw Q QQ m (m.bo (C.mono (t.trans s)) W) (m.bo M V) O λz H5 p=>k z H5 (p.mono (a.trans s))
 .intro d b;refine⟨false,d,?_⟩;rw[if_neg (by simp)];exact k _ _ (Po.mono a (x8 I b))
 .intro _ b;exact b.elim
theorem KI{d:CmpOp}{r f:R2}{g e:D->D->TE3}(h:C3 K X op r g)(h':C3 K X d f e)(k:P3B K X a ta a3)(j:P3B K X b tb b3)(i:P3B K X c tc c3)(l:autoParam (ab5 [op,d] [b,c]=false) wq1) :
  P3 K X (.Compare a [op,d] [b,c] pos) (zI r f ta tb tc) (zm g e a3 b3 c3):=⟨Kx h.op h'.op k.pe j.pe i.pe l,Ce h.rf h'.rf k.rf j.rf i.rf⟩
set_option backward.eqns.nonrecursive false in
def Rb (x:D)(Γ:G)(Q:RV->G->Prop):Prop:=match x with
 | .int i=>Q (.fz (.int (-i))) Γ
 | _=>False
theorem gQ(b:P3B K X a ta a3):P3 K X (.UnaryOp .USub a pos) (tUn (rU λi=>.int (-i)) ta) (Mo Rb a3):=⟨TK PU b.pe,J_ (r:=rU λi=>.int (-i)) (ta:=ta) (by
 intro B F d H f x g Q h e c q k;unfold Rb at q;split at q
 .cases c;exact⟨_,rfl,k _ _ (jQ e q)⟩
 .exact q.elim) b.rf⟩
end
abbrev TT3:=G->(Bool->G->Prop)->Prop
noncomputable def PoT (K:Fg0)(B:Bs)(F:Hp)(σ:_2.St)(Q:Bool->G->Prop):Bool->Hp->Prop:=λb H'=>∃ F' Γ',aS F F'/\En K B F' σ H' Γ'/\Q b Γ'
def zj (K:Fg0)(t:TT)(c:TT3):Prop:=∀ (B:Bs) (F:Hp) (σ:_2.St) (H:Hp) (Γ:G) (Q:Bool->G->Prop) (a:Bool->Hp->Prop),En K B F σ H Γ->c Γ Q->(∀ b H',PoT K B F σ Q b H'->a b H')->t σ H a
structure P3T (K:Fg0) (X:Cx) (e:Expr) (t:TT) (t3:TT3):Prop where
 pe:PT X e t
 rf:zj K t t3
structure P3W (K:Fg0) (X:Cx) (e:Expr) (t:TT) (t3:TT3):Prop where
 pe:PW X e t
 rf:zj K t t3
section
variable {X:Cx}{b c:Expr}{ta tb tc:TE}{a3 b3 c3:TE3}{a3' b3' c3':TB3}{tA tB':TT}{A3 B3:TT3}{rest:List Expr}
def tst (b:TE3)(Γ:G)(Q:Bool->G->Prop):Prop:=b Γ λx a=>match x.d with
 | .bl k=>Q k a
 | _=>False
theorem PoT.mono{B:Bs}{F d:Hp}{H:Hp}{Q:Bool->G->Prop}{k:Bool}(s:aS F d)(h:PoT K B d σ Q k H):PoT K B F σ Q k H:=by
 obtain⟨e,c,a,b⟩:=h;exact⟨e,c,s.trans a,b⟩
theorem Ke(h:Ref K ta a3):zj K (λσ H Q=>ta σ H λx H1=>∃ c,x=.bl c/\Q c H1) (tst a3):=by
 intro B F σ H j Q p e q k;refine h B F σ H j _ _ e q (λv H1 Z=>?_);obtain⟨r,d,x,l,o,m,b⟩:=Z;obtain⟨i,f,g,a⟩:=o.frozen m
 revert a b
 split
 .rename_i n;intro b a;rw[n] at a;exact⟨_,a,k _ _ ⟨i,d,l.trans f,g,b⟩⟩
 .intro b;exact b.elim
theorem bU{t:TE}{b:TE3}(h:P3 K X e t b)(c:autoParam (∀ a,isTrue e X.env a=(do let v <- a;VT e.pos;holding [v] (truthy v))) wT):P3T K X e (tB t) (tst b):=⟨Qs h.pe c,Ke h.rf⟩
theorem aX{r:R2}{c:D->D->TE3}(h:C3 K X op r c)(e:P3B K X a ta a3')(d:P3B K X b tb b3')(f:Xi op b=false):P3T K X (.Compare a [op] [b] pos) (G9 (tOp r ta tb)) (tst (xk c a3' b3')):=
 ⟨M4 h.op e.pe d.pe f,Ke (lg h.rf e.rf d.rf)⟩
theorem Iw{d:CmpOp}{r f:R2}{g e:D->D->TE3}(h:C3 K X op r g)(h':C3 K X d f e)(k:P3B K X a ta a3')(j:P3B K X b tb b3')(i:P3B K X c tc c3')(l:autoParam (ab5 [op,d] [b,c]=false) wq1) :
  P3T K X (.Compare a [op,d] [b,c] pos) (G9 (zI r f ta tb tc)) (tst (zm g e a3' b3' c3')):=⟨Kj h.op h'.op k.pe j.pe i.pe l,Ke (Ce h.rf h'.rf k.rf j.rf i.rf)⟩
def SA (b B3:TT3)(Γ:G)(Q:Bool->G->Prop):Prop:=b Γ λc a=>bT c (B3 a Q) (Q false a) ⟨⟩ ⟨⟩
def or3 (b B3:TT3)(Γ:G)(Q:Bool->G->Prop):Prop:=b Γ λc a=>bT c (Q true a) (B3 a Q) ⟨⟩ ⟨⟩
def Q9 (b:TT3)(Γ:G)(Q:Bool->G->Prop):Prop:=b Γ λc a=>Q (!c) a
theorem MW(l:zj K tA A3)(j:zj K tB' B3):zj K (P5 tA tB') (SA A3 B3):=by
 intro B F b H i Q n e q k;refine l B F b H i _ _ e q (λc m Z=>?_);obtain⟨h,a,d,g,f⟩:=Z;cases c with
 | true=>exact IV (j B h b m a _ _ g f λc o p=>k _ _ (p.mono d))
 | false=>exact IW (k _ _ ⟨h,a,d,g,f⟩)
theorem Ql(l:zj K tA A3)(j:zj K tB' B3):zj K (tOr tA tB') (or3 A3 B3):=by
 intro B F b H i Q n e q k;refine l B F b H i _ _ e q (λc m Z=>?_);obtain⟨h,a,d,g,f⟩:=Z;cases c with
 | true=>exact IV (k _ _ ⟨h,a,d,g,f⟩)
 | false=>exact IW (j B h b m a _ _ g f λc o p=>k _ _ (p.mono d))
theorem MS(h:zj K tA A3):zj K (P2 tA) (Q9 A3):=by
 intro B F b H d Q l e q k;exact h B F b H d _ _ e q (λc m ⟨j,a,f,i,g⟩=>k _ _ ⟨j,a,f,i,g⟩)
theorem Ag(b:P3T K X a tA A3):P3W K X (.BoolOp .And [a] pos) tA A3:=⟨MZ b.pe,b.rf⟩
theorem pC(b:P3T K X a tA A3):P3W K X (.BoolOp .Or [a] pos) tA A3:=⟨Qq b.pe,b.rf⟩
theorem Dl(d:P3T K X a tA A3)(c:P3W K X (.BoolOp .And (b::rest) pos) tB' B3):P3W K X (.BoolOp .And (a::b::rest) pos) (P5 tA tB') (SA A3 B3):=⟨Qr d.pe c.pe,MW d.rf c.rf⟩
theorem uO(d:P3T K X a tA A3)(c:P3W K X (.BoolOp .Or (b::rest) pos) tB' B3):P3W K X (.BoolOp .Or (a::b::rest) pos) (tOr tA tB') (or3 A3 B3):=⟨Tz d.pe c.pe,Ql d.rf c.rf⟩
theorem P3W.pt(h:P3W K X e tA A3):P3T K X e tA A3:=⟨h.pe.pt,h.rf⟩
theorem bV(b:P3T K X a tA A3):P3T K X (.UnaryOp .Not a pos) (P2 tA) (Q9 A3):=⟨Qt b.pe,MS b.rf⟩
set_option backward.eqns.nonrecursive false in
def PF (c b:TE3)(Γ:G)(Q:RV->G->Prop):Prop:=c Γ λx a=>match x.d with
 | .bl true=>b a Q
 | .bl false=>Q (.fz (.bl false)) a
 | _=>False
set_option backward.eqns.nonrecursive false in
def T4 (c b:TE3)(Γ:G)(Q:RV->G->Prop):Prop:=c Γ λx a=>match x.d with
 | .bl true=>Q (.fz (.bl true)) a
 | .bl false=>b a Q
 | _=>False
theorem Ah{op}(h:P3 K X a ta a3):P3 K X (.BoolOp op [a] pos) ta a3:=⟨QM h.pe,h.rf⟩
theorem Dn(o:P3 K X a ta a3)(n:P3 K X (.BoolOp .And (b::rest) pos) tb b3):P3 K X (.BoolOp .And (a::b::rest) pos) (OU ta tb) (PF a3 b3):=⟨QS o.pe n.pe,by
 intro B F l H r Q w e q k;refine o.rf B F l H r _ _ e q (λv u Z=>?_);obtain⟨z,h,x,m,t,s,d⟩:=Z;obtain⟨j,f,g,c⟩:=t.frozen s
 revert c d
 split
 .rename_i i;intro d c;rw[i] at c;exact⟨true,c,IV (n.rf B j l u h _ _ g d λv y p=>k _ _ (p.mono (m.trans f)))⟩
 .rename_i i;intro d c;rw[i] at c;exact⟨false,c,IW (k _ _ (Po.mono (m.trans f) (x8 g d)))⟩
 .intro d;exact d.elim⟩
theorem TV(o:P3 K X a ta a3)(n:P3 K X (.BoolOp .Or (b::rest) pos) tb b3):P3 K X (.BoolOp .Or (a::b::rest) pos) (S_ ta tb) (T4 a3 b3):=⟨TL o.pe n.pe,by
 intro B F l H r Q w e q k;refine o.rf B F l H r _ _ e q (λv u Z=>?_);obtain⟨z,h,x,m,t,s,d⟩:=Z;obtain⟨j,f,g,c⟩:=t.frozen s
 revert c d
 split
 .rename_i i;intro d c;rw[i] at c;exact⟨true,c,IV (k _ _ (Po.mono (m.trans f) (x8 g d)))⟩
 .rename_i i;intro d c;rw[i] at c;exact⟨false,c,IW (n.rf B j l u h _ _ g d λv y p=>k _ _ (p.mono (m.trans f)))⟩
 .intro d;exact d.elim⟩
end
abbrev TA3:=G->(List D->G->Prop)->Prop
noncomputable def PoA (K:Fg0)(B:Bs)(F:Hp)(σ:_2.St)(Q:List D->G->Prop):List V->Hp->Prop:=λvs H'=>∃ F' Γ' ds,aS F F'/\En K B F' σ H' Γ'/\aI K F' ds vs/\Q ds Γ'
def VQ (K:Fg0)(t:TA)(b:TA3):Prop:=∀ (B:Bs) (F:Hp) (σ:_2.St) (H:Hp) (Γ:G) (Q:List D->G->Prop) (a:List V->Hp->Prop),En K B F σ H Γ->b Γ Q->(∀ vs H',PoA K B F σ Q vs H'->a vs H')->t σ H a
structure P3A (K:Fg0) (X:Cx) (es:List Expr) (t:TA) (t3:TA3):Prop where
 pe:PA X es t
 rf:VQ K t t3
section
variable {X:Cx}{te:TE}{e3:TE3}{t:TA}{t3:TA3}
def KS (Γ:G)(Q:List D->G->Prop):Prop:=Q [] Γ
def uo (d:TE3)(c:TA3)(Γ:G)(Q:List D->G->Prop):Prop:=d Γ λx b=>c b λxs a=>Q (x.d::xs) a
theorem au:P3A K X [] sR KS:=⟨rh,λB F b H a Q c e q k=>k _ _ ⟨F,a,[],aS.refl F,e,rfl,q⟩⟩
theorem af(l:P3 K X e te e3)(j:P3A K X es t t3)(w:autoParam (ew (e::es) X.env=(false,eval e X.env)::ew es X.env) wE):P3A K X (e::es) (kT te t) (uo e3 t3):=⟨iq l.pe j.pe w,by
 intro B F h H m Q E e q k;refine l.rf B F h H m _ _ e q (λv C Z=>?_);obtain⟨I,b,x,o,z,r,u⟩:=Z;obtain⟨g,c,f,d⟩:=z.frozen r;refine j.rf B g h C b _ _ f u (λn G Z=>?_);obtain⟨D,a,A,i,y,p,s⟩:=Z;exact k _ _ ⟨D,a,x.d::A,(o.trans c).trans i,y,⟨v,n,rfl,d.mono i,p⟩,s⟩⟩
def Ur (b:TA3)(Γ:G)(Q:RV->G->Prop):Prop:=b Γ λxs a=>xs.length<=sizeLine/\Q (.fr (.lst xs)) a
def JI (b:TA3)(Γ:G)(Q:RV->G->Prop):Prop:=b Γ λxs a=>xs.length<=sizeLine/\Q (.fz (.tup xs)) a
theorem cY(h:P3A K X es t t3):P3 K X (.List es pos) (Ta t) (Ur t3):=⟨QN h.pe,by
 intro B F c H f Q n e q k;refine h.rf B F c H f _ _ e q (λl o Z=>?_);obtain⟨r,d,m,g,j,a,b⟩:=Z;exact⟨by rw[a.length];exact b.1,λp i=>k _ _ (Po.mono g (mz j i a b.2))⟩⟩
theorem i8{I}(h:P3A K X es t t3):P3 K X (.Tuple es I pos) (Mn t) (JI t3):=⟨Gb h.pe,by
 intro B F c H f Q n e q k;refine h.rf B F c H f _ _ e q (λl o Z=>?_);obtain⟨r,d,m,g,j,a,b⟩:=Z;exact⟨by rw[a.length];exact b.1,λp i=>k _ _ (Po.mono g (Dg j i a b.2))⟩⟩
end
noncomputable abbrev fP:=G->(List Bo->G->Prop)->Prop
noncomputable def bH (K:Fg0)(F:Hp)(σ:_2.St):List Bo->List V->Prop
 | [],vs=>vs=[]
 | b::c,vs=>∃ v a,vs=v::a/\yJ K F σ b v/\bH K F σ c a
noncomputable def yK (K:Fg0)(F H:Hp):List D->List V->Prop
 | [],vs=>vs=[]
 | d::ds,vs=>∃ v a,vs=v::a/\oQ K F H d v/\yK K F H ds a
noncomputable def ats (Γ:G):List Bo->Option (List D)
 | []=>some []
 | b::a=>match b.at Γ,ats Γ a with
  | some d,some ds=>some (d::ds)
  | _,_=>none
noncomputable def WZ (K:Fg0)(B:Bs)(F:Hp)(σ:_2.St)(Q:List Bo->G->Prop):List V->Hp->Prop:=λvs H'=>∃ F' Γ' a,aS F F'/\En K B F' σ H' Γ'/\bH K F' σ a vs/\Q a Γ'
def CQ (K:Fg0)(t:TA)(b:fP):Prop:=∀ (B:Bs) (F:Hp) (σ:_2.St) (H:Hp) (Γ:G) (Q:List Bo->G->Prop) (a:List V->Hp->Prop),En K B F σ H Γ->b Γ Q->(∀ vs H',WZ K B F σ Q vs H'->a vs H')->t σ H a
structure B1 (K:Fg0) (X:Cx) (es:List Expr) (t:TA) (t3:fP):Prop where
 pe:PA X es t
 rf:CQ K t t3
section
variable {X:Cx}{te:TE}{e3:TB3}{t:TA}{t3:fP}{B:Bs}{F H:Hp}{Γ:G}
theorem En.bos(e:En K B F σ H Γ):∀ {c:List Bo} {vs:List V} {ds:List D},bH K F σ c vs->ats Γ c=some ds->yK K F H ds vs
 | [],_,_,h,q=>by cases q;exact h
 | b::c,_,_,⟨v,f,k,j,i⟩,q=>by
  unfold ats at q;split at q
  .rename_i d ds g a;cases q;exact⟨v,f,k,e.bo j g,e.bos i a⟩
  .cases q
def NF (Γ:G)(Q:List Bo->G->Prop):Prop:=Q [] Γ
def Px (d:TB3)(c:fP)(Γ:G)(Q:List Bo->G->Prop):Prop:=d Γ λx b=>c b λxs a=>Q (x::xs) a
theorem ab:B1 K X [] sR NF:=⟨rh,λB F b H a Q c e q k=>k _ _ ⟨F,a,[],aS.refl F,e,rfl,q⟩⟩
theorem aa(g:P3B K X e te e3)(f:B1 K X es t t3)(p:autoParam (ew (e::es) X.env=(false,eval e X.env)::ew es X.env) wE):B1 K X (e::es) (kT te t) (Px e3 t3):=⟨iq g.pe f.pe p,by
 intro B F c H h Q A e q k;refine g.rf B F c H h _ _ e q (λv w Z=>?_);obtain⟨z,b,x,j,s,m,o⟩:=Z;refine f.rf B z c w b _ _ s o (λi C Z=>?_);obtain⟨y,a,u,d,r,l,n⟩:=Z;exact k _ _ ⟨y,a,x::u,j.trans d,r,⟨v,i,rfl,m.mono d,l⟩,n⟩⟩
def HZ (K:Fg0)(r:List V->Hp->VK->Prop)(c3:List D->TE3):Prop:=∀ (B:Bs) (F:Hp) (σ:_2.St) (H:Hp) (Γ:G) (vs:List V) (ds:List D) (Q:RV->G->Prop) (a:VK),En K B F σ H Γ->yK K F H ds vs->c3 ds Γ Q->(∀ v H',Po K B F σ Q v H'->a v H')->r vs H a
def HR (c3:List D->TE3)(b:fP)(Γ:G)(Q:RV->G->Prop):Prop:=b Γ λc a=>mL (ats a c) (λds=>c3 ds a Q) ⟨⟩
theorem Kd{r:List V->Hp->VK->Prop}{c3:List D->TE3}(h:HZ K r c3)(m:CQ K t t3):Ref K (tCB r t) (HR c3 t3):=by
 intro B F b H d Q o e q k;refine m B F b H d _ _ e q (λf s Z=>?_);obtain⟨u,a,w,g,c,i,Z⟩:=Z;obtain⟨n,l,j⟩:=xE.1 Z;exact h B u b s a f n Q o c (c.bos i l) j λv x p=>k _ _ (p.mono g)
structure B3 (K:Fg0) (X:Cx) (f:Value) (r:List V->Hp->VK->Prop) (c3:List D->TE3):Prop where
 op:eO X f r
 rf:HZ K r c3
variable {p:Pos}{id T:String}{r:List V->Hp->VK->Prop}{c3:List D->TE3}
theorem av(c:B3 K X (.builtin id) r c3)(i:Gl X x)(h:X.mg x=none)(f:zp x=some (.builtin id))(d:B1 K X (e::es) t t3)(g:autoParam (x≠"__name__") wP)(b:autoParam ((x == ("__debug__":Str))=false) wP)(j:autoParam (ew (e::es) X.env=(false,eval e X.env)::ew es X.env) wE)(a:autoParam ((backTo pos (ew es X.env)).any (·.1)=false) wE):P3 K X (.Call (.Name x p) (e::es) [] pos) (tCB r t) (HR c3 t3):=
 ⟨KA c.op i h f d.pe g b j a,Kd c.rf d.rf⟩
theorem fY(c:B3 K X (.type T) r c3)(i:Gl X x)(h:X.mg x=none)(f:zp x=some (.type T))(d:B1 K X (e::es) t t3)(g:autoParam (x≠"__name__") wP)(b:autoParam ((x == ("__debug__":Str))=false) wP)(j:autoParam (ew (e::es) X.env=(false,eval e X.env)::ew es X.env) wE)(a:autoParam ((backTo pos (ew es X.env)).any (·.1)=false) wE):P3 K X (.Call (.Name x p) (e::es) [] pos) (tCB r t) (HR c3 t3):=
 ⟨Iu c.op i h f d.pe g b j a,Kd c.rf d.rf⟩
set_option backward.eqns.nonrecursive false in
def SJ (ds:List D)(Γ:G)(Q:RV->G->Prop):Prop:=match ds with
 | [.int i]=>Q (.fz (.int (if i < 0 then -i else i))) Γ
 | _=>False
set_option backward.eqns.nonrecursive false in
def mx3 (f:Int->Int->Int)(ds:List D)(Γ:G)(Q:RV->G->Prop):Prop:=match ds with
 | [.int i,.int j]=>Q (.fz (.int (f i j))) Γ
 | _=>False
theorem yK.one{d:D}{vs:List V}(h:yK K F H [d] vs):∃ v,vs=[v]/\oQ K F H d v:=by
 obtain⟨v,c,rfl,b,a⟩:=h;cases a;exact⟨v,rfl,b⟩
theorem yK.two{d e:D}{vs:List V}(h:yK K F H [d,e] vs):∃ v w,vs=[v,w]/\oQ K F H d v/\oQ K F H e w:=by
 obtain⟨v,f,rfl,c,b⟩:=h;obtain⟨w,rfl,a⟩:=yK.one b;exact⟨v,w,rfl,c,a⟩
theorem VA:B3 K X (.builtin "abs") (λxs H Q=>∃ i,xs=[.int i]/\Q (.int (if i < 0 then -i else i)) H) SJ:=⟨LS,by
 intro B F a H b c d Q f e r q k;unfold SJ at q;split at q
 .obtain⟨v,rfl,h⟩:=r.one;cases h;exact⟨_,rfl,k _ _ (jQ e q)⟩
 .exact q.elim⟩
noncomputable abbrev fmax (i j:Int):Int:=if j > i then j else i
noncomputable abbrev fmin (i j:Int):Int:=if j < i then j else i
theorem HU(a:X.calm=true):B3 K X (.builtin "max") (λxs H Q=>∃ i j,xs=[.int i,.int j]/\Q (.int (if j > i then j else i)) H) (mx3 fmax):=⟨Jm a,by
 intro B F c H d f g Q l e r q k;unfold mx3 at q;split at q
 .obtain⟨v,w,rfl,h,b⟩:=r.two;cases h;cases b;exact⟨_,_,rfl,k _ _ (jQ e q)⟩
 .exact q.elim⟩
theorem HS(a:X.calm=true):B3 K X (.builtin "min") (λxs H Q=>∃ i j,xs=[.int i,.int j]/\Q (.int (if j < i then j else i)) H) (mx3 fmin):=⟨Jl a,by
 intro B F c H d f g Q l e r q k;unfold mx3 at q;split at q
 .obtain⟨v,w,rfl,h,b⟩:=r.two;cases h;cases b;exact⟨_,_,rfl,k _ _ (jQ e q)⟩
 .exact q.elim⟩
set_option backward.eqns.nonrecursive false in
def RD (ds:List D)(Γ:G)(Q:RV->G->Prop):Prop:=match ds with
 | [.int i]=>Q (.fz (.int i)) Γ
 | [.bl k]=>Q (.fz (.int (if k then 1 else 0))) Γ
 | _=>False
theorem Fu:B3 K X (.type "int") (λxs H Q=>(∃ i,xs=[.int i]/\Q (.int i) H)\/∃ k,xs=[.bl k]/\Q (.int (if k then 1 else 0)) H) RD:=⟨Jn,by
 intro B F a H b c d Q f e r q k;unfold RD at q;split at q
 .obtain⟨v,rfl,h⟩:=r.one;cases h;exact .inl ⟨_,rfl,k _ _ (jQ e q)⟩
 .obtain⟨v,rfl,h⟩:=r.one;cases h;exact .inr ⟨_,rfl,k _ _ (jQ e q)⟩
 .exact q.elim⟩
set_option backward.eqns.nonrecursive false in
noncomputable def NT:D->Option Nat
 | .lst xs=>some xs.length
 | .tup xs=>some xs.length
 | .ktup xs=>some xs.length
 | .scr ns=>some ns.length
 | _=>none
set_option backward.eqns.nonrecursive false in
def Rk (ds:List D)(Γ:G)(Q:RV->G->Prop):Prop:=match ds with
 | [.str z]=>z.length<=sizeLine/\Q (.fz (.int z.length)) Γ
 | [d]=>∃ n,NT d=some n/\Q (.fz (.int n)) Γ
 | _=>False
noncomputable abbrev V0 (K:Fg0):List V->Hp->VK->Prop:=λxs H Q=>(∃ p ys,xs=[.ref p]/\(SqL K H p ys\/SqT K H p ys)/\Q (.int ys.length) H)\/(∃ z,xs=[.str z]/\z.length<=sizeLine/\Q (.int z.length) H)
theorem eO.or'{f:Value}{r e:List V->Hp->VK->Prop}(h:eO X f r)(h':eO X f e):eO X f (λxs H Q=>r xs H Q\/e xs H Q):=by
 intro a s b H xs c Q I d q;rcases q with q | q
 .exact h a s b H xs c Q I d q
 .exact h' a s b H xs c Q I d q
theorem NS{d:D}{v:V}(s:aS F H)(h:oQ K F H d v)(a:NT d=some n):∃ p ys,v=.ref p/\(SqL K H p ys\/SqT K H p ys)/\ys.length=n:=by
 unfold NT at a;split at a
 .cases a;obtain⟨p,c,rfl,b,e⟩:=h;exact⟨p,c,rfl,.inl (SqL.of b),e.length⟩
 .cases a;obtain⟨p,c,rfl,b,e⟩:=h;exact⟨p,c,rfl,.inr (.inl (.inl (s _ _ b))),e.length⟩
 .cases a;obtain⟨p,c,rfl,b,e⟩:=h;exact⟨p,c,rfl,.inr (SqT.same s b),e.length⟩
 .cases a;obtain⟨p,rfl,b⟩:=h;exact⟨p,_,rfl,.inl (s.seq b),by simp⟩
 .cases a
theorem cR(f:X.K=K):B3 K X (.builtin "len") (V0 K) Rk:=⟨by subst f;exact eO.or' DR DQ,by
 intro B F g H i j l Q m e r q k;unfold Rk at q;split at q
 .obtain⟨v,rfl,h⟩:=r.one;cases h;exact .inr ⟨_,rfl,q.1,k _ _ (jQ e q.2)⟩
 .obtain⟨v,rfl,h⟩:=r.one;obtain⟨n,c,q⟩:=q;obtain⟨p,a,rfl,b,d⟩:=NS e.sub h c;subst d;exact .inl ⟨p,a,rfl,b,k _ _ (jQ e q)⟩
 .exact q.elim⟩
end
section
variable {X:Cx}{b c:Expr}{ta tb tc:TE}{a3 b3 c3:TB3}{B:Bs}{F H:Hp}{Γ:G}
theorem aI.atI{xs:List D}{vs:List V}(h:aI K F xs vs){i:Int}{d:D}(e:atI xs i=some d):∃ v,_2.atI vs i=some v/\Rep K F d v:=by
 unfold _2.atI at e ⊢;rw[h.length];cases q:ixN xs.length i with
 | none=>rw[q] at e;cases e
 | some j=>
  rw[q] at e;exact h.get e
def ix3 (x y:D)(Γ:G)(Q:RV->G->Prop):Prop:=match x,y with
 | .lst xs,.int i=>m1 (atI xs i) (λd=>Q (.fz d) Γ) ⟨⟩
 | .tup xs,.int i=>m1 (atI xs i) (λd=>Q (.fz d) Γ) ⟨⟩
 | .ktup xs,.int i=>∃ d,atI xs i=some d/\Q (.fz d) Γ
 | .scr ns,.int i=>∃ n,atI ns i=some n/\Q (.fz (.int n)) Γ
 | .str z,.int i=>z.length<=sizeLine/\∃ c,atI z.cps.toList i=some c/\Q (.fz (.str ⟨#[c]⟩)) Γ
 | _,_=>False
theorem HW{a b:Type}{f:a->b}{xs:List a}{i:Int}{d:a}(e:atI xs i=some d):atI (xs.map f) i=some (f d):=by
 unfold _2.atI at e ⊢;rw[lM0];cases q:ixN xs.length i with
 | none=>rw[q] at e;cases e
 | some j=>
  rw[q] at e;show (xs.map f)[j]?=_;rw[cm,show xs[j]?=some d from e]
  rfl
theorem Ux:qm K (rIx K) ix3:=by
 intro B F n H o x y t s Q u e h g q k;unfold ix3 at q;split at q
 .obtain⟨d,a,q⟩:=de.1 q;obtain⟨p,f,rfl,b,j⟩:=h;cases g;obtain⟨v,i,r⟩:=j.atI a;exact .inl ⟨p,f,_,v,rfl,rfl,SqL.of b,i,k _ _ (oa e r q)⟩
 .obtain⟨d,a,q⟩:=de.1 q;obtain⟨p,f,rfl,b,j⟩:=h;cases g;obtain⟨v,i,r⟩:=j.atI a;exact .inr (.inl ⟨p,f,_,v,rfl,rfl,.inl (.inl (e.sub _ _ b)),i,k _ _ (oa e r q)⟩)
 .obtain⟨d,a,q⟩:=q;obtain⟨p,f,rfl,b,j⟩:=h;cases g;obtain⟨v,i,r⟩:=j.atI a;exact .inr (.inl ⟨p,f,_,v,rfl,rfl,SqT.same e.sub b,i,k _ _ (oa e r q)⟩)
 .obtain⟨d,a,q⟩:=q;obtain⟨p,rfl,b⟩:=h;cases g;exact .inl ⟨p,_,_,.int d,rfl,rfl,e.sub.seq b,HW a,k _ _ (jQ e q)⟩
 .cases h;cases g;obtain⟨l,c,m,q⟩:=q;exact .inr (.inr ⟨_,_,c,rfl,rfl,l,m,k _ _ (F_ e q)⟩)
 .exact q.elim
theorem ba(f:X.K=K)(d:P3B K X a ta a3)(c:P3B K X b tb b3)(e:HX b):P3 K X (.Subscript a b pos) (tOp (rIx K) ta tb) (xk ix3 a3 b3):=⟨TM (by subst f;exact Ry) d.pe c.pe e,lg Ux d.rf c.rf⟩
noncomputable def cut {α:Type}(xs:List α)(lo a:Option Int):List α:=(xs.drop (_h.sIx xs.length 0 lo)).take (_h.sIx xs.length xs.length a - _h.sIx xs.length 0 lo)
noncomputable def pk {α:Type}(xs:List α)(lo a st:Option Int):List α:=(XT (sN lo a st xs.length).1 (sN lo a st xs.length).2.1 (sN lo a st xs.length).2.2).filterMap (xs[·]?)
theorem aI.cut {xs:List D}{vs:List V}(h:aI K F xs vs)(lo a:Option Int):aI K F (cut xs lo a) (BW vs lo a):=by
 unfold _3.cut BW;rw[h.length];exact(h.drop _).take _
theorem aI.places{xs:List D}{vs:List V}(h:aI K F xs vs):∀ b:List Nat,aI K F (b.filterMap (xs[·]?)) (b.filterMap (vs[·]?))
 | []=>rfl
 | j::b=>by
  have c:=h.places b;cases a:xs[j]? with
  | some x=>
   obtain⟨u,e,r⟩:=h.get a;simp only[sX,a,e];exact⟨u,_,rfl,r,c⟩
  | none=>
   have d:vs[j]?=none:=by
    rw[Xc] at a ⊢;rw[h.length];exact a
   simp only[sX,a,d];exact c
theorem aI.pk {xs:List D}{vs:List V}(h:aI K F xs vs)(lo a st:Option Int):aI K F (pk xs lo a st) (q_ vs lo a st):=by
 unfold _3.pk q_;rw[h.length];exact h.places _
abbrev TO3:=G->(Option Int->G->Prop)->Prop
def WX (K:Fg0)(t:TO)(b:TO3):Prop:=∀ (B:Bs) (F:Hp) (σ:_2.St) (H:Hp) (Γ:G) (Q:Option Int->G->Prop) (a:Option Int->Hp->Prop),En K B F σ H Γ->b Γ Q->(∀ o H',(∃ F' Γ',aS F F'/\En K B F' σ H' Γ'/\Q o Γ')->a o H')->t σ H a
structure P3O (K:Fg0) (X:Cx) (e:Option Expr) (t:TO) (t3:TO3):Prop where
 pe:PO X e t
 rf:WX K t t3
def O5 (Γ:G)(Q:Option Int->G->Prop):Prop:=Q none Γ
def OX (b:TB3)(Γ:G)(Q:Option Int->G->Prop):Prop:=b Γ λx a=>∃ i,x.at a=some (.int i)/\Q (some i) a
theorem cI:P3O K X none G_ O5:=⟨M9,λB F b H a Q c e q k=>k _ _ ⟨F,a,aS.refl F,e,q⟩⟩
theorem bh(h:P3B K X a ta a3):P3O K X (some a) (OR ta) (OX a3):=⟨M8 h.pe,by
 intro B F d H f Q o e q k;refine h.rf B F d H f _ _ e q (λv p Z=>?_);obtain⟨n,b,x,g,c,j,i,m,l⟩:=Z;have:v=.int i:=c.bo j m;exact⟨i,this,k _ _ ⟨n,b,g,c,l⟩⟩⟩
def sl3 (f:TB3)(d e:TO3)(Γ:G)(Q:RV->G->Prop):Prop:=f Γ λx c=>d c λlo b=>e b λhi a=>∃ xs,x.at a=some (.lst xs)/\Q (.fr (.lst (cut xs lo hi))) a
theorem dX{tl h:TO}{m c:TO3}(D:X.K=K)(o:P3B K X a ta a3)(b:P3O K X lo tl m)(n:P3O K X hi h c):P3 K X (.Subscript a (.Slice lo hi none p2) pos) (tSl (Ts K) ta tl h) (sl3 a3 m c):=
 ⟨EI (by subst D;exact Mw) o.pe b.pe n.pe,by
 intro B F d H t Q R e q k;refine o.rf B F d H t _ _ e q (λv M Z=>?_);obtain⟨O,g,x,w,J,y,C⟩:=Z;refine b.rf B O d M g _ _ J C (λlo L Z=>?_);obtain⟨N,f,j,I,A⟩:=Z;refine n.rf B N d L f _ _ I A (λhi S Z=>?_);obtain⟨T,s,i,r,P,c,z⟩:=Z;obtain⟨p,u,rfl,G,E⟩:=r.bo (y.mono (j.trans i)) c;exact⟨p,u,rfl,SqL.of G,λl b=>k _ _ (Po.mono ((w.trans j).trans i) (mz r b (E.cut lo hi) z))⟩⟩
def Tg (f:TB3)(d e:TO3)(Γ:G)(Q:RV->G->Prop):Prop:=f Γ λx c=>d c λlo b=>e b λhi a=>∃ xs,x.at a=some (.tup xs)/\¬ (_h.sIx xs.length 0 lo=0/\_h.sIx xs.length xs.length hi=xs.length)/\Q (.fz (.tup (cut xs lo hi))) a
theorem Iy{tl i:TO}{n c:TO3}(G:X.K=K)(r:P3B K X a ta a3)(b:P3O K X lo tl n)(o:P3O K X hi i c):P3 K X (.Subscript a (.Slice lo hi none p2) pos) (tSl (Tr K) ta tl i) (Tg a3 n c):=
 ⟨EI (by subst G;exact P_) r.pe b.pe o.pe,by
 intro B F d H u Q S e q k;refine r.rf B F d H u _ _ e q (λv N Z=>?_);obtain⟨P,g,x,y,L,z,D⟩:=Z;refine b.rf B P d N g _ _ L D (λlo M Z=>?_);obtain⟨O,f,m,J,C⟩:=Z;refine o.rf B O d M f _ _ J C (λhi T Z=>?_);obtain⟨U,t,j,h,R,c,E,A⟩:=Z;obtain⟨p,w,rfl,I,s⟩:=h.bo (z.mono (m.trans j)) c;exact⟨p,w,rfl,.inl (.inl (h.sub _ _ I)),by rw[s.length];exact E,λl b=>k _ _ (Po.mono ((y.trans m).trans j) (Dg h b (s.cut lo hi) A))⟩⟩
def Th (h:TB3)(f g e:TO3)(Γ:G)(Q:RV->G->Prop):Prop:=h Γ λx d=>f d λlo c=>g c λhi b=>e b λst a=>st≠some 0/\∃ xs,x.at a=some (.lst xs)/\Q (.fr (.lst (pk xs lo hi st))) a
theorem sH{st:Expr}{tl m j:TO}{r w b:TO3}(M:X.K=K)(u:P3B K X a ta a3)(d:P3O K X lo tl r)(t:P3O K X hi m w)(s:P3O K X (some st) j b):P3 K X (.Subscript a (.Slice lo hi (some st) p2) pos) (S8 K ta tl m j) (Th a3 r w b):=
 ⟨by subst M;exact Iq u.pe d.pe t.pe s.pe,by
 intro B F c H A Q QQ e q k;refine u.rf B F c H A _ _ e q (λv W Z=>?_);obtain⟨F1,h,x,D,T,E,L⟩:=Z;refine d.rf B F1 c W h _ _ T L (λlo V Z=>?_);obtain⟨F2,g,o,S,J⟩:=Z;refine t.rf B F2 c V g _ _ S J (λhi U Z=>?_);obtain⟨Y,f,b,R,I⟩:=Z;refine s.rf B Y c U f _ _ R I (λst H4 Z=>?_);obtain⟨F4,z,n,y,i,xs,P,G⟩:=Z;obtain⟨p,C,rfl,O,N⟩:=y.bo (E.mono ((o.trans b).trans n)) P;exact⟨i,p,C,rfl,SqL.of O,λl d=>k _ _ (Po.mono (((D.trans o).trans b).trans n) (mz y d (N.pk lo hi st) G))⟩⟩
set_option backward.eqns.nonrecursive false in
noncomputable def AJ:D->Option (List D)
 | .lst xs=>some xs
 | .tup xs=>some xs
 | .ktup xs=>some xs
 | .scr ns=>some (ns.map .int)
 | _=>none
theorem Cn{d:D}{v:V}{xs:List D}(s:aS F H)(h:oQ K F H d v)(a:AJ d=some xs):∃ p ys,v=.ref p/\(SqL K H p ys\/SqT K H p ys)/\aI K F xs ys:=by
 unfold AJ at a;split at a
 .cases a;obtain⟨p,c,rfl,b,e⟩:=h;exact⟨p,c,rfl,.inl (SqL.of b),e⟩
 .cases a;obtain⟨p,c,rfl,b,e⟩:=h;exact⟨p,c,rfl,.inr (.inl (.inl (s _ _ b))),e⟩
 .cases a;obtain⟨p,c,rfl,b,e⟩:=h;exact⟨p,c,rfl,.inr (SqT.same s b),e⟩
 .cases a;obtain⟨p,rfl,b⟩:=h;exact⟨p,_,rfl,.inl (s.seq b),aI.ints _⟩
 .cases a
set_option backward.eqns.nonrecursive false in
def KZ (ds:List D)(Γ:G)(Q:RV->G->Prop):Prop:=match ds with
 | [d]=>∃ xs,AJ d=some xs/\Q (.fr (.lst xs)) Γ
 | _=>False
theorem Sr(f:X.K=K):B3 K X (.type "list") (λxs H Q=>∃ p ys,xs=[.ref p]/\(SqL K H p ys\/SqT K H p ys)/\∀ l,H l=none->Q (.ref l) (upd H l (.lst ys))) KZ:=⟨by subst f;exact DP,by
 intro B F g H i j m Q n e r q k;unfold KZ at q;split at q
 .obtain⟨v,rfl,h⟩:=r.one;obtain⟨xs,b,q⟩:=q;obtain⟨p,ys,rfl,a,c⟩:=Cn e.sub h b;exact⟨p,ys,rfl,a,λl d=>k _ _ (mz e d c q)⟩
 .exact q.elim⟩
set_option backward.eqns.nonrecursive false in
def FG (ds:List D)(Γ:G)(Q:RV->G->Prop):Prop:=match ds with
 | [.lst xs]=>Q (.fz (.tup xs)) Γ
 | _=>False
theorem DT(b:X.K=K):B3 K X (.type "tuple") (λxs H Q=>∃ p ys,xs=[.ref p]/\((SqL K H p ys/\∀ l,H l=none->Q (.ref l) (upd H l (.tup ys)))\/(SqT K H p ys/\Q (.ref p) H))) FG:=⟨by subst b;exact BZ,by
 intro B F f H g h i Q j e r q k;unfold FG at q;split at q
 .obtain⟨v,rfl,p,ys,rfl,d,c⟩:=r.one;exact⟨p,ys,rfl,.inl ⟨SqL.of d,λl a=>k _ _ (Dg e a c q)⟩⟩
 .exact q.elim⟩
set_option backward.eqns.nonrecursive false in
noncomputable def knD:D->Bool
 | .non=>true | .bl _=>true | .int _=>true | .str _=>true | .lst _=>true | .tup _=>true | .dct=>true | .dcs _ _=>true | _=>false
theorem K2{d:D}{v:V}(s:aS F H)(h:oQ K F H d v)(b:knD d=true):Kn H v:=by
 unfold knD at b;split at b
 .cases h;exact .non
 .cases h;exact .bl _
 .cases h;exact .int _
 .cases h;exact .str _
 .obtain⟨p,c,rfl,a,_⟩:=h;exact .lst a
 .obtain⟨p,c,rfl,a,_⟩:=h;exact .tup (s _ _ a)
 .obtain⟨p,rfl,a⟩:=h;exact .dK (s _ _ a)
 .obtain⟨p,rfl,a⟩:=h;exact .dK (s _ _ a)
 .cases b
set_option backward.eqns.nonrecursive false in
noncomputable def dB:D->Bool
 | .bl _=>true | _=>false
set_option backward.eqns.nonrecursive false in
noncomputable def dI:D->Bool
 | .bl _=>true | .int _=>true | _=>false
set_option backward.eqns.nonrecursive false in
noncomputable def dL:D->Bool
 | .lst _=>true | _=>false
set_option backward.eqns.nonrecursive false in
noncomputable def dT:D->Bool
 | .tup _=>true | _=>false
set_option backward.eqns.nonrecursive false in
def is3 (t:String)(f:D->Bool)(ds:List D)(Γ:G)(Q:RV->G->Prop):Prop:=match ds with
 | [d,.ty t']=>t'=t/\knD d=true/\Q (.fz (.bl (f d))) Γ
 | _=>False
theorem LW{t:String}{f:D->Bool}{g:Hp->V->Bool}(h:eO X (.builtin "isinstance") (λxs H Q=>∃ x,xs=[x,.ty t]/\Kn H x/\Q (.bl (g H x)) H))(c:∀ {F H:Hp} {d:D} {v:V},aS F H->oQ K F H d v->knD d=true->g H v=f d):B3 K X (.builtin "isinstance") (λxs H Q=>∃ x,xs=[x,.ty t]/\Kn H x/\Q (.bl (g H x)) H) (is3 t f):=⟨h,by
 intro B F j H l m n Q o e r q k;unfold is3 at q;split at q
 .obtain⟨v,w,rfl,b,i⟩:=r.two;obtain⟨rfl,a,q⟩:=q;cases i;exact⟨v,rfl,K2 e.sub b a,by rw[c e.sub b a];exact k _ _ (x8 e q)⟩
 .exact q.elim⟩
theorem Vz(T:kJ X.K):B3 K X (.builtin "isinstance") (λxs H Q=>∃ x,xs=[x,.ty "bool"]/\Kn H x/\Q (.bl (isB x)) H) (is3 "bool" dB):=LW (g:=λ_ v=>isB v) (LR T) λs h a=>by
 unfold knD at a;split at a
 .cases h;rfl
 .cases h;rfl
 .cases h;rfl
 .cases h;rfl
 .obtain⟨p,c,rfl,b,_⟩:=h;rfl
 .obtain⟨p,c,rfl,b,_⟩:=h;rfl
 .obtain⟨p,rfl,b⟩:=h;rfl
 .obtain⟨p,rfl,b⟩:=h;rfl
 .cases a
theorem Vy(T:kJ X.K):B3 K X (.builtin "isinstance") (λxs H Q=>∃ x,xs=[x,.ty "int"]/\Kn H x/\Q (.bl (isI x)) H) (is3 "int" dI):=LW (g:=λ_ v=>isI v) (LP T) λs h a=>by
 unfold knD at a;split at a
 .cases h;rfl
 .cases h;rfl
 .cases h;rfl
 .cases h;rfl
 .obtain⟨p,c,rfl,b,_⟩:=h;rfl
 .obtain⟨p,c,rfl,b,_⟩:=h;rfl
 .obtain⟨p,rfl,b⟩:=h;rfl
 .obtain⟨p,rfl,b⟩:=h;rfl
 .cases a
theorem PC(T:kJ X.K):B3 K X (.builtin "isinstance") (λxs H Q=>∃ x,xs=[x,.ty "list"]/\Kn H x/\Q (.bl (isL H x)) H) (is3 "list" dL):=LW (LO T) λs h b=>by
 unfold knD at b;split at b
 .cases h;rfl
 .cases h;rfl
 .cases h;rfl
 .cases h;rfl
 .obtain⟨p,c,rfl,a,_⟩:=h;exact HB a
 .obtain⟨p,c,rfl,a,_⟩:=h;exact HA (s _ _ a)
 .obtain⟨p,rfl,a⟩:=h;exact GI (s _ _ a)
 .obtain⟨p,rfl,a⟩:=h;exact GI (s _ _ a)
 .cases b
theorem Vv(T:kJ X.K):B3 K X (.builtin "isinstance") (λxs H Q=>∃ x,xs=[x,.ty "tuple"]/\Kn H x/\Q (.bl (isT H x)) H) (is3 "tuple" dT):=LW (LM T) λs h b=>by
 unfold knD at b;split at b
 .cases h;rfl
 .cases h;rfl
 .cases h;rfl
 .cases h;rfl
 .obtain⟨p,c,rfl,a,_⟩:=h;exact Hz a
 .obtain⟨p,c,rfl,a,_⟩:=h;exact Hy (s _ _ a)
 .obtain⟨p,rfl,a⟩:=h;exact GG (s _ _ a)
 .obtain⟨p,rfl,a⟩:=h;exact GG (s _ _ a)
 .cases b
set_option backward.eqns.nonrecursive false in
def SH (ds:List D)(Γ:G)(Q:RV->G->Prop):Prop:=match ds with
 | [.lst xs]=>∃ a:List Bool,xs=a.map .bl/\Q (.fz (.bl (a.all id))) Γ
 | _=>False
theorem aI.HV:∀ {a:List Bool} {vs:List V},aI K F (a.map D.bl) vs->vs=a.map V.bl
 | [],_,h=>h
 | n::f,_,Z=>by
  obtain⟨v,e,d,c,b⟩:=Z;rw[d,aI.HV b];have:v=.bl n:=c;rw[this];rfl
theorem LX(c:X.K=K)(b:X.calm=true):B3 K X (.builtin "all") (λxs H Q=>∃ (p:Addr) (a:List Bool),xs=[.ref p]/\SqL K H p (a.map V.bl)/\Q (.bl (a.all id)) H) SH:=⟨by subst c;exact Jo b,by
 intro B F g H h j l Q m e r q k;unfold SH at q;split at q
 .obtain⟨a,rfl,q⟩:=q;obtain⟨v,rfl,p,i,rfl,f,d⟩:=r.one;exact⟨p,a,rfl,SqL.of (by rw[f,d.HV]),k _ _ (x8 e q)⟩
 .exact q.elim⟩
noncomputable def flD:D->Bool
 | .non=>true | .bl _=>true | .int _=>true | .str _=>true | _=>false
noncomputable def toV:D->V
 | .bl b=>.bl b | .int i=>.int i | .str x=>.str x | _=>.non
theorem Pu{d:D}{v:V}(h:oQ K F H d v)(a:flD d=true):v=toV d/\tX v=true:=by
 unfold flD at a;split at a
 .cases h;exact⟨rfl,rfl⟩
 .cases h;exact⟨rfl,rfl⟩
 .cases h;exact⟨rfl,rfl⟩
 .cases h;exact⟨rfl,rfl⟩
 .cases a
theorem Pt (s:aS F H):∀ {xs:List D} {vs:List V},aI K F xs vs->xs.all flD=true->vs=xs.map toV/\vs.all tX=true
 | [],_,h,_=>by cases h;exact⟨rfl,rfl⟩
 | x::xs,_,⟨v,j,i,g,f⟩,e=>by
  rw[XW,sE] at e;obtain⟨a,b⟩:=Pt s f e.2;obtain⟨c,d⟩:=Pu (Rep.b s g) e.1;subst i a c;refine⟨rfl,?_⟩;rw[XW,d,b];rfl
def in3 (a:Bool)(x y:D)(Γ:G)(Q:RV->G->Prop):Prop:=∃ xs,AJ y=some xs/\flD x=true/\xs.all flD=true/\Q (.fz (.bl (if a then !inV (toV x) (xs.map toV) else inV (toV x) (xs.map toV)))) Γ
theorem UC(f:Bool):qm K (rIn K f) (in3 f):=by
 intro B F o H r x y v u Q w e h g q k;obtain⟨t,j,n,m,q⟩:=q;obtain⟨p,s,rfl,i,l⟩:=Cn e.sub g j;obtain⟨a,b⟩:=Pt e.sub l m;obtain⟨c,d⟩:=Pu h n;subst a c;exact⟨p,_,rfl,i,d,b,k _ _ (x8 e q)⟩
theorem uu(a:X.K=K):C3 K X .In (rIn K false) (in3 false):=⟨by subst a;exact IA,UC false⟩
theorem aI.lookup:∀ {ns:Ls0} {xs:List D} {c:List (Str×V)} {f:Str} {d:D},c.map (·.1)=ns->aI K F xs (c.map (·.2))->(ns.zip xs).lookup f=some d->∃ v,c.lookup f=some v/\Rep K F d v
 | [],_,[],f,d,_,_,h=>by simp at h
 | n::ns,xs,(m,u)::c,f,d,b,g,a=>by
  simp only[qq,Zo] at b;obtain⟨rfl,b⟩:=b;cases xs with
  | nil=>simp at a
  | cons x xs=>
   obtain⟨v,i,e,r,g⟩:=g;simp only[qq,Zo] at e;obtain⟨rfl,rfl⟩:=e;rw[ZZ,fw] at a;rw[fw];cases q:f == m with
   | true=>rw[q] at a;cases a;exact⟨_,rfl,r⟩
   | false=>rw[q] at a;exact aI.lookup b g a
end
set_option genInjectivity false in
structure E3 where
 nx:G->Prop
 rt:RV->G->Prop
 bk:G->Prop:=λ_=>False
 ct:G->Prop:=λ_=>False
abbrev TS3:=E3->G->Prop
structure HY (K:Fg0) (B:Bs) (F:Hp) (D:Ends) (D3:E3):Prop where
 nx:∀ F' σ' H' Γ',aS F F'->En K B F' σ' H' Γ'->D3.nx Γ'->D.nx σ' H'
 rt:∀ F' σ' H' Γ' v r,aS F F'->En K B F' σ' H' Γ'->qF K B F' σ' H' Γ' v r->D3.rt r Γ'->D.rt v H'
 bk:∀ F' σ' H' Γ',aS F F'->En K B F' σ' H' Γ'->D3.bk Γ'->D.bk σ' H'
 ct:∀ F' σ' H' Γ',aS F F'->En K B F' σ' H' Γ'->D3.ct Γ'->D.ct σ' H'
theorem HY.mono{B:Bs}{F f:Hp}{D:Ends}{D3:E3}(h:HY K B F D D3)(s:aS F f):HY K B f D D3:=
 ⟨λe a d b c=>h.nx e a d b (s.trans c),λe a d b v r c=>h.rt e a d b v r (s.trans c),λe a d b c=>h.bk e a d b (s.trans c),λe a d b c=>h.ct e a d b (s.trans c)⟩
def OL (K:Fg0)(t:TS)(b:TS3):Prop:=∀ (B:Bs) (F:Hp) (σ:_2.St) (H:Hp) (Γ:G) (D:Ends) (a:E3),En K B F σ H Γ->HY K B F D a->b a Γ->t D σ H
structure P3S (K:Fg0) (X:Cx) (st:Stmt) (t:TS) (t3:TS3):Prop where
 pe:PS X st t
 rf:OL K t t3
structure xc (K:Fg0) (X:Cx) (st:List Stmt) (t:TS) (t3:TS3):Prop where
 pe:PSs X st t
 rf:OL K t t3
section
variable {X:Cx}{B:Bs}{F H:Hp}{Γ:G}
noncomputable def WA:Option Sl->Bool
 | some (.ln _)=>false
 | _=>true
noncomputable def frB:G->Nat->Bool
 | s::_,0=>WA s
 | _::Γ,i + 1=>frB Γ i
 | [],_=>false
def cu (Γ:G)(i:Nat):Prop:=match Γ[i]? with
 | some (some (.ln _))=>False
 | some _=>True
 | none=>False
theorem DG:∀ {Γ:G} {i:Nat},frB Γ i=true->cu Γ i
 | [],_,h=>by cases h
 | s::_,0,h=>by rcases s with _ | s;trivial;cases s;trivial;trivial;cases h
 | _::Γ,i + 1,h=>DG (Γ:=Γ) h
theorem lI(h:cu Γ i):i < Γ.length:=by
 unfold cu at h;split at h
 .exact h.elim
 .rename_i q;exact(gS0 q).1
 .exact h.elim
theorem aT{b:Type}{l:List b}{a:b}(h:i < l.length):(l.set i a)[i]?=some a:=by
 rw[YG,if_pos rfl,if_pos h]
theorem En.set(e:En K B F σ H Γ)(s:cu Γ i){v:V}{r:RV}(n:qF K B F σ H Γ v r)(A:autoParam (r.pl=true) wE):En K B F (σ.set i (some v)) H (Γ.set i (some r.sl)):=by
 have il:=lI s;have m:i < σ.length:=by rw[e.len];exact il
 have J:∀ d,Γ[i]?≠some (some (Sl.ln d)):=λd q=>by unfold cu at s;rw[q] at s;exact s
 have c:∀ {j:Nat},j≠i->(Γ.set i (some r.sl))[j]?=Γ[j]?/\(σ.set i (some v))[j]?=σ[j]?:=λh=>⟨aR (rl h),aR (rl h)⟩;have f:∀ {j x},Hld (Γ.set i (some r.sl)) j x->(j=i/\r=.fr x)\/(j≠i/\Hld Γ j x):=λ{j x} q=>by
  by_cases z:j=i
  .subst z
   left
   refine⟨rfl,?_⟩;rcases q with q | q <;> rw[aT il] at q <;> cases r <;> first | (cases A;done) | (cases q;done) | (cases q;rfl)
  .right
   exact⟨z,by unfold Hld at q ⊢;rw[(c z).1] at q;exact q⟩
 refine⟨e.sub,by rw[tr,tr];exact e.len,?_,?_,?_,?_,?_,?_,e.keep,e.new,e.rest,e.dom⟩
 .intro j d q;by_cases z:j=i
  .subst z;rw[aT il] at q;cases r with
   | fz x=>cases q;exact⟨v,aT m,n⟩
   | fr x=>cases q
   | two N M=>cases A
   | rws G=>cases A
  .rw[(c z).1] at q;rw[(c z).2];exact e.fz j d q
 .intro j d q;rcases f q with ⟨rfl,rfl⟩ | ⟨z,q⟩
  .obtain⟨p,rfl,w,u,t,o⟩:=n;exact⟨p,aT m,w,u⟩
  .rw[(c z).2];exact e.hl j d q
 .intro j d p q a;rcases f (.inl q) with ⟨rfl,rfl⟩ | ⟨z,_⟩
  .obtain⟨E,rfl,w,u,t,o⟩:=n;rw[aT m] at a;cases a;exact t
  .rw[(c z).1] at q;rw[(c z).2] at a;exact e.ow j d p q a
 .intro j d p q a;rcases f (.inr q) with ⟨rfl,rfl⟩ | ⟨z,_⟩
  .rw[aT il] at q;cases q
  .rw[(c z).1] at q;rw[(c z).2] at a;exact e.ln j d p q a
 .intro j k d L p I D l g;rcases f I with ⟨rfl,rfl⟩ | ⟨z1,C⟩
  .rcases f D with ⟨rfl,h⟩ | ⟨z2,y⟩
   .rfl
   .obtain⟨E,rfl,w,u,t,o⟩:=n;rw[aT m] at l;cases l;rw[(c z2).2] at g;exact absurd g (o k _ y)
  .rcases f D with ⟨rfl,h⟩ | ⟨z2,y⟩
   .subst h;obtain⟨E,rfl,w,u,t,o⟩:=n;rw[aT m] at g;cases g;rw[(c z1).2] at l;exact absurd l (o j _ C)
   .rw[(c z1).2] at l;rw[(c z2).2] at g;exact e.dis j k d L p C y l g
 .intro j p q;obtain⟨a,d,b⟩:=e.par j p q;have z:j≠i:=λz=>by subst z;exact J d b
  rw[(c z).1,(c z).2];exact⟨a,d,b⟩
theorem En.forget(e:En K B F σ H Γ)(g:cu Γ i):En K B F σ H (Γ.set i none):=by
 have m:∀ d,Γ[i]?≠some (some (Sl.ln d)):=λd q=>by unfold cu at g;rw[q] at g;exact g
 have il:=lI g;have f:∀ {j:Nat} {s:Sl},(Γ.set i none)[j]?=some (some s)->j≠i/\Γ[j]?=some (some s):=λ{j s} q=>by
  by_cases z:j=i
  .subst z;rw[aT il] at q;cases q
  .exact⟨z,by rw[aR (rl z)] at q;exact q⟩
 have c:∀ {j x},Hld (Γ.set i none) j x->Hld Γ j x:=λq=>q.imp (λq=>(f q).2) (λq=>(f q).2);exact⟨e.sub,by rw[tr];exact e.len,λj d q=>e.fz j d (f q).2,λj d q=>e.hl j d (c q),λj d p q=>e.ow j d p (f q).2,λj d p q=>e.ln j d p (f q).2,λj k d n p l h=>e.dis j k d n p (c l) (c h),
  λj p q=>by
   obtain⟨a,d,b⟩:=e.par j p q;have z:i≠j:=λz=>by subst z;exact m d b
   exact⟨a,d,by rw[aR z];exact b⟩,e.keep,e.new,e.rest,e.dom⟩
set_option backward.eqns.nonrecursive false in
def Mp (i:Nat)(Γ:G)(Q:RV->G->Prop):Prop:=match Γ[i]? with
 | some (some (.fz d))=>Q (.fz d) Γ
 | some (some (.ow d))=>Q (.fr d) (Γ.set i none)
 | _=>False
theorem Qm(i:Nat):Ref K (kS i) (Mp i):=by
 intro B F o H g Q r e h k;unfold Mp at h;split at h
 .rename_i d q;obtain⟨v,c,f⟩:=e.fz i d q;exact⟨v,c,k _ _ (oa e f h)⟩
 .rename_i d q;obtain⟨p,c,f,m⟩:=e.hl i d (.inl q);have l:cu g i:=by unfold cu;rw[q];trivial
  have n:=e.forget l;refine⟨_,c,k _ _ ⟨F,_,.fr d,aS.refl F,n,⟨p,rfl,f,m,e.ow i d p q c,λj x hj=>?_⟩,h⟩⟩;intro a;have b:j≠i/\Hld g j x:=by
   by_cases z:j=i
   .subst z;rcases hj with hj | hj <;> rw[aT (lI l)] at hj <;> cases hj
   .exact⟨z,by unfold Hld at hj ⊢;rw[aR (rl z)] at hj;exact hj⟩
  exact b.1 (e.dis j i x d p b.2 (.inl q) a c)
 .exact h.elim
theorem qt(i:Nat)(d:autoParam (X.N[i]?=some x) wE)(b:autoParam (Vis X.env.scope x) wq2)(c:autoParam ((x == ("__debug__":Str))=false) wP)(a:autoParam ((x == ("__classdict__":Str))=false) wP):P3 K X (.Name x pos) (kS i) (Mp i):=⟨Di d b c a,Qm i⟩
variable {rest:List Stmt}{t u:TS}{t3 u3:TS3}{te:TE}{e3:TE3}
def O6 (D:E3)(Γ:G):Prop:=D.nx Γ
def Tn (t u:TS3)(D:E3)(Γ:G):Prop:=t { D with nx:=u D } Γ
def Tq (a:TE3)(D:E3)(Γ:G):Prop:=a Γ D.rt
def Pw (b:TE3)(D:E3)(Γ:G):Prop:=b Γ λ_ a=>D.nx a
theorem aV:xc K X [] OS O6:=⟨M6,λB F a H b D c e k q=>k.nx F a H b (aS.refl F) e q⟩
theorem aj(f:P3S K X st t t3)(d:xc K X rest u u3):xc K X (st::rest) (P0 t u) (Tn t3 u3):=⟨EG f.pe d.pe,λB F g H h D c e k q=>
 f.rf B F g H h _ { c with nx:=u3 c } e ⟨λm a l b s j i=>d.rf B m a l b _ c j (k.mono s) i,k.rt,k.bk,k.ct⟩ q⟩
theorem ai(a:P3S K X st t t3):xc K X [st] t t3:=⟨M5 a.pe,a.rf⟩
theorem aq(h:P3 K X e te e3):P3S K X (.Return (some e) pos) (S9 te) (Tq e3):=⟨Qw h.pe,λB F b H c D l e k q=>
 h.rf B F b H c _ _ e q λv i ⟨j,a,r,s,g,d,f⟩=>k.rt j b i a v r s g d f⟩
theorem dJ(h:P3 K X e te e3)(f:autoParam (XQ e none pos.line X.env=pure false) wE):P3S K X (.Expr e pos) (OT te) (Pw e3):=⟨M7 h.pe f,λB F b H c D m e k q=>
 h.rf B F b H c _ _ e q λv i ⟨j,a,r,s,g,l,d⟩=>k.nx j b i a s g d⟩
def bG (c:Bool)(t u:TS3)(a:E3)(Γ:G)(_:Tag (t,u,a)):Prop:=match c with
 | true=>t a Γ
 | false=>u a Γ
def UH (b:TT3)(t u:TS3)(D:E3)(Γ:G):Prop:=b Γ λc a=>bG c t u D a ⟨⟩
theorem bg{c:Expr}{a b:List Stmt}{g:TT}{r:TT3}(i:P3T K X c g r)(l:xc K X a t t3)(j:xc K X b u u3):P3S K X (.If c a b pos) (Tb g t u) (UH r t3 u3):=⟨TF i.pe l.pe j.pe,λB F f H v D p e k q=>
 i.rf B F f H v _ _ e q λc n Z=>by
  obtain⟨o,d,s,m,h⟩:=Z;cases c with
  | true=>exact IV (l.rf B o f n d D p m (k.mono s) h)
  | false=>exact IW (j.rf B o f n d D p m (k.mono s) h)⟩
theorem dr:P3S K X st JL (λ_ _=>False):=⟨Km,λB F a H b D c e k q=>q⟩
def MB (i:Nat)(b:TE3)(D:E3)(Γ:G):Prop:=b Γ λr a=>bT (frB a i) (D.nx (a.set i (some r.sl))) False ⟨⟩ ⟨⟩
theorem Hh(h:Ref K te e3):OL K (xj te (rH i)) (MB i e3):=λB F c H f D x e k q=>
 h B F c H f _ _ e q λv p Z=>by
  obtain⟨w,d,r,s,o,j,b⟩:=Z;obtain⟨hf,b⟩:=xY b;replace hf:=DG hf;obtain⟨t,u,g,n,a,m,l⟩:=o.norm j;exact k.nx t _ p _ (s.trans g) (by have:=n.set hf a l;rw[m] at this;exact this) b
theorem aP(g:X.N.Nodup)(d:X.N[i]?=some x)(b:Loc X.env.scope x)(a:P3 K X e te e3)(c:autoParam (XQ e (some (.Name x pos')) pos.line X.env=pure false) wE)(f:autoParam (X.fn x=true\/X.env.scope.names.lookup x=some .local) wq0) :
  P3S K X (.Assign [.Name x pos'] e pos) (xj te (rH i)) (MB i e3):=⟨Qv g d b a.pe c f,Hh a.rf⟩
def TU (i j:Nat)(b:TA3)(D:E3)(Γ:G):Prop:=b Γ λds a=>∃ d d',ds=[d,d']/\cu a i/\cu (a.set i (some (.fz d))) j/\D.nx ((a.set i (some (.fz d))).set j (some (.fz d')))
theorem Qe{y:Str}{b:Expr}{ta:TA}{l:TA3}{c f:Pos}{kt k2 I}(O:X.calm=true)(P:X.N.Nodup)(N:X.N[i]?=some x)(M:X.N[j]?=some y)(g:i≠j)(G:X.env.scope.names.lookup x=some .local)(E:X.env.scope.names.lookup y=some .local)(h:P3A K X [a,b] ta l)(J:Wt [.Tuple [.Name x px,.Name y c] kt f] (.Tuple [a,b] k2 I) X.env=pure (some [x,y]))(L:autoParam (Ws [.Tuple [.Name x px,.Name y c] kt f] (.Tuple [a,b] k2 I) pos.line X.env=pure false) wE) :
  P3S K X (.Assign [.Tuple [.Name x px,.Name y c] kt f] (.Tuple [a,b] k2 I) pos) (P1 i j ta) (TU i j l):=⟨Kl O P N M g G E h.pe J L,λB F m H o D D3 e k q=>
 h.rf B F m H o _ _ e q λvs V Z=>by
  obtain⟨W,n,ds,s,T,t,d,U,S,R,Q,C⟩:=Z;subst S;obtain⟨v,Y,rfl,A,w,p,rfl,z,u⟩:=t;cases u;refine⟨v,w,rfl,k.nx W _ V _ s ?_ C⟩;exact(T.set (r:=.fz d) R A).set (r:=.fz U) Q z⟩
noncomputable def gives (Γ:G):List Nat->List D->Option G
 | [],[]=>some Γ
 | i::is,d::ds=>gives (Γ.set i (some (.fz d))) is ds
 | _,_=>none
noncomputable def frees (Γ:G):List Nat->List D->Prop
 | [],_=>True
 | i::is,d::ds=>cu Γ i/\frees (Γ.set i (some (.fz d))) is ds
 | _,_=>True
noncomputable def xM:List Nat->TGs
 | []=>U7
 | i::is=>Pp (rH i) (xM is)
theorem AQ:∀ {Γ:G} {σ:_2.St} {vs:List V} {ds:List D} {Γ':G} {QQ:_2.St->Hp->Prop},En K B F σ H Γ->aI K F ds vs->gives Γ is ds=some Γ'->frees Γ is ds->(∀ σ',En K B F σ' H Γ'->QQ σ' H)->xM is vs σ H QQ:=by
 induction is with
 | nil=>
  intro Γ σ vs ds Γ' QQ e r g f k;cases ds with
  | nil=>cases g;cases r;exact⟨rfl,k σ e⟩
  | cons d ds=>cases g
 | cons i is h=>
  intro Γ σ vs ds Γ' QQ e r g f k;cases ds with
  | nil=>cases g
  | cons d ds=>
   obtain⟨v,a,rfl,c,b⟩:=r;exact⟨v,a,rfl,h (e.set (r:=.fz d) f.1 c) b g f.2 k⟩
noncomputable def gvF:G->List Nat->List D->(G->Prop)->Prop
 | Γ,[],[],Q=>Q Γ
 | Γ,i::is,d::ds,Q=>bT (frB Γ i) (gvF (Γ.set i (some (.fz d))) is ds Q) False ⟨⟩ ⟨⟩
 | _,_,_,_=>False
theorem GK:∀ {is:List Nat} {ds:List D} {Γ:G} {Q:G->Prop},gvF Γ is ds Q->∃ Γ',gives Γ is ds=some Γ'/\frees Γ is ds/\Q Γ'
 | [],[],Γ,_,h=>⟨Γ,rfl,trivial,h⟩
 | [],_::_,_,_,h=>h.elim
 | _::_,[],_,_,h=>h.elim
 | _::_,_::_,_,_,h=>let ⟨a,b⟩:=xY h;let ⟨Γ',c,e,f⟩:=GK b;⟨Γ',c,⟨DG a,e⟩,f⟩
theorem U1{Γ:G}{Q:G->Prop}:gvF Γ [] [] Q=Q Γ:=rfl
theorem U2{Γ:G}{d:D}{ds:List D}{Q:G->Prop}:gvF Γ (i::is) (d::ds) Q=bT (frB Γ i) (gvF (Γ.set i (some (.fz d))) is ds Q) False ⟨⟩ ⟨⟩:=rfl
def OY (is:List Nat)(b:TE3)(D:E3)(Γ:G):Prop:=b Γ λr a=>mL (JH r.d) (λds=>gvF a is ds D.nx) ⟨⟩
theorem Cu:∀ {Γ Γ':G} {ds:List D},gives Γ is ds=some Γ'->ds.length=is.length:=by
 induction is with
 | nil=>intro Γ Γ' ds h;cases ds with | nil=>rfl | cons=>cases h
 | cons i is a=>intro Γ Γ' ds h;cases ds with | nil=>cases h | cons d ds=>simp [a h]
theorem pB{kt:Nat}{a:Pos}(E:X.K=K)(g:P3 K X e te e3)(A:PGs X es (xM is))(C:X.calm=true)(z:autoParam ((PP es X.env).length=is.length) wE)(d:autoParam ((PP es X.env).findIdx? (·.1)=none) wE)(y:autoParam (Ws [.Tuple es kt a] e pos.line X.env=pure false) wE)(x:autoParam (Wt [.Tuple es kt a] e X.env=pure none) wE)(h1:autoParam ((PP [.Tuple es kt a] X.env).map (·.2)=[assign (.Tuple es kt a) X.env]) wE) :
  P3S K X (.Assign [.Tuple es kt a] e pos) (xj te (R1 K is.length (xM is))) (OY is e3):=⟨by subst E;exact FZ g.pe (Ku C A z d) y x h1,λB F l H n D P e k q=>
 g.rf B F l H n _ _ e q λv N Z=>by
  obtain⟨O,m,r,s,J,u,Z⟩:=Z;obtain⟨M,h1,Z⟩:=xE.1 Z;replace h1:=tup_is h1;obtain⟨c,i,I,w⟩:=GK Z;obtain⟨L,t,j,f⟩:=J.frozen u;rw[h1] at f;obtain⟨p,o,rfl,G,h⟩:=f;refine⟨p,o,rfl,.inl (.inl (j.sub _ _ G)),by rw[h.length,Cu i],AQ j h i I λb e3=>k.nx L b _ c (s.trans t) e3 w⟩⟩
set_option backward.eqns.nonrecursive false in
noncomputable def putD (Γ:G)(i:Nat)(d:D):G:=match Γ[i]? with
 | some (some (.ow _))=>Γ.set i (some (.ow d))
 | some (some (.ln _))=>Γ.set i (some (.ln d))
 | _=>Γ
set_option backward.eqns.nonrecursive false in
noncomputable def eZ (Γ:G)(i:Nat):Option (List D):=match Γ[i]? with
 | some (some (.ow (.lst xs)))=>some xs
 | some (some (.ln (.lst xs)))=>some xs
 | _=>none
theorem Cq{xs:List D}(h:eZ Γ i=some xs):Hld Γ i (.lst xs):=by
 unfold eZ at h;split at h
 .cases h;rename_i q;exact .inl q
 .cases h;rename_i q;exact .inr q
 .cases h
theorem En.Rf(e:En K B F σ H Γ){E m:D}(C:Hld Γ i E)(w:σ[i]?=some (some (V.ref p))){G:HO}(r:Own K F (upd H p G) p m):En K B F σ (upd H p G) (putD Γ i m):=by
 obtain⟨T,J,I,S⟩:=e.hl i _ C;rw[w] at J;cases J;obtain⟨o,U⟩:=S.some;have l:(Γ[i]?=some (some (Sl.ow E))/\putD Γ i m=Γ.set i (some (.ow m)))\/(Γ[i]?=some (some (Sl.ln E))/\putD Γ i m=Γ.set i (some (.ln m))):=by
  rcases C with q | q
  .exact .inl ⟨q,by unfold putD;rw[q]⟩
  .exact .inr ⟨q,by unfold putD;rw[q]⟩
 have il:i < Γ.length:=by rcases l with ⟨q,_⟩ | ⟨q,_⟩ <;> exact(gS0 q).1
 have f:∀ {j:Nat},j≠i->(putD Γ i m)[j]?=Γ[j]?:=λz=>by
  rcases l with ⟨_,q⟩ | ⟨_,q⟩ <;> rw[q,aR (rl z)]
 have same:∀ {s:Sl},(putD Γ i m)[i]?=some (some s)->(s=.ow m/\Γ[i]?=some (some (Sl.ow E)))\/(s=.ln m/\Γ[i]?=some (some (Sl.ln E))):=λ{s} q=>by
  rcases l with ⟨a,b⟩ | ⟨a,b⟩
  .rw[b,aT il] at q;cases q;exact .inl ⟨rfl,a⟩
  .rw[b,aT il] at q;cases q;exact .inr ⟨rfl,a⟩
 have A:∀ {j x},Hld (putD Γ i m) j x->(j=i/\x=m)\/(j≠i/\Hld Γ j x):=λ{j x} q=>by
  by_cases z:j=i
  .subst z
   left
   rcases q with q | q <;> rcases same q with ⟨h,_⟩ | ⟨h,_⟩ <;> cases h <;> exact⟨rfl,rfl⟩
  .right;exact⟨z,by unfold Hld at q ⊢;rw[f z] at q;exact q⟩
 have v:∀ {j x},Hld (putD Γ i m) j x->∃ y,Hld Γ j y:=λq=>by
  rcases A q with ⟨rfl,_⟩ | ⟨_,q⟩
  .exact⟨_,C⟩
  .exact⟨_,q⟩
 refine⟨?_,?_,?_,?_,?_,?_,?_,?_,e.keep,e.new,?_,?_⟩
 .intro b u q;have z:b≠p:=λz=>by subst z;rw[I] at q;cases q
  rw[ar z];exact e.sub b u q
 .rcases l with ⟨_,q⟩ | ⟨_,q⟩ <;> rw[q,tr] <;> exact e.len
 .intro j d q;by_cases z:j=i
  .subst z;rcases same q with ⟨h,_⟩ | ⟨h,_⟩ <;> cases h
  .rw[f z] at q;exact e.fz j d q
 .intro j d q;rcases A q with ⟨rfl,rfl⟩ | ⟨z,q⟩
  .exact⟨p,w,I,r⟩
  .obtain⟨t,a,b,c⟩:=e.hl j d q;have P:t≠p:=λy=>z (e.dis j i _ _ p q C (y ▸ a) w);exact⟨t,a,b,c.mono (aS.refl F) (ar P)⟩
 .intro j d t q a;by_cases z:j=i
  .subst z;rcases same q with ⟨h,g⟩ | ⟨h,g⟩
   .exact e.ow j _ t g a
   .cases h
  .rw[f z] at q;exact e.ow j d t q a
 .intro j d t q a;by_cases z:j=i
  .subst z;rcases same q with ⟨h,g⟩ | ⟨h,g⟩
   .cases h
   .exact e.ln j _ t g a
  .rw[f z] at q;exact e.ln j d t q a
 .intro j k d W t O N;obtain⟨M,R⟩:=v O;obtain⟨L,Q⟩:=v N;exact e.dis j k M L t R Q
 .intro j t q;obtain⟨a,d,b⟩:=e.par j t q;refine⟨a,?_⟩;by_cases z:j=i
  .subst z;rcases l with ⟨c,_⟩ | ⟨_,c⟩
   .rw[b] at c;cases c
   .exact⟨_,by rw[c,aT il]⟩
  .exact⟨d,by rw[f z];exact b⟩
 .intro b u q n;have z:b≠p:=λz=>by
   subst z;rcases C with g | g
   .rw[e.ow i _ _ g w] at q;cases q
   .exact n i (e.ln i _ _ g w)
  rw[ar z];exact e.rest b u q n
 .intro b q;by_cases z:b=p
  .subst z;rw[ax] at q;cases q
  .rw[ar z] at q;exact e.dom b q
theorem En.mut(e:En K B F σ H Γ){xs b:List D}(h:eZ Γ i=some xs)(c:σ[i]?=some (some (V.ref p))){a:List V}(r:aI K F b a):En K B F σ (upd H p (.lst a)) (putD Γ i (.lst b)):=
 e.Rf (Cq h) c ⟨a,ax,r⟩
end
section
variable {X:Cx}{B:Bs}{F H:Hp}{Γ:G}
noncomputable def newD:On->G->Nat->Option D
 | some a::ls,s::cs,j=>if a=j then (match s with
   | some (.ln d)=>some d
   | _=>newD ls cs j) else newD ls cs j
 | none::ls,_::cs,j=>newD ls cs j
 | _,_,_=>none
theorem kK:∀ {ls:On} {cs:G} {j:Nat} {d:D},newD ls cs j=some d->∃ k:Nat,ls[k]?=some (some j)/\cs[k]?=some (some (Sl.ln d))
 | some c::ls,s::cs,j,d,h=>by
  unfold newD at h;split at h
  .rename_i e;subst e;split at h
   .cases h;exact⟨0,rfl,rfl⟩
   .obtain⟨k,a,b⟩:=kK h;exact⟨k + 1,by simpa using a,by simpa using b⟩
  .obtain⟨k,a,b⟩:=kK h;exact⟨k + 1,by simpa using a,by simpa using b⟩
 | none::ls,_::cs,j,d,h=>by
  unfold newD at h;obtain⟨k,a,b⟩:=kK h;exact⟨k + 1,by simpa using a,by simpa using b⟩
 | [],_,_,_,h=>by unfold newD at h;cases h
 | some _::_,[],_,_,h=>by unfold newD at h;cases h
 | none::_,[],_,_,h=>by unfold newD at h;cases h
theorem zA:∀ {ls:On} {cs:G} {j k:Nat} {d:D},ls[k]?=some (some j)->cs[k]?=some (some (Sl.ln d))->∃ d',newD ls cs j=some d'
 | [],_,_,_,_,h,_=>by simp at h
 | _::_,[],_,_,_,_,h=>by simp at h
 | some b::ls,s::cs,j,0,d,h,a=>by
  simp at h a;subst h a;exact⟨d,by unfold newD;rw[if_pos rfl]⟩
 | none::ls,s::cs,j,0,d,h,a=>by simp at h
 | some b::ls,s::cs,j,k + 1,d,h,a=>by
  unfold newD;split
  .split
   .exact⟨_,rfl⟩
   .exact zA (k:=k) (by simpa using h) (by simpa using a)
  .exact zA (k:=k) (by simpa using h) (by simpa using a)
 | none::ls,s::cs,j,k + 1,d,h,a=>by
  unfold newD;exact zA (k:=k) (by simpa using h) (by simpa using a)
noncomputable def fc (n:Option D):Option Sl->Option Sl
 | some (.ow d)=>some (.ow (n.getD d))
 | some (.ln d)=>some (.ln (n.getD d))
 | s=>s
noncomputable def BI:G->Nat->D->G
 | s::Γ,0,d=>fc (some d) s::Γ
 | s::Γ,i + 1,d=>s::BI Γ i d
 | [],_,_=>[]
noncomputable def aZ:On->G->G->G
 | [],Γ,_=>Γ
 | none::ls,Γ,cs=>aZ ls Γ cs.tail
 | some i::ls,Γ,some (.ln d)::cs=>BI (aZ ls Γ cs) i d
 | some _::ls,Γ,cs=>aZ ls Γ cs.tail
theorem w9(s:Option Sl):fc none s=s:=by
 rcases s with _|s;rfl;cases s<;>rfl
theorem EF {d:D}:∀ {Γ:G} {i j:Nat},(BI Γ i d)[j]?=(Γ[j]?).map (fc (if i=j then some d else none))
 | [],_,_=>by simp [BI]
 | s::Γ,0,0=>rfl
 | s::Γ,0,j + 1=>by rw[if_neg (by lia),show fc none=id from funext w9,ZQ];rfl
 | s::Γ,i + 1,0=>by rw[if_neg (by lia),show fc none=id from funext w9,ZQ];rfl
 | s::Γ,i + 1,j + 1=>by
  have:=EF (d:=d) (Γ:=Γ) (i:=i) (j:=j);simpa [BI] using this
theorem vQ:∀ {ls:On},newD ls [] j=none
 | []=>rfl
 | none::_=>rfl
 | some _::_=>rfl
theorem bR {j:Nat}:∀ {ls:On} {Γ cs:G},(aZ ls Γ cs)[j]?=(Γ[j]?).map (fc (newD ls cs j))
 | [],Γ,cs=>by rw[show newD [] cs j=none from rfl,show fc none=id from funext w9,ZQ];rfl
 | none::ls,Γ,[]=>by rw[vQ];exact(bR (ls:=ls) (cs:=[])).trans (by rw[vQ])
 | none::ls,Γ,_::cs=>bR (ls:=ls) (cs:=cs)
 | some i::ls,Γ,[]=>by rw[vQ];exact(bR (ls:=ls) (cs:=[])).trans (by rw[vQ])
 | some i::ls,Γ,s::cs=>by
  have h:=bR (j:=j) (ls:=ls) (Γ:=Γ) (cs:=cs);have n:(∀ d,s≠some (.ln d))->(aZ (some i::ls) Γ (s::cs))[j]?=(Γ[j]?).map (fc (newD (some i::ls) (s::cs) j)):=λw=>by
   have e:newD (some i::ls) (s::cs) j=newD ls cs j:=by
    rcases s with _|s
    .exact ite_self _
    cases s with
    | fz=>exact ite_self _
    | ow=>exact ite_self _
    | ln=>exact absurd rfl (w _)
   rw[e,<-h];rcases s with _|s;rfl;cases s;rfl;rfl;exact absurd rfl (w _)
  rcases s with _|s
  .exact n nofun
  cases s with
  | fz=>exact n nofun
  | ow=>exact n nofun
  | ln d=>
   show (BI (aZ ls Γ cs) i d)[j]?=_;rw[EF,h,Option.map_map]
   congr 1;funext s
   show fc (if i=j then some d else none) (fc (newD ls cs j) s)=fc (if i=j then some d else newD ls cs j) s;split
   .rcases s with _|s;rfl;cases s<;>rfl
   .exact w9 _
theorem CO{Γ cs:G}:(aZ ls Γ cs).length=Γ.length:=Nat.le_antisymm
 (Nat.not_lt.1 λh=>by have:=bR (ls:=ls) (Γ:=Γ) (cs:=cs) (j:=Γ.length);rw[gE0 h,ox (ek _)] at this;cases this)
 (Nat.not_lt.1 λh=>by have:=bR (ls:=ls) (Γ:=Γ) (cs:=cs) (j:=(aZ ls Γ cs).length);rw[gE0 h,ox (ek _)] at this;cases this)
theorem En.back{M E:Hp}{own':List (Nat×Addr)}{f:G}(e:En K B M σ E Γ)(g:En K ⟨M,E,own'⟩ F σc H f)(I:∀ k p,(k,p)∈own'->∃ j d,ls[k]?=some (some j)/\Hld Γ j d/\σ[j]?=some (some (V.ref p))):En K B F σ H (aZ ls Γ f):=by
 have J:∀ {j d},(aZ ls Γ f)[j]?=some (some (Sl.fz d))->Γ[j]?=some (some (Sl.fz d)):=λ{j d} q=>by
  rw[bR] at q;cases w:Γ[j]? with
  | none=>rw[w] at q;cases q
  | some s=>
   rw[w] at q;cases s with
   | none=>cases q
   | some s=>cases s <;> cases q;rfl
 have r:∀ {j d},(aZ ls Γ f)[j]?=some (some (Sl.ow d))->∃ d0,Γ[j]?=some (some (Sl.ow d0))/\d=(newD ls f j).getD d0:=λ{j d} q=>by
  rw[bR] at q;cases w:Γ[j]? with
  | none=>rw[w] at q;cases q
  | some s=>
   rw[w] at q;cases s with
   | none=>cases q
   | some s=>cases s <;> cases q;exact⟨_,rfl,rfl⟩
 have t:∀ {j d},(aZ ls Γ f)[j]?=some (some (Sl.ln d))->∃ d0,Γ[j]?=some (some (Sl.ln d0))/\d=(newD ls f j).getD d0:=λ{j d} q=>by
  rw[bR] at q;cases w:Γ[j]? with
  | none=>rw[w] at q;cases q
  | some s=>
   rw[w] at q;cases s with
   | none=>cases q
   | some s=>cases s <;> cases q;exact⟨_,rfl,rfl⟩
 have gh:∀ {j d},Hld (aZ ls Γ f) j d->∃ d0,Hld Γ j d0/\d=(newD ls f j).getD d0:=λ{j d} q=>by
  rcases q with q | q
  .obtain⟨d0,a,b⟩:=r q;exact⟨d0,.inl a,b⟩
  .obtain⟨d0,a,b⟩:=t q;exact⟨d0,.inr a,b⟩
 refine⟨g.sub,by rw[CO];exact e.len,?_,?_,?_,?_,?_,?_,e.keep.trans g.keep,?_,?_,?_⟩
 .intro j d q;obtain⟨v,a,b⟩:=e.fz j d (J q);exact⟨v,a,b.mono g.keep⟩
 .intro j d q;obtain⟨d0,N,rfl⟩:=gh q;obtain⟨p,a,b,c⟩:=e.hl j d0 N;obtain⟨o,C⟩:=c.some;have R:F p=none:=by
   cases w:F p with
   | none=>rfl
   | some u=>
    rcases g.new p u w with z | z
    .rw[show M p=some u from z] at b;cases b
    .rw[show E p=none from z] at C;cases C
  refine⟨p,a,R,?_⟩;cases w:newD ls f j with
  | some L=>
   obtain⟨k,x,y⟩:=kK w;obtain⟨O,U,Y,T⟩:=g.hl k L (.inr y);obtain⟨j2,P,A,_,D⟩:=I k O (g.ln k L O y U);rw[x] at A;cases A;rw[a] at D;cases D;exact T
  | none=>
   have h:∀ k,(k,p)∉own':=λk h=>by
    obtain⟨j2,P,A,l,D⟩:=I k p h;obtain⟨_,X,y⟩:=g.par k p h;have:j2=j:=e.dis j2 j P d0 p l N D a;subst this;obtain⟨W,z⟩:=zA A y;rw[w] at z;cases z
   have Q:H p=E p:=by rw[C];exact g.rest p o C h
   exact c.mono g.keep Q
 .intro j d p q a;obtain⟨d0,q,_⟩:=r q;exact e.ow j d0 p q a
 .intro j d p q a;obtain⟨d0,q,_⟩:=t q;exact e.ln j d0 p q a
 .intro i j d L p m l;obtain⟨d0,m,_⟩:=gh m;obtain⟨S,l,_⟩:=gh l;exact e.dis i j d0 S p m l
 .intro j p q;obtain⟨a,d,b⟩:=e.par j p q;exact⟨a,_,by rw[bR,b];rfl⟩
 .intro b o q;rcases g.new b o q with z | z
  .exact e.new b o z
  .exact .inr (e.dom b z)
 .intro b o q n;have m:=e.rest b o q n;refine g.rest b o m λk h=>?_;obtain⟨j,d,x,y,a⟩:=I k b h;rcases y with y | y
  .rw[e.ow j d b y a] at q;cases q
  .exact n j (e.ln j d b y a)
 .intro b q;exact e.dom b (g.dom b q)
structure ItR (K:Fg0) (F:Hp) (J:It) (xs:List D):Prop where
 go:∀ i H',aS F H'->i < xs.length->J.go i H'
 stop:∀ i H',aS F H'->i=xs.length->J.stop i H'
 yld:∀ i H' x H'' d,aS F H'->xs[i]?=some d->J.yld i H' x H''->(H''=H'/\Rep K F d x)\/∃ t vs ds,H' t=none/\H''=upd H' t (.tup vs)/\x=.ref t/\aI K F ds vs/\d=.tup ds
abbrev TI3:=G->(List D->G->Prop)->Prop
def Md (K:Fg0)(t:TI)(c:TI3):Prop:=∀ (B:Bs) (F:Hp) (σ:_2.St) (H:Hp) (Γ:G) (Q:List D->G->Prop) (R:It->Hp->Prop),En K B F σ H Γ->c Γ Q->(∀ J H1 b a xs,aS F b->En K B b σ H1 a->ItR K b J xs->Q xs a->R J H1)->t σ H R
structure P3I (K:Fg0) (X:Cx) (tg iter:Expr) (t:TI) (i3:TI3):Prop where
 pe:PI X tg iter t
 rf:Md K t i3
abbrev TG3:=D->G->(G->Prop)->Prop
def Jr (K:Fg0)(g:TG)(b:TG3):Prop:=∀ (B:Bs) (F:Hp) (σ:_2.St) (H:Hp) (Γ:G) (v:V) (d:D) (Q:G->Prop) (a:_2.St->Hp->Prop),En K B F σ H Γ->Rep K F d v->b d Γ Q->(∀ σ' Γ',En K B F σ' H Γ'->Q Γ'->a σ' H)->g v σ H a
structure P3G (K:Fg0) (X:Cx) (tg:Expr) (g:TG) (g3:TG3):Prop where
 pe:PG X tg g
 rf:Jr K g g3
def tgN (i:Nat)(d:D)(Γ:G)(Q:G->Prop):Prop:=bT (frB Γ i) (Q (Γ.set i (some (.fz d)))) False ⟨⟩ ⟨⟩
def tgT (is:List Nat)(d:D)(Γ:G)(Q:G->Prop):Prop:=mL (JH d) (λds=>gvF Γ is ds Q) ⟨⟩
theorem aY(f:X.N.Nodup)(b:X.N[i]?=some x)(a:Loc X.env.scope x)(c:autoParam (X.fn x=true\/X.env.scope.names.lookup x=some .local) wq0):P3G K X (.Name x pos) (rH i) (tgN i):=
 ⟨aL f b a c,λB F g H h v d Q j e r q k=>k _ _ (e.set (r:=.fz d) (DG (xY q).1) r) (xY q).2⟩
theorem gn{kt:Nat}(m:X.K=K)(j:PGs X es (xM is))(l:X.calm=true)(i:autoParam ((PP es X.env).length=is.length) wE)(c:autoParam ((PP es X.env).findIdx? (·.1)=none) wE) :
  P3G K X (.Tuple es kt pos) (R1 K is.length (xM is)) (tgT is):=⟨by subst m;exact Ku l j i c,λB F u H w v d Q y e r q k=>by
 obtain⟨x,s,q⟩:=xE.1 q;cases tup_is s;obtain⟨b,g,o,q⟩:=GK q;obtain⟨p,h,rfl,n,f⟩:=r;exact⟨p,h,rfl,.inl (.inl (e.sub _ _ n)),by rw[f.length,Cu g],AQ e f g o λa t=>k a b t q⟩⟩
theorem ItR.turn{J:It}{xs:List D}(R:ItR K F J xs){c f a:Hp}(s:aS F c)(e:En K B c σ f Γ){d:D}{x:V}(j:xs[i]?=some d)(y:J.yld i f x a):∃ g,aS c g/\En K B g σ a Γ/\Rep K g d x:=by
 rcases R.yld i f x a d (s.trans e.sub) j y with ⟨rfl,r⟩ | ⟨t,h,k,b,rfl,rfl,r,rfl⟩
 .exact⟨c,aS.refl c,e,r.mono s⟩
 .exact⟨upd c t (.tup h),bu (e.nof b),(e.alloc b _).freeze (e.nof b) ax (e.dom _ b) (e.Au b),t,h,rfl,ax,r.mono (s.trans (bu (e.nof b)))⟩
def Sa (c:TI3)(e:TG3)(f:TS3)(D:E3)(Γ:G):Prop:=c Γ λxs b=>∃ a:Nat->G->Prop,a 0 b/\(∀ k d Γ,xs[k]?=some d->a k Γ->e d Γ λΓ'=>f { D with nx:=a (k + 1),ct:=a (k + 1),bk:=D.nx } Γ')/\∀ Γ,a xs.length Γ->D.nx Γ
theorem k_{l:List Stmt}{M:TI}{P:TI3}{g:TG}{V:TG3}{N:TS}{W:TS3}(hp:ab4 (model X.prog X.w) X.A X.env X.xe)(hc:X.calm=true)(Q:P3I K X tg iter M P)(S:P3G K X tg g V)(U:xc K X l N W)(hs:autoParam (∀ x,sF iter X.env x=pure x) wT) :
  P3S K X (.For tg iter l [] pos) (Tc M g N) (Sa P V W):=⟨Qx hp hc Q.pe S.pe U.pe hs,λB F C H Γ D D3 e k q=>by
 refine Q.rf B F C H Γ _ _ e q λJ H1 L E o G e1 R Z=>?_;obtain⟨A,i0,it,ie⟩:=Z;refine⟨λi m C H=>m=o.length - i/\i<=o.length/\∃ h d,aS L h/\En K B h C H d/\A i d,⟨_,rfl,Do _,L,E,aS.refl _,e1,i0⟩,?_⟩;rintro i m p I ⟨rfl,a1,F2,j,t,w,O⟩;by_cases lt:i < o.length
 .refine .inr ⟨R.go i I (t.trans w.sub) lt,λf n=>∃ h d,aS L h/\En K B h f n d/\A (i + 1) d,λf n ⟨h,d,a,b,c⟩=>⟨o.length - (i + 1),by lia,rfl,lt,h,d,a,b,c⟩,λx Y y=>?_⟩;have T:o[i]?=some o[i]:=gE0 lt;obtain⟨F3,s3,e3,r3⟩:=R.turn t w T y;refine S.rf B F3 p Y j x _ _ _ e3 r3 (it i _ j T O) λf d e4 q4=>?_;have u:=t.trans s3;refine U.rf B F3 f Y d _ { D3 with nx:=A (i + 1),ct:=A (i + 1),bk:=D3.nx } e4 ⟨λh f n d s e q=>⟨h,d,u.trans s,e,q⟩,λh f n d v r s e rv q=>k.rt h f n d v r ((G.trans u).trans s) e rv q,λh f n d s e q=>k.nx h f n d ((G.trans u).trans s) e q,λh f n d s e q=>⟨h,d,u.trans s,e,q⟩⟩ q4
 .have z:i=o.length:=by lia
  subst z;exact .inl ⟨R.stop _ I (t.trans w.sub) rfl,k.nx F2 p I j (G.trans t) w (ie j O)⟩⟩
def iL3 (b:TE3)(Γ:G)(Q:List D->G->Prop):Prop:=b Γ λr a=>mL (Rj r.d) (λxs=>Q xs a) ⟨⟩
theorem eX{l:Expr}{tl:TE}{o:TE3}(G:X.K=K)(h:P3 K X l tl o):P3I K X tg l (Pg K tl) (iL3 o):=⟨by subst G;exact Nb h.pe,λB F u H w Q R e q k=>
 h.rf B F u H w _ _ e q λv L Z=>by
  obtain⟨S,j,r,s,J,C,Z⟩:=Z;obtain⟨z,hx,D⟩:=xE.1 Z;replace hx:=lst_is hx;obtain⟨M,A,t,n⟩:=J.frozen C;rw[hx] at n;obtain⟨p,a,rfl,g,m⟩:=n;refine⟨p,rfl,⟨a,SqL.of (t.sub _ _ g)⟩,k _ L M j z (s.trans A) t ⟨λi f b lt=>?_,λi f b N=>?_,λi f x P d b E y=>?_⟩ D⟩
  .rw[<- m.length] at lt;exact⟨a,a[i],SqL.of (b _ _ g),by simp [lt]⟩
  .exact⟨a,SqL.of (b _ _ g),by rw[m.length];lia⟩
  .obtain⟨I,y⟩:=y;obtain⟨O,c,r⟩:=m.N8 (y a (SqL.of (b _ _ g)));rw[E] at c;cases c;exact .inl ⟨I,r⟩⟩
noncomputable def rng (lo:Int)(n:Nat):List D:=(el n).map λ(k:Nat)=>D.int (lo + (k:Int))
theorem Tp{lo:Int}:ItR K F (Itr lo n) (rng lo n):=by
 have a:(rng lo n).length=n:=by simp [rng]
 refine⟨λi c _ lt=>by rw[a] at lt;exact lt,λi c _ e=>by rw[a] at e;exact Xu e.symm,λi c x j d _ b y=>?_⟩;obtain⟨h,g⟩:=y;subst h g;refine .inl ⟨rfl,?_⟩;have f:i < n:=by have:=(gS0 b).1;rw[a] at this;exact this
 have:(rng lo n)[i]?=some (.int (lo + i)):=by unfold rng;rw[cm,Bn f];rfl
 rw[this] at b;cases b
 rfl
def iR1 (b:TA3)(Γ:G)(Q:List D->G->Prop):Prop:=b Γ λds a=>mI (one? ds) (λj=>-(2 ^ 62)<=j/\j < 2 ^ 62/\Q (rng 0 j.toNat) a) ⟨⟩
theorem bM{ta:TA}{d:TA3}{p:Pos}(r:Gl X "range")(o:X.mg "range"=none)(c:P3A K X [a] ta d)(n:autoParam (ew [a] X.env=[(false,eval a X.env)]) wE):P3I K X tg (.Call (.Name "range" p) [a] [] pos) (Pe ta) (iR1 d):=⟨Ip r o c.pe n,λB F f H g Q R e q k=>
 c.rf B F f H g _ _ e q λC y Z=>by
  obtain⟨z,b,D,s,x,h,Z⟩:=Z;obtain⟨j,w,u,t,m⟩:=Ue Z;cases Q7 w;obtain⟨v,A,rfl,l,i⟩:=h;cases l;cases i;exact⟨j,rfl,u,t,k _ y z b _ s x Tp m⟩⟩
noncomputable def iI (xs ys:List D):List D:=(xs.zip ys).map λp=>.tup [p.1,p.2]
def iZ3 (b:TA3)(Γ:G)(Q:List D->G->Prop):Prop:=b Γ λds a=>∃ xs ys,ds=[.lst xs,.lst ys]/\Q (iI xs ys) a
theorem zF{xs ys:List D}{d:D}(h:(iI xs ys)[i]?=some d):∃ x y,xs[i]?=some x/\ys[i]?=some y/\d=.tup [x,y]:=by
 unfold iI at h;rw[cm] at h;cases q:(xs.zip ys)[i]? with
 | none=>rw[q] at h;cases h
 | some p=>
  rw[q] at h;cases h;rw[KM] at q;exact⟨_,_,q.1,q.2,rfl⟩
theorem lH{b:Expr}{ta:TA}{J:TA3}{kt:Nat}{p:Pos}(hg:Gl X "zip")(hm:X.mg "zip"=none)(I:P3A K X [a,b] ta J)(hs:autoParam (ew [a,b] X.env=[(false,eval a X.env),(false,eval b X.env)]) wE)(E:autoParam (ew [b] X.env=[(false,eval b X.env)]) wE) :
  P3I K X (.Tuple es kt tp) (.Call (.Name "zip" p) [a,b] [] pos) (UI ta) (iZ3 J):=⟨QE hg hm I.pe hs E,λB F N H O Q R e q k=>
 I.rf B F N H O _ _ e q λvs H' Z=>by
  obtain⟨F',o,ds,s,G,u,xs,ys,h1,V⟩:=Z;subst h1;obtain⟨v,ws,rfl,⟨Y,g,rfl,n,A⟩,w,T,rfl,⟨W,f,rfl,m,z⟩,U⟩:=u;cases U;refine⟨Y,W,g,f,rfl,G.sub _ _ n,G.sub _ _ m,k _ H' F' o _ s G ⟨λi h c lt=>?_,λi h c ei=>?_,λi h x H3 d c hd y=>?_⟩ V⟩
  .obtain⟨x,y,D,C,_⟩:=zF (gE0 lt);obtain⟨v,l,_⟩:=A.get D;obtain⟨w,j,_⟩:=z.get C;exact⟨g,f,v,w,c _ _ n,c _ _ m,l,j⟩
  .refine⟨g,f,c _ _ n,c _ _ m,?_⟩;subst ei;unfold iI;rw[lM0,ac6,A.length,z.length];lia
  .obtain⟨t,S,P,x1,y1,ht,M,L,b1,b2,rfl,rfl⟩:=y;rw[c _ _ n] at M;cases M;rw[c _ _ m] at L;cases L;obtain⟨dx,dy,D,C,rfl⟩:=zF hd;obtain⟨v,l,u⟩:=A.get D;obtain⟨w,j,r⟩:=z.get C;rw[b1] at l;cases l;rw[b2] at j;cases j;exact .inr ⟨t,_,[dx,dy],ht,rfl,rfl,⟨_,_,rfl,u,_,_,rfl,r,rfl⟩,rfl⟩⟩
noncomputable def Ba (xs:List D):List D:=xs.mapIdx λi x=>.tup [.int i,x]
def iE3 (b:TA3)(Γ:G)(Q:List D->G->Prop):Prop:=b Γ λds a=>∃ xs,ds=[.lst xs]/\Q (Ba xs) a
theorem xR{xs:List D}{d:D}(h:(Ba xs)[i]?=some d):∃ x,xs[i]?=some x/\d=.tup [.int i,x]:=by
 unfold Ba at h;rw[List.getElem?_mapIdx] at h;cases q:xs[i]? with
 | none=>rw[q] at h;cases h
 | some p=>rw[q] at h;cases h;exact⟨_,rfl,rfl⟩
theorem DC{ta:TA}{u:TA3}{kt:Nat}{p:Pos}(M:Gl X "enumerate")(L:X.mg "enumerate"=none)(o:P3A K X [a] ta u)(J:autoParam (ew [a] X.env=[(false,eval a X.env)]) wE) :
  P3I K X (.Tuple es kt tp) (.Call (.Name "enumerate" p) [a] [] pos) (Ph ta) (iE3 u):=⟨Nd M L o.pe J,λB F z H A Q R e q k=>
 o.rf B F z H A _ _ e q λvs U Z=>by
  obtain⟨V,j,ds,s,r,l,W,O,E⟩:=Z;subst O;obtain⟨v,ws,rfl,⟨G,b,rfl,h,m⟩,D⟩:=l;cases D;refine⟨G,b,rfl,r.sub _ _ h,k _ U V j _ s r ⟨λi f c lt=>?_,λi f c P=>?_,λi f x H3 d c N y=>?_⟩ E⟩
  .obtain⟨x,n,_⟩:=xR (gE0 lt);obtain⟨v,g,_⟩:=m.get n;exact⟨b,v,c _ _ h,g⟩
  .refine⟨b,c _ _ h,?_⟩;subst P;unfold Ba;rw[List.length_mapIdx,m.length];exact ek _
  .obtain⟨t,C,Y,I,w,T,rfl,rfl⟩:=y;rw[c _ _ h] at w;cases w;obtain⟨S,n,rfl⟩:=xR N;obtain⟨v,g,l⟩:=m.get n;rw[T] at g;cases g;exact .inr ⟨t,_,[.int i,S],I,rfl,rfl,⟨_,_,rfl,rfl,_,_,rfl,l,rfl⟩,rfl⟩⟩
theorem G7{vs:List V}(h:H p=some (.lst vs)):tyV K "list" (.ref p) H:=.inl ⟨rfl,_,SqL.of h⟩
theorem En.eZ(e:En K B F σ H Γ){xs:List D}(h:eZ Γ i=some xs):∃ p vs,σ[i]?=some (some (V.ref p))/\H p=some (.lst vs)/\aI K F xs vs:=by
 obtain⟨p,a,b,vs,c,d⟩:=e.hl i _ (Cq h);exact⟨p,vs,a,c,d⟩
def Sy (i:Nat)(b:TE3)(Γ:G)(Q:RV->G->Prop):Prop:=mL (eZ Γ i) (λ_=>b Γ λr a=>mL (eZ a i) (λxs=>xs.length < sizeLine/\Q (.fz .non) (putD a i (.lst (xs++[r.d])))) ⟨⟩) ⟨⟩
theorem MV{te:TE}{g:TE3}(i:Nat)(h:Ref K te g):Ref K (tBM K "list" De (kS i) (kT te sR)) (Sy i g):=by
 intro B F l H n Q L e q k;obtain⟨o,C,q⟩:=xE.1 q;obtain⟨p,t,d,E,_⟩:=e.eZ C;refine⟨_,d,G7 E,h B F l H n _ _ e q λv M Z=>?_⟩;obtain⟨N,m,r,s,D,x,Z⟩:=Z;obtain⟨I,f,A,z⟩:=xE.1 Z;obtain⟨G,w,j,y⟩:=D.frozen x;obtain⟨J,u,a,b,c⟩:=j.eZ f;rw[d] at a;cases a;exact⟨p,u,v,rfl,rfl,b,by rw[c.length];exact A,k _ _ ⟨G,_,.fz .non,s.trans w,j.mut f d (aI.append (ys:=[r.d]) c ⟨v,[],rfl,y,rfl⟩),rfl,z⟩⟩
def ext3 (i:Nat)(b:TB3)(Γ:G)(Q:RV->G->Prop):Prop:=(∃ xs,eZ Γ i=some xs)/\b Γ λr a=>∃ xs ys,eZ a i=some xs/\r.at a=some (.lst ys)/\xs.length + ys.length<=sizeLine/\Q (.fz .non) (putD a i (.lst (xs++ys)))
theorem MU{te:TE}{j:TB3}(i:Nat)(h:Br K te j):Ref K (tBM K "list" Dd (kS i) (kT te sR)) (ext3 i j):=by
 intro B F l H n Q M e ⟨⟨o,D⟩,q⟩ k;obtain⟨p,u,f,E,_⟩:=e.eZ D;refine⟨_,f,G7 E,h B F l H n _ _ e q λv N Z=>?_⟩;obtain⟨G,m,r,s,d,x,J,I,g,C,A,y⟩:=Z;obtain⟨z,t,rfl,b2,c2⟩:=d.bo x C;obtain⟨L,w,a,b,c⟩:=d.eZ g;rw[f] at a;cases a;exact⟨p,z,w,t,rfl,rfl,b,b2,by rw[c.length,c2.length];exact A,k _ _ ⟨G,_,.fz .non,s,d.mut g f (c.append c2),rfl,y⟩⟩
variable {te:TE}{e3:TE3}{eb:TB3}
theorem oh(i:Nat)(j:X.K=K)(h:P3B K X (.Name x px) (kS i) (bor i))(g:P3 K X e te e3)(c:autoParam (Xj (.Name x px) "append" X.env (eval (.Name x px) X.env)=eval (.Name x px) X.env) wE)(d:autoParam (((backTo cpos (ew [e] X.env)).all (λx=>!x.1) && (YO cpos (Xp [] X.env)).all (λx=>x.1.isSome)
   && decide ([e].length + ([]:List ab0).length + (if ([]:List ab0).isEmpty then 0 else 1) < 30))=true) wE)(b:autoParam ((apos.endLine == cpos.line)=true) wE)(f:autoParam (ew [e] X.env=(false,eval e X.env)::ew [] X.env) wE)(a:autoParam ((backTo cpos (ew [] X.env)).any (·.1)=false) wE) :
  P3 K X (.Call (.Attribute (.Name x px) "append" apos) [e] [] cpos) (tBM K "list" De (kS i) (kT te sR)) (Sy i e3):=
 ⟨by subst j;exact O3 YS Zq PySem.F.type_list_append IJ h.pe (iq g.pe rh f) c d b f a,MV i g.rf⟩
theorem Cj(i:Nat)(j:X.K=K)(h:P3B K X (.Name x px) (kS i) (bor i))(g:P3B K X e te eb)(c:autoParam (Xj (.Name x px) "extend" X.env (eval (.Name x px) X.env)=eval (.Name x px) X.env) wE)(d:autoParam (((backTo cpos (ew [e] X.env)).all (λx=>!x.1) && (YO cpos (Xp [] X.env)).all (λx=>x.1.isSome)
   && decide ([e].length + ([]:List ab0).length + (if ([]:List ab0).isEmpty then 0 else 1) < 30))=true) wE)(b:autoParam ((apos.endLine == cpos.line)=true) wE)(f:autoParam (ew [e] X.env=(false,eval e X.env)::ew [] X.env) wE)(a:autoParam ((backTo cpos (ew [] X.env)).any (·.1)=false) wE) :
  P3 K X (.Call (.Attribute (.Name x px) "extend" apos) [e] [] cpos) (tBM K "list" Dd (kS i) (kT te sR)) (ext3 i eb):=
 ⟨by subst j;exact O3 YS Zr PySem.F.type_list_extend II h.pe (iq g.pe rh f) c d b f a,MU i g.rf⟩
def Hc (i:Nat)(d:TB3)(e:TE3)(D:E3)(Γ:G):Prop:=e Γ λr c=>(∃ xs,eZ c i=some xs)/\d c λb a=>∃ xs k j,eZ a i=some xs/\b.at a=some (.int k)/\ixN xs.length k=some j/\D.nx (putD a i (.lst (xs.set j r.d)))
theorem MG(i:Nat){k:Expr}{g:TE}{n:TB3}(h:P3B K X (.Name x px) (kS i) (bor i))(O:P3B K X k g n)(Q:P3 K X e te e3)(M:PS X (.Assign [.Subscript (.Name x px) k p2] e pos) (xj te (Le (kS i) g ED))) :
  P3S K X (.Assign [.Subscript (.Name x px) k p2] e pos) (xj te (Le (kS i) g ED)) (Hc i n e3):=⟨M,λB F d H w D D3 e k q=>
 Q.rf B F d H w _ _ e q λv U Z=>by
  obtain⟨F',f,r,s,T,E,⟨y,S⟩,L⟩:=Z;obtain⟨W,C,o,I⟩:=T.frozen E;obtain⟨p,z,l,b0,_⟩:=o.eZ S;refine⟨_,l,O.rf B W d U f _ _ o L λu H2 Z=>?_⟩;obtain⟨V,t,bo,m,e3,G,Y,kk,j,h,R,P,J⟩:=Z;obtain⟨p',A,a,b,c⟩:=e3.eZ h;rw[l] at a;cases a;have N:u=.int kk:=e3.bo G R;exact⟨p,A,kk,j,rfl,N,b,by rw[c.length];exact P,k.nx V d _ _ ((s.trans C).trans m) (e3.mut h l (aI.set (I.mono m) j c)) J⟩⟩
end
section
variable {X:Cx}{B:Bs}{F H:Hp}{Γ:G}
set_option backward.eqns.nonrecursive false in
noncomputable def oO:Option (Option Sl)->Option Sl
 | some (some (.fz d))=>some (.fz d)
 | some (some (.ow d))=>some (.ln d)
 | some (some (.ln d))=>some (.ln d)
 | _=>none
set_option backward.eqns.nonrecursive false in
noncomputable def D4 (Γ:G):Bo->Option Sl
 | .d x=>some (.fz x)
 | .v i=>oO Γ[i]?
set_option backward.eqns.nonrecursive false in
noncomputable def dm:Option Bo->Option Nat
 | some (.v i)=>some i
 | _=>none
noncomputable def KL (Γ:G)(σ:_2.St)(k:Nat):Option Bo->Option (Nat×Addr)
 | some (.v i)=>match Γ[i]?,σ[i]? with
  | some (some (.ow _)),some (some (.ref p))=>some (k,p)
  | some (some (.ln _)),some (some (.ref p))=>some (k,p)
  | _,_=>none
 | _=>none
noncomputable def ownOf (Γ:G)(σ:_2.St)(bs:List (Option Bo)):List (Nat×Addr):=(el bs.length).filterMap λk=>(bs[k]?).bind (KL Γ σ k)
theorem oi{bs:List (Option Bo)}:(k,p)∈ownOf Γ σ bs↔∃ i d,bs[k]?=some (some (Bo.v i))/\Hld Γ i d/\σ[i]?=some (some (V.ref p)):=by
 unfold ownOf;rw[Xm];constructor
 .rintro⟨b,_,h⟩;cases q:bs[b]? with
  | none=>rw[q] at h;cases h
  | some o=>
   rw[q] at h;change KL Γ σ b o=some (k,p) at h;unfold KL at h;split at h
   .rename_i i;split at h
    .rename_i d e a h2;cases h;exact⟨i,d,q,.inl a,h2⟩
    .rename_i d e a h2;cases h;exact⟨i,d,q,.inr a,h2⟩
    .cases h
   .cases h
 .rintro⟨i,d,a,h2,c⟩;refine⟨k,Os.mpr (gS0 a).1,?_⟩;rw[a];show KL Γ σ k (some (Bo.v i))=_;unfold KL;rcases h2 with h2 | h2
  .simp only[h2,c]
  .simp only[h2,c]
noncomputable def g4 (Γ:G)(bs:List (Option Bo)):G:=bs.map λo=>o.bind (D4 Γ)
theorem oP{bs:List (Option Bo)}{s:Sl}:(g4 Γ bs)[k]?=some (some s)↔∃ a,bs[k]?=some (some a)/\D4 Γ a=some s:=by
 unfold g4;rw[cm];constructor
 .intro h;cases q:bs[k]? with
  | none=>rw[q] at h;cases h
  | some o=>
   rw[q] at h;cases o with
   | none=>cases h
   | some a=>exact⟨a,rfl,by simpa using h⟩
 .rintro⟨a,c,b⟩;rw[c];simp [b]
theorem OE{bo:Bo}{d:D}(h:D4 Γ bo=some (.ln d)):∃ i,bo=.v i/\Hld Γ i d:=by
 cases bo with
 | d x=>cases h
 | v i=>
  change oO Γ[i]?=_ at h;unfold oO at h;split at h
  .cases h
  .cases h;rename_i q;exact⟨i,rfl,.inl q⟩
  .cases h;rename_i q;exact⟨i,rfl,.inr q⟩
  .cases h
theorem OF{bo:Bo}{d:D}(h:D4 Γ bo=some (.fz d)):bo=.d d\/∃ i,bo=.v i/\Γ[i]?=some (some (Sl.fz d)):=by
 cases bo with
 | d x=>cases h;exact .inl rfl
 | v i=>
  change oO Γ[i]?=_ at h;unfold oO at h;split at h
  .cases h;rename_i q;exact .inr ⟨i,rfl,q⟩
  .cases h
  .cases h
  .cases h
theorem D2{bo:Bo}{d:D}:D4 Γ bo≠some (.ow d):=by
 intro h;cases bo with
 | d x=>cases h
 | v i=>change oO Γ[i]?=_ at h;unfold oO at h;split at h <;> cases h
theorem sQ{bs:List (Option Bo)}:∀ (k:Nat) (d:D),(g4 Γ bs)[k]?≠some (some (Sl.ow d)):=λk d h=>by
 obtain⟨a,_,h⟩:=oP.mp h;exact D2 h
theorem En.inner(e:En K B F σ H Γ){bs:List (Option Bo)}(J:σc.length=bs.length)(m:∀ (k:Nat) (bo:Bo) (s:Sl),bs[k]?=some (some bo)->D4 Γ bo=some s->∃ v,σc[k]?=some (some v)/\yJ K F σ bo v)(G:∀ (k t i:Nat),bs[k]?=some (some (Bo.v i))->bs[t]?=some (some (Bo.v i))->k=t):En K ⟨F,H,ownOf Γ σ bs⟩ F σc H (g4 Γ bs):=by
 have f:∀ {k d},Hld (g4 Γ bs) k d->∃ i p,bs[k]?=some (some (Bo.v i))/\Hld Γ i d/\σ[i]?=some (some (V.ref p))/\σc[k]?=some (some (V.ref p)):=λ{k d} q=>by
  rcases q with q | q
  .obtain⟨bo,g,h2⟩:=oP.mp q;exact absurd h2 D2
  .obtain⟨bo,g,h2⟩:=oP.mp q;obtain⟨v,j,c⟩:=m k bo _ g h2;obtain⟨i,rfl,l⟩:=OE h2;obtain⟨p,n,_⟩:=e.hl i d l;rw[show σ[i]?=some (some v) from c] at n;cases n;exact⟨i,p,g,l,c,j⟩
 refine⟨e.sub,by unfold g4;rw[lM0];exact J,?_,?_,?_,?_,?_,?_,aS.refl F,λb o h=>.inl h,λb o h _=>h,λb h=>h⟩
 .intro k d q;obtain⟨bo,g,h2⟩:=oP.mp q;obtain⟨v,j,c⟩:=m k bo _ g h2;refine⟨v,j,?_⟩;rcases OF h2 with rfl | ⟨i,rfl,l⟩
  .exact c
  .obtain⟨u,n,w⟩:=e.fz i d l;rw[show σ[i]?=some (some v) from c] at n;cases n;exact w
 .intro k d q;obtain⟨i,p,g,h2,j,c⟩:=f q;obtain⟨E,l,n,w⟩:=e.hl i d h2;rw[j] at l;cases l;exact⟨p,c,n,w⟩
 .intro k d p q;obtain⟨bo,g,h2⟩:=oP.mp q;exact absurd h2 D2
 .intro k d p q a;obtain⟨i,E,g,h2,j,c⟩:=f (.inr q);rw[a] at c;cases c;exact oi.mpr ⟨i,d,g,h2,j⟩
 .intro k t d L p D C N M;obtain⟨i,P,g,h2,j,c⟩:=f D;obtain⟨I,O,z,y,x,r⟩:=f C;rw[N] at c;cases c;rw[M] at r;cases r;have:=e.dis i I d L p h2 y j x;subst this;exact G k t i g z
 .intro k p q;obtain⟨i,d,g,h2,j⟩:=oi.mp q;have A:D4 Γ (.v i)=some (.ln d):=by
   show oO Γ[i]?=_;rcases h2 with h2 | h2 <;> rw[h2] <;> rfl
  obtain⟨v,c,l⟩:=m k _ _ g A;rw[show σ[i]?=some (some v) from l] at j;cases j;exact⟨c,d,oP.mpr ⟨_,g,A⟩⟩
theorem vD{bs:List (Option Bo)}:∀ k p,(k,p)∈ownOf Γ σ bs->∃ j d,(bs.map dm)[k]?=some (some j)/\Hld Γ j d/\σ[j]?=some (some (V.ref p)):=λk p h=>by
 obtain⟨i,d,c,b,a⟩:=oi.mp h;exact⟨i,d,by rw[cm,c];rfl,b,a⟩
noncomputable def iM (a:On):List (Option Bo):=a.map λo=>o.map Bo.v
def Fp (g:On)(h:TI3)(i:TG3)(j:TE3)(Γ:G)(Q:RV->G->Prop):Prop:=h Γ λxs b=>xs.length < sizeLine/\∃ c:Nat->List D->G->Prop,c 0 [] (g4 b (iM g))/\
 (∀ k d ys a,xs[k]?=some d->ys.length=k->c k ys a->i d a λf=>j f λr e=>c (k + 1) (ys++[r.d]) e)/\∀ ys a,ys.length=xs.length->c xs.length ys a->Q (.fr (.lst ys)) (aZ g b a)
theorem LZ(h:(fr.filterMap id).Nodup):∀ (k k' i:Nat),(iM fr)[k]?=some (some (Bo.v i))->(iM fr)[k']?=some (some (Bo.v i))->k=k':=by
 unfold iM;have g:∀ (l:On),(l.filterMap id).Nodup->∀ (k k' i:Nat),l[k]?=some (some i)->l[k']?=some (some i)->k=k':=by
  intro l
  induction l with
  | nil=>intro _ k k' i h;simp at h
  | cons o l f=>
   intro a k k' i h d;cases o with
   | none=>
    rw[List.filterMap_cons_none rfl] at a;cases k with
    | zero=>simp at h
    | succ k=>
     cases k' with
     | zero=>simp at d
     | succ k'=>rw[f a k k' i (by simpa using h) (by simpa using d)]
   | some j=>
    rw[show ad6 id (some j::l)=j::ad6 id l from rfl,tq] at a;have e:∀ {k:Nat},l[k]?=some (some i)->i∈l.filterMap id:=λq=>Xm.mpr ⟨some i,hW q,rfl⟩;cases k with
    | zero=>
     simp at h;subst h;cases k' with
     | zero=>rfl
     | succ k'=>exact absurd (e (by simpa using d)) a.1
    | succ k=>
     cases k' with
     | zero=>
      simp at d;subst d;exact absurd (e (by simpa using h)) a.1
     | succ k'=>rw[f a.2 k k' i (by simpa using h) (by simpa using d)]
 intro k k' i c b;refine g fr h k k' i ?_ ?_
 .rw[cm] at c;cases q:fr[k]? with
  | none=>rw[q] at c;cases c
  | some o=>rw[q] at c;cases o with | none=>cases c | some j=>cases c;rfl
 .rw[cm] at b;cases q:fr[k']? with
  | none=>rw[q] at b;cases b
  | some o=>rw[q] at b;cases o with | none=>cases b | some j=>cases b;rfl
theorem AH:(iM fr).map dm=fr:=by
 unfold iM;rw[nr]
 conv=>rhs;rw[<- List.map_id fr]
 refine VU λo _=>?_;cases o <;> rfl
theorem En.blk(e:En K B F σ H Γ)(f:(fr.filterMap id).Nodup):En K ⟨F,H,ownOf Γ σ (iM fr)⟩ F (w8 fr σ) H (g4 Γ (iM fr)):=by
 refine e.inner (by unfold w8 iM;simp) (λk bo s a b=>?_) (LZ f);unfold iM at a;rw[cm] at a;cases q:fr[k]? with
 | none=>rw[q] at a;cases a
 | some o=>
  rw[q] at a;cases o with
  | none=>cases a
  | some j=>
   cases a;have:∃ d,Gat Γ j=some d:=by
    change oO Γ[j]?=_ at b;unfold oO at b;unfold Gat
    split at b <;> first | (cases b;done) | (rename_i w;rw[w];exact⟨_,rfl⟩) | exact⟨_,rfl⟩
   obtain⟨d,g⟩:=this;obtain⟨v,c,_⟩:=e.get g;refine⟨v,?_,c⟩;unfold w8;rw[cm,q];simp [c]
theorem EA{I:TI}{P:TI3}{g:TG}{T:TG3}{te:TE}{U:TE3}(nd:(fr.filterMap id).Nodup)(hi:Md K I P)(hg:Jr K g T)(he:Ref K te U):Ref K (m6 fr I g (uw te)) (Fp fr P T U):=by
 intro B F σ H Γ Q QQ e q k;refine hi B F σ H Γ _ _ e q λJ H1 D c d Y V R Z=>?_;obtain⟨hz,Iv,i0,it,ie⟩:=Z;have eb:=V.blk nd;refine⟨λi m ys b H=>m=d.length - i/\i<=d.length/\∃ E h f,aS D E/\En K ⟨D,H1,ownOf c σ (iM fr)⟩ E b H h/\aI K E f ys/\f.length=i/\Iv i f h,⟨_,rfl,Do _,D,_,[],aS.refl _,eb,rfl,rfl,i0⟩,?_⟩;rintro i m ys b C ⟨rfl,a1,F2,a,f,j,o,u,n,O⟩;have G:ys.length < sizeLine:=by rw[u.length,n];lia
 by_cases lt:i < d.length
 .refine .inr ⟨R.go i C (j.trans o.sub) lt,λx W y=>?_⟩;have S:d[i]?=some d[i]:=gE0 lt;obtain⟨X,N,A,r3⟩:=R.turn j o S y;refine hg _ X b W a x _ _ _ A r3 (it i _ f a S n O) λp t e4 q4=>?_;refine⟨G,he _ X p W t _ _ e4 q4 λy H5 Z=>?_⟩;obtain⟨F5,s,r,M,e5,rv,v⟩:=Z;obtain⟨F6,L,e6,r6⟩:=e5.frozen rv;refine⟨d.length - (i + 1),by lia,rfl,lt,F6,s,f++[r.d],((j.trans N).trans M).trans L,e6,?_,by simp [n],v⟩;exact aI.append (ys:=[r.d]) (u.mono ((N.trans M).trans L)) ⟨y,[],rfl,r6,rfl⟩
 .have z:i=d.length:=by lia
  subst z;refine .inl ⟨R.stop _ C (j.trans o.sub) rfl,G,λl w=>k _ _ ?_⟩;have eo:En K B F2 σ C (aZ fr c a):=V.back (ls:=fr) o (by have:=vD (Γ:=c) (σ:=σ) (bs:=iM fr);rw[AH] at this;exact this);exact Po.mono (Y.trans j) (mz eo w u (ie f a n O))
theorem bW{i:TI}{j:TI3}{g:TG}{o:TG3}{te:TE}{p:TE3}(s:X.calm=true)(k:P3I K X tg iter i j)(t:Blk X.N X.env.scope sc Nc fr)(l:∀ s₀ H₀ C ex f,P3G K (cK X sc Nc s₀ H₀ C ex f) tg g o)(n:∀ s₀ H₀ C ex f,P3 K (cK X sc Nc s₀ H₀ C ex f) elt te p)(q:autoParam ((fr.filterMap id).Nodup) wP)(r:autoParam (∀ x,sF iter X.env x=pure x) wT) :
  P3 K X (.ListComp elt [⟨tg,iter,[],0⟩] sc pos) (m6 fr i g (uw te)) (Fp fr j o p):=
 ⟨vz (m:=λD h=>Bb elt D h) s k.pe t (λa b c d e=>(l a b c d e).pe) (λa b c d e D=>vA rfl (n a b c d e).pe) (λ_ _ _=>rfl) r,EA q k.rf (l X.s₀ X.H₀ 0 [] []).rf (n X.s₀ X.H₀ 0 [] []).rf⟩
theorem ey{f:Pos}{n:TI}{o:TI3}{g:TG}{s:TG3}{te:TE}{t:TE3}(z:X.N.Nodup)(k:X.N[i]?=some x)(v:X.env.scope.names.lookup x=some .local)(y:X.calm=true)(p:P3I K X tg iter n o)(A:Blk X.N X.env.scope sc Nc fr)(q:∀ s₀ H₀ C ex h,P3G K (cK X sc Nc s₀ H₀ C ex h) tg g s)(r:∀ s₀ H₀ C ex h,P3 K (cK X sc Nc s₀ H₀ C ex h) elt te t)(u:autoParam ((fr.filterMap id).Nodup) wP)(j:autoParam (XQ (.ListComp elt [⟨tg,iter,[],0⟩] sc pos) (some (.Name x px)) f.line X.env=pure true) wE)(w:autoParam (∀ x,sF iter X.env x=pure x) wT) :
  P3S K X (.Assign [.Name x px] (.ListComp elt [⟨tg,iter,[],0⟩] sc pos) f) (xj (m6 fr n g (uw te)) (rH i)) (MB i (Fp fr o s t)):=
 ⟨EH (m:=λD l=>Bb elt D l) z k v y p.pe A (λa b c d e=>(q a b c d e).pe) (λa b c d e D=>vA rfl (r a b c d e).pe) (λ_ _ _=>rfl) j w,Hh (EA u p.rf (q X.s₀ X.H₀ 0 [] []).rf (r X.s₀ X.H₀ 0 [] []).rf)⟩
abbrev S3:=G->(RV->G->Prop)->Prop
def sp3 (K:Fg0)(n:Nat)(S:S3):Sp:=λvs H Q _=>vs.length=n/\∃ F own a b,En K ⟨F,H,own⟩ F (vs.map some) H a/\(∀ (k:Nat) (d:D),a[k]?≠some (some (Sl.ow d)))/\S a b/\∀ r Γ',b r Γ'->∀ v H' F',En K ⟨F,H,own⟩ F' (vs.map some) H' Γ'->qF K ⟨F,H,own⟩ F' (vs.map some) H' Γ' v r->Q v H'
noncomputable def df:List Bo->List Nat
 | []=>[]
 | .d _::a=>df a
 | .v i::a=>i::df a
noncomputable def yb (i:Nat):List Nat->Bool->Bool
 | [],b=>b
 | j::a,b=>bif i == j then false else yb i a b
noncomputable def ql:List Bo->Nat->Bool
 | .d _::a,n + 1=>ql a n
 | .v i::a,n + 1=>yb i (df a) (ql a n)
 | [],0=>true
 | _,_=>false
theorem EX {i:Nat}{b:Bool}:∀ {js:List Nat},yb i js b=true->i∉js/\b=true
 | [],h=>⟨by simp,h⟩
 | j::js,h=>by
  unfold yb at h;cases e:i == j with
  | true=>rw[e] at h;cases h
  | false=>
   rw[e] at h;obtain⟨a,b⟩:=EX (js:=js) h;exact⟨by simp at e;simp [e,a],b⟩
theorem w_:∀ {bs:List Bo} {n:Nat},ql bs n=true->bs.length=n/\(df bs).Nodup
 | [],0,_=>⟨rfl,List.nodup_nil⟩
 | [],_ + 1,h=>by cases h
 | .d _::_,0,h=>by cases h
 | .v _::_,0,h=>by cases h
 | .d _::bs,n + 1,h=>let ⟨a,b⟩:=w_ (bs:=bs) h;⟨congrArg (· + 1) a,b⟩
 | .v i::bs,n + 1,h=>let ⟨x,y⟩:=EX h;let ⟨a,b⟩:=w_ y;⟨congrArg (· + 1) a,tq.2 ⟨x,b⟩⟩
theorem NA{b:Bool}:yb i [] b=b:=rfl
theorem NC{js:List Nat}{b:Bool}:yb i (j::js) b=bif i == j then false else yb i js b:=rfl
theorem OD:ql [] 0=true:=rfl
theorem OC{d:D}{bs:List Bo}:ql (.d d::bs) (n + 1)=ql bs n:=rfl
theorem OB{bs:List Bo}:ql (.v i::bs) (n + 1)=yb i (df bs) (ql bs n):=rfl
def DS (n:Nat)(S:S3)(d:fP)(Γ:G)(Q:RV->G->Prop):Prop:=d Γ λc a=>bT (ql c n) (S (g4 a (c.map some)) λr b=>Q r (aZ ((c.map some).map dm) a b)) False ⟨⟩ ⟨⟩
theorem K0:∀ {bs:List Bo},(df bs).Nodup->∀ (k k' i:Nat),(bs.map some)[k]?=some (some (Bo.v i))->(bs.map some)[k']?=some (some (Bo.v i))->k=k':=by
 intro bs h k k' i f e;have a:((((bs.map some).map dm)).filterMap id)=df bs:=by
  clear h f e
  induction bs with
  | nil=>rfl
  | cons b bs c=>cases b with
   | d x=>simpa [dm,df] using c
   | v j=>simpa [dm,df] using c
 rw[<- a] at h;refine LZ h k k' i ?_ ?_
 .unfold iM;rw[cm,cm,f];rfl
 .unfold iM;rw[cm,cm,e];rfl
theorem bH.get{F:Hp}:∀ {h:List Bo} {vs:List V},bH K F σ h vs->∀ {k:Nat} {bo:Bo},h[k]?=some bo->∃ v,vs[k]?=some v/\yJ K F σ bo v
 | [],_,_,k,bo,e=>by simp at e
 | x::j,_,⟨v,l,c,g,f⟩,0,d,e=>by subst c;simp at e;subst e;exact⟨v,rfl,g⟩
 | x::j,_,⟨v,l,c,g,f⟩,i + 1,d,e=>by
  subst c;obtain⟨u,a,b⟩:=bH.get f (k:=i) (bo:=d) (by simpa using e);exact⟨u,by simpa using a,b⟩
theorem bH.length{F:Hp}:∀ {a:List Bo} {vs:List V},bH K F σ a vs->vs.length=a.length
 | [],_,h=>by cases h;rfl
 | _::_,_,Z=>by obtain⟨v,d,c,e,b⟩:=Z;subst c;simp [bH.length b]
theorem En.args(e:En K B F σ H Γ){bs:List Bo}{vs:List V}(r:bH K F σ bs vs)(d:(df bs).Nodup):En K ⟨F,H,ownOf Γ σ (bs.map some)⟩ F (vs.map some) H (g4 Γ (bs.map some)):=by
 refine e.inner (by simp [r.length]) (λk bo s c f=>?_) (K0 d);rw[cm] at c;cases q:bs[k]? with
 | none=>rw[q] at c;cases c
 | some b=>
  rw[q] at c;cases c;obtain⟨v,a,b⟩:=r.get q;exact⟨v,by rw[cm,a];rfl,b⟩
theorem En.called(e:En K B F σ H Γ){m u:Hp}{bs:List (Option Bo)}{Γa:G}{v:V}{r:RV}(E:En K ⟨F,H,ownOf Γ σ bs⟩ m σc u Γa)(n:qF K ⟨F,H,ownOf Γ σ bs⟩ m σc u Γa v r) :
  aS F m/\En K B m σ u (aZ (bs.map dm) Γ Γa)/\qF K B m σ u (aZ (bs.map dm) Γ Γa) v r:=by
 have Q:=e.back E vD;refine⟨E.keep,Q,?_⟩;have nw:∀ {p:Addr},H p=none->∀ (i:Nat) (x:D),Hld (aZ (bs.map dm) Γ Γa) i x->σ[i]?≠some (some (V.ref p)):=λ{p} y i x hx N=>by
  obtain⟨d0,w⟩:∃ d0,Hld Γ i d0:=by
   rcases hx with hx | hx <;> rw[bR] at hx
   .cases w:Γ[i]? with
    | none=>rw[w] at hx;cases hx
    | some s=>rw[w] at hx;cases s with
     | none=>cases hx
     | some s=>cases s with
      | fz d=>cases hx
      | ow d=>exact⟨d,.inl w⟩
      | ln d=>cases hx
   .cases w:Γ[i]? with
    | none=>rw[w] at hx;cases hx
    | some s=>rw[w] at hx;cases s with
     | none=>cases hx
     | some s=>cases s with
      | fz d=>cases hx
      | ow d=>cases hx
      | ln d=>exact⟨d,.inr w⟩
  obtain⟨T,a,b,c⟩:=e.hl i d0 w;rw[N] at a;cases a;obtain⟨o,A⟩:=c.some;rw[y] at A;cases A
 cases r with
 | fz d=>exact n
 | fr d=>
  obtain⟨p,l,k,j,h,C⟩:=n;exact⟨p,l,k,j,e.dom p h,nw h⟩
 | two S R=>
  obtain⟨t,p,q,L,J,l,k,j,h,C,P,O,g⟩:=n;exact⟨t,p,q,L,J,l,k,j,h,C,P,O,λz f=>⟨(g z f).1,e.dom z (g z f).2.1,nw (g z f).2.1⟩⟩
 | rws I=>
  obtain⟨p,M,l,k,j,h,g⟩:=n;exact⟨p,M,l,k,j,h,λz f=>⟨(g z f).1,e.dom z (g z f).2.1,nw (g z f).2.1⟩⟩
theorem EB{t:TA}{d:fP}{S:S3}{E:XK}(h:CQ K t d):Ref K (zJ (sp3 K n S) [] E t) (DS n S d):=by
 intro B F i H m Q A e q k;refine h B F i H m _ _ e q λo C Z=>?_;obtain⟨G,l,J,p,g,f,Z⟩:=Z;obtain⟨z,u⟩:=xY Z;obtain⟨x,w⟩:=w_ z;show sp3 K n S (o++[]) C A E;rw[td];refine⟨by rw[f.length];exact x,G,_,_,_,g.args f w,sQ,u,λr j q v D I y s=>?_⟩;obtain⟨a,b,c⟩:=g.called y s;exact k v D ⟨I,_,r,p.trans a,b,c,q⟩
noncomputable def QV:Option (Option Sl)->D->Option Sl
 | some (some (.ln d)),_=>some (.ln d)
 | _,d=>some (.ln d)
noncomputable def T3 (x:Option (Option Sl)):Option Sl->Option Sl
 | some (.ln d)=>QV x d
 | s=>s
noncomputable def kv:G->G->G
 | [],_=>[]
 | s::Γ,Γ'=>T3 Γ'.head? s::kv Γ Γ'.tail
theorem vG:∀ {Γ Γ':G} {k:Nat},(kv Γ Γ')[k]?=(Γ[k]?).map (T3 Γ'[k]?)
 | [],_,_=>rfl
 | _::_,[],0=>rfl
 | _::_,_::_,0=>rfl
 | _::Γ,[],k + 1=>vG (Γ:=Γ) (Γ':=[]) (k:=k)
 | _::Γ,_::Γ',k + 1=>vG (Γ:=Γ) (Γ':=Γ') (k:=k)
theorem EL:∀ {Γ Γ':G},(kv Γ Γ').length=Γ.length
 | [],_=>rfl
 | _::Γ,_=>congrArg (· + 1) (EL (Γ:=Γ))
theorem TZ{Γ':G}:kv [] Γ'=[]:=rfl
theorem T2{Γ Γ':G}:kv (none::Γ) Γ'=none::kv Γ Γ'.tail:=rfl
theorem TY{Γ Γ':G}{d:D}:kv (some (.fz d)::Γ) Γ'=some (.fz d)::kv Γ Γ'.tail:=rfl
theorem T1{Γ Γ':G}{d d':D}:kv (some (.ln d)::Γ) (some (.ln d')::Γ')=some (.ln d')::kv Γ Γ':=rfl
theorem Nt{Γa Γ':G}{d:D}(h:Γa[k]?=some (some (Sl.ln d))){d':D}(h':Γ'[k]?=some (some (Sl.ln d'))):(kv Γa Γ')[k]?=some (some (Sl.ln d')):=by
 rw[vG,h,h'];rfl
theorem vF{Γa Γ':G}{s:Sl}(h:(kv Γa Γ')[k]?=some (some s)):(∃ d d',Γa[k]?=some (some (Sl.ln d))/\s=.ln d')\/(Γa[k]?=some (some s)/\∀ d,s≠.ln d):=by
 rw[vG] at h;cases w:Γa[k]? with
 | none=>rw[w] at h;cases h
 | some o=>
  rw[w] at h;cases o with
  | none=>cases h
  | some a=>
   cases a with
   | fz d=>cases h;exact .inr ⟨rfl,λd z=>by cases z⟩
   | ow d=>cases h;exact .inr ⟨rfl,λd z=>by cases z⟩
   | ln d=>
    left
    have h:QV Γ'[k]? d=some s:=ov h;unfold QV at h;split at h <;> cases h <;> exact⟨_,_,rfl,rfl⟩
theorem En.out{H F U T:Hp}{f:List (Nat×Addr)}{i l:_2.St}{Γa Γ':G}(B:En K ⟨H,F,f⟩ H i F Γa)(M:∀ (k:Nat) (d:D),Γa[k]?≠some (some (Sl.ow d)))(n:En K ⟨H,F,f⟩ U l T Γ'){v:V}{r:RV}(S:qF K ⟨H,F,f⟩ U l T Γ' v r) :
  En K ⟨H,F,f⟩ U i T (kv Γa Γ')/\qF K ⟨H,F,f⟩ U i T (kv Γa Γ') v r:=by
 have J:∀ {k:Nat} {d:D},Γa[k]?=some (some (Sl.ln d))->∃ p o,(k,p)∈f/\i[k]?=some (some (V.ref p))/\l[k]?=some (some (V.ref p))/\Γ'[k]?=some (some (Sl.ln o))/\(kv Γa Γ')[k]?=some (some (Sl.ln o)):=λ{k d} h=>by
  obtain⟨p,a,b,c⟩:=B.hl k d (.inr h);have m:=B.ln k d p h a;obtain⟨e,o,j⟩:=n.par k p m;exact⟨p,o,m,a,e,j,Nt h j⟩
 have g:∀ {k:Nat} {d:D},Hld (kv Γa Γ') k d->∃ p E,Γa[k]?=some (some (Sl.ln E))/\(k,p)∈f/\i[k]?=some (some (V.ref p))/\l[k]?=some (some (V.ref p))/\Γ'[k]?=some (some (Sl.ln d)):=λ{k d} h=>by
  rcases h with h | h
  .rcases vF h with ⟨C,R,_,z⟩ | ⟨z,_⟩
   .cases z
   .exact absurd z (M k d)
  .rcases vF h with ⟨C,R,z,_⟩ | ⟨_,z⟩
   .obtain⟨p,o,m,a,e,j,s⟩:=J z;rw[h] at s;cases s;exact⟨p,C,z,m,a,e,j⟩
   .exact absurd rfl (z d)
 refine⟨⟨n.sub,?_,?_,?_,?_,?_,?_,?_,n.keep,n.new,n.rest,n.dom⟩,?_⟩
 .rw[EL];exact B.len
 .intro k d q;rcases vF q with ⟨C,R,_,z⟩ | ⟨z,_⟩
  .cases z
  .obtain⟨u,a,b⟩:=B.fz k d z;exact⟨u,a,b.mono n.keep⟩
 .intro k d q;obtain⟨p,E,_,m,a,e,b⟩:=g q;obtain⟨I,x,y,z⟩:=n.hl k d (.inr b);rw[e] at x;cases x;exact⟨p,a,y,z⟩
 .intro k d p q;rcases vF q with ⟨C,R,_,z⟩ | ⟨z,_⟩
  .cases z
  .exact absurd z (M k d)
 .intro k d p q a;obtain⟨I,E,_,m,e,_⟩:=g (.inr q);rw[a] at e;cases e;exact m
 .intro k k' d o p q1 q2 a1 a2;obtain⟨p1,C,z1,_⟩:=g q1;obtain⟨p2,R,z2,_⟩:=g q2;exact B.dis k k' C R p (.inr z1) (.inr z2) a1 a2
 .intro k p q;obtain⟨a,d,b⟩:=B.par k p q;obtain⟨I,o,m,e,_,_,c⟩:=J b;exact⟨a,o,c⟩
 .cases r with
  | fz d=>exact S
  | fr d=>
   obtain⟨p,Q,P,O,N,W⟩:=S;refine⟨p,Q,P,O,N,λk x L a=>?_⟩;obtain⟨I,E,_,m,e,j,s⟩:=g L;rw[a] at e;cases e;exact W k x (.inr s) j
  | two xs ys=>
   obtain⟨t,p,q,Z,Y,Q,P,O,N,W,h6,h7,A⟩:=S;refine⟨t,p,q,Z,Y,Q,P,O,N,W,h6,h7,λz w=>⟨(A z w).1,(A z w).2.1,λk x L a=>?_⟩⟩;obtain⟨I,E,_,m,e,j,s⟩:=g L;rw[a] at e;cases e;exact(A z w).2.2 k x (.inr s) j
  | rws X=>
   obtain⟨p,qs,Q,P,O,N,A⟩:=S;refine⟨p,qs,Q,P,O,N,λz w=>⟨(A z w).1,(A z w).2.1,λk x L a=>?_⟩⟩;obtain⟨I,E,_,m,e,j,s⟩:=g L;rw[a] at e;cases e;exact(A z w).2.2 k x (.inr s) j
end
noncomputable def i4 (N:Ls0)(Γa:G):G:=Γa++fC (N.length - Γa.length) none
section
variable {mg:SV0}
theorem En.start{B:Bs}{F H:Hp}{vs:List V}{Γa:G}(e:En K B F (vs.map some) H Γa)(u:Γa.length<=N.length):En K B F (_2.start N vs) H (i4 N Γa):=by
 have len:=e.len;rw[lM0] at len;have c:∀ {i:Nat},i < Γa.length->(_2.start N vs)[i]?=(vs.map some)[i]?:=λ{i} h=>by
  unfold _2.start;rw[ef (by rw[lM0];lia)]
 have f:∀ {i:Nat} {s:Sl},(i4 N Γa)[i]?=some (some s)->i < Γa.length/\Γa[i]?=some (some s):=λ{i s} h=>by
  unfold i4 at h;by_cases lt:i < Γa.length
  .rw[ef lt] at h;exact⟨lt,h⟩
  .rw[ic (by lia)] at h;have:=hW h;rw[Wo] at this;cases this.2
 have l:∀ {i:Nat} {d:D},Hld (i4 N Γa) i d->i < Γa.length/\Hld Γa i d:=λh=>by
  rcases h with h | h
  .exact⟨(f h).1,.inl (f h).2⟩
  .exact⟨(f h).1,.inr (f h).2⟩
 refine⟨e.sub,?_,?_,?_,?_,?_,?_,?_,e.keep,e.new,e.rest,e.dom⟩
 .unfold _2.start i4;simp only[bS,lM0,rk];lia
 .intro i d q;obtain⟨lt,q⟩:=f q;rw[c lt];exact e.fz i d q
 .intro i d q;obtain⟨lt,q⟩:=l q;rw[c lt];exact e.hl i d q
 .intro i d p q a;obtain⟨lt,q⟩:=f q;rw[c lt] at a;exact e.ow i d p q a
 .intro i d p q a;obtain⟨lt,q⟩:=f q;rw[c lt] at a;exact e.ln i d p q a
 .intro i j d t p k g n m;obtain⟨r,k⟩:=l k;obtain⟨o,g⟩:=l g;rw[c r] at n;rw[c o] at m;exact e.dis i j d t p k g n m
 .intro i p q;obtain⟨a,d,b⟩:=e.par i p q;have lt:i < Γa.length:=(gS0 b).1;refine⟨by rw[c lt];exact a,d,?_⟩;unfold i4;rw[ef lt];exact b
theorem ok3{S:S3}(F:Fun K x qual st f fd)(M:ao N ps (ae st))(L:autoParam (ps.length<=N.length) wP)(hbody:∀ (d:Value) (A:Around) (outer:List Env) (s:Shared) (H:Hp) (E:XK),dH k (A.deeper (envOfC qual (ae st) s.heap.objs.size f d))->
   ∃ t t3,xc K (DL CX0 P w K mg base N qual (ae st) f d A outer s H E).nox (c5 st) t t3/\∀ c Q,S c Q->c.length=ps.length->t3 { nx:=λΓ'=>Q (.fz .non) (kv c Γ'),rt:=λr Γ'=>Q r (kv c Γ') } (i4 N c)) :
  aB P w K mg base CX0 (k + 1) f fd ps (sp3 K ps.length S):=by
 refine F.ok M (λy H Q E h=>h.1) λd A outer s H y Q E G h=>?_;obtain⟨I,u,l,c,n,e,g,J,p⟩:=h;obtain⟨t,t3,o,D⟩:=hbody d A outer s H E G;have i:c.length=ps.length:=by rw[<- e.len,lM0];exact I
 refine⟨t,o.pe,o.rf ⟨u,H,l⟩ u _ H _ _ { nx:=λΓ'=>n (.fz .non) (kv c Γ'),rt:=λr Γ'=>n r (kv c Γ') } (e.start (N:=N) (by rw[i];exact L)) ⟨?_,?_,λ_ _ _ _ _ _ z=>sO z,λ_ _ _ _ _ _ z=>sO z⟩ (D c n J i)⟩
 .intro R j O Γ' B m q;obtain⟨a,b⟩:=e.out g m (v:=.non) (r:=.fz .non) rfl;exact p _ _ q _ _ _ a b
 .intro R j O Γ' v r B m C q;obtain⟨a,b⟩:=e.out g m C;exact p _ _ q _ _ _ a b
end
section
variable {X:Cx}{C:Addr}{m:Str}{p:Pos}{ta:TE}{t:TA}{t3:fP}{o3:TB3}{S:S3}
theorem ak(m:X.K=K)(F:aB X.prog X.w X.K X.mg X.base CX0 k f fd ps (sp3 K n S))(d:dH k X.A)(i:Gl X x)(g:X.mg x=some (.ref f))(h:mC X.K (.ref f)=true)(l:Binds X.K fd ps [])(c:B1 K X (e::es) t t3)(b:autoParam ((x == ("__debug__":Str))=false) wP)(j:autoParam (ew (e::es) X.env=(false,eval e X.env)::ew es X.env) wE)(a:autoParam ((backTo pos (ew es X.env)).any (·.1)=false) wE) :
  P3 K X (.Call (.Name x p) (e::es) [] pos) (zJ (sp3 K n S) [] E0 t) (DS n S t3):=⟨Hk F d i g h l .nil Ae c.pe b j a,EB c.rf⟩
theorem KJ(h:X.K=K)(F:aB X.prog X.w X.K X.mg X.base CX0 k f fd ps (sp3 K n S))(b:dH k X.A)(e:Gl X x)(c:X.mg x=some (.ref f))(d:mC X.K (.ref f)=true)(g:Binds X.K fd ps [])(a:autoParam ((x == ("__debug__":Str))=false) wP) :
  P3 K X (.Call (.Name x p) [] [] pos) (zJ (sp3 K n S) [] E0 sR) (DS n S NF):=⟨KC F b e c d g .nil Ae a,EB (ab (X:=X)).rf⟩
def om (C:Addr)(m:Str)(n:Nat)(S:S3)(f:TB3)(e:fP)(Γ:G)(Q:RV->G->Prop):Prop:=f Γ λx b=>(∃ ns xs,x.at b=some (.ins C ns xs)/\m∉ns)/\e b λd a=>bT (ql (x::d) n) (S (g4 a ((x::d).map some)) λr c=>Q r (aZ (((x::d).map some).map dm) a c)) False ⟨⟩ ⟨⟩
theorem IP{c:Ls0}:∀ {b:List (Str×V)} {m:Str},b.map (·.1)=c->m∉c->b.lookup m=none:=by
 induction c with
 | nil=>intro b m h _;cases b with | nil=>rfl | cons=>cases h
 | cons a c e=>
  intro b m h d;cases b with
  | nil=>cases h
  | cons g b=>
   simp only[qq,Zo] at h;obtain⟨rfl,h⟩:=h;rw[fg,not_or] at d;obtain⟨f,i⟩:=g;rw[fw,show (m == f)=false from beq_eq_false_iff_ne.mpr d.1];exact e h d.2
theorem Ey(J:Br K ta o3)(N:CQ K t t3):Ref K (Eb C m (sp3 K n S) [] E0 ta t) (om C m n S o3 t3):=by
 intro B F d H w Q QQ e q G;refine J B F d H w _ _ e q λv H0 Z=>?_;obtain⟨F0,f,Y,x,l,j,⟨ns,xs,I,M⟩,D⟩:=Z;obtain⟨p,U,R,rfl,P,O,h3⟩:=l.bo j I;refine⟨p,U,R,rfl,P,IP O M,N B F0 d H0 f _ _ l D λg H1 Z=>?_⟩;obtain⟨o,u,X,h,k,z,Z⟩:=Z;obtain⟨W,A⟩:=xY Z;obtain⟨L,E⟩:=w_ W;show sp3 K n S (V.ref p::(g++[])) H1 QQ E0;rw[td];have i:bH K o d (Y::X) (V.ref p::g):=⟨_,_,rfl,j.mono h,z⟩;refine⟨by rw[i.length];exact L,o,_,_,_,k.args i E,sQ,A,λr s q v H' F' T y=>?_⟩;obtain⟨a,b,c⟩:=k.called T y;exact G v H' ⟨F',_,r,(x.trans h).trans a,b,c,q⟩
theorem aC{pl:Sem Bool}(p:X.K=K)(d:P3B K X o ta o3)(c:Cls X.K C)(j:Meth X.K C m f)(F:aB X.prog X.w X.K X.mg X.base CX0 k f fd ps (sp3 K n S))(i:dH k X.A)(l:Binds X.K fd ps [])(g:B1 K X (e::es) t t3)(a:autoParam (ew (e::es) X.env=(false,eval e X.env)::ew es X.env) wE)(b:autoParam ((backTo pos (ew es X.env)).any (·.1)=false) wE)(h:autoParam (eval (.Call (.Attribute o m apos) (e::es) [] pos) X.env=(do
   let I <- eval o X.env
   VT apos.atName
   let (f,first) <- holding [I] (YM I m pl)
   callWith pos f first (backTo pos (ew (e::es) X.env)) (YO pos (Xp [] X.env)))) wE) :
  P3 K X (.Call (.Attribute o m apos) (e::es) [] pos) (Eb C m (sp3 K n S) [] E0 ta t) (om C m n S o3 t3):=⟨Ng d.pe c j F i l .nil Ae g.pe a b h,Ey d.rf g.rf⟩
theorem aM{pl:Sem Bool}(h:X.K=K)(a:P3B K X o ta o3)(c:Cls X.K C)(e:Meth X.K C m f)(F:aB X.prog X.w X.K X.mg X.base CX0 k f fd ps (sp3 K n S))(d:dH k X.A)(g:Binds X.K fd ps [])(b:autoParam (eval (.Call (.Attribute o m apos) [] [] pos) X.env=(do
   let I <- eval o X.env
   VT apos.atName
   let (f,first) <- holding [I] (YM I m pl)
   callWith pos f first (backTo pos (ew [] X.env)) (YO pos (Xp [] X.env)))) wE) :
  P3 K X (.Call (.Attribute o m apos) [] [] pos) (Eb C m (sp3 K n S) [] E0 ta sR) (om C m n S o3 NF):=⟨Kw a.pe c e F d g .nil Ae b,Ey a.rf (ab (X:=X)).rf⟩
theorem P3.or{t t':TE}{c b:TE3}(h:P3 K X e t c)(h':P3 K X e t' b):P3 K X e (λσ H Q=>t σ H Q\/t' σ H Q) (λΓ Q=>c Γ Q\/b Γ Q):=
 ⟨λa s σ H Q I q=>q.elim (h.pe a s σ H Q I) (h'.pe a s σ H Q I),λB F σ H Γ Q d e q k=>q.imp (λq=>h.rf B F σ H Γ Q d e q k) (λq=>h'.rf B F σ H Γ Q d e q k)⟩
theorem gX(M:Mk0 X.K C)(j:Gl X x)(i:X.mg x=some (.ref C))(c:autoParam ((x == ("__debug__":Str))=false) wP):P3 K X (.Call (.Name x p) [] [] pos) (Ha C) (λΓ Q=>Q (.fr (.ins C [] [])) Γ):=
 ⟨Ir M j i c,λB F l H Γ Q m e q k=>λy g f b h=>k _ _ (by
  have d:=e.alloc b (.own y);have a:(upd H g (.own y)) y=none:=by rw[ar (rl h)];exact f
  exact⟨F,Γ,.fr (.ins C [] []),aS.refl F,d.alloc a _,⟨y,rfl,d.nof a,⟨g,[],ax,rfl,rfl⟩,e.dom _ f,d.Au a⟩,q⟩)⟩
end
section
variable {X:Cx}{B:Bs}{F H:Hp}{Γ:G}{p:Pos}
theorem Ci{n:String}(d:Gl X x)(c:X.mg x=none)(a:zp x=some (.type n))(b:autoParam (x≠"__name__") wP)(e:autoParam ((x == ("__debug__":Str))=false) wP):P3 K X (.Name x pos) (tC (.ty n)) (t3C (.ty n)):=
 ⟨Nj (v:=.ty n) d c a rfl b e,Cf λ_=>rfl⟩
theorem Ew(i:Nat){y:Str}{k:Expr}{a te:TE}{b:TB3}{g:TE3}(c:P3B K X (.Name y px) (kS i) (bor i))(d:P3B K X k a b)(f:P3 K X e te g)(l:autoParam (∀ v,assign (.Subscript (.Name y px) k p2) X.env v=(do
   let I <- holding [v] (eval (.Name y px) X.env)
   let O <- holding [v,I] (eval k X.env)
   VT p2
   holding [v,I,O] (setItem I O v)
   release [v,I,O] [])) wT)(j:autoParam (Ws [.Subscript (.Name y px) k p2] e pos.line X.env=pure false) wE)(h:autoParam (Wt [.Subscript (.Name y px) k p2] e X.env=pure none) wE)(m:autoParam ((PP [.Subscript (.Name y px) k p2] X.env).map (·.2)=[assign (.Subscript (.Name y px) k p2) X.env]) wE) :
  P3S K X (.Assign [.Subscript (.Name y px) k p2] e pos) (xj te (Le (kS i) a ED)) (Hc i b g):=MG i c d f (FZ f.pe (Kv c.pe d.pe set_list l) j h m)
theorem En.grow(e:En K B F σ H Γ){g:Hp}(s:aS H g)(S:Addr)(k:H S=none):∃ F',aS F F'/\En K B F' σ g Γ/\F' S=none/\∀ b o,b≠S->H b=none->g b=some o->F' b=some o:=by
 refine⟨λb=>if H b=none/\b≠S then g b else F b,?_,?_,?_,?_⟩
 .intro b o h;show (if _ then _ else _)=_;have:=e.sub b o h;rw[if_neg (by rw[this];simp)];exact h
 .refine⟨?_,e.len,?_,?_,e.ow,e.ln,e.dis,e.par,?_,?_,λb o h n=>s b o (e.rest b o h n),λb h=>e.dom b (s.free h)⟩
  .intro b o h;change (if _ then _ else _)=_ at h;split at h
   .exact h
   .exact s b o (e.sub b o h)
  .intro i d h;obtain⟨v,a,b⟩:=e.fz i d h;refine⟨v,a,b.mono λb o h=>?_⟩;show (if _ then _ else _)=_;have:=e.sub b o h;rw[if_neg (by rw[this];simp)];exact h
  .intro i d h;obtain⟨q,a,b,c⟩:=e.hl i d h;obtain⟨o,j⟩:=c.some;refine⟨q,a,?_,c.mono (λb o h=>?_) (by rw[j];exact s _ _ j)⟩
   .show (if _ then _ else _)=_;rw[if_neg (by rw[j];simp)];exact b
   .show (if _ then _ else _)=_;have:=e.sub b o h;rw[if_neg (by rw[this];simp)];exact h
  .intro b o h;have f:=e.keep b o h;show (if _ then _ else _)=_;have:=e.sub b o f;rw[if_neg (by rw[this];simp)];exact f
  .intro b o h;change (if _ then _ else _)=_ at h;split at h
   .rename_i q;exact .inr (e.dom b q.1)
   .exact e.new b o h
 .show (if _ then _ else _)=_;rw[if_neg (by simp)];exact e.nof k
 .intro b o n h f;show (if _ then _ else _)=_;rw[if_pos ⟨h,n⟩];exact f
def lz3 (b:fP)(Γ:G)(Q:RV->G->Prop):Prop:=b Γ λc a=>∃ xs ys,ats a c=some [.lst xs,.lst ys]/\min xs.length ys.length < sizeLine/\Q (.fr (.lst (iI xs ys))) a
theorem Hg {F:Hp}:∀ {ds:List D} {vs:List V},vs.length=ds.length->(∀ (i:Nat) d v,ds[i]?=some d->vs[i]?=some v->Rep K F d v)->aI K F ds vs
 | [],vs,h,_=>by cases vs with | nil=>rfl | cons=>simp at h
 | d::ds,vs,h,k=>by
  cases vs with
  | nil=>simp at h
  | cons v vs=>exact⟨v,vs,rfl,k 0 d v rfl rfl,Hg (by simpa using h) λi d v b a=>k (i + 1) d v (by simpa using b) (by simpa using a)⟩
theorem Jy{xs ys:List D}:(iI xs ys).length=min xs.length ys.length:=by unfold iI;rw[lM0,ac6]
theorem Gg{b:Expr}{ta:TA}{T:fP}{p c:Pos}(hc:X.calm=true)(hg:Gl X "list")(hm:X.mg "list"=none)(L:Gl X "zip")(G:X.mg "zip"=none)(U:B1 K X [a,b] ta T)(hs:autoParam (ew [a,b] X.env=[(false,eval a X.env),(false,eval b X.env)]) wE)(E:autoParam (ew [b] X.env=[(false,eval b X.env)]) wE)(D:autoParam (ew [Expr.Call (.Name "zip" p2) [a,b] [] c] X.env=[(false,eval (.Call (.Name "zip" p2) [a,b] [] c) X.env)]) wE) :
  P3 K X (.Call (.Name "list" p) [.Call (.Name "zip" p2) [a,b] [] c] [] pos) (Ec ta) (lz3 T):=⟨Gd hc hg hm L G U.pe hs E D,by
 intro B F Y H Γ Q QQ e q k;refine U.rf B F Y H Γ _ _ e q λvs H1 Z=>?_;obtain⟨F1,r,bs,s1,o,r0,xs,ys,M,hz,q1⟩:=Z;obtain⟨v,w,rfl,⟨p1,n,rfl,g1,y⟩,⟨p2,l,rfl,g2,x⟩⟩:=(o.bos r0 M).two;refine⟨p1,p2,n,l,rfl,g1,g2,by rw[y.length,x.length];exact hz,λS R H' O sm W P V h4=>k _ _ ?_⟩;obtain⟨F2,s,e2,f2,g⟩:=o.grow sm S O;have N:∀ t∈R,t≠S:=λt h z=>by
  subst z;obtain⟨j,J,I⟩:=Re h;have C:j < n.length:=by rw[P] at J;lia
  have A:j < l.length:=by rw[P] at J;lia
  have:=V j t _ _ (by rw[<- I];exact gE0 J) (gE0 C) (gE0 A);rw[W] at this;cases this
 refine⟨F2,r,.fr (.lst (iI xs ys)),s1.trans s,e2,⟨S,rfl,f2,⟨_,W,?_⟩,o.dom _ O,o.Au O⟩,q1⟩;refine Hg (by rw[lM0,P,Jy,y.length,x.length]) λi d v M f=>?_;obtain⟨dx,dy,C,A,rfl⟩:=zF M;rw[cm] at f;cases h:R[i]? with
 | none=>rw[h] at f;cases f
 | some t=>
  rw[h] at f;cases f;obtain⟨v,f,rv⟩:=y.get C;obtain⟨w,hw,u⟩:=x.get A;have m:=hW h;exact⟨t,_,rfl,g t _ (N t m) (h4 t m) (V i t v w h f hw),⟨_,_,rfl,rv.mono s,_,_,rfl,u.mono s,rfl⟩⟩⟩
end
theorem VJ{b:Type}{a:b}{l:List b}:atI (a::l) 0=some a:=by
 unfold _2.atI ixN;simp
theorem VI{c:Type}{a b:c}{l:List c}:atI (a::b::l) 1=some b:=by
 have:ixN (a::b::l).length 1=some 1:=by
  unfold ixN;rw[if_pos (by decide),if_pos (by simp;lia)];rfl
 unfold _2.atI;rw[this];rfl
theorem VH{d:Type}{a b c:d}{l:List d}:atI (a::b::c::l) 2=some c:=by
 have:ixN (a::b::c::l).length 2=some 2:=by
  unfold ixN;rw[if_pos (by decide),if_pos (by simp;lia)];rfl
 unfold _2.atI;rw[this];rfl
theorem VG{e:Type}{a b c d:e}{l:List e}:atI (a::b::c::d::l) 3=some d:=by
 have:ixN (a::b::c::d::l).length 3=some 3:=by
  unfold ixN;rw[if_pos (by decide),if_pos (by simp;lia)];rfl
 unfold _2.atI;rw[this];rfl
theorem RB:ixN 3 0=some 0:=rfl
theorem RA:ixN 3 1=some 1:=rfl
theorem Rz:ixN 3 2=some 2:=rfl
theorem dA{a:Type}{xs:List a}{k:Int}{d:a}(h:0<=k)(e:xs[k.toNat]?=some d):atI xs k=some d:=by
 obtain⟨j,rfl⟩:∃ j:Nat,k=(j:Int):=⟨k.toNat,by lia⟩;exact Oy (by simpa using e)
theorem DY{k:Int}(a:0<=k)(b:k < (ns.length:Int)):atI (ns.map D.int) k=some (.int (ns.getD k.toNat 0)):=by
 refine dA a ?_;have:k.toNat < ns.length:=by lia
 rw[cm,gE0 this];simp [vk,this]
theorem Ox{k:Int}(a:0<=k)(b:k < (ns.length:Int)):atI ns k=some (ns.getD k.toNat 0):=by
 refine dA a ?_;have:k.toNat < ns.length:=by lia
 rw[gE0 this];simp [vk,this]
theorem Oz{a:Type}{xs:List a}{k:Int}(b:0<=k)(c:k < (xs.length:Int)):∃ d,atI xs k=some d/\d∈xs:=by
 have:k.toNat < xs.length:=by lia
 exact⟨xs[k.toNat],dA b (gE0 this),FB this⟩
theorem lV(h:1<=ns.length):atI (ns.map D.int) (-1)=some (.int (ns.getD (ns.length - 1) 0)):=by
 have e:ixN (ns.map D.int).length (-1)=some (ns.length - 1):=by
  unfold ixN;rw[lM0,if_neg (by decide),if_pos (by lia)]
  congr 1
  lia
 unfold _2.atI;rw[e];have:ns.length - 1 < ns.length:=by lia
 show (ns.map D.int)[ns.length - 1]?=_;rw[cm,gE0 this];simp [vk,this]
section
variable {mg:SV0}
def Pa (n:Nat):S3:=λΓ Q=>∃ ns:Li0,Γ=[some (.fz (.scr ns))]/\ns.length<=n/\∀ Γ',Q (.fz (.bl true)) Γ'
theorem Rm(F:aB P w K mg base CX0 k f fd ps (sp3 K 1 (Pa n))) :
  aB P w K mg base CX0 k f fd ps (λvs H Q _=>∃ (p:Addr) (ns:Li0),vs=[.ref p]/\SqL K H p (ns.map V.int)/\ns.length<=n/\∀ H',Q (.bl true) H'):=by
 refine F.imp λvs H Q E h=>?_;obtain⟨p,ns,rfl,l,m,q⟩:=h;have a:∀ {i:Nat} {s:Sl},([some (Sl.fz (.scr ns))]:G)[i]?=some (some s)->i=0/\s=.fz (.scr ns):=λ{i s} h=>by
  cases i with
  | zero=>cases h;exact⟨rfl,rfl⟩
  | succ i=>cases h
 refine⟨rfl,H,[],[some (.fz (.scr ns))],λr _=>r=.fz (.bl true),⟨aS.refl H,rfl,?_,?_,?_,?_,?_,?_,aS.refl H,λb o h=>.inl h,λb o h _=>h,λb h=>h⟩,?_,⟨ns,rfl,m,λ_=>rfl⟩,?_⟩
 .intro i d h;obtain⟨rfl,e⟩:=a h;cases e;exact⟨_,rfl,p,rfl,l⟩
 .intro i d h;rcases h with h | h <;> cases (a h).2
 .intro i d p h;cases (a h).2
 .intro i d p h;cases (a h).2
 .intro i j d e p h;rcases h with h | h <;> cases (a h).2
 .intro i p h;cases h
 .intro k d h;cases (a h).2
 .intro r c e v H' t _ g;subst e;have:v=.bl true:=g;subst this;exact q H'
end
open PySem _2 PySem.Spec PySem.SeqAt
noncomputable def b2 (b:Bool):Int:=if b then 1 else 0
mutual
noncomputable def eqN:Nat->D->D->Option Bool
 | _,.non,.non=>some true
 | _,.bl a,.bl b=>some (a == b)
 | _,.int a,.int b=>some (a == b)
 | _,.str a,.str b=>some (a == b)
 | n + 1,.lst xs,.lst ys=>lR n xs ys
 | n + 1,.tup xs,.tup ys=>lR n xs ys
 | _,_,_=>none
noncomputable def lR:Nat->List D->List D->Option Bool
 | _,[],[]=>some true
 | n,x::xs,y::ys=>match eqN n x y,lR n xs ys with
  | some a,some b=>some (a && b)
  | _,_=>none
 | _,_,_=>some false
end
section
variable {F H:Hp}
theorem Fj {n:Nat}:∀ {xs ys:List D} {k:Bool},lR n xs ys=some k->xs.length≠ys.length->k=false
 | [],[],_,_,h=>absurd rfl h
 | x::xs,[],_,e,_=>by unfold lR at e;cases e;rfl
 | [],y::ys,_,e,_=>by unfold lR at e;cases e;rfl
 | x::xs,y::ys,k,e,h=>by
  unfold lR at e;split at e
  .rename_i a b d c;cases e;rw[Fj c (by simpa using h),ad3]
  .cases e
theorem A9 {n:Nat}:∀ {xs ys:List D} {k:Bool},lR n xs ys=some k->∃ e:Nat->Bool,(∀ (j:Nat) x y,xs[j]?=some x->ys[j]?=some y->eqN n x y=some (e j))/\k=((el (min xs.length ys.length)).all e && xs.length == ys.length)
 | [],[],k,h=>by unfold lR at h;cases h;exact⟨λ_=>true,λj x y h=>by simp at h,by simp⟩
 | x::xs,[],k,h=>by unfold lR at h;cases h;exact⟨λ_=>true,λj x y _ h=>by simp at h,by simp⟩
 | [],y::ys,k,h=>by unfold lR at h;cases h;exact⟨λ_=>true,λj x y h=>by simp at h,by simp⟩
 | x::xs,y::ys,k,h=>by
  unfold lR at h;split at h
  .rename_i a b m l;cases h;obtain⟨e,p,o⟩:=A9 l;refine⟨λj=>match j with | 0=>a | j + 1=>e j,λj g f d c=>?_,?_⟩
   .cases j with
    | zero=>simp at d c;subst d c;exact m
    | succ j=>exact p j g f (by simpa using d) (by simpa using c)
   .subst o;have i:min (x::xs).length (y::ys).length=min xs.length ys.length + 1:=by simp [Nat.succ_min_succ]
    rw[i,List.range_succ_eq_map,XW,List.all_map];simp only[tx,Function.comp_def,Bool.and_assoc]
    congr 1
    congr 1
    simp
  .cases h
theorem CH {n:Nat}(l:∀ {d d':D} {v:V} {k:Bool},Rep K F d v->Rep K F d' v->eqN n d d'=some k->k=true):∀ {xs ys:List D} {vs:List V} {k:Bool},aI K F xs vs->aI K F ys vs->lR n xs ys=some k->k=true
 | [],[],_,k,_,_,e=>by unfold lR at e;cases e;rfl
 | x::xs,[],_,k,⟨v,j,c,_⟩,s,e=>by cases s;cases c
 | [],y::ys,_,k,h,⟨v,j,c,_⟩,e=>by cases h;cases c
 | x::xs,y::ys,_,k,⟨v,j,c,r,q⟩,⟨t,m,i,g,f⟩,e=>by
  subst c;cases i;unfold lR at e;split at e
  .rename_i a b p o;cases e;rw[l r g p,CH l q f o];rfl
  .cases e
theorem HK:∀ {d d':D} {v:V} {k:Bool},Rep K F d v->Rep K F d' v->eqN n d d'=some k->k=true:=by
 induction n using Nat.strongRecOn with
 | ind n m=>
  intro d d' v k h c e;unfold eqN at e;split at e <;> first
   | (cases e;rfl)
   | (cases e;cases h;cases c;simp;done)
   | (cases e;cases h;cases c;done)
   | (cases e;cases h;obtain⟨_,_,z,_⟩:=c;cases z;done)
   | (cases e;cases c;obtain⟨_,_,z,_⟩:=h;cases z;done)
   | (obtain⟨p,j,rfl,a,b⟩:=h;obtain⟨l,g,q,f,i⟩:=c;cases q;rw[a] at f;cases f;exact CH (m _ (SE _)) b i e)
   | (obtain⟨p,j,rfl,a,b⟩:=h;obtain⟨l,g,q,f,i⟩:=c;cases q;rw[a] at f;cases f;done)
   | (cases e;done)
end
section
variable {X:Cx}{F H:Hp}{pins:Pn0}{s:Shared}
theorem Vals.at'{xs:List V}(r:Vals xs us)(h:j < us.toArray.size):∃ v,xs[j]?=some v/\RelV v (us.toArray[j]):=by
 have b:j < xs.length:=by rw[r.length];simpa using h
 obtain⟨u,d,c⟩:=r.get (gE0 b);refine⟨_,gE0 b,?_⟩;have:us.toArray[j]=u:=by
  have e:j < us.length:=by simpa using h
  have a:us[j]?=some us[j]:=gE0 e;rw[d] at a;cases a;simp
 rw[this];exact c
theorem GH(I:Inv X pins σ H s){vs:List V}(h:H p=some (.lst vs)):∃ its:Lv0,Vals vs its/\s.heap.IsList p its.toArray:=by
 obtain⟨its,n,r,e,_⟩:=I.lst h;exact⟨its,r,_,e,rfl,n,rfl⟩
theorem K4(I:Inv X pins σ H s){vs:List V}(h:H p=some (.tup vs)):∃ its:Lv0,Vals vs its/\s.heap.IsTuple p its.toArray:=by
 obtain⟨its,r,⟨o,e,b,n,d⟩,_⟩:=I.tuple (a:=p) (xs:=vs) (.inl (.inl h));exact⟨its,r,o,e,b,n,d⟩
theorem Lx{xs ys:List D}{vs f:List V}{zs:Lv0}{e:Nat->Bool}(r:∀ {d d':D} {v g:V} {u h:Value} {k:Bool},Rep K F d v->Rep K F d' g->RelV v u->RelV g h->eqN n d d'=some k->EqAt A s u h k)(o:aI K F xs vs)(m:aI K F ys f)(q:Vals vs us)(p:Vals f zs)(B:∀ (j:Nat) x y,xs[j]?=some x->ys[j]?=some y->eqN n x y=some (e j)) :
  ∀ j (h1:j < us.toArray.size) (h2:j < zs.toArray.size),EqAt A s us.toArray[j] zs.toArray[j] (e j):=λj h1 h2=>by
 obtain⟨v,z,i⟩:=Vals.at' q h1;obtain⟨w,t,a⟩:=Vals.at' p h2;obtain⟨d,C,l⟩:=o.N8 z;obtain⟨d',c,b⟩:=m.N8 t;exact r l b i a (B j d d' C c)
theorem EC{q:Addr}{xs ys:List D}{vs l:List V}{k:Bool}(I:Inv X pins σ H s)(J:∀ {d d':D} {v m:V} {u r:Value} {k:Bool},Rep K F d v->Rep K F d' m->RelV v u->RelV m r->eqN n d d'=some k->EqAt A.in1 s u r k)(M:H p=some (.lst vs))(L:H q=some (.lst l))(y:aI K F xs vs)(x:aI K F ys l)(E:lR n xs ys=some k)(h:A.units < cLine):RcAt A s (.ref p) (.ref q) k/\RcNeAt A s (.ref p) (.ref q) (!k):=by
 obtain⟨o,C,f⟩:=GH I M;obtain⟨j,B,c⟩:=GH I L;have b:o.toArray.size=xs.length:=by rw[<- y.length,C.length];simp
 have i:j.toArray.size=ys.length:=by rw[<- x.length,B.length];simp
 by_cases a:xs.length=ys.length
 .obtain⟨e,g,rfl⟩:=A9 E;have G:=Lx J y x C B g;have w:=RcAt.lists f c (by rw[b,i,a]) h G;have t:=RcNeAt.lists f c (by rw[b,i,a]) h G;rw[b,a] at w t;rw[a,Zg,beq_self_eq_true,Bool.and_true];exact⟨w,t⟩
 .rw[Fj E a];have z:(o.toArray.size != j.toArray.size)=true:=by rw[b,i,bne_iff_ne];exact a
  exact⟨RcAt.lists_lengths f c z h,RcNeAt.lists_lengths f c z h⟩
theorem Cg{q:Addr}{xs ys:List D}{vs a:List V}{k:Bool}(I:Inv X pins σ H s)(C:∀ {d d':D} {v b:V} {u c:Value} {k:Bool},Rep K F d v->Rep K F d' b->RelV v u->RelV b c->eqN n d d'=some k->EqAt A.in1 s u c k)(J:H p=some (.tup vs))(G:H q=some (.tup a))(j:aI K F xs vs)(i:aI K F ys a)(E:lR n xs ys=some k)(t:A.units < cLine):RcAt A s (.ref p) (.ref q) k/\RcNeAt A s (.ref p) (.ref q) (!k):=by
 obtain⟨y,m,r⟩:=K4 I J;obtain⟨x,l,o⟩:=K4 I G;have B:y.toArray.size=xs.length:=by rw[<- j.length,m.length];simp
 have z:x.toArray.size=ys.length:=by rw[<- i.length,l.length];simp
 obtain⟨e,g,rfl⟩:=A9 E;have w:=Lx C j i m l g;have h:=RcAt.tuples r o t w;have f:=RcNeAt.tuples r o t w;rw[B,z] at h f;exact⟨h,f⟩
theorem Lu(I:Inv X pins σ H s)(l:aS F H):∀ (n:Nat) {A:Around} {d d':D} {v i:V} {u j:Value} {k:Bool},A.units + n < cLine->Rep K F d v->Rep K F d' i->RelV v u->RelV i j->eqN n d d'=some k->EqAt A s u j k:=by
 intro n
 induction n with
 | zero=>
  intro A d d' v i u j k O r b q a e;unfold eqN at e;split at e <;> (try (cases e;done)) <;> (try (rename_i h;cases h;done)) <;> cases r <;> cases b
  .cases e;cases q;cases a;exact YW _
  .cases e;cases q;cases a;exact .bool_bool _ _
  .cases e;obtain⟨t,rfl⟩:=q;obtain⟨o,rfl⟩:=a;exact .int_int _ _ _ _
  .cases e;obtain⟨t,rfl⟩:=q;obtain⟨o,rfl⟩:=a;exact .str_str _ _ _ _
 | succ n E=>
  intro A d d' v i u j k O r b q a e;have g:A.units < cLine:=by lia
  have f:A.in1.units + n < cLine:=by show A.units + 1 + n < cLine;lia
  have G:=e;unfold eqN at e;split at e
  .cases r;cases b;cases e;cases q;cases a;exact YW _
  .cases r;cases b;cases e;cases q;cases a;exact .bool_bool _ _
  .cases r;cases b;cases e;obtain⟨t,rfl⟩:=q;obtain⟨o,rfl⟩:=a;exact .int_int _ _ _ _
  .cases r;cases b;cases e;obtain⟨t,rfl⟩:=q;obtain⟨o,rfl⟩:=a;exact .str_str _ _ _ _
  ·
   rename_i N L J h;cases h;have w:=r;have c:=b;obtain⟨p,M,rfl,C,y⟩:=r;obtain⟨x,m,rfl,B,b2⟩:=b;cases q;cases a;by_cases z:p=x
   .subst z;rw[HK w c G];exact YW _
   .exact .of_refs z (EC I (λr b q a e=>E f r b q a e) (l _ _ C) (l _ _ B) y b2 e g).1
  ·
   rename_i N L J h;cases h;have w:=r;have c:=b;obtain⟨p,M,rfl,C,y⟩:=r;obtain⟨x,m,rfl,B,b2⟩:=b;cases q;cases a;by_cases z:p=x
   .subst z;rw[HK w c G];exact YW _
   .exact .of_refs z (Cg I (λr b q a e=>E f r b q a e) (l _ _ C) (l _ _ B) y b2 e g).1
  .cases e
def Kh (K:Fg0)(n:Nat)(a:Bool):R2:=λx y H Q=>∃ F d d' k,aS F H/\oQ K F H d x/\oQ K F H d' y/\eqN (n + 1) d d'=some k/\Q (.bl (a ^^ k)) H
theorem O2(I:Inv X pins σ H s)(g:aS F H)(n:Nat){d d':D}{v w:V}{i:Value}{k:Bool}(G:A.units + n + 1 < cLine)(r:oQ K F H d v)(a:oQ K F H d' w)(q:RelV v u)(b:RelV w i)(e:eqN (n + 1) d d'=some k):RcAt A s u i k/\RcNeAt A s u i (!k):=by
 have f:A.units < cLine:=by lia
 have c:A.in1.units + n < cLine:=by show A.units + 1 + n < cLine;lia
 unfold eqN at e;split at e
 .cases r;cases a;cases e;cases q;cases b;exact⟨.none_none,.none_none⟩
 .cases r;cases a;cases e;cases q;cases b;exact⟨.bool_bool _ _,.bool_bool _ _⟩
 .cases r;cases a;cases e;obtain⟨t,rfl⟩:=q;obtain⟨B,rfl⟩:=b;exact⟨.int_int _ _ _ _,.int_int _ _ _ _⟩
 .cases r;cases a;cases e;obtain⟨t,rfl⟩:=q;obtain⟨B,rfl⟩:=b;exact⟨.str_str _ _ _ _,.str_str _ _ _ _⟩
 .rename_i E y x j;cases j;obtain⟨p,z,rfl,o,l⟩:=r;obtain⟨C,h,rfl,m,b2⟩:=a;cases q;cases b;exact EC I (λr a q b e=>Lu I g _ c r a q b e) o m l b2 e f
 .rename_i E y x j;cases j;obtain⟨p,z,rfl,o,l⟩:=r;obtain⟨C,h,rfl,m,b2⟩:=a;cases q;cases b;exact Cg I (λr a q b e=>Lu I g _ c r a q b e) (g _ _ o) (g _ _ m) l b2 e f
 .cases e
theorem Q2(l:X.K=K)(i:X.A.units + n + 1 < cLine):OpR X (Ub .Eq) (Kh K n false):=by
 intro a s j H x y v u Q I f c h;obtain⟨F,d,m,k,b,r,g,e,q⟩:=h;refine(O2 I b n i r g f c e).1 _ _ _ _ (Ll I q (by simp))
def Oe (n:Nat)(a:Bool)(x y:D)(Γ:G)(Q:RV->G->Prop):Prop:=∃ k,eqN (n + 1) x y=some k/\Q (.fz (.bl (a ^^ k))) Γ
theorem Lv{a:Bool}:qm K (Kh K n a) (Oe n a):=by
 intro B F i H j x y h g Q l e d c q k;obtain⟨b,f,q⟩:=q;exact⟨F,h,g,b,e.sub,d,c,f,k _ _ (x8 e q)⟩
theorem gr(b:X.K=K)(a:dH k X.A):C3 K X .Eq (Kh K 20 false) (Oe 20 false):=⟨Q2 b (by have:=a.un;lia),Lv⟩
theorem QZ(l:X.K=K)(i:X.A.units + n + 1 < cLine):OpR X (Ub .NotEq) (Kh K n true):=by
 intro a s j H x y v u Q I f c h;obtain⟨F,d,m,k,b,r,g,e,q⟩:=h;refine(O2 I b n i r g f c e).2 _ _ _ _ (Ll I q (by simp))
theorem DV(b:X.K=K)(a:dH k X.A):C3 K X .NotEq (Kh K 20 true) (Oe 20 true):=⟨QZ b (by have:=a.un;lia),Lv⟩
theorem CI {n:Nat}:∀ (xs ys:Li0),lR n (xs.map .int) (ys.map .int)=some (decide (xs=ys))
 | [],[]=>by simp [lR]
 | x::xs,[]=>by simp [lR]
 | [],y::ys=>by simp [lR]
 | x::xs,y::ys=>by
  simp only[qq,lR,CI xs ys,eqN]
  congr 1
  rw[Bool.eq_iff_iff];simp
theorem Fi(xs ys:Li0):eqN (n + 1) (.lst (xs.map .int)) (.lst (ys.map .int))=some (decide (xs=ys)):=by
 unfold eqN;exact CI xs ys
end
noncomputable abbrev tO:=List D->G->(List D->G->Prop)->Prop
noncomputable def PoL (K:Fg0)(B:Bs)(F:Hp)(Q:List D->G->Prop):List V->_2.St->Hp->Prop:=λb σ' H'=>∃ F' Γ' a,aS F F'/\En K B F' σ' H' Γ'/\aI K F' a b/\Q a Γ'
def yL (K:Fg0)(t:TB)(c:tO):Prop:=∀ (B:Bs) (F:Hp) (σ:_2.St) (H:Hp) (Γ:G) (ys:List V) (ds:List D) (Q:List D->G->Prop) (b:List V->_2.St->Hp->Prop),En K B F σ H Γ->aI K F ds ys->c ds Γ Q->(∀ a σ' H',PoL K B F Q a σ' H'->b a σ' H')->t ys σ H b
structure SM (K:Fg0) (Y:Cx) (D:Addr) (m:Sem Fin->Sem Fin) (t:TB) (b3:tO):Prop where
 pe:PB RL Y D m t
 rf:yL K t b3
def Fm (b:TE3)(ys:List D)(Γ:G)(Q:List D->G->Prop):Prop:=ys.length < sizeLine/\b Γ λr a=>Q (ys++[r.d]) a
set_option backward.eqns.nonrecursive false in
def Ot (c3:TT3)(c:tO)(ys:List D)(Γ:G)(Q:List D->G->Prop):Prop:=c3 Γ λb a=>match b with
 | true=>c ys a Q
 | false=>Q ys a
def Hu (xs:List D)(b:TG3)(c:tO)(ys:List D)(Γ:G)(Q:List D->G->Prop):Prop:=∃ a:Nat->List D->G->Prop,a 0 ys Γ/\(∀ k d ys Γ,xs[k]?=some d->a k ys Γ->b d Γ λΓ'=>c ys Γ' (a (k + 1)))/\∀ ys Γ,a xs.length ys Γ->Q ys Γ
def Hf (b:TI3)(c:TG3)(d:tO)(ys:List D)(Γ:G)(Q:List D->G->Prop):Prop:=b Γ λxs a=>Hu xs c d ys a Q
def Be (c:On)(d:TI3)(e:TG3)(f:tO)(Γ:G)(Q:RV->G->Prop):Prop:=d Γ λxs a=>Hu xs e f [] (g4 a (iM c)) λys b=>ys.length < sizeLine/\Q (.fr (.lst ys)) (aZ c a b)
section
variable {X Y:Cx}{Da:Addr}
theorem Ab{te:TE}{d:TE3}(h:Ref K te d):yL K (uw te) (Fm d):=by
 intro B F f H g ys p Q u e r ⟨m,q⟩ k;refine⟨by rw[r.length];exact m,h B F f H g _ _ e q λv w ⟨x,a,c,s,o,i,l⟩=>k _ _ _ ?_⟩;obtain⟨t,b,n,j⟩:=o.frozen i;exact⟨t,a,p++[c.d],s.trans b,n,aI.append (ys:=[c.d]) (r.mono (s.trans b)) ⟨v,[],rfl,j,rfl⟩,l⟩
theorem Hi{f:TT}{c3:TT3}{t:TB}{l:tO}(w:zj K f c3)(h:yL K t l):yL K (bIf f t) (Ot c3 l):=by
 intro B F d H o u j Q y e r q k;refine w B F d H o _ _ e q λb z Z=>?_;obtain⟨m,a,s,i,g⟩:=Z;cases b with
 | true=>exact IV (h B m d z a u j Q y i (r.mono s) g λp n C ⟨A,c,x,v,rest⟩=>k _ _ _ ⟨A,c,x,s.trans v,rest⟩)
 | false=>exact IW (k _ _ _ ⟨m,a,j,s,i,r.mono s,g⟩)
theorem Ez{J:It}{xs:List D}{g:TG}{E:TG3}{t:TB}{I:tO}(Y:Jr K g E)(h:yL K t I){B:Bs}{F:Hp}{H:Hp}{Γ:G}{ys:List V}{ds:List D}{Q:List D->G->Prop}{QQ:List V->_2.St->Hp->Prop}(R:ItR K F J xs)(e:En K B F σ H Γ)(r:aI K F ds ys)(q:Hu xs E I ds Γ Q)(k:∀ d σ' H',PoL K B F Q d σ' H'->QQ d σ' H'):CP J g t ys σ H QQ:=by
 obtain⟨Iv,X,U,W⟩:=q;refine⟨λi m ys σ H=>m=xs.length - i/\i<=xs.length/\∃ s b ds,aS F s/\En K B s σ H b/\aI K s ds ys/\Iv i ds b,⟨_,rfl,Do _,F,Γ,ds,aS.refl F,e,r,X⟩,?_⟩;rintro i m o l M ⟨rfl,hi,F2,a,c,f,j,w,A⟩;by_cases lt:i < xs.length
 .refine .inr ⟨R.go i M (f.trans j.sub) lt,λx L y=>?_⟩;have C:xs[i]?=some xs[i]:=gE0 lt;obtain⟨N,v,e3,S⟩:=R.turn f j C y;refine Y B N l L a x _ _ _ e3 S (U i _ c a C A) λσ' b e4 T=>?_;exact h B N σ' L b o c _ _ e4 (w.mono v) T λd u H4 ⟨F4,n,d4,O,Z,P,p⟩=>⟨xs.length - (i + 1),by lia,rfl,lt,F4,n,d4,(f.trans v).trans O,Z,P,p⟩
 .have z:i=xs.length:=by lia
  subst z;exact .inl ⟨R.stop _ M (f.trans j.sub) rfl,k _ _ _ ⟨F2,a,c,f,j,w,W c a A⟩⟩
theorem Kb{b:TI}{d:TI3}{g:TG}{f:TG3}{t:TB}{i:tO}(u:Md K b d)(v:Jr K g f)(h:yL K t i):yL K (L7 b g t) (Hf d f i):=by
 intro B F l H n z C Q D e r q k;refine u B F l H n _ _ e q λJ G I m A c w R s=>?_;exact Ez v h R w (r.mono c) s λo j E ⟨y,a,x,p,rest⟩=>k _ _ _ ⟨y,a,x,c.trans p,rest⟩
theorem Cd{d:TI}{i:TI3}{g:TG}{j:TG3}{t:TB}{n:tO}(v:(fr.filterMap id).Nodup)(x:Md K d i)(y:Jr K g j)(h:yL K t n):Ref K (m6 fr d g t) (Be fr i j n):=by
 intro B F σ H Γ Q L e q k;refine x B F σ H Γ _ _ e q λJ M N a G r m R u=>?_;refine Ez y h R (m.blk v) (ds:=[]) rfl u λE o C ⟨D,b,I,p,A,f,w,s⟩=>⟨by rw[f.length];exact w,λl c=>k _ _ ?_⟩;have z:En K B D σ C (aZ fr a b):=m.back (ls:=fr) A (by have:=vD (Γ:=a) (σ:=σ) (bs:=iM fr);rw[AH] at this;exact this);exact Po.mono (r.trans p) (mz z c f s)
theorem Ov{te:TE}{b:TE3}(c:Y.xe=λ_ _=>False)(a:P3 K Y elt te b):SM K Y Da (Bb elt Da Y.env) (uw te) (Fm b):=⟨vA c a.pe,Ab a.rf⟩
theorem VD{c:Expr}{a:TT}{c3:TT3}{m:Sem Fin->Sem Fin}{t:TB}{e:tO}(f:Y.xe=λ_ _=>False)(d:P3T K Y c a c3)(b:SM K Y Da m t e):SM K Y Da (ifK c Y.env m) (bIf a t) (Ot c3 e):=⟨TR f d.pe b.pe,Hi d.rf b.rf⟩
theorem KH{c:Expr}{i:TI}{k:TI3}{g:TG}{q:TG3}{te:TE}{r:TE3}{j:TT}{c3:TT3}(u:X.calm=true)(n:P3I K X tg iter i k)(v:Blk X.N X.env.scope sc Nc fr)(o:∀ s₀ H₀ C ex f,P3G K (cK X sc Nc s₀ H₀ C ex f) tg g q)(l:∀ s₀ H₀ C ex f,P3T K (cK X sc Nc s₀ H₀ C ex f) c j c3)(p:∀ s₀ H₀ C ex f,P3 K (cK X sc Nc s₀ H₀ C ex f) elt te r)(s:autoParam ((fr.filterMap id).Nodup) wP)(t:autoParam (∀ x,sF iter X.env x=pure x) wT) :
  P3 K X (.ListComp elt [⟨tg,iter,[c],0⟩] sc pos) (m6 fr i g (bIf j (uw te))) (Be fr k q (Ot c3 (Fm r))):=
 ⟨vz (m:=λD h=>ifK c h (Bb elt D h)) u n.pe v (λa b c d e=>(o a b c d e).pe) (λa b c d e D=>(VD rfl (l a b c d e) (Ov rfl (p a b c d e))).pe) (λ_ _ _=>rfl) t,Cd s n.rf (o X.s₀ X.H₀ 0 [] []).rf (Hi (l X.s₀ X.H₀ 0 [] []).rf (Ab (p X.s₀ X.H₀ 0 [] []).rf))⟩
theorem EJ{l k i j:Expr}{p:TI}{q:TI3}{g:TG}{z:TG3}{h:TI}{j3:TI3}{A:TG}{y:TG3}{te:TE}{B:TE3}(w:X.calm=true)(s:P3I K X k l p q)(G:Blk X.N X.env.scope sc Nc fr)(u:∀ s₀ H₀ C ex f,P3G K (cK X sc Nc s₀ H₀ C ex f) k g z)(r:∀ s₀ H₀ C ex f,P3I K (cK X sc Nc s₀ H₀ C ex f) j i h j3)(t:∀ s₀ H₀ C ex f,P3G K (cK X sc Nc s₀ H₀ C ex f) j A y)(v:∀ s₀ H₀ C ex f,P3 K (cK X sc Nc s₀ H₀ C ex f) elt te B)(n:∀ s₀ H₀ C ex f x,sF i (cK X sc Nc s₀ H₀ C ex f).env x=pure x:=by intros;rfl)(E:autoParam ((fr.filterMap id).Nodup) wP)(F:autoParam (∀ x,sF l X.env x=pure x) wT) :
  P3 K X (.ListComp elt [⟨k,l,[],0⟩,⟨j,i,[],0⟩] sc pos) (m6 fr p g (L7 h A (uw te))) (Be fr q z (Hf j3 y (Fm B))):=
 ⟨vz (m:=λD o=>O1 false elt [⟨k,l,[],0⟩,⟨j,i,[],0⟩] sc pos 1 i D o) w s.pe G (λa b c d e=>(u a b c d e).pe)
  (λa b c d e D=>Nk (b:=false) (m:=Bb elt D _) rfl w (by rfl) (r a b c d e).pe (t a b c d e).pe (vA rfl (v a b c d e).pe) (λ_=>rfl) (n a b c d e)) (λ_ _ _=>rfl) F,
  Cd E s.rf (u X.s₀ X.H₀ 0 [] []).rf (Kb (r X.s₀ X.H₀ 0 [] []).rf (t X.s₀ X.H₀ 0 [] []).rf (Ab (v X.s₀ X.H₀ 0 [] []).rf))⟩
end
theorem Vi{a b:Int}:eqN n (.int a) (.int b)=some (a == b):=by cases n <;> rfl
theorem Vh{a b:Str}:eqN n (.str a) (.str b)=some (a == b):=by cases n <;> rfl
theorem Vj{a b:Bool}:eqN n (.bl a) (.bl b)=some (a == b):=by cases n <;> rfl
noncomputable def fo (s:Option D):Option Sl:=s.map Sl.fz
theorem R6{s:Option Sl}{Γ:G}:cu (s::Γ) (i + 1)=cu Γ i:=rfl
theorem R8{Γ:G}:cu (none::Γ) 0=True:=rfl
theorem R3{d:D}{Γ:G}:cu (some (.fz d)::Γ) 0=True:=rfl
theorem R4{d:D}{Γ:G}:cu (some (.ow d)::Γ) 0=True:=rfl
theorem Vb{s:Option Sl}{Γ:G}:frB (s::Γ) (i + 1)=frB Γ i:=rfl
theorem Vd{Γ:G}:frB (none::Γ) 0=true:=rfl
theorem U9{d:D}{Γ:G}:frB (some (.fz d)::Γ) 0=true:=rfl
theorem U_{d:D}{Γ:G}:frB (some (.ow d)::Γ) 0=true:=rfl
theorem Vc{s:Option D}{Γ:G}:frB (fo s::Γ) 0=true:=by cases s <;> rfl
theorem R7{s:Option D}{Γ:G}:cu (fo s::Γ) 0=True:=by cases s <;> rfl
end _3
variable {ns:Ls0}{e a body:XO}{C0 q C₀:Wx}{px p:ab3}{m g L:Nat}{z y nm:XJ}{l clos:List (XJ×Wx)}{rest ss:List ad0}{σ':_2.St}{qs own Cs:La0}{vs:Lv0}
universe u
namespace _3
open PySem _2 PySem.Spec
def Pz (c:On)(a:TI3)(b:TG3)(d:TE3)(Γ:G)(Q:RV->G->Prop)(_:Tag (c,a,b,d))(_:Tag Q):Prop:=Fp c a b d Γ Q
def R9 (a:TI3)(b:TG3)(c:TS3)(D:E3)(Γ:G)(_:Tag (a,b,c))(_:Tag D):Prop:=Sa a b c D Γ
def LI (c:On)(a:TI3)(b:TG3)(d:tO)(Γ:G)(Q:RV->G->Prop)(_:Tag (c,a,b,d))(_:Tag Q):Prop:=Be c a b d Γ Q
theorem LJ{a:TI3}{b:TG3}{c:tO}{Γ:G}{Q:RV->G->Prop}:Be fr a b c Γ Q=LI fr a b c Γ Q ⟨⟩ ⟨⟩:=rfl
theorem Oh{a:TI3}{b:TG3}{c:TE3}{Γ:G}{Q:RV->G->Prop}:Fp fr a b c Γ Q=Pz fr a b c Γ Q ⟨⟩ ⟨⟩:=rfl
theorem R_{a:TI3}{b:TG3}{c:TS3}{D:E3}{Γ:G}:Sa a b c D Γ=R9 a b c D Γ ⟨⟩ ⟨⟩:=rfl
section
variable {op:D->D->TE3}{a3 b3:TB3}{Γ:G}{Q:RV->G->Prop}
theorem P7:xk op a3 b3 Γ Q=(a3 Γ λx b=>b3 b λy a=>m1 (x.at a) (λdx=>m1 (y.at a) (λc=>op dx c a Q) ⟨⟩) ⟨⟩):=rfl
theorem P6{b:D->TE3}:Mo b a3 Γ Q=(a3 Γ λx a=>m1 (x.at a) (λdx=>b dx a Q) ⟨⟩):=rfl
theorem Uy{xs:List D}{i:Int}:ix3 (.lst xs) (.int i) Γ Q=m1 (atI xs i) (λd=>Q (.fz d) Γ) ⟨⟩:=rfl
theorem Uw{xs:List D}{i:Int}:ix3 (.tup xs) (.int i) Γ Q=m1 (atI xs i) (λd=>Q (.fz d) Γ) ⟨⟩:=rfl
theorem Oo{c3:List D->TE3}{b:fP}:HR c3 b Γ Q=(b Γ λc a=>mL (ats a c) (λds=>c3 ds a Q) ⟨⟩):=rfl
def mN (o:Option Nat)(k:Nat->Prop)(_:Tag k):Prop:=match o with
 | some d=>k d
 | none=>False
theorem NI{d:Nat}{k:Nat->Prop}{t:Tag k}:mN (some d) k t=k d:=rfl
theorem Mz{g:TB3}{f:TE3}{D:E3}:Hc i g f D Γ=(f Γ λr c=>(∃ xs,eZ c i=some xs)/\g c λb a=>mL (eZ a i) (λxs=>mI (b.at a) (λk=>mN (ixN xs.length k) (λj=>D.nx (putD a i (.lst (xs.set j r.d)))) ⟨⟩) ⟨⟩) ⟨⟩):=by
 unfold Hc
 congr;funext r c;congr;funext b a
 refine propext ⟨λ⟨xs,k,j,o,n,m,q⟩=>?_,λh=>?_⟩
 .rw[o,n];show mN (ixN xs.length k) _ ⟨⟩;rw[m];exact q
 .cases e:eZ a i with
  | none=>rw[e] at h;exact h.elim
  | some xs=>
   rw[e] at h;replace h:mI (b.at a) (λk=>mN (ixN xs.length k) (λj=>D.nx (putD a i (.lst (xs.set j r.d)))) ⟨⟩) ⟨⟩:=h;cases l:b.at a with
   | none=>rw[l] at h;exact h.elim
   | some d=>
    rw[l] at h;cases d with
    | int k=>
     replace h:mN (ixN xs.length k) (λj=>D.nx (putD a i (.lst (xs.set j r.d)))) ⟨⟩:=h;cases f:ixN xs.length k with
     | none=>rw[f] at h;exact h.elim
     | some j=>rw[f] at h;exact⟨xs,k,j,rfl,rfl,f,h⟩
    | _=>exact h.elim
end
section
variable {B:Bs}{F:Hp}{H:Hp}{Γ:G}
theorem E9{c:Type}{l:List c}{a b:c}(h:(l++[a])[i]?=some b):l[i]?=some b\/(i=l.length/\b=a):=by
 rcases Nat.lt_or_ge i l.length with q | q
 .rw[ef q] at h;exact .inl h
 .have d:i=l.length:=by
   have:=(gS0 h).1;rw[bS,XF] at this;lia
  subst d;rw[ic (ek _),SD] at h;exact .inr ⟨rfl,(ov h).symm⟩
theorem cq{c:Type}{l:List c}{a b:c}(h:l[i]?=some b):(l++[a])[i]?=some b:=by
 rw[ef (gS0 h).1];exact h
theorem iB{b:Type}{l:List b}{a:b}:(l++[a])[l.length]?=some a:=by
 rw[ic (ek _),SD];rfl
theorem En.push(e:En K B F σ H Γ){x:Addr}{d:D}(y:qF K B F σ H Γ (.ref x) (.fr d)):En K B F (σ++[some (V.ref x)]) H (Γ++[some (Sl.ow d)]):=by
 obtain⟨p,G,C,A,E,t⟩:=y;cases G;have u:=e.len;have o:∀ {i:Nat} {s:Sl},(Γ++[some (Sl.ow d)])[i]?=some (some s)->Γ[i]?=some (some s)\/(i=Γ.length/\s=.ow d):=λh=>by
  rcases E9 h with q | ⟨q,m⟩
  .exact .inl q
  .cases m;exact .inr ⟨q,rfl⟩
 have n:∀ {i:Nat} {s:Option Sl},Γ[i]?=some s->(σ++[some (V.ref x)])[i]?=σ[i]?:=λh=>by
  have lt:=(gS0 h).1;rw[ef (by lia)]
 have f:(σ++[some (V.ref x)])[Γ.length]?=some (some (V.ref x)):=by rw[<- u];exact iB
 have r:∀ {i:Nat} {c:D},Hld (Γ++[some (Sl.ow d)]) i c->Hld Γ i c\/(i=Γ.length/\c=d):=λh=>by
  rcases h with h | h
  .rcases o h with q | ⟨q,m⟩
   .exact .inl (.inl q)
   .cases m;exact .inr ⟨q,rfl⟩
  .rcases o h with q | ⟨q,m⟩
   .exact .inl (.inr q)
   .cases m
 have g:∀ {i:Nat} {c:D},Hld Γ i c->(σ++[some (V.ref x)])[i]?=σ[i]?:=λh=>by
  rcases h with h | h <;> exact n h
 refine⟨e.sub,by simp [u],?_,?_,?_,?_,?_,?_,e.keep,e.new,e.rest,e.dom⟩
 .intro i c h;rcases o h with q | ⟨_,q⟩
  .rw[n q];exact e.fz i c q
  .cases q
 .intro i c h;rcases r h with q | ⟨rfl,rfl⟩
  .rw[g q];exact e.hl i c q
  .exact⟨x,f,C,A⟩
 .intro i c q h a;rcases o h with z | ⟨rfl,z⟩
  .rw[n z] at a;exact e.ow i c q z a
  .rw[f] at a;cases a;exact E
 .intro i c q h a;rcases o h with z | ⟨_,z⟩
  .rw[n z] at a;exact e.ln i c q z a
  .cases z
 .intro i j c w q h v a k;rcases r h with z | ⟨rfl,rfl⟩
  .rw[g z] at a;rcases r v with l | ⟨rfl,rfl⟩
   .rw[g l] at k;exact e.dis i j c w q z l a k
   .rw[f] at k;cases k;exact absurd a (t i c z)
  .rw[f] at a;cases a;rcases r v with l | ⟨rfl,rfl⟩
   .rw[g l] at k;exact absurd k (t j w l)
   .rfl
 .intro i q h;obtain⟨a,c,b⟩:=e.par i q h;exact⟨by rw[n b];exact a,c,cq b⟩
theorem En.pop{x:Addr}{d:D}(e:En K B F (σ++[some (V.ref x)]) H (Γ++[some (Sl.ow d)])):En K B F σ H Γ/\qF K B F σ H Γ (.ref x) (.fr d):=by
 have m:σ.length=Γ.length:=by have:=e.len;simpa using this
 have g:(σ++[some (V.ref x)])[Γ.length]?=some (some (V.ref x)):=by rw[<- m];exact iB
 have k:∀ {i:Nat} {s:Option Sl},Γ[i]?=some s->(σ++[some (V.ref x)])[i]?=σ[i]?:=λh=>by
  have lt:=(gS0 h).1;rw[ef (by lia)]
 have n:Hld (Γ++[some (Sl.ow d)]) Γ.length d:=.inl iB;have l:∀ {i:Nat} {c:D},Hld Γ i c->Hld (Γ++[some (Sl.ow d)]) i c:=λh=>h.imp cq cq;have f:∀ {i:Nat} {c:D},Hld Γ i c->(σ++[some (V.ref x)])[i]?=σ[i]?:=λh=>by
  rcases h with h | h <;> exact k h
 obtain⟨p,a,b,c⟩:=e.hl _ _ n;rw[g] at a;cases a;refine⟨⟨e.sub,m,?_,?_,?_,?_,?_,?_,e.keep,e.new,e.rest,e.dom⟩,x,rfl,b,c,e.ow _ _ _ iB g,?_⟩
 .intro i c h;have:=e.fz i c (cq h)
  rwa [k h] at this
 .intro i c h;have:=e.hl i c (l h)
  rwa [f h] at this
 .intro i c q h a;exact e.ow i c q (cq h) (by rw[k h];exact a)
 .intro i c q h a;exact e.ln i c q (cq h) (by rw[k h];exact a)
 .intro i j c r q h o a u;exact e.dis i j c r q (l h) (l o) (by rw[f h];exact a) (by rw[f o];exact u)
 .intro i q h;obtain⟨a,c,t⟩:=e.par i q h;rcases E9 t with z | ⟨_,z⟩
  .exact⟨by rw[<- k z];exact a,c,z⟩
  .cases z
 .intro i c h q;have lt:i < Γ.length:=by rcases h with h | h <;> exact(gS0 h).1
  have:=e.dis i _ c d x (l h) n (by rw[f h];exact q) g
  lia
set_option backward.eqns.nonrecursive false in
noncomputable def AL (Γ:G)(i:Nat):Option (Addr×Ls0×List D):=match Γ[i]? with
 | some (some (.ow (.ins C ns xs)))=>some (C,ns,xs)
 | some (some (.ln (.ins C ns xs)))=>some (C,ns,xs)
 | _=>none
theorem Cr{xs:List D}(h:AL Γ i=some (C,ns,xs)):Hld Γ i (.ins C ns xs):=by
 unfold AL at h;split at h
 .cases h;rename_i q;exact .inl q
 .cases h;rename_i q;exact .inr q
 .cases h
theorem EE {f:Str}{v:V}:∀ {fs:List (Str×V)},f∉fs.map (·.1)->q9 f v fs=fs++[(f,v)]
 | [],_=>rfl
 | (g,x)::r,h=>by
  simp only[qq,fg,not_or] at h;show (if g=f then _ else _)=_;rw[if_neg (rl h.1),EE h.2];rfl
theorem aI.snoc{xs:List D}{vs:List V}(r:aI K F xs vs){d:D}{v:V}(q:Rep K F d v):aI K F (xs++[d]) (vs++[v]):=r.append ⟨v,[],rfl,q,rfl⟩
def oI (o:Option (Addr×Ls0×List D))(k:Addr->Ls0->List D->Prop):Prop:=match o with
 | some (C,ns,xs)=>k C ns xs
 | none=>False
def JW (C0:Addr)(i:Nat)(f:Str)(b:TE3)(D:E3)(Γ:G):Prop:=b Γ λr a=>oI (AL a i) λC ns xs=>C=C0/\(f∉ns/\ns.length < 1000)/\D.nx (putD a i (.ins C (ns++[f]) (xs++[r.d])))
variable {X:Cx}{te:TE}{e3:TE3}
theorem Ka{f:Str}(L:Cls K C0)(I:iH K C0 f)(h:Ref K te e3):OL K (Qd K (kS i) te f) (JW C0 i f e3):=by
 intro B F n H u D O en k q;refine h B F n H u _ _ en q λv N Z=>?_;obtain⟨Q,c,r,y,M,z,E⟩:=Z;obtain⟨s,x,o,A⟩:=M.frozen z;have d:oI (AL c i) λC e j=>C=C0/\(f∉e/\e.length < 1000)/\O.nx (putD c i (.ins C (e++[f]) (j++[r.d]))):=E;cases w:AL c i with
 | none=>rw[w] at d;exact d.elim
 | some t=>
  obtain⟨C,e,j⟩:=t;rw[w] at d;obtain⟨rfl,⟨J,P⟩,d⟩:=d;obtain⟨p,a,b,m,g,c1,c2,c3⟩:=o.hl i _ (Cr w);refine⟨_,a,p,C,m,g,rfl,c1,L,I,?_,?_⟩
  .have:=congrArg List.length c2;rw[lM0] at this;lia
  .have l:f∉g.map (·.1):=by rw[c2];exact J
   rw[EE l];have G:Own K s (upd N p (.ins C m (g++[(f,v)]))) p (.ins C (e++[f]) (j++[r.d])):=⟨m,g++[(f,v)],ax,by rw[gp,c2];rfl,by rw[gp];exact c3.snoc A⟩;exact k.nx s n _ _ (y.trans x) (o.Rf (Cr w) a G) d
theorem zx(i:Nat){f:Str}(g:X.K=K)(h:Cls K C0)(d:iH K C0 f)(b:P3B K X (.Name x px) (kS i) (bor i))(a:P3 K X e te e3)(c:autoParam (XQ e (some (.Attribute (.Name x px) f p2)) pos.line X.env=pure false) wE) :
  P3S K X (.Assign [.Attribute (.Name x px) f p2] e pos) (Qd K (kS i) te f) (JW C0 i f e3):=⟨by subst g;exact Qy b.pe a.pe c,Ka h d a.rf⟩
end
section
variable {B:Bs}{F:Hp}{H:Hp}{Γ:G}{X:Cx}
theorem bH.push{x:V}:∀ {a:List Bo} {vs:List V},bH K F σ a vs->bH K F (σ++[some x]) a vs
 | [],_,h=>h
 | .d d::a,_,⟨v,b,f,e,c⟩=>⟨v,b,f,e,bH.push c⟩
 | .v i::a,_,⟨v,b,f,e,c⟩=>⟨v,b,f,cq e,bH.push c⟩
theorem bH.ds:∀ {ds:List D} {vs:List V},aI K F ds vs->bH K F σ (ds.map Bo.d) vs
 | [],_,h=>h
 | _::_,_,⟨v,a,d,c,b⟩=>⟨v,a,d,c,bH.ds b⟩
theorem qF.pop{x:Addr}{d:D}{v:V}:∀ {r:RV},qF K B F (σ++[some (V.ref x)]) H (Γ++[some (Sl.ow d)]) v r->σ.length=Γ.length->qF K B F σ H Γ v r
 | .fz _,h,_=>h
 | .fr _,⟨p,k,j,g,f,l⟩,m=>⟨p,k,j,g,f,λi e c q=>l i e (c.imp cq cq) (cq q)⟩
 | .rws _,⟨p,s,k,j,g,f,b⟩,m=>⟨p,s,k,j,g,f,λz a=>⟨(b z a).1,(b z a).2.1,λi e c q=>(b z a).2.2 i e (c.imp cq cq) (cq q)⟩⟩
 | .two _ _,⟨t,p,q,o,n,k,j,g,f,l,w,u,b⟩,m=>⟨t,p,q,o,n,k,j,g,f,l,w,u,λz a=>⟨(b z a).1,(b z a).2.1,λi e c q=>(b z a).2.2 i e (c.imp cq cq) (cq q)⟩⟩
theorem E5:∀ ds:List D,df (ds.map Bo.d)=[]
 | []=>rfl
 | _::ds=>E5 ds
theorem OG(ds:List D)(Γ:G):g4 Γ ((ds.map Bo.d).map some)=ds.map λd=>some (Sl.fz d):=by
 unfold g4;rw[nr,nr];rfl
theorem Hn {cs:G}{j:Nat}:∀ ds:List D,newD (((ds.map Bo.d).map some).map dm) cs j=none
 | []=>by cases cs <;> rfl
 | _::ds=>by
  cases cs with
  | nil=>rfl
  | cons c cs=>exact Hn (cs:=cs) ds
def U8 (Γa:G)(k:D->Prop):Prop:=match Γa with
 | some (.ln d)::_=>k d
 | _=>False
def KW (C:Addr)(n:Nat)(S:S3)(c:TA3)(Γ:G)(Q:RV->G->Prop):Prop:=c Γ λds b=>ds.length + 1=n/\
 S (some (.ln (.ins C [] []))::ds.map λd=>some (.fz d)) λr a=>r=.fz .non/\U8 a λd=>Q (.fr d) b
theorem Kc{S:S3}{E:XK}{t:TA}{G:TA3}(h:VQ K t G):Ref K (JM C (sp3 K n S) [] E t) (KW C n S G):=by
 intro B F g H O Q QQ e q k;refine h B F g H O _ _ e q λD A Z=>?_;obtain⟨m,Γ1,b,R,w,I,hn,W⟩:=Z;intro y f J u X;rw[td];have x:=w.alloc u (.own y);have c:(upd A f (.own y)) y=none:=by rw[ar (rl X)];exact J
 have e2:En K B m g (upd (upd A f (.own y)) y (.ins C f [])) Γ1:=x.alloc c _;have T:qF K B m g (upd (upd A f (.own y)) y (.ins C f [])) Γ1 (.ref y) (.fr (.ins C [] [])):=⟨y,rfl,x.nof c,⟨f,[],ax,rfl,rfl⟩,w.dom _ J,x.Au c⟩;have M:=e2.push T;have hl:g.length=Γ1.length:=w.len;have U:bH K m (g++[some (V.ref y)]) (Bo.v Γ1.length::b.map Bo.d) (.ref y::D):=⟨_,_,rfl,by rw[<- hl];exact iB,(bH.ds I).push⟩;have Y:(df (Bo.v Γ1.length::b.map Bo.d)).Nodup:=by
  show (Γ1.length::df (b.map Bo.d)).Nodup;rw[E5];simp
 have eG:g4 (Γ1++[some (Sl.ow (.ins C [] []))]) ((Bo.v Γ1.length::b.map Bo.d).map some)=some (.ln (.ins C [] []))::b.map λd=>some (.fz d):=by
  rw[qq,<- OG b (Γ1++[some (Sl.ow (.ins C [] []))])];show (some (Bo.v Γ1.length)).bind (D4 _)::_=_
  congr 1
  show oO (Γ1++[some (Sl.ow (.ins C [] []))])[Γ1.length]?=_;rw[iB];rfl
 have len:(V.ref y::D).length=n:=by rw[<- hn,tx,I.length]
 refine⟨len,m,_,_,_,M.args U Y,sQ,by rw[eG];exact W,λr o a v H' F' e3 l=>?_⟩;obtain⟨rfl,a⟩:=a;obtain⟨P,N,_⟩:=M.called e3 l;have ev:v=.non:=l;cases o with
 | nil=>exact a.elim
 | cons s i=>
  cases s with
  | none=>exact a.elim
  | some s=>
   cases s with
   | fz d=>exact a.elim
   | ow d=>exact a.elim
   | ln d=>
    have a:Q (.fr d) Γ1:=a;have eq:aZ (((Bo.v Γ1.length::b.map Bo.d).map some).map dm) (Γ1++[some (Sl.ow (.ins C [] []))]) (some (.ln d)::i)=Γ1++[some (Sl.ow d)]:=by
     refine XA λj=>?_;rw[bR];show Option.map (fc (if Γ1.length=j then some d else newD (((b.map Bo.d).map some).map dm) i j)) _=_;by_cases L:Γ1.length=j
     .subst L;rw[if_pos rfl,iB,iB];rfl
     .rw[if_neg L,Hn];have:(Γ1++[some (Sl.ow d)])[j]?=(Γ1++[some (Sl.ow (.ins C [] []))])[j]?:=by
       rcases Nat.lt_or_ge j Γ1.length with z | z
       .rw[ef z,ef z]
       .rw[ox (by simp;lia),ox (by simp;lia)]
      rw[this];cases (Γ1++[some (Sl.ow (.ins C [] []))])[j]? with
      | none=>rfl
      | some s=>cases s with
       | none=>rfl
       | some s=>cases s <;> rfl
    rw[eq] at N;obtain⟨e5,p⟩:=N.pop;exact⟨ev,k _ _ ⟨F',Γ1,.fr d,R.trans P,e5,p,a⟩⟩
end
section
variable {B:Bs}{F:Hp}{H:Hp}{Γ:G}{X:Cx}{m:Str}{S:S3}{t:TA}{t3:TA3}{te:TE}{e3:TE3}
theorem mD(M:Mk X.K C f)(F:aB X.prog X.w X.K X.mg X.base CX0 k f fd ps (sp3 K n S))(d:dH (k + 1) X.A)(h:Gl X x)(g:X.mg x=some (.ref C))(j:Binds X.K fd ps [])(c:P3A K X (e::es) t t3)(b:autoParam ((x == ("__debug__":Str))=false) wP)(i:autoParam (ew (e::es) X.env=(false,eval e X.env)::ew es X.env) wE)(a:autoParam ((backTo pos (ew es X.env)).any (·.1)=false) wE) :
  P3 K X (.Call (.Name x p) (e::es) [] pos) (JM C (sp3 K n S) [] E0 t) (KW C n S t3):=⟨Nh M F d h g j .nil Ae c.pe b i a,Kc c.rf⟩
def frR (r:RV)(k:D->Prop):Prop:=match r with
 | .fr d=>k d
 | _=>False
end
section
variable {B:Bs}{F:Hp}{H:Hp}{Γ:G}{X:Cx}
noncomputable def signs (z:Str):List D:=z.cps.toList.map λc=>D.str (sgn c)
def oS (d:D)(k:Str->Prop):Prop:=match d with
 | .str z=>k z
 | _=>False
theorem Ua{d:D}{k:Str->Prop}(h:oS d k):∃ z,d=.str z/\k z:=by
 cases d <;> first | exact h.elim | exact⟨_,rfl,h⟩
noncomputable def asc (z:Str):Bool:=z.cps.all (· < 128)
def iS3 (b:TE3)(Γ:G)(Q:List D->G->Prop):Prop:=b Γ λr a=>oS r.d λz=>asc z=true/\Q (signs z) a
theorem B7(z:Str):(signs z).length=z.cps.size:=by simp [signs]
theorem Tf:ItR K F (Its z) (signs z):=by
 refine⟨λi b _ lt=>by rw[B7] at lt;exact lt,λi b _ e=>by rw[B7] at e;exact Xu e.symm,λi b x h d _ a y=>?_⟩;obtain⟨g,c,f,rfl⟩:=y;refine .inl ⟨g,?_⟩;unfold signs at a;rw[cm,Array.getElem?_toList,f] at a;cases a;rfl
theorem RH{l:Expr}{tl:TE}{d:TE3}(h:P3 K X l tl d):P3I K X tg l (UK tl) (iS3 d):=⟨QJ h.pe,λB F f H g Q R e q k=>
 h.rf B F f H g _ _ e q λv t Z=>by
  obtain⟨w,a,r,s,p,j,b⟩:=Z;obtain⟨z,m,n,b⟩:=Ua b;obtain⟨u,i,o,c⟩:=p.frozen j;rw[m] at c;exact⟨z,c,n,k _ t u a _ (s.trans i) o Tf b⟩⟩
noncomputable def Aa (lo c:Int)(n:Nat):List D:=(el n).map λ(k:Nat)=>D.int (lo + (k:Int) * c)
theorem Qi{lo c:Int}:ItR K F (SQ lo c n) (Aa lo c n):=by
 have a:(Aa lo c n).length=n:=by simp [Aa]
 refine⟨λi f _ lt=>by rw[a] at lt;exact lt,λi f _ e=>by rw[a] at e;exact Xu e.symm,λi f x k d _ b y=>?_⟩;obtain⟨j,h⟩:=y;subst j h;refine .inl ⟨rfl,?_⟩;have g:i < n:=by have:=(gS0 b).1;rw[a] at this;exact this
 have:(Aa lo c n)[i]?=some (.int (lo + i * c)):=by unfold Aa;rw[cm,Bn g];rfl
 rw[this] at b;cases b
 rfl
end
section
variable {B:Bs}{F:Hp}{H:Hp}{Γ:G}{X:Cx}{b f:Expr}{ta tb te tf to:TE}{a3 b3:TB3}{e3 f3:TE3}
set_option backward.eqns.nonrecursive false in
def Ho (x y:D)(Γ:G)(Q:RV->G->Prop):Prop:=match x,y with
 | .str z,.int n=>(n=0\/n=1)/\z.length<=sizeLine/\Q (.fz (.str (if n=0 then sk else z))) Γ
 | _,_=>False
theorem NG:qm K Kg Ho:=by
 intro B F f H g x y i h Q j e b a q k;unfold Ho at q;split at q
 .obtain⟨d,c,q⟩:=q;cases b;cases a;exact⟨_,_,rfl,rfl,d,c,k _ _ (F_ e q)⟩
 .exact q.elim
theorem Dm(d:P3B K X a ta a3)(c:P3B K X b tb b3):P3 K X (.BinOp a .Mult b pos) (tOp Kg ta tb) (xk Ho a3 b3):=⟨vy Nu d.pe c.pe,lg NG d.rf c.rf⟩
set_option backward.eqns.nonrecursive false in
noncomputable def dS:D->Bool
 | .str _=>true
 | _=>false
theorem Vw(T:TyS X.K):B3 K X (.builtin "isinstance") (λxs H Q=>∃ x,xs=[x,.ty "str"]/\Kn H x/\Q (.bl (isS x)) H) (is3 "str" dS):=LW (g:=λ_ v=>isS v) (LN T) λs h a=>by
 rename_i F H d v;cases d <;> first
  | (cases h;rfl)
  | (cases a;done)
  | (obtain⟨p,b,rfl,_⟩:=h;rfl)
  | (obtain⟨p,rfl,_⟩:=h;rfl)
  | (obtain⟨p,e,c,rfl,_⟩:=h;rfl)
end
mutual
noncomputable def dt:D->PyData
 | .non=>.none
 | .bl b=>.bool b
 | .int i=>.int i
 | .str x=>.str x
 | .lst xs=>.list (dtL xs)
 | .tup xs=>.tuple (dtL xs)
 | .dct=>.dict []
 | .dcs k i=>.dict [(.str k,.int i)]
 | _=>.none
noncomputable def dtL:List D->List PyData
 | []=>[]
 | x::xs=>dt x::dtL xs
end
inductive Sh:Nat->Nat->D->Prop where
 | non:Sh 100 1 .non
 | bl (b:Bool):Sh 100 1 (.bl b)
 | int {i:Int} (h:i.natAbs < 10 ^ 60):Sh 100 1 (.int i)
 | str {x:Str} {n:Nat} (h:(ae5 (.str x)).length<=n):Sh n 1 (.str x)
 | dct:Sh 100 1 .dct
 | dcs {k:Str} {i:Int} {n:Nat} (h:i.natAbs < 10 ^ 60) (hn:(ae5 (.dict [(.str k,.int i)])).length<=n):Sh n 1 (.dcs k i)
 | lst {n k l:Nat} {xs:List D} (h:∀ x∈xs,Sh n k x) (hl:xs.length<=l):Sh (l * (n + 2) + 3) (k + 1) (.lst xs)
 | tup {n k l:Nat} {xs:List D} (h:∀ x∈xs,Sh n k x) (hl:xs.length<=l):Sh (l * (n + 2) + 3) (k + 1) (.tup xs)
 | up {n k n' k':Nat} {d:D} (h:Sh n k d) (h1:n<=n') (h2:k<=k'):Sh n' k' d
set_option backward.eqns.nonrecursive false in
noncomputable def Tj:D->Bool
 | .lst _=>true
 | .tup _=>true
 | _=>false
section
variable {B:Bs}{F:Hp}{H:Hp}{Γ:G}{X:Cx}{f:Expr}{ta te tf:TE}{a3:TB3}{e3 f3:TE3}
set_option backward.eqns.nonrecursive false in
def Lj (C0:Addr)(f:Str)(x:D)(Γ:G)(Q:RV->G->Prop):Prop:=match x with
 | .ins C ns xs=>C=C0/\m1 ((ns.zip xs).lookup f) (λd=>Q (.fz d) Γ) ⟨⟩
 | _=>False
theorem iu{f:Str}(o:X.K=K)(c:P3B K X a ta a3)(s:Cls K C0)(l:iH K C0 f)(n:autoParam (Xj a f X.env (eval a X.env)=eval a X.env) wE) :
  P3 K X (.Attribute a f pos) (Td K ta f) (Mo (Lj C0 f) a3):=⟨by subst o;exact QR c.pe n,J_ (r:=λx h Q=>∃ a C b g v,x=.ref a/\h a=some (.ins C b g)/\Cls K C/\iH K C f/\g.lookup f=some v/\Q v h) (ta:=ta) (by
 intro B F z H A x b Q D e i q k;unfold Lj at q;split at q
 .obtain⟨rfl,q⟩:=q;obtain⟨d,m,q⟩:=de.mp q;obtain⟨p,b,y,rfl,w,u,t⟩:=i;obtain⟨v,j,r⟩:=aI.lookup u t m;exact⟨p,_,b,y,v,rfl,w,s,l,j,k _ _ (oa e r q)⟩
 .exact q.elim) c.rf⟩
noncomputable def kt (zs:Ls0):D:=.ktup (zs.map .str)
structure SO (K:Fg0) (mg:SV0) (x:Str) (p:Addr) (zs:Ls0):Prop where
 mg:mg x=some (.ref p)
 sq:∀ F:Hp,SqT K F p (zs.map V.str)
theorem aI.strs:∀ (zs:Ls0),aI K F (zs.map D.str) (zs.map V.str)
 | []=>rfl
 | z::zs=>⟨_,_,rfl,rfl,aI.strs zs⟩
theorem ju{zs:Ls0}{p:Addr}(b:Gl X x)(a:SO K X.mg x p zs)(c:autoParam ((x == ("__debug__":Str))=false) wP):P3 K X (.Name x pos) (tC (.ref p)) (t3C (kt zs)):=
 ⟨Dj b a.mg rfl c,Cf λF=>⟨p,_,rfl,a.sq F,aI.strs zs⟩⟩
end
def oIt (o:Option (Addr×Ls0×List D))(k:Addr->Ls0->List D->Prop)(_:Tag k):Prop:=oI o k
theorem KQ{xs:List D}{k:Addr->Ls0->List D->Prop}{t:Tag k}:oIt (some (C,ns,xs)) k t=k C ns xs:=rfl
def oSt (o:D)(k:Str->Prop)(_:Tag k):Prop:=oS o k
theorem Nz{k:Str->Prop}{t:Tag k}:oSt (.str z) k t=k z:=rfl
def Pq (o:G)(k:D->Prop)(_:Tag k):Prop:=U8 o k
theorem N_{d:D}{Γ:G}{k:D->Prop}{t:Tag k}:Pq (some (.ln d)::Γ) k t=k d:=rfl
section
variable {Γ:G}{Q:RV->G->Prop}{QI:List D->G->Prop}{f:Str}{S:S3}{e3:TE3}{a3:TB3}{t3:TA3}{D1:E3}{k1 k2:Str}{d1 d2 d0:D}{l3 h3:TO3}
theorem MA:JW C0 i f e3 D1 Γ=(e3 Γ λr a=>oIt (AL a i) (λC ns xs=>C=C0/\(f∉ns/\ns.length < 1000)/\D1.nx (putD a i (.ins C (ns++[f]) (xs++[r.d])))) ⟨⟩):=rfl
theorem UL:iS3 e3 Γ QI=(e3 Γ λr a=>oSt r.d (λz=>asc z=true/\QI (signs z) a) ⟨⟩):=rfl
end
theorem VE{c:Bool}{p q:Prop}{s:Tag p}{t:Tag q}(b:c=true->p)(a:c=false->q):bT c p q s t:=by
 cases c with
 | true=>exact b rfl
 | false=>exact a rfl
section
variable {Γ:G}{Q:RV->G->Prop}{QB:Bo->G->Prop}{QT:Bool->G->Prop}{QA:List D->G->Prop}{QL:List Bo->G->Prop}{QO:Option Int->G->Prop}{QG:G->Prop}{is:List Nat}{D1:E3}{t u:TS3}{e3 f3:TE3}{a3 b3 c3:TB3}{A3 B3:TT3}{t3:TA3}{tb:fP}{d:D}{l3 h3 s3:TO3}{bb:tO}{ys:List D}
theorem Pn:Tn t u D1 Γ=t { D1 with nx:=u D1 } Γ:=rfl
theorem La:O6 D1 Γ=D1.nx Γ:=rfl
theorem Pm:MB i e3 D1 Γ=(e3 Γ λr a=>bT (frB a i) (D1.nx (a.set i (some r.sl))) False ⟨⟩ ⟨⟩):=rfl
theorem UQ:Tq e3 D1 Γ=e3 Γ D1.rt:=rfl
theorem RS:Pw e3 D1 Γ=(e3 Γ λ_ a=>D1.nx a):=rfl
theorem UP:tst e3 Γ QT=(e3 Γ λx a=>match x.d with | .bl k=>QT k a | _=>False):=rfl
theorem UX:bor i Γ QB=m1 (Gat Γ i) (λ_=>QB (.v i) Γ) ⟨⟩:=rfl
theorem UY:bof e3 Γ QB=(e3 Γ λx a=>QB (.d x.d) a):=rfl
theorem N4:Px a3 tb Γ QL=(a3 Γ λx b=>tb b λxs a=>QL (x::xs) a):=rfl
theorem RQ:NF Γ QL=QL [] Γ:=rfl
theorem RT:uo e3 t3 Γ QA=(e3 Γ λx b=>t3 b λxs a=>QA (x.d::xs) a):=rfl
theorem US:KS Γ QA=QA [] Γ:=rfl
theorem h_c:t3C d Γ Q=Q (.fz d) Γ:=rfl
theorem U0:SA A3 B3 Γ QT=(A3 Γ λc a=>bT c (B3 a QT) (QT false a) ⟨⟩ ⟨⟩):=rfl
theorem Ww:or3 A3 B3 Γ QT=(A3 Γ λc a=>bT c (QT true a) (B3 a QT) ⟨⟩ ⟨⟩):=rfl
theorem UR:Q9 A3 Γ QT=(A3 Γ λc a=>QT (!c) a):=rfl
theorem UT:Ur t3 Γ Q=(t3 Γ λxs a=>xs.length<=sizeLine/\Q (.fr (.lst xs)) a):=rfl
theorem UO:JI t3 Γ Q=(t3 Γ λxs a=>xs.length<=sizeLine/\Q (.fz (.tup xs)) a):=rfl
theorem UZ:Sy i e3 Γ Q=mL (eZ Γ i) (λ_=>e3 Γ λr a=>mL (eZ a i) (λxs=>xs.length < sizeLine/\Q (.fz .non) (putD a i (.lst (xs++[r.d])))) ⟨⟩) ⟨⟩:=rfl
theorem RK:OY is e3 D1 Γ=(e3 Γ λr a=>mL (JH r.d) (λds=>gvF a is ds D1.nx) ⟨⟩):=rfl
theorem RJ:OX a3 Γ QO=(a3 Γ λx a=>∃ i,x.at a=some (.int i)/\QO (some i) a):=rfl
theorem RP:O5 Γ QO=QO none Γ:=rfl
abbrev hI (a:Nat->G->Prop)(k:Nat)(Γ:G)(_:Tag a):Prop:=a k Γ
def O8 (xs:List D)(c:G)(e:TG3)(f:TS3)(b:E3)(_:Tag (e,f,b)):Prop:=∃ a:Nat->G->Prop,a 0 c/\(∀ k d Γ,xs[k]?=some d->a k Γ->e d Γ λΓ'=>f { b with nx:=a (k + 1),ct:=a (k + 1),bk:=b.nx } Γ')/\∀ Γ,a xs.length Γ->b.nx Γ
theorem UW{b:TI3}{g3:TG3}{c:TS3}{e:Tag (b,g3,c)}{d:Tag D1}:R9 b g3 c D1 Γ e d=(b Γ λxs a=>O8 xs a g3 c D1 ⟨⟩):=rfl
theorem fH{xs:List D}{b:G}{e:TG3}{b3:TS3}{c:E3}{t:Tag (e,b3,c)}(a:Nat->G->Prop)(h:a 0 b)(f:∀ k d Γ,xs[k]?=some d->a k Γ->e d Γ λΓ'=>b3 { c with nx:=λΓ=>hI a (k + 1) Γ ⟨⟩,ct:=λΓ=>hI a (k + 1) Γ ⟨⟩,bk:=c.nx } Γ')(g:∀ Γ,a xs.length Γ->c.nx Γ):O8 xs b e b3 c t:=⟨a,h,f,g⟩
abbrev hJ (a:Nat->List D->G->Prop)(k:Nat)(ys:List D)(Γ:G)(_:Tag a):Prop:=a k ys Γ
def Py (xs:List D)(b:G)(g:On)(h:TG3)(i:TE3)(Q:RV->G->Prop)(_:Tag (g,h,i,Q)):Prop:=∃ c:Nat->List D->G->Prop,c 0 [] (g4 b (iM g))/\
 (∀ k d ys a,xs[k]?=some d->ys.length=k->c k ys a->h d a λf=>i f λr e=>c (k + 1) (ys++[r.d]) e)/\∀ ys a,ys.length=xs.length->c xs.length ys a->Q (.fr (.lst ys)) (aZ g b a)
theorem RU{i3:TI3}{g3:TG3}{c:Tag (fr,i3,g3,e3)}{b:Tag Q}:Pz fr i3 g3 e3 Γ Q c b=(i3 Γ λxs a=>xs.length < sizeLine/\Py xs a fr g3 e3 Q ⟨⟩):=rfl
theorem aQ{xs:List D}{b:G}{g3:TG3}{e3:TE3}{Q:RV->G->Prop}{t:Tag (fr,g3,e3,Q)}(c:Nat->List D->G->Prop)(i:c 0 [] (g4 b (iM fr)))(g:∀ k d ys a,xs[k]?=some d->ys.length=k->c k ys a->g3 d a λf=>e3 f λr e=>hJ c (k + 1) (ys++[r.d]) e ⟨⟩)(h:∀ ys a,ys.length=xs.length->c xs.length ys a->Q (.fr (.lst ys)) (aZ fr b a)):Py xs b fr g3 e3 Q t:=⟨c,i,g,h⟩
def LH (xs:List D)(a:G)(c:On)(d:TG3)(e:tO)(Q:RV->G->Prop)(_:Tag (c,d,e,Q)):Prop:=Hu xs d e [] (g4 a (iM c)) λys b=>ys.length < sizeLine/\Q (.fr (.lst ys)) (aZ c a b)
theorem N6{i3:TI3}{g3:TG3}{c:Tag (fr,i3,g3,bb)}{b:Tag Q}:LI fr i3 g3 bb Γ Q c b=(i3 Γ λxs a=>LH xs a fr g3 bb Q ⟨⟩):=rfl
theorem xU{xs:List D}{a:G}{g3:TG3}{b3:tO}{Q:RV->G->Prop}{t:Tag (fr,g3,b3,Q)}(c:Nat->List D->G->Prop)(g:c 0 [] (g4 a (iM fr)))(e:∀ k d ys Γ,xs[k]?=some d->c k ys Γ->g3 d Γ λΓ'=>b3 ys Γ' λys Γ=>hJ c (k + 1) ys Γ ⟨⟩)(f:∀ ys b,c xs.length ys b->ys.length < sizeLine/\Q (.fr (.lst ys)) (aZ fr a b)):LH xs a fr g3 b3 Q t:=⟨c,g,e,f⟩
theorem Sd{xs:List D}:eqN (n + 1) (.lst xs) (.lst [])=some xs.isEmpty:=by cases n <;> cases xs <;> rfl
theorem Se{a b c:Int}:eqN (n + 1) (.lst [.int a,.int b,.int c]) (.lst [.int a,.int b,.int c])=some true:=by
 have:=Fi (n:=n) [a,b,c] [a,b,c];rw[decide_eq_true rfl] at this;exact this
def Pj (S:S3)(A:G)(L:On)(b:G)(Q:RV->G->Prop)(_:Tag Q):Prop:=S A (λr a=>Q r (aZ L b a))
def UN (S:S3)(A:G)(b:G)(Q:RV->G->Prop)(_:Tag Q):Prop:=S A (λr a=>r=.fz .non/\Pq a (λd=>Q (.fr d) b) ⟨⟩)
theorem Om{S:S3}{c:fP}:DS n S c Γ Q=(c Γ λb a=>bT (ql b n) (Pj S (g4 a (b.map some)) ((b.map some).map dm) a Q ⟨⟩) False ⟨⟩ ⟨⟩):=rfl
theorem Rg{m:Str}{S:S3}{e:TB3}{d:fP}:om C m n S e d Γ Q=(e Γ λx b=>(∃ ns xs,x.at b=some (.ins C ns xs)/\m∉ns)/\d b λc a=>bT (ql (x::c) n) (Pj S (g4 a ((x::c).map some)) (((x::c).map some).map dm) a Q ⟨⟩) False ⟨⟩ ⟨⟩):=rfl
theorem Rh{S:S3}{b:TA3}:KW C n S b Γ Q=(b Γ λds a=>ds.length + 1=n/\UN S (some (.ln (.ins C [] []))::ds.map λd=>some (.fz d)) a Q ⟨⟩):=rfl
theorem WR{s:Tag (t,u,D1)}:bG true t u D1 Γ s=t D1 Γ:=rfl
theorem WS{s:Tag (t,u,D1)}:bG false t u D1 Γ s=u D1 Γ:=rfl
theorem iT{c:Bool}{s:Tag (t,u,D1)}(b:c=true->t D1 Γ)(a:c=false->u D1 Γ):bG c t u D1 Γ s:=by
 cases c with
 | true=>exact b rfl
 | false=>exact a rfl
theorem UU:UH A3 t u D1 Γ=(A3 Γ λc a=>bG c t u D1 a ⟨⟩):=rfl
theorem Wy{e:D}:uo (t3C e) t3 Γ QA=(t3 Γ λxs a=>QA (e::xs) a):=rfl
theorem Pk{d e:D}:JI (uo (t3C d) (uo (t3C e) KS)) Γ Q=Q (.fz (.tup [d,e])) Γ:=by
 show (2<=sizeLine/\Q (.fz (.tup [d,e])) Γ)=_;exact propext ⟨λh=>h.2,λh=>⟨by rw[hG];decide,h⟩⟩
theorem Wz{d e:D}:uo (JI (uo (t3C d) (uo (t3C e) KS))) t3 Γ QA=(t3 Γ λxs a=>QA (.tup [d,e]::xs) a):=by
 show JI (uo (t3C d) (uo (t3C e) KS)) Γ (λx b=>t3 b λxs a=>QA (x.d::xs) a)=_;rw[Pk];rfl
end
theorem ln0{a:Type}{us:List a}(h:us.length=0):us=[]:=Pv h
theorem ln1{b:Type}{us:List b}(h:us.length=1):∃ a,us=[a]:=by
 match us,h with
 | [a],_=>exact⟨a,rfl⟩
theorem ln2{c:Type}{us:List c}(h:us.length=2):∃ a b,us=[a,b]:=by
 match us,h with
 | [a,b],_=>exact⟨a,b,rfl⟩
theorem ln3{d:Type}{us:List d}(h:us.length=3):∃ a b c,us=[a,b,c]:=by
 match us,h with
 | [a,b,c],_=>exact⟨a,b,c,rfl⟩
theorem ln4{e:Type}{us:List e}(h:us.length=4):∃ a b c d,us=[a,b,c,d]:=by
 match us,h with
 | [a,b,c,d],_=>exact⟨a,b,c,d,rfl⟩
theorem ln5{f:Type}{us:List f}(h:us.length=5):∃ a b c d e,us=[a,b,c,d,e]:=by
 match us,h with
 | [a,b,c,d,e],_=>exact⟨a,b,c,d,e,rfl⟩
section
variable {B:Bs}{F:Hp}{H:Hp}{Γ:G}{X:Cx}
noncomputable def Bs.hid (B:Bs)(p:Addr)(o:HO):Bs:=⟨B.F,upd B.H p o,B.own⟩
theorem En.hide(e:En K B F σ H Γ){p:Addr}{o:HO}(j:F p=none)(f:H p=some o)(g:∀ (i:Nat) (d:D),Hld Γ i d->σ[i]?≠some (some (V.ref p))):En K (B.hid p o) F σ H Γ where
 sub:=e.sub
 len:=e.len
 fz:=e.fz
 hl:=e.hl
 ow:=λi d c h a=>by
  have z:c≠p:=λz=>g i d (.inl h) (z ▸ a);show upd B.H p o c=none;rw[ar z];exact e.ow i d c h a
 ln:=e.ln
 dis:=e.dis
 par:=e.par
 keep:=e.keep
 new:=λb u h=>by
  rcases e.new b u h with q | q
  .exact .inl q
  .have z:b≠p:=λz=>by subst z;rw[j] at h;cases h
   exact .inr (by show upd B.H p o b=none;rw[ar z];exact q)
 rest:=λb u h n=>by
  by_cases z:b=p
  .subst z;have h:upd B.H b o b=some u:=h;rw[ax] at h;cases h;exact f
  .have h:upd B.H p o b=some u:=h;rw[ar z] at h;exact e.rest b u h n
 dom:=λb h=>by
  have z:b≠p:=λz=>by subst z;rw[f] at h;cases h
  show upd B.H p o b=none;rw[ar z];exact e.dom b h
theorem En.FD{p:Addr}{o:HO}(e:En K (B.hid p o) F σ H Γ)(l:B.H p=none)(k:B.F p=none)(j:∀ i,(i,p)∉B.own) :
  En K B F σ H Γ/\H p=some o/\F p=none/\∀ (i:Nat) (d:D),Hld Γ i d->σ[i]?≠some (some (V.ref p)):=by
 have c:(B.hid p o).H p=some o:=ax;have g:∀ {b:Addr},b≠p->(B.hid p o).H b=B.H b:=λz=>ar z;have f:∀ {b:Addr},(B.hid p o).H b=none->B.H b=none:=λ{b} h=>by
  have z:b≠p:=λz=>by subst z;rw[c] at h;cases h
  rw[<- g z];exact h
 refine⟨⟨e.sub,e.len,e.fz,e.hl,λi d q h a=>f (e.ow i d q h a),e.ln,e.dis,e.par,e.keep,λb u h=>(e.new b u h).imp id f,λb u h n=>e.rest b u ?_ n,λb h=>f (e.dom b h)⟩,e.rest p o c j,?_,λi d h a=>?_⟩
 .have z:b≠p:=λz=>by subst z;rw[l] at h;cases h
  rw[g z];exact h
 .cases q:F p with
  | none=>rfl
  | some u=>
   rcases e.new p u q with z | z
   .rw[show (B.hid p o).F p=B.F p from rfl,k] at z;cases z
   .rw[c] at z;cases z
 .rcases h with h | h
  .have z:=e.ow i d p h a;rw[c] at z;cases z
  .exact j i (e.ln i d p h a)
set_option backward.eqns.nonrecursive false in
def frL (r:RV)(k:List D->Prop):Prop:=match r with
 | .fr (.lst xs)=>k xs
 | _=>False
theorem xN{r:RV}{k:List D->Prop}(h:frL r k):∃ xs,r=.fr (.lst xs)/\k xs:=by
 cases r with
 | fz d=>exact h.elim
 | two _ _=>exact h.elim
 | rws _=>exact h.elim
 | fr d=>cases d <;> first | exact h.elim | exact⟨_,rfl,h⟩
def S4 (e d:TE3)(Γ:G)(Q:RV->G->Prop):Prop:=e Γ λr b=>frL r λxs=>d b λc a=>frL c λys=>Q (.two xs ys) a
variable {b:Expr}{ta tb:TE}{a3 b3:TE3}
theorem KD{U}(L:P3 K X a ta a3)(J:P3 K X b tb b3)(hs:autoParam (ew [a,b] X.env=(false,eval a X.env)::ew [b] X.env) wE)(u:autoParam (ew [b] X.env=(false,eval b X.env)::ew [] X.env) wE):P3 K X (.Tuple [a,b] U pos) (Mn (kT ta (kT tb sR))) (S4 a3 b3):=⟨Gb (iq L.pe (iq J.pe rh u) hs),by
 intro B F D H R Q QQ e q k;refine L.rf B F D H R _ _ e q λv H1 Z=>?_;obtain⟨F1,m,r,W,A,Y,t⟩:=Z;obtain⟨T,rfl,t⟩:=xN t;obtain⟨p,rfl,O,⟨g,h1,r1⟩,P,I⟩:=Y;have bf:B.F p=none:=by
  cases z:B.F p with
  | none=>rfl
  | some o=>have:=A.keep _ _ z;rw[O] at this;cases this
 have no:∀ i,(i,p)∉B.own:=λi z=>by
  obtain⟨x,d,y⟩:=A.par i p z;exact I i d (.inr y) x
 refine J.rf (B.hid p (.lst g)) F1 D H1 m _ _ (A.hide O h1 I) t λw H2 Z=>?_;obtain⟨F2,j,r',E,e2,n,s⟩:=Z;obtain⟨S,rfl,s⟩:=xN s;obtain⟨f,rfl,f2,⟨V,N,r2⟩,b2,n2⟩:=n;have G:f≠p:=λz=>by
  have b2:upd B.H p (.lst g) f=none:=b2;rw[z,ax] at b2;cases b2
 have C:B.H f=none:=by
  have b2:upd B.H p (.lst g) f=none:=b2;rw[ar G] at b2;exact b2
 obtain⟨h,M,f3,n3⟩:=e2.FD P bf no;refine⟨by show 2<=sizeLine;rw[hG];lia,λl c=>k _ _ ⟨F2,j,.two T S,W.trans E,h.alloc c _,⟨l,p,f,g,V,rfl,ax,?_,?_,r1.mono E,r2,rl G,λz hz=>?_⟩,s⟩⟩
 .rw[ar (aU M c)];exact M
 .rw[ar (aU N c)];exact N
 .rcases hz with rfl | rfl | rfl
  .exact⟨h.nof c,h.dom _ c,h.Au c⟩
  .exact⟨f3,P,n3⟩
  .exact⟨f2,C,n2⟩⟩
def iT3 (b:TE3)(Γ:G)(Q:List D->G->Prop):Prop:=b Γ λr a=>∃ xs,r.d=.tup xs/\Q xs a
theorem GJ{l:Expr}{tl:TE}{o:TE3}(I:X.K=K)(h:P3 K X l tl o):P3I K X tg l (UJ K tl) (iT3 o):=⟨by subst I;exact QH h.pe,λB F u H w Q R e q k=>
 h.rf B F u H w _ _ e q λv M Z=>by
  obtain⟨T,j,r,s,L,C,z,E,D⟩:=Z;obtain⟨N,A,t,n⟩:=L.frozen C;rw[E] at n;obtain⟨p,a,rfl,g,m⟩:=n;refine⟨p,rfl,⟨a,SqT.of (t.sub _ _ g)⟩,k _ M N j z (s.trans A) t ⟨λi f b lt=>?_,λi f b O=>?_,λi f x S d b G y=>?_⟩ D⟩
  .rw[<- m.length] at lt;exact⟨a,a[i],SqT.of (b _ _ g),by simp [lt]⟩
  .exact⟨a,SqT.of (b _ _ g),by rw[m.length];lia⟩
  .obtain⟨J,y⟩:=y;obtain⟨P,c,r⟩:=m.N8 (y a (SqT.of (b _ _ g)));rw[G] at c;cases c;exact .inl ⟨J,r⟩⟩
end
open PySem _2 PySem.Spec PyProof.Rows
section
variable {B:Bs}{F:Hp}{H:Hp}{Γ:G}{X:Cx}
def O4 (i j:Nat)(e d:TE3)(D:E3)(Γ:G):Prop:=e Γ λr b=>frL r λxs=>d b λc a=>frL c λys=>cu a i/\cu (a.set i (some (.ow (.lst xs)))) j/\D.nx ((a.set i (some (.ow (.lst xs)))).set j (some (.ow (.lst ys))))
theorem MI{b:Expr}{ta M:TE}{Y V:TE3}{t u:Pos}{kt k2 I}(hc:X.calm=true)(hN:X.N.Nodup)(hi:X.N[i]?=some x)(hj:X.N[j]?=some y)(G:i≠j)(hx:X.env.scope.names.lookup x=some .local)(hy:X.env.scope.names.lookup y=some .local)(R:P3 K X a ta Y)(Q:P3 K X b M V)(hw:Wt [.Tuple [.Name x px,.Name y t] kt u] (.Tuple [a,b] k2 I) X.env=pure (some [x,y]))(hs:autoParam (Ws [.Tuple [.Name x px,.Name y t] kt u] (.Tuple [a,b] k2 I) pos.line X.env=pure false) wE)(C:autoParam (ew [a,b] X.env=(false,eval a X.env)::ew [b] X.env) wE)(A:autoParam (ew [b] X.env=(false,eval b X.env)::ew [] X.env) wE) :
  P3S K X (.Assign [.Tuple [.Name x px,.Name y t] kt u] (.Tuple [a,b] k2 I) pos) (P1 i j (kT ta (kT M sR))) (O4 i j Y V):=⟨Kl hc hN hi hj G hx hy (iq R.pe (iq Q.pe rh A) C) hw hs,λB F g H Γ D D3 e k q=>by
 refine R.rf B F g H Γ _ _ e q λv H1 Z=>?_;obtain⟨F1,h,r,s1,J,rv,s⟩:=Z;obtain⟨xs,rfl,s⟩:=xN s;obtain⟨p,rfl,T,⟨f,h1,r1⟩,W,P⟩:=rv;have bf:B.F p=none:=by
  cases z:B.F p with
  | none=>rfl
  | some o=>have:=J.keep _ _ z;rw[T] at this;cases this
 have no:∀ i,(i,p)∉B.own:=λi z=>by
  obtain⟨x,d,y⟩:=J.par i p z;exact P i d (.inr y) x
 refine Q.rf (B.hid p (.lst f)) F1 g H1 h _ _ (J.hide T h1 P) s λw H2 Z=>?_;obtain⟨F2,a1,r',N,e2,l,n⟩:=Z;obtain⟨ys,rfl,S,g2,n⟩:=xN n;obtain⟨c,rfl,f2,⟨ws,h2,r2⟩,b2,n2⟩:=l;have O:c≠p:=λz=>by
  have b2:upd B.H p (.lst f) c=none:=b2;rw[z,ax] at b2;cases b2
 have L:B.H c=none:=by
  have b2:upd B.H p (.lst f) c=none:=b2;rw[ar O] at b2;exact b2
 obtain⟨U,h3,f3,n3⟩:=e2.FD W bf no;have il:=lI S;have is:i < g.length:=by rw[U.len];exact il
 have e4:=U.set (v:=.ref p) (r:=.fr (.lst xs)) S ⟨p,rfl,f3,⟨f,h3,r1.mono N⟩,W,n3⟩;have e5:=e4.set (v:=.ref c) (r:=.fr (.lst ys)) g2 ⟨c,rfl,f2,⟨ws,h2,r2⟩,L,λm d E a=>by
  by_cases z:m=i
  .subst z;rw[aT is] at a;cases a;exact O rfl
  .rw[aR (rl z)] at a;exact n2 m d (by unfold Hld at E ⊢;rw[aR (rl z)] at E;exact E) a⟩
 exact⟨_,_,rfl,k.nx F2 _ H2 _ (s1.trans N) e5 n⟩⟩
def OQ (i:Nat)(c:TE3)(Γ:G)(Q:RV->G->Prop):Prop:=(∃ d,Gat Γ i=some d)/\c Γ λb a=>frL b λys=>∃ xs,a[i]?=some (some (Sl.ow (.lst xs)))/\Q (.two xs ys) (a.set i none)
theorem Nn(i:Nat){b:Expr}{y:TE}{J:TE3}{U}(f:P3B K X (.Name x px) (kS i) (bor i))(E:P3 K X b y J)(hs:autoParam (ew [.Name x px,b] X.env=(false,eval (.Name x px) X.env)::ew [b] X.env) wE)(t:autoParam (ew [b] X.env=(false,eval b X.env)::ew [] X.env) wE):P3 K X (.Tuple [.Name x px,b] U pos) (Mn (kT (kS i) (kT y sR))) (OQ i J):=⟨Gb (iq f.pe (iq E.pe rh t) hs),by
 intro B F M H N Q QQ e ⟨⟨d,hd⟩,q⟩ k;obtain⟨v,m,_⟩:=e.get hd;refine⟨v,m,E.rf B F M H N _ _ e q λw H2 Z=>?_⟩;obtain⟨F2,c,r',T,o,r,s⟩:=Z;obtain⟨O,rfl,P,f,s⟩:=xN s;obtain⟨q',rfl,f2,⟨R,G,V⟩,b2,A⟩:=r;obtain⟨p,L,f1,S,I,W⟩:=o.hl i _ (.inl f);rw[m] at L;cases L;have C:cu c i:=by unfold cu;rw[f];trivial
 have n:=o.forget C;have Y:p≠q':=λz=>A i _ (.inl f) (z ▸ m);have u:∀ {j:Nat} {d:D},Hld (c.set i none) j d->j≠i/\Hld c j d:=λ{j d} h=>by
  by_cases z:j=i
  .subst z;rcases h with h | h <;> rw[aT (lI C)] at h <;> cases h
  .exact⟨z,by unfold Hld at h ⊢;rw[aR (rl z)] at h;exact h⟩
 refine⟨by show 2<=sizeLine;rw[hG];lia,λl g=>k _ _ ⟨F2,_,.two P O,T,n.alloc g _,⟨l,p,q',S,R,rfl,ax,?_,?_,W,V,Y,λz hz=>?_⟩,s⟩⟩
 .rw[ar (aU I g)];exact I
 .rw[ar (aU G g)];exact G
 .rcases hz with rfl | rfl | rfl
  .exact⟨n.nof g,n.dom _ g,n.Au g⟩
  .exact⟨f1,o.ow i _ _ f m,λj d h a=>(u h).1 (o.dis j i d _ _ (u h).2 (.inl f) a m)⟩
  .exact⟨f2,b2,λj d h=>A j d (u h).2⟩⟩
end
theorem UG{S i:S3}(h:∀ Γ Q,i Γ Q->S Γ Q)(vs:List V)(H:Hp)(Q:VK)(E:XK)(q:sp3 K n i vs H Q E):sp3 K n S vs H Q E:=by
 obtain⟨a,F,g,f,j,b,c,d,e⟩:=q;exact⟨a,F,g,f,j,b,c,h _ _ d,e⟩
abbrev rd2 (f:Li0->Sl)(C:Li0->Int->Prop)(g:Li0->Int->Li0):S3:=λΓ Q=>∃ (ns:Li0) (m:Int),Γ=[some (f ns),some (.fz (.int m))]/\C ns m/\Q (.fr (.lst ((g ns m).map .int))) Γ
section
variable {mg:SV0}
theorem O_{C:Li0->Int->Prop}{g:Li0->Int->Li0}(F:aB P w K mg base CX0 k f fd ps (sp3 K 2 (rd2 (λns=>.fz (.lst (ns.map .int))) C g))):aB P w K mg base CX0 k f fd ps (sp3 K 2 (rd2 (λns=>.ln (.lst (ns.map .int))) C g)):=by
 refine F.imp λS H Q E h=>?_;obtain⟨hl,G,a2,X,Q3,e,a4,⟨ns,m,rfl,hC,hq⟩,hQ⟩:=h;obtain⟨Y,T,rfl⟩:∃ a b,S=[a,b]:=by
  match S,hl with
  | [a,b],_=>exact⟨a,b,rfl⟩
 obtain⟨c,R,f0,Z,N,L⟩:=e.hl 0 _ (.inr rfl);have R:some (some Y)=some (some (V.ref c)):=R;cases R;have L:=L.wa;subst L;have A:=e.ln 0 _ c rfl rfl;obtain⟨u1,O,J⟩:=e.fz 1 _ rfl;have O:some (some T)=some (some u1):=O;cases O;have J:T=.int m:=J;subst J;have l:∀ {i:Nat} {s:Sl} {x y:Sl},[some x,some y][i]?=some (some s)->(i=0/\s=x)\/(i=1/\s=y):=λ{i s x y} h=>by
  match i,h with
  | 0,h=>cases h;exact .inl ⟨rfl,rfl⟩
  | 1,h=>cases h;exact .inr ⟨rfl,rfl⟩
  | n + 2,h=>simp at h
 have nh:∀ {i:Nat} {d x y:D},¬ Hld [some (Sl.fz x),some (Sl.fz y)] i d:=λ{i d x y} h=>by
  rcases h with h | h <;> rcases l h with ⟨rfl,q⟩ | ⟨rfl,q⟩ <;> cases q
 have B:∀ {i:Nat} {d x y:D},Hld [some (Sl.ln x),some (Sl.fz y)] i d->i=0/\d=x:=λ{i d x y} h=>by
  rcases h with h | h <;> rcases l h with ⟨rfl,q⟩ | ⟨rfl,q⟩ <;> cases q
  exact⟨rfl,rfl⟩
 have sm:aS (upd G c (.lst (ns.map V.int))) H:=λb o h=>by
  by_cases z:b=c
  .subst z;rw[ax] at h;cases h;exact N
  .rw[ar z] at h;exact e.sub b o h
 refine⟨rfl,upd G c (.lst (ns.map V.int)),[],_,λr u=>r=.fr (.lst ((g ns m).map .int))/\u=[some (.fz (.lst (ns.map .int))),some (.fz (.int m))],⟨sm,rfl,?_,λi d h=>absurd h nh,λi d p h=>absurd (hE h) nh,λi d p h=>absurd (SF h) nh,λi j d d' p h=>absurd h nh,λi p h=>(by cases h),λb o h=>h,λb o h=>.inl h,λb o h _=>h,λb h=>h⟩,?_,⟨ns,m,rfl,hC,rfl,rfl⟩,?_⟩
 .intro i d h;rcases l h with ⟨rfl,q⟩ | ⟨rfl,q⟩ <;> cases q
  .exact⟨_,rfl,c,_,rfl,ax,aI.ints ns⟩
  .exact⟨_,rfl,rfl⟩
 .intro i d h;rcases l h with ⟨rfl,q⟩ | ⟨rfl,q⟩ <;> cases q
 .rintro r u ⟨rfl,rfl⟩ v W F' U ⟨q,rfl,fq,⟨us,M,I⟩,t,_⟩;have I:=I.wa;subst I;have t:H q=none:=t;have rest:∀ b o,H b=some o->W b=some o:=λb o h=>U.rest b o h (λi hi=>by cases hi);have nq:G q=none:=by
   cases z:G q with
   | none=>rfl
   | some o=>have:=e.sub _ _ z;rw[t] at this;cases this
  refine hQ _ _ hq _ W G ⟨λb o h=>rest b o (e.sub b o h),rfl,?_,?_,?_,?_,?_,?_,λb o h=>h,λb o h=>.inl h,λb o h n=>rest b o h,λb h=>U.dom b h⟩ ⟨q,rfl,nq,⟨_,M,aI.ints _⟩,t,λi d h a=>?_⟩
  .intro i d h;rcases l h with ⟨rfl,q⟩ | ⟨rfl,q⟩ <;> cases q
   exact⟨_,rfl,rfl⟩
  .intro i d h;obtain⟨rfl,rfl⟩:=B h;exact⟨c,rfl,f0,_,rest _ _ N,aI.ints ns⟩
  .intro i d p h;rcases l h with ⟨rfl,q⟩ | ⟨rfl,q⟩ <;> cases q
  .intro i d p h a;obtain⟨rfl,rfl⟩:=B (.inr h);have a:some (some (V.ref c))=some (some (V.ref p)):=a;cases a;exact A
  .intro i j d d' p q1 q2 _ _;rw[(B q1).1,(B q2).1]
  .intro i p h;obtain⟨x,d,y⟩:=e.par i p h;rcases l y with ⟨rfl,q⟩ | ⟨rfl,q⟩ <;> cases q
   exact⟨x,_,rfl⟩
  .obtain⟨rfl,rfl⟩:=B h;have a:some (some (V.ref c))=some (some (V.ref q)):=a;cases a;rw[N] at t;cases t
end
noncomputable def wd (i:Int):List Nat:=(toString i).toList.map Char.toNat
noncomputable def tl:Li0->List Nat
 | []=>[93]
 | i::is=>44::32::(wd i++tl is)
noncomputable def lt:Li0->List Nat
 | []=>[91,93]
 | i::is=>91::(wd i++tl is)
structure XD where
 C:Addr
 ns:Ls0
 xs:List D
noncomputable abbrev S3X:=G->(RV->G->Prop)->(XD->G->Prop)->Prop
end _3
namespace _2
open PySem PySem.Spec PyProof.Rows
section
variable {X:Cx}
theorem LQ:eO X (.builtin "isinstance") (λxs H Q=>∃ x c t b,xs=[x,c]/\tN X.K H x t/\isC c=true/\bq X.K t (vv c)=some b/\Q (.bl b) H):=by
 intro d s i H xs l Q I r h;obtain⟨x,c,t,b,rfl,e,g,k,q⟩:=h;obtain⟨u,j,rfl,f,a⟩:=vals2 r;obtain rfl:=S2 g a;exact Co I f e k λm=>⟨.bl b,H,I.tok _,rfl,q⟩
end
end _2
namespace _3
open PySem _2
section
variable {B:Bs}{F:Hp}{H:Hp}{Γ:G}{X:Cx}{b:Expr}{to te ta:TE}{e3 o3 a3:TE3}{b3:TB3}
theorem Nq(b:Gl X x)(a:X.mg x=some (.ref C))(c:autoParam ((x == ("__debug__":Str))=false) wP):P3 K X (.Name x pos) (tC (.ref C)) (t3C (.adr C)):=
 ⟨Dj b a rfl c,λB F f H g Q h e q k=>k _ _ (oa (d:=.adr C) e rfl q)⟩
structure PJ (K:Fg0) (C:Addr):Prop where
 cl:Cls K C
 ha:ck K (.ref C) "__class__"=some (some (.builtin "object.__class__"))
 hn:YD K (.builtin "object.__class__") "__get__"=some (some (.builtin "getset_descriptor.__get__"))
 ht:Zl K (.builtin "object.__class__")=some true
 hm:ZN K C (.type "object")=some true
 o:bq K (.ref C) (.ref C)=some true
 b:bq K (.type "bool") (.ref C)=some false
 i:bq K (.type "int") (.ref C)=some false
 n:bq K (.type "NoneType") (.ref C)=some false
 s:bq K (.type "str") (.ref C)=some false
 l:bq K (.type "list") (.ref C)=some false
 t:bq K (.type "tuple") (.ref C)=some false
 d:bq K (.type "dict") (.ref C)=some false
noncomputable def QU (C:Addr):D->Option Bool
 | .ins a _ _=>if a=C then some true else none
 | d=>if knD d=true then some false else none
theorem Nr{d:D}(h:knD d=true):QU C d=some false:=by
 cases d <;> first | rfl | cases h
set_option backward.eqns.nonrecursive false in
def RC (C:Addr)(ds:List D)(Γ:G)(Q:RV->G->Prop):Prop:=match ds with
 | [d,.adr a]=>a=C/\∃ b,QU C d=some b/\Q (.fz (.bl b)) Γ
 | _=>False
theorem Vx(o:X.K=K)(c:PJ K C):B3 K X (.builtin "isinstance") (λxs H Q=>∃ x c t b,xs=[x,c]/\tN K H x t/\isC c=true/\bq K t (vv c)=some b/\Q (.bl b) H) (RC C):=⟨by subst o;exact LQ,by
 intro B F y H A D J Q L e r q k;unfold RC at q;split at q
 .rename_i d i;obtain⟨rfl,b,f,q⟩:=q;obtain⟨v,w,rfl,j,s⟩:=r.two;cases s;have u:∃ t,tN K H v t/\bq K t (.ref i)=some b:=by
   by_cases h:knD d=true
   .rw[Nr h] at f;cases f;cases K2 e.sub j h with
    | non=>exact⟨_,.non,c.n⟩
    | bl x=>exact⟨_,.bl x,c.b⟩
    | int x=>exact⟨_,.int x,c.i⟩
    | str x=>exact⟨_,.str x,c.s⟩
    | lst x=>exact⟨_,.lst x,c.l⟩
    | tup x=>exact⟨_,.tup x,c.t⟩
    | dK x=>exact⟨_,.dK x,c.d⟩
   .cases d with
    | ins l E xs=>
     have a:(if l=i then some true else none)=some b:=f;by_cases z:l=i
     .rw[if_pos z] at a;cases a;subst z;obtain⟨p,I,G,rfl,g,_⟩:=j;exact⟨_,.ins g c.cl c.ha c.hn c.ht c.hm,c.o⟩
     .rw[if_neg z] at a;cases a
    | _=>first | exact absurd rfl h | cases f
  obtain⟨t,m,n⟩:=u;exact⟨v,_,t,b,rfl,m,rfl,n,k _ _ (x8 e q)⟩
 .exact q.elim⟩
end
section
variable {X:Cx}{c:Expr}{body:List Stmt}{tc:TT}{A3:TT3}{tb:TS}{b3:TS3}
def JA (e:TT3)(d:TS3)(D:E3)(Γ:G):Prop:=∃ W:Nat->G->Prop,(∃ m,W m Γ)/\∀ m Γ,W m Γ->e Γ λb a=>match b with
 | true=>d { D with nx:=λΓ'=>∃ c,c < m/\W c Γ',ct:=λΓ'=>∃ c,c < m/\W c Γ',bk:=D.nx } a
 | false=>D.nx a
theorem J2(Q:ab4 (model X.prog X.w) X.A X.env X.xe)(y:P3T K X c tc A3)(z:xc K X body tb b3):P3S K X (.While c body [] pos) (JK tc tb) (JA A3 b3):=⟨Kk Q y.pe z.pe,λB F w H I D G e k q=>by
 obtain⟨W,⟨P,L⟩,p⟩:=q;refine⟨λm w H=>∃ f a,aS F f/\En K B f w H a/\W m a,⟨P,F,I,aS.refl F,e,L⟩,?_⟩;rintro m l S ⟨T,o,N,R,J⟩;refine y.rf B T l S o _ _ R (p m o J) λb C Z=>?_;obtain⟨E,n,M,A,x⟩:=Z;have i:=N.trans M;cases b with
 | true=>
  rw[if_pos rfl];refine⟨λd j=>∃ g,g < m/\∃ f a,aS F f/\En K B f d j a/\W g a,λd j h=>h,?_⟩;exact z.rf B E l C n _ { G with nx:=λa=>∃ g,g < m/\W g a,ct:=λa=>∃ g,g < m/\W g a,bk:=G.nx } A
   ⟨λf d j a s e ⟨g,u,t⟩=>⟨g,u,f,a,i.trans s,e,t⟩,λf d j a v r s e O q=>k.rt f d j a v r (i.trans s) e O q,λf d j a s e q=>k.nx f d j a (i.trans s) e q,λf d j a s e ⟨g,u,t⟩=>⟨g,u,f,a,i.trans s,e,t⟩⟩ x
 | false=>
  rw[if_neg (by decide)];exact k.nx E l C n i A x⟩
def PR (b:TT3)(a:TS3)(D:E3)(Γ:G)(_:Tag D):Prop:=JA b a D Γ
theorem H9{D:E3}{Γ:G}{t:Tag D}(W:Nat->G->Prop)(d:W m Γ)(h:∀ m Γ,W m Γ->A3 Γ λb a=>match b with
 | true=>b3 { D with nx:=λΓ'=>∃ c,c < m/\W c Γ',ct:=λΓ'=>∃ c,c < m/\W c Γ',bk:=D.nx } a
 | false=>D.nx a):PR A3 b3 D Γ t:=⟨W,⟨m,d⟩,h⟩
end
def fz3 (b:TE3)(Γ:G)(Q:RV->G->Prop):Prop:=b Γ λr a=>Q (.fz r.d) a
theorem lq{X:Cx}{te:TE}{b:TE3}(h:P3 K X e te b):P3 K X e te (fz3 b):=⟨h.pe,λB F c H d Q p en q k=>h.rf B F c H d _ _ en q λv n Z=>by
 obtain⟨t,a,r,s,m,g,j⟩:=Z;obtain⟨o,f,l,i⟩:=m.frozen g;exact k v n ⟨o,a,.fz r.d,s.trans f,l,i,j⟩⟩
end _3
namespace _2
open PySem PySem.Spec PyProof.Rows
theorem G2{a b:Int}{x y:Tok}{c:Value}(l:Lv0)(h:TriplesOk l)(e:Yq pos (l++[.int a x,.int b y,c])=some v):Yq pos l=some v\/v=c:=by
 fun_induction TriplesOk l with
 | case1=>
  right
  simp only[Xk,Yq] at e;split at e
  .exact(ov e).symm
  .cases e
 | case2 i _ j _ d rest f=>
  simp only[XU,Yq] at e ⊢;split
  .rename_i q;rw[if_pos q] at e;exact .inl e
  .rename_i q;rw[if_neg q] at e;exact f h e
 | case3=>exact h.elim
noncomputable abbrev tP (q:Str)(a:Arguments)(d:Expr)(scope:Scope)(b:List (Str×Addr))(e:Value)(c:Addr)(f:Value):Obj:=PySem.W.kla_obj "<lambda>" q a d scope b e c f
def P4 (q:Str)(a:Arguments)(d:Expr)(scope:Scope)(b:List (Str×Addr))(e:Value):TE:=λ_ H Q=>
 ∀ f c g h H1,(H1=H\/(H c=none/\H1=upd H c (.frz g (.ext λ_=>True))))->H1 f=none->yN H1 (.ref c) q->Q (.ref f) (upd H1 f (.frz (tP q a d scope b e c h) (.cod c q)))
section
variable {X:Cx}
theorem QP{c P:Addr}{f:Arguments}(w:X.env.code=.ref c)(hC:∀ h:Heap,X.K.In h->XB h c P)(hT:pT X.base P (X.env.qual++"<lambda>"))(Z:Ze scope X.env=pure clos)(W:autoParam (defaultsOf f X.env=([],[])) wE) :
  PE X (.Lambda f body scope pos) (P4 (X.env.qual++"<lambda>") f body scope clos ((X.mg "__name__").getD .none)):=by
 intro a6 s σ H Q I h;refine PySem.W.kla_eval W ?_;obtain⟨ps,t,M,tag⟩:=I.tb P _ hT;obtain⟨q',t',qs,E,D,B,p⟩:=I.hok P _ M;obtain⟨rfl,rfl⟩:X.env.qual++"<lambda>"=q'/\t=t':=by
  rw[tag] at E;simpa using E
 have C:s.heap.Ns mainGlobals X.mg:=I.mod.glob.keeps I.bk;obtain⟨bm,ob,b1,b2,b3,b4,b5,b6⟩:=I.mod.bm;have a1:mainGlobals≠P:=λz=>by
  obtain⟨o,es,ep,e,G,_⟩:=C;rw[z,D] at e;cases e;cases G
 have a4:bm≠P:=λz=>by
  have e:=I.bk _ _ b3;rw[z,D] at e;cases e;cases b4
 have a5:bm≠mainGlobals:=λz=>by
  obtain⟨o,es,ep,e,G,_⟩:=C;have A:=I.bk _ _ b3;rw[z,e] at A;cases A;rw[G] at b6;cases b6
 have hB:s.heap.BuiltinsAt X.mg P:=⟨bm,ob,b1,b2,a5,a4,I.bk _ _ b3,b4,b5,b6⟩;cases J:Yq pos qs.toList with
 | none=>
  refine PySem.W.kla_makeFunction Z I.ok.glob C w (hC _ I.kIn) D B J a1 hB λc' L j tk hx F U S O=>?_;obtain⟨a7,x,vs,t2,e2,T,G,hv⟩:=S;cases e2;have K:H c'=none:=I.hok.fresh F;have Y:s.heap.objs.size<=j.objs.size:=Wn (Nat.lt_of_le_of_lt F U);have l:H j.objs.size=none:=I.hok.fresh Y;have V:j.objs.size≠c':=Xa U
  let H1:=upd H c' (.frz x (.ext λ_=>True))
  have a2:H1 j.objs.size=none:=by show upd H c' _ _=none;rw[ar V];exact l
  have a0:P≠c':=aU M K;have a8:P≠j.objs.size:=aU M l;have m:∀ H':Hp,H' c'=some (.frz x (.ext λ_=>True))->yN H' (.ref c') (X.env.qual++"<lambda>"):=λH' z=>⟨c',x,vs,t2,_,rfl,z,G,hv⟩;have q:=h j.objs.size c' x L H1 (.inr ⟨K,rfl⟩) a2 (m H1 ax);have i:∀ b o,b≠P->s.heap.get? b=some o->(j.push (tP (X.env.qual++"<lambda>") f body scope clos ((X.mg "__name__").getD .none) c' L)).get? b=some o:=λb o nb e=>dV _ (hx b o nb e);have nP:∀ b,H b=none->b≠P:=λb n z=>by rw[z,M] at n;cases n
  have k:∀ {b:Addr} {u:HO},H b=some u->upd H1 j.objs.size (.frz (tP (X.env.qual++"<lambda>") f body scope clos ((X.mg "__name__").getD .none) c' L) (.cod c' (X.env.qual++"<lambda>"))) b=some u:=λ{b u} e=>by
   rw[ar (aU e l)];show upd H c' _ b=_;rw[ar (aU e K)];exact e
  have cN:upd H1 j.objs.size (.frz (tP (X.env.qual++"<lambda>") f body scope clos ((X.mg "__name__").getD .none) c' L) (.cod c' (X.env.qual++"<lambda>"))) c'=some (.frz x (.ext λ_=>True)):=by
   rw[ar (rl V)];exact ax
  refine⟨.ref j.objs.size,_,I.un ⟨λb o e n _ _=>i b o (nP b n) e,λb o e n _ _=>⟨o.slots,i b o (nP b n) e⟩,λb o e n _=>?_,λb o e _=>?_,λb xs e=>k e,λb o u e=>k e,λb ps e=>⟨#[],by rw[Array.append_empty];exact k e⟩⟩ (λb u e=>?_),rfl,q⟩
  .have lt:=hH e;rw[ar (oj (ih lt Y))];show upd H c' _ b=_;rw[ar (oj (ih lt F))];exact n
  .by_cases z:b=P
   .subst z;exact⟨_,dV _ O⟩
   .exact⟨o,i b o z e⟩
  .by_cases zf:b=j.objs.size
   .subst zf;rw[ax] at e;cases e;exact⟨ks _ rfl,⟨_,ks _ rfl⟩,m _ cN⟩
   .rw[ar zf] at e;by_cases zc:b=c'
    .subst zc;have A:upd H b (.frz x (.ext λ_=>True)) b=some u:=e;rw[ax] at A;cases A;exact⟨dV _ T,trivial,⟨_,dV _ T⟩,λ_ _ _ _=>trivial⟩
    .have A:upd H c' (.frz x (.ext λ_=>True)) b=some u:=e;rw[ar zc] at A;by_cases zP:b=P
     .subst zP;rw[M] at A;cases A;refine⟨_,t,_,tag,dV _ O,?_,λN v r=>?_⟩
      .rw[ZK];exact TriplesOk_snoc _ _ _ _ B
      .rw[ZK] at r;rcases G2 _ B r with r | rfl
       .exact(p N v r).mono λ_ _ _ z=>k z
       .exact m _ cN
     .refine(I.hok b u A).CT (λd o G g=>i d o (λz=>?_) g) (λ_ z=>k z) (λ_ _ z=>k z) λ_ _ _ z=>k z;rcases G with y | y
      .exact zP (y.symm.trans z)
      .rw[z,M] at y;cases y
 | some v=>
  obtain⟨c',x,vs,t2,φ,rfl,e1,e2,e3⟩:=p pos v J;refine PySem.W.kla_makeFunctionHit Z I.ok.glob C w (hC _ I.kIn) D B J hB λL j tk hk R=>?_;have l:H j.objs.size=none:=I.hok.fresh R;have m:yN H (.ref c') (X.env.qual++"<lambda>"):=⟨c',x,vs,t2,φ,rfl,e1,e2,e3⟩;refine⟨.ref j.objs.size,_,I.laid (a:=j.objs.size) (o:=.frz (tP (X.env.qual++"<lambda>") f body scope clos ((X.mg "__name__").getD .none) c' L) (.cod c' (X.env.qual++"<lambda>"))) (t':=tk) (λb u e=>dV _ (hk b u e)) R
   ⟨ks _ rfl,⟨_,ks _ rfl⟩,m.mono λb o φ z=>by rw[ar (aU z l)];exact z⟩,rfl,h j.objs.size c' x L H (.inl rfl) l m⟩
end
noncomputable def ix (n:Nat)(g:Addr->Option Obj)(m:Addr->Option Str):Heap:={ objs:=Array.ofFn (n:=n) λi=>(g i.1).getD { cls:=(m i.1).elim .none λq=>.str q 0,data:=.freed } }
section
variable {g:Addr->Option Obj}{m:Addr->Option Str}{b:Addr}{o:Obj}
theorem AO(e:h.get? b=some o):o.data≠.freed:=by
 unfold ae4 at e;cases q:h.objs[b]? with
 | none=>rw[q] at e;cases e
 | some x=>
  rw[q] at e;obtain⟨c,d,dt,a⟩:=x;cases dt with
  | freed=>cases e
  | _=>cases e;intro y;cases y
theorem mG:(ix n g m).objs.size=n:=by unfold ix;exact ac7
theorem sL(a:b < n):(ix n g m).objs[b]?=some ((g b).getD { cls:=(m b).elim .none λq=>.str q 0,data:=.freed }):=by
 unfold ix;rw[Array.getElem?_eq_getElem (by rw[ac7];exact a),Array.getElem_ofFn]
theorem Av(h:b < n)(f:g b=some o)(e:o.data≠.freed):(ix n g m).get? b=some o:=by
 unfold ae4;rw[sL h,f];obtain⟨c,d,dt,a⟩:=o;show (match some (Obj.mk c d dt a) with | some ⟨_,_,.freed,_⟩=>none | o=>o)=_;split
 .rename_i z;cases z;exact absurd rfl e
 .rfl
theorem xy(e:(ix n g m).get? b=some o):b < n/\g b=some o:=by
 have a:b < n:=by have:=hH e;rw[mG] at this;exact this
 refine⟨a,?_⟩;have d:=AO e;unfold ae4 at e;rw[sL a] at e;cases q:g b with
 | none=>rw[q] at e;cases e
 | some c=>
  rw[q] at e;split at e
  .cases e
  .cases e;rfl
theorem Gq{q:Str}(d:b < n)(c:g b=none)(a:m b=some q):pT (ix n g m) b q:=by
 unfold pT;rw[sL d,c,a]
 rfl
theorem EV{q:Str}(h:∀ o,g b=some o->o.data≠.freed)(e:pT (ix n g m) b q):g b=none/\m b=some q:=by
 unfold pT at e;have i:b < n:=by
  obtain⟨z,_⟩:=Yt.mp e;rw[mG] at z;exact z
 rw[sL i] at e;cases c:g b with
 | some o=>
  rw[c] at e;have a:o={ cls:=.str q 0,data:=.freed }:=ov e;exact absurd (by rw[a]) (h o c)
 | none=>
  refine⟨rfl,?_⟩;rw[c] at e;have a:=ov e;cases d:m b with
  | none=>rw[d] at a;have:=congrArg Obj.cls a;cases this
  | some f=>
   rw[d] at a;have:=congrArg Obj.cls a;have y:Yp f 0=Yp q 0:=this;cases y
   rfl
end
noncomputable def pick (h:Heap)(p:Addr->Bool):Heap:=ix h.objs.size (λb=>if p b=true then h.get? b else none) λ_=>none
section
variable {p:Addr->Bool}{b:Addr}{o:Obj}
theorem Io:(pick h p).objs.size=h.objs.size:=mG
theorem vx(e:h.get? b=some o)(a:p b=true):(pick h p).get? b=some o:=Av (hH e) (by rw[if_pos a];exact e) (AO e)
theorem zy(e:(pick h p).get? b=some o):h.get? b=some o/\p b=true:=by
 have z:=(xy e).2;split at z
 .rename_i y;exact⟨z,y⟩
 .cases z
theorem Kq{q:Str}(e:pT (pick h p) b q):False:=by
 have z:=(EV (λo e=>by
  split at e
  .exact AO e
  .cases e) e).2
 cases z
end
theorem yh {h base:Heap}{p:Addr->Bool}:∀ {l:List Env},h.FunFrames base l->(∀ b∈frs l,p b=false)->h.FunFrames (pick h p) l
 | [],_,_=>trivial
 | env::r,⟨k,⟨L,o,a,g,e,f⟩,d⟩,q=>by
  have m:L∈frs (env::r):=by unfold frs;rw[sX,a];exact lU
  refine⟨k,⟨L,o,a,?_,e,f⟩,yh d λb c=>q b ?_⟩
  .cases z:(pick h p).get? L with
   | none=>rfl
   | some u=>
    have y:=q L m;rw[(zy z).2] at y;cases y
  .unfold frs at c ⊢;rw[sX,a];exact hY _ c
section
variable {X:Cx}{pins:Pn0}{σ:St}{H:Hp}{s:Shared}
theorem Inv.Vk{p:Addr->Bool}(I:Inv X pins σ H s)(i:∀ b o,X.base.get? b=some o->p b=true)(g:∀ b o,s.heap.get? b=some o->p b=true->Kpt H b o)(h:∀ b∈frs X.stack,p b=false) :
  Fz X.prog X.w X.K X.mg (pick s.heap p) X.A X.stack s H:=by
 have k:∀ b o,X.base.get? b=some o->(pick s.heap p).get? b=some o:=λb o e=>vx (I.bk b o e) (i b o e);refine⟨I.ok.frames,⟨I.mod.kin.keeps k,I.mod.glob.keeps k,let ⟨f,c,a⟩:=I.mod.blt;⟨f,c.keeps k,a⟩,I.mod.nolimit.keeps k,let ⟨m,d,c,a,l,j⟩:=I.mod.bm;⟨m,d,c,a,k _ _ l,j⟩⟩,λb o e=>⟨(zy e).1,g b o (zy e).1 (zy e).2⟩,Xu Io,yh I.stack h,I.zr,I.hok,I.bare,λP q z=>(Kq z).elim⟩
end
def yM (base:Heap)(q:Str)(a:Arguments)(b:Expr)(scope:Scope)(nm:Str)(o:Obj)(f:Addr)(v:V):Prop:=
 ∃ c d pm g u e vs t,o=tP q a b scope [(nm,c)] pm d g/\base.get? f=some o/\base.IsCell c (some u)/\RelV v u/\base.get? d=some e/\e.data=.fields vs/\vs[1]?=some (.str q t)
section
variable {X:Cx}{g:Addr}{t:TA}{q:Str}{params:Arguments}
def FI (X:Cx)(q:Str)(a:Arguments)(b:Expr)(scope:Scope)(nm:Str)(i j:Nat)(sp:Obj->Addr->V->Sp)(t:TA):TE:=λσ H Q=>t σ H λvs H1=>
 ∃ f c d pm e v,vs[j]?=some (.ref f)/\H1 f=some (.frz (tP q a b scope [(nm,c)] pm d e) (.cod d q))/\X.env.cells.lookup nm=some c/\σ[i]?=some (some v)/\sp (tP q a b scope [(nm,c)] pm d e) f v vs H1 Q E0
theorem Kz{sp:Obj->Addr->V->Sp}(F:∀ (base:Heap) (o:Obj) (f:Addr) (v:V),yM base q params body scope nm o f v->aB X.prog X.w X.K X.mg base CX0 k g fd ps (sp o f v))(hr:dH k X.A)(hg:Gl X x)(hm:X.mg x=some (.ref g))(hk:mC X.K (.ref g)=true)(hb:Binds X.K fd ps [])(hN:X.N[i]?=some nm)(hv:X.env.scope.names.lookup nm=some .cell)(U:X.fn nm=true)(ha:PA X (e::es) t)(Y:autoParam ((x == ("__debug__":Str))=false) wP)(he:autoParam (ew (e::es) X.env=(false,eval e X.env)::ew es X.env) wE)(O:autoParam ((backTo pos (ew es X.env)).any (·.1)=false) wE) :
  PE X (.Call (.Name x p) (e::es) [] pos) (FI X q params body scope nm i j sp t):=by
 intro C s σ H Q I h;refine yt (sM I hg hm ?_ Y);refine Xn (h₀:=X.base) I.ok.mod.kin hk (thn (ha pos C s σ H _ I h) λB G ⟨vs,H1,l,r,z⟩=>⟨l.kIn,?_⟩) he O;obtain⟨f,c,d,pm,ct,v,_,W,J,N,D⟩:=z;obtain⟨m,hn,hl⟩:=l.loc;obtain⟨u,rv,lk⟩:=hl i nm v hN N (.inr (.inl hv));have n:G.heap.IsCell c (some u):=by
  rcases lk with ⟨k1,_⟩ | ⟨_,c2,e2,z⟩
  .have k2:X.env.scope.names.lookup nm=some .local:=k1;rw[hv] at k2;cases k2
  .rw[J] at e2;cases e2;exact z
 obtain⟨of,_,y⟩:=l.hok f _ W;obtain⟨d',oc,ws,t2,φ,e1,Z,e3,e4⟩:=y;cases e1;obtain⟨od,_⟩:=l.hok d _ Z
 let P:Addr->Bool:=λb=>(X.base.get? b).isSome || (decide (b=f) || (decide (b=c) || decide (b=d)))
 have pf:P f=true:=by simp [P]
 have pc:P c=true:=by simp [P]
 have pd:P d=true:=by simp [P]
 have a6:=l.ok.cab nm c U J;have L:yM (pick G.heap P) q params body scope nm (tP q params body scope [(nm,c)] pm d ct) f v:=by
  obtain⟨M,a4,a5⟩:=n;exact⟨c,d,pm,ct,u,oc,ws,t2,rfl,vx of pf,⟨M,vx a4 pc,a5⟩,rv,vx od pd,e3,e4⟩
 have e0:=l.Vk (p:=P) (λb o A=>by simp [P,A]) (λb o A S=>?_) λb w=>?_
 .have Fn:=F _ _ _ _ L;have K:Vals (vs++[]) (B++[]):=r.append .nil;rw[td,td] at K;have T:(B++[]).length=ps.length:=by rw[td,<- K.length];exact Fn.len _ _ _ _ D
  have bt:=hb G B l.kIn T;rw[td] at bt;refine ZV (Xv (Fn.run X.A X.stack G H1 ⟨B,[]⟩ B vs Q E0 hr e0 bt K D) λr s' E=>?_);cases r with
  | error e=>exact sO E
  | ok fl=>
   cases fl with
   | ret u=>exact l.after E
   | next=>exact sO E
   | brk=>exact sO E
   | cont=>exact sO E
 .have R:(X.base.get? b).isSome=true\/b=f\/b=c\/b=d:=by simpa [P] using S
  rcases R with S | rfl | rfl | rfl
  .obtain⟨o',e'⟩:=UM.mp S;obtain⟨a1,a2⟩:=l.bs b o' e';rw[A] at a1;cases a1;exact a2
  .rw[of] at A;cases A;exact .inr ⟨⟨_,W⟩,λv z=>by cases z⟩
  .exact .inl (l.freeC nm b J)
  .rw[od] at A;cases A;exact .inr ⟨⟨_,Z⟩,λv z=>by rw[e3] at z;cases z⟩
 .have a:=l.zr b w;have nb:X.base.get? b=none:=(l.stack.mem w).1;have n1:b≠f:=λz=>by rw[z,W] at a;cases a
  have n2:b≠d:=λz=>by rw[z,Z] at a;cases a
  have n3:b≠c:=λz=>by
   rcases fg.mp (l.zK b w) with y | y
   .exact l.cne nm c J (z.symm.trans y)
   .obtain⟨_,o,ho,_⟩:=l.ok.uX.mem y;have:=hH ho;rw[z] at this;exact absurd (ih this a6) (vl _)
  simp [P,nb,n1,n2,n3]
def FH (i:Nat)(f:Addr)(sp:Sp)(t:TA):TE:=λσ H Q=>σ[i]?=some (some (.ref f))/\t σ H λvs H1=>sp vs H1 Q E0
theorem Ky{o:Obj}{sp:Sp}(K:X.base.get? f=some o)(J:o.data=.func fd)(F:aB X.prog X.w X.K X.mg X.base CX0 k f fd ps sp)(G:dH k X.A)(M:Binds X.K fd ps [])(O:X.N[i]?=some x)(E:Vis X.env.scope x)(N:PA X (e::es) t)(j:autoParam ((x == ("__debug__":Str))=false) wP)(l:autoParam ((x == ("__classdict__":Str))=false) wP)(L:autoParam (ew (e::es) X.env=(false,eval e X.env)::ew es X.env) wE)(d:autoParam ((backTo pos (ew es X.env)).any (·.1)=false) wE) :
  PE X (.Call (.Name x p) (e::es) [] pos) (FH i f sp t):=by
 intro a s m H Q I ⟨R,P⟩;have c:∀ {h:Heap},(∀ b o,X.base.get? b=some o->h.get? b=some o)->PySem.W.FnAt f h:=λ{h} k=>by
  have e:=k _ _ K;obtain⟨D,C,dt,y⟩:=o;have g:dt=.func fd:=J;subst g;exact⟨D,C,fd,y,e⟩
 refine yt (thn (Di (i:=i) O E j l a s m H (λv w=>v=.ref f/\w=H) I ⟨_,R,rfl,rfl⟩) λu A Z=>?_);obtain⟨v,w,q,B,T,S⟩:=Z;subst T;subst S;obtain rfl:u=.ref f:=B;refine PySem.W.callWith_F (c q.bk) (thn (N pos a A m _ _ q P) λV W ⟨U,Y,n,r,z⟩=>⟨c n.bk,?_⟩) L d;exact z8 (dvs:=[]) (ds:=[]) F G M .nil Ae n r (by rw[td];exact z)
end
structure sv (ps:Ls0) (nm:Str) (sc:Scope):Prop where
 kind:sc.kind=.function
 co:sc.isCoroutine=false
 gen:sc.isGenerator=false
 nd:(ps++[nm]).Nodup
 par:∀ x∈ps,sc.names.lookup x=some .local
 fre:sc.names.lookup nm=some .free
 only:∀ y∈sc.names,y.2=.free->y.1=nm
 nocell:∀ y∈sc.names,y.2≠.cell
noncomputable def Lz (P:Qk)(w:World)(K:Fg0)(mg:SV0)(base:Heap)(ps:Ls0)(q:Str)(scope:Scope)(nm:Str)(f c d:Addr)(A:Around)(outer:List Env)(s:Shared)(H:Hp):Cx where
 prog:=P
 w:=w
 K:=K
 mg:=mg
 base:=base
 A:=A.deeper (XC q scope s.heap.objs.size f (.ref d) [(nm,c)])
 N:=ps++[nm]
 s₀:=s
 H₀:=H
 env:=XC q scope s.heap.objs.size f (.ref d) [(nm,c)]
 outer:=outer
 stack:=XC q scope s.heap.objs.size f (.ref d) [(nm,c)]::outer
 ex:=[]
 calm:=true
 fn:=λ_=>false
 pn:=[]
 xe:=λ_ _=>False
theorem Hw {b:Type}{x:Str}{v:b}:∀ {l:List (Str×b)},(l.map (·.1)).Nodup->(x,v)∈l->l.lookup x=some v
 | [],_,h=>by cases h
 | (y,u)::l,a,h=>by
  rw[qq,tq] at a;rw[fw];rcases fg.mp h with e | h2
  .cases e;rw[beq_self_eq_true]
  .have c:(x == y)=false:=by
    rw[beq_eq_false_iff_ne];rintro rfl;exact a.1 (Ht.mpr ⟨_,h2,rfl⟩)
   rw[c];exact Hw a.2 h2
theorem G5 {a:Type}:∀ (P:Ls0) (us:List a),((P.zip us).map (·.1)).Sublist P
 | [],_=>by simp
 | _::_,[]=>by simp
 | p::P,u::us=>by
  rw[ZZ,qq];exact(G5 P us).cons₂ p
theorem IQ:∀ {P:Ls0} {us:Lv0} {i:Nat},P.Nodup->P[i]?=some x->us[i]?=some v->(P.zip us).reverse.lookup x=some v:=by
 intro P us i a d c;have b:(x,v)∈P.zip us:=hW (i:=i) (by rw[KM];exact⟨d,c⟩);refine Hw ?_ (ac0.mpr b);rw[List.map_reverse];refine Zv.mpr (List.Pairwise.imp (λz=>rl z) ?_);exact aa0 (G5 _ _) a
section
variable {mg:SV0}{q:Str}{params:Arguments}{o:Obj}{v:V}{sp:Sp}
theorem Rn(L:yM base q params body scope nm o f v)(S:sv ps nm scope)(len:∀ vs H Q E,sp vs H Q E->vs.length=ps.length + 1)(hbody:∀ (c d:Addr) (A:Around) (outer:List Env) (s:Shared) (H:Hp) (vs:List V) (Q:VK),dH k (A.deeper (XC q scope s.heap.objs.size f (.ref d) [(nm,c)]))->sp vs H Q E0->
   ∃ t,PE (Lz P w K mg base ps q scope nm f c d A outer s H) body t/\t (vs.map some) H Q)(a6:∀ (clos:List (Str×Addr)) (pm:Value) (d:Addr) (ct:Value) (us:Lv0),us.length=ps.length->Zz (ad7 "<lambda>" q params body scope clos pm (.ref d) ct) ⟨us,[]⟩=pure (ps.zip us)) :
  ∃ fd,base.get? f=some o/\o.data=.func fd/\Binds K fd ps []/\aB P w K mg base CX0 (k + 1) f fd ps (λvs H Q _=>sp (vs++[v]) H Q E0):=by
 obtain⟨c,d,pm,ct,u,oc,ws,t,rfl,hf,⟨N,G,M⟩,rv,hd,a4,hv⟩:=L;refine⟨_,hf,rfl,.all (a6 _ _ _ _),λvs H Q E h=>?_,λA outer s H args us vs Q E hr g hb r O=>?_⟩
 .have:=len _ _ _ _ h;rw[bS] at this;simpa using this
 have T:vs.length=ps.length:=by
  have:=len _ _ _ _ O;rw[bS] at this;simpa using this
 have Y:s.heap.NoLimit:=g.mod.nolimit.keeps λb o e=>(g.bs b o e).1;refine PySem.W.kla_callFunE hr.depth (g.bs _ _ hf).1 rfl S.co S.gen rfl ⟨d,oc,ws,t,rfl,(g.bs _ _ hd).1,a4,hv⟩ (hb _ _ _ _ ?_);refine wpAny_newFunctionEnv S.nocell (λy hy=>S.par y.1 (Yd (a:=y.1) (b:=y.2) hy).1) (λC a1 R=>⟨Y.fresh _ R,?_⟩) S.kind;show SB _ _ (.expr body (XC q scope s.heap.objs.size f (.ref d) [(nm,c)])) _ _;have U:∀ b o,s.heap.get? b=some o->C.get? b=some o:=λb o e=>R.extBut b o (oj (hH e)) (dV _ e);refine PySem.W.kla_codeExpr ?_;obtain⟨tt,ht,hq⟩:=hbody c d A outer s H (vs++[v]) Q (hr.deeper _) O;have B:∀ x l,[(nm,c)].lookup x=some l->x=nm/\l=c:=λx l e=>by
  rw[fw] at e;split at e
  .rename_i z;cases e;exact⟨by simpa using z,rfl⟩
  .cases e
 have a5:H c=none:=by
  rcases(g.bs _ _ G).2 with z | ⟨_,z⟩
  .exact z
  .exact absurd M (z _)
 have D:∀ b:Addr,b∉([]:La0):=λb z=>absurd z (by simp);have I:Inv (Lz P w K mg base ps q scope nm f c d A outer s H) [] ((vs++[v]).map some) H { s with heap:=C,toks:=s.toks + (ps.zip us).length }:=by
  refine⟨⟨g.mod,S.kind,rfl,rfl,ek _,λy z l j m=>(B y l j).1.trans (B z l m).1.symm,λy hy=>?_,λy l z _=>(by cases z),λ_=>hr.hd,ZA g.frames,.inr ⟨rfl,rfl⟩,λb z=>absurd z (D b),g.bs,g.bsz,λb _ _=>D b,λb z=>absurd z (D b),g.uX,g.frf,g.tb⟩,
   rfl,g.bare,Un.kept U,⟨_,a1,λi y v' j m h3=>?_⟩,λy l h=>?_,g.hok.fresh (ek _),λy l h=>?_,λp hp=>absurd (show p∈([]:Pn0) from hp) (by simp),g.hok.kept U,?_⟩
  .have hy:scope.names.lookup y=some .cell\/scope.names.lookup y=some .free:=hy;rcases hy with hy | hy
   .exact absurd rfl (S.nocell _ (Bk hy))
   .have e:=S.only _ (Bk hy) rfl;subst e;exact⟨c,by show [(y,c)].lookup y=some c;rw[fw,beq_self_eq_true]⟩
  .have j:(ps++[nm])[i]?=some y:=j;by_cases W:i < ps.length
   .rw[ef W] at j;rw[cm,ef (by rw[T];exact W)] at m;cases F:vs[i]? with
    | none=>rw[F] at m;cases m
    | some a=>
     rw[F] at m;cases m;obtain⟨u',Z,ru⟩:=r.get F;exact⟨u',ru,.inl ⟨S.par y (hW j),IQ (aa0 (List.sublist_append_left _ _) S.nd) j Z⟩⟩
   .rw[ic (Xb W)] at j;rw[cm,ic (by rw[T];exact Xb W),T] at m;have a2:i - ps.length=0:=by
     cases z:i - ps.length with
     | zero=>rfl
     | succ n=>rw[z] at j;simp at j
    rw[a2] at j m;cases j;cases m;exact⟨u,rv,.inr ⟨.inr S.fre,c,by show [(nm,c)].lookup nm=some c;rw[fw,beq_self_eq_true],⟨N,U _ _ (g.bs _ _ G).1,M⟩⟩⟩
  .obtain⟨_,rfl⟩:=B y l h;exact⟨_,N,U _ _ (g.bs _ _ G).1,M⟩
  .obtain⟨_,rfl⟩:=B y l h;exact a5
  .show ((vs++[v]).map some).length=(ps++[nm]).length;simp [T]
 exact WT (ht [] _ _ H _ I hq) (λu' s' ⟨v',H',J,X,z⟩=>⟨v',H',J.os,J.bare,J.base,J.hok,X,z⟩) λe s' hs=>sO hs
end
end _2
namespace _3
open PySem _2
section
variable {B:Bs}{F:Hp}{H:Hp}{Γ:G}{X:Cx}{b:Expr}{rest:List Expr}{to te ta tb:TE}{e3 o3 a3 b3:TE3}
def okR (d:D):Prop:=(Tj d=true\/d=.dct)/\Sh 10000000 20 d\/d=.non\/(∃ c,d=.bl c)\/(∃ i,d=.int i/\i.natAbs < 10 ^ 60)\/∃ z,d=.str z/\(reprText z).length<=sizeLine
end
open PySem _2 PySem.Spec PyProof.Rows
section
variable {X:Cx}{F:Hp}{b:Expr}{ta tb:TE}{a3 b3:TB3}
theorem aI.times{xs:List D}{vs:List V}(r:aI K F xs vs):∀ n:Nat,aI K F (fC n xs).flatten (fC n vs).flatten
 | 0=>rfl
 | n + 1=>by
  rw[xt,xt,rr,rr];exact r.append (aI.times r n)
set_option backward.eqns.nonrecursive false in
def Hq (x y:D)(Γ:G)(Q:RV->G->Prop):Prop:=match x,y with
 | .lst xs,.int n=>(0<=n/\n<=1000/\xs.length * n.toNat<=sizeLine)/\Q (.fr (.lst (fC n.toNat xs).flatten)) Γ
 | _,_=>False
theorem NH:qm K Qo Hq:=by
 intro B F h H i x y o n Q s e c b q k;unfold Hq at q;split at q
 .obtain⟨⟨m,j,f⟩,q⟩:=q;cases b;obtain⟨p,a,rfl,g,r⟩:=c;exact⟨p,_,a,rfl,rfl,g,by lia,by lia,by rw[r.length];exact f,λl d=>k _ _ (mz e d (r.times _) q)⟩
 .exact q.elim
theorem Hl(d:P3B K X a ta a3)(c:P3B K X b tb b3):P3 K X (.BinOp a .Mult b pos) (tOp Qo ta tb) (xk Hq a3 b3):=⟨vy QY d.pe c.pe,lg NH d.rf c.rf⟩
end
end _3
namespace _2
open PySem PySem.Spec PyProof.Rows
def OM (X:Cx)(L:Nat):Prop:=∀ (i:Nat) (x:Str),L<=i->X.N[i]?=some x->¬ Vis X.env.scope x
def Gh (L:Nat)(σ a:St):Prop:=a.length=σ.length/\∀ i,i < L->a[i]?=σ[i]?
def tGh (L:Nat)(t:TS):TS:=λD σ H=>∃ σ',Gh L σ σ'/\t D σ' H
section
variable {X:Cx}{pins:Pn0}{σ σ':St}{H:Hp}{s:Shared}{t:TS}
theorem Inv.ghost(I:Inv X pins σ H s)(P:OM X L)(g:Gh L σ σ'):Inv X pins σ' H s:=
 ⟨I.ok,I.os,I.bare,I.base,let ⟨m,d,a⟩:=I.loc;⟨m,d,λi x v c e b=>by
  by_cases lt:i < L
  .exact a i x v c (by rw[<- g.2 i lt];exact e) b
  .exact absurd b (P i x (Xb lt) c)⟩,I.cell,I.free,I.freeC,I.pin,I.hok,g.1.trans I.len⟩
theorem Qu(P:OM X L)(h:PSs X ss t):PSs X ss (tGh L t):=λa s c H D I ⟨b,g,q⟩=>h a s b H D (I.ghost P g) q
noncomputable def Kt (N:Ls0)(a:Scope)(L:Nat):Bool:=(N.drop L).all λx=>(a.names.lookup x).isNone
theorem Nf(b:X.N=N)(h:Kt N X.env.scope L=true):OM X L:=λi x a e v=>by
 subst b;unfold Kt at h;rw[List.all_eq_true] at h;have m:x∈X.N.drop L:=by
  have:(X.N.drop L)[i - L]?=some x:=by rw[MP,Nat.add_sub_cancel' a];exact e
  exact hW this
 have:=h x m;rcases v with v | v | v <;> rw[v] at this <;> cases this
end
end _2
namespace _3
open PySem _2 PySem.Spec PyProof.Rows
section
variable {X:Cx}{B:Bs}{F F':Hp}{H:Hp}{Γ Γ':G}
def Wk (K:Fg0)(Γ Γ':G):Prop:=∀ (B:Bs) (F:Hp) (σ:_2.St) (H:Hp),En K B F σ H Γ->∃ F',aS F F'/\En K B F' σ H Γ'
def wk3 (K:Fg0)(a:TS3)(D:E3)(Γ:G):Prop:=∃ Γ',Wk K Γ Γ'/\a D Γ'
theorem Tx{t:TS}{c:TS3}(h:xc K X ss t c):xc K X ss t (wk3 K c):=⟨h.pe,λB F b H j D i e k Z=>by
 obtain⟨a,w,q⟩:=Z;obtain⟨g,d,f⟩:=w B F b H e;exact h.rf B g b H a D i f (k.mono d) q⟩
theorem En.VZ(e:En K B F σ H Γ){d d':D}(h:Γ[i]?=some (some (Sl.fz d)))(r:∀ v,σ[i]?=some (some v)->Rep K F d' v):En K B F σ H (Γ.set i (some (Sl.fz d'))):=by
 have il:i < Γ.length:=(gS0 h).1;have f:∀ {j:Nat} {s:Sl},(Γ.set i (some (Sl.fz d')))[j]?=some (some s)->(j=i/\s=.fz d')\/(j≠i/\Γ[j]?=some (some s)):=λ{j s} q=>by
  by_cases z:j=i
  .subst z;rw[aT il] at q;cases q;exact .inl ⟨rfl,rfl⟩
  .rw[aR (rl z)] at q;exact .inr ⟨z,q⟩
 have c:∀ {j:Nat} {x:D},Hld (Γ.set i (some (Sl.fz d'))) j x->Hld Γ j x:=λ{j x} q=>by
  rcases q with q | q <;> rcases f q with ⟨_,z⟩ | ⟨_,z⟩
  .cases z
  .exact .inl z
  .cases z
  .exact .inr z
 refine⟨e.sub,by rw[tr];exact e.len,λj x q=>?_,λj x q=>e.hl j x (c q),λj x p q a=>?_,λj x p q a=>?_,λj k x y p l g=>e.dis j k x y p (c l) (c g),λj p q=>?_,e.keep,e.new,e.rest,e.dom⟩
 .rcases f q with ⟨rfl,z⟩ | ⟨_,z⟩
  .cases z;obtain⟨v,a,_⟩:=e.fz _ _ h;exact⟨v,a,r v a⟩
  .exact e.fz j x z
 .rcases f q with ⟨_,z⟩ | ⟨_,z⟩
  .cases z
  .exact e.ow j x p z a
 .rcases f q with ⟨_,z⟩ | ⟨_,z⟩
  .cases z
  .exact e.ln j x p z a
 .obtain⟨a,x,b⟩:=e.par j p q;have z:i≠j:=λz=>by subst z;rw[h] at b;cases b
  exact⟨a,x,by rw[aR z];exact b⟩
theorem En.adr(e:En K B F σ H Γ){xs:List D}(h:Hld Γ i (.cel q xs)):σ[i]?=some (some (V.ref q))/\F q=none/\∃ vs,H q=some (.lst vs)/\aI K F xs vs:=by
 obtain⟨p,a,b,rfl,vs,c,d⟩:=e.hl i _ h;exact⟨a,b,vs,c,d⟩
def OJ (r:RV)(k:Addr->Prop):Prop:=match r with
 | .fz (.adr q)=>k q
 | _=>False
theorem OI{r:RV}{k:Addr->Prop}(h:OJ r k):∃ q,r=.fz (.adr q)/\k q:=by
 cases r with
 | fz d=>cases d <;> first | exact h.elim | exact⟨_,rfl,h⟩
 | fr _=>exact h.elim
 | two _ _=>exact h.elim
 | rws _=>exact h.elim
def ML (r:RV)(k:List (List D)->Prop):Prop:=match r with
 | .rws xss=>k xss
 | _=>False
theorem MJ{r:RV}{k:List (List D)->Prop}(h:ML r k):∃ xss,r=.rws xss/\k xss:=by
 cases r with
 | rws xss=>exact⟨_,rfl,h⟩
 | fz _=>exact h.elim
 | fr _=>exact h.elim
 | two _ _=>exact h.elim
def vB (b:Bo)(k:Nat->Prop):Prop:=match b with
 | .v j=>k j
 | .d _=>False
def VC (b:TE3)(Γ:G)(Q:Bo->G->Prop):Prop:=b Γ λr a=>OJ r λq=>∃ j xs,Hld a j (.cel q xs)/\Q (.v j) a
theorem bA{te:TE}{c:TE3}(h:P3 K X e te c):P3B K X e te (VC c):=⟨h.pe,by
 intro B F f H g Q s en q k;refine h.rf B F f H g _ _ en q λv t Z=>?_;obtain⟨o,a,r,i,d,l,b⟩:=Z;obtain⟨q',rfl,j,p,n,b⟩:=OI b;have m:v=.ref q':=l;subst m;exact k _ _ ⟨o,a,.v j,i,d,(d.adr n).1,b⟩⟩
noncomputable def BH (Γ:G)(j:Nat)(xs:List D):G:=match Γ[j]? with
 | some (some (.ow (.cel q _)))=>Γ.set j (some (.ow (.cel q xs)))
 | some (some (.ln (.cel q _)))=>Γ.set j (some (.ln (.cel q xs)))
 | _=>Γ
theorem M1{xs ys:List D}(h:Hld Γ j (.cel q xs)):BH Γ j ys=putD Γ j (.cel q ys):=by
 rcases h with h | h <;> unfold BH putD <;> rw[h]
theorem En.Wi(e:En K B F σ H Γ){xs ys:List D}{a:List V}(h:Hld Γ j (.cel q xs))(r:aI K F ys a):En K B F σ (upd H q (.lst a)) (BH Γ j ys):=by
 rw[M1 h];exact e.Rf h (e.adr h).1 ⟨rfl,a,ax,r⟩
variable {k:Expr}{to tk te:TE}{o3 k3:TB3}{e3:TE3}
def O0 (e f:TB3)(g:TE3)(D:E3)(Γ:G):Prop:=g Γ λr d=>e d λh c=>vB h λj=>f c λb a=>∃ q xs k n,Hld a j (.cel q xs)/\b.at a=some (.int k)/\ixN xs.length k=some n/\D.nx (BH a j (xs.set n r.d))
theorem MH(p:P3B K X o to o3)(t:P3B K X k tk k3)(y:P3 K X e te e3)(W:autoParam (∀ v,assign (.Subscript o k p2) X.env v=(do
   let I <- holding [v] (eval o X.env)
   let O <- holding [v,I] (eval k X.env)
   VT p2
   holding [v,I,O] (setItem I O v)
   release [v,I,O] [])) wT)(T:autoParam (Ws [.Subscript o k p2] e pos.line X.env=pure false) wE)(b:autoParam (Wt [.Subscript o k p2] e X.env=pure none) wE)(Y:autoParam ((PP [.Subscript o k p2] X.env).map (·.2)=[assign (.Subscript o k p2) X.env]) wE) :
  P3S K X (.Assign [.Subscript o k p2] e pos) (xj te (Le to tk ED)) (O0 o3 k3 e3):=⟨FZ y.pe (Kv p.pe t.pe set_list W) T b Y,λB F a H C D D3 en R q=>
 y.rf B F a H C _ _ en q λv H' Z=>by
  obtain⟨F',f,r,s,e',J,Q⟩:=Z;obtain⟨F2,G,e2,M⟩:=e'.frozen J;refine p.rf B F2 a H' f _ _ e2 Q λw H2 Z=>?_;obtain⟨F3,c,bo,l,e3,L,m⟩:=Z;cases bo with
  | d _=>exact m.elim
  | v j=>
   refine t.rf B F3 a H2 c _ _ e3 m λu H3 Z=>?_;obtain⟨F4,A,b4,i,h,g,P,xs,kk',n,x,V,U,N⟩:=Z;obtain⟨a1,a2,E,a3,z⟩:=h.adr x;have b:a[j]?=some (some w):=L;rw[a1] at b;cases b;have S:u=.int kk':=h.bo g V;exact⟨P,E,kk',n,rfl,S,a3,by rw[z.length];exact U,R.nx F4 a _ _ (((s.trans G).trans l).trans i) (h.Wi x (aI.set (M.mono (l.trans i)) n z)) N⟩⟩
noncomputable def zN (σ:_2.St)(g:Nat):La0->_2.St
 | []=>σ
 | q::qs=>zN (σ.set g (some (V.ref q))) (g + 1) qs
noncomputable def pV (Γ:G)(g:Nat):La0->List (List D)->G
 | q::qs,xs::xss=>pV (Γ.set g (some (.ow (.cel q xs)))) (g + 1) qs xss
 | _,_=>Γ
theorem B8:∀ {qs:La0} {σ:_2.St} {g:Nat},(zN σ g qs).length=σ.length
 | [],_,_=>rfl
 | q::qs,σ,g=>by unfold zN;rw[B8,tr]
theorem Ei:∀ {qs:La0} {σ:_2.St} {g i:Nat},i < g->(zN σ g qs)[i]?=σ[i]?
 | [],_,_,_,_=>rfl
 | q::qs,σ,g,i,h=>by unfold zN;rw[Ei (UF h),aR (Xa h)]
theorem JU(h:L<=g):Gh L σ (zN σ g qs):=⟨B8,λi lt=>Ei (ih lt h)⟩
theorem En.Lb:∀ {qs:La0} {xss:List (List D)} {g:Nat} {σ:_2.St} {Γ:G},En K B F σ H Γ->gu K F H qs xss->qs.Nodup->(∀ z,z∈qs->F z=none/\B.H z=none/\∀ (i:Nat) (e:D),Hld Γ i e->σ[i]?≠some (some (V.ref z)))->
  (∀ k,k < qs.length->Γ[g + k]?=some none)->En K B F (zN σ g qs) H (pV Γ g qs xss)
 | [],_,_,_,_,e,h,_,_,_=>by cases h;exact e
 | q::qs,_,g,σ,Γ,e,⟨l,O,m,A,x,v,u⟩,n,c,f=>by
  subst A;obtain⟨p,o⟩:=tq.mp n;obtain⟨N,M,L⟩:=c q (.head _);have C:Γ[g]?=some none:=f 0 (Nat.succ_pos _);have j:cu Γ g:=by unfold cu;rw[C];trivial
  have E:=e.set (r:=.fr (.cel q l)) j ⟨q,rfl,N,⟨rfl,m,x,v⟩,M,L⟩;have il:=lI j;have s:g < σ.length:=by rw[e.len];exact il
  refine En.Lb (qs:=qs) E u o (λz b=>?_) λk t=>?_
  .obtain⟨J,b2,I⟩:=c z (.tail _ b);refine⟨J,b2,λi d a=>?_⟩;by_cases w:i=g
   .subst w;rw[aT s];intro y;cases y;exact p b
   .rw[aR (rl w)];exact I i d (by unfold Hld at a ⊢;rw[aR (rl w)] at a;exact a)
  .rw[aR (by lia),show g + 1 + k=g + (k + 1) by lia];exact f (k + 1) (Nat.succ_lt_succ t)
theorem Ex:∀ {qs:La0},aI K F (qs.map D.adr) (qs.map V.ref)
 | []=>rfl
 | _::_=>⟨_,_,rfl,rfl,Ex⟩
theorem gu.length:∀ {qs:La0} {xss:List (List D)},gu K F H qs xss->qs.length=xss.length
 | [],_,h=>by cases h;rfl
 | _::_,_,Z=>by obtain⟨d,c,e,b,_,_,a⟩:=Z;subst b;simp [a.length]
def OZ (g i:Nat)(c:TE3)(b:TS3)(D:E3)(Γ:G):Prop:=c Γ λr a=>ML r λxss=>cu a i/\(∀ k,k < xss.length + 1->a[g + k]?=some none)/\∀ p qs,qs.length=xss.length->b D (pV (a.set i (some (.fz (.adr p)))) g (p::qs) (qs.map .adr::xss))
theorem MY{u:TS}{m C:TS3}(L g i:Nat)(M:L<=g)(V:i < L)(P:OM X L)(G:P3S K X (.Assign [.Name x px] e pos) (xj te (rH i)) C)(J:P3 K X e te e3)(o:xc K X rest u m) :
  xc K X (.Assign [.Name x px] e pos::rest) (P0 (xj te (rH i)) (tGh L u)) (OZ g i e3 m):=⟨EG G.pe (Qu P o.pe),λB F t H A D U e k q=>J.rf B F t H A _ _ e q λv S Z=>by
  obtain⟨T,y,r,s,R,E,b⟩:=Z;obtain⟨xss,rfl,n,a,b⟩:=MJ b;obtain⟨p,qs,rfl,N,l,h,f⟩:=E;have Q:=R.set (r:=.fz (.adr p)) n rfl;have il:=lI n;have O:=Q.Lb (g:=g) (qs:=p::qs) (xss:=qs.map .adr::xss) ⟨_,_,_,rfl,N,Ex,h⟩ l (λz c=>⟨(f z c).1,(f z c).2.1,λj d hj=>by
   by_cases w:j=i
   .subst w;rcases hj with hj | hj <;> rw[aT il] at hj <;> cases hj
   .rw[aR (rl w)];exact(f z c).2.2 j d (by unfold Hld at hj ⊢;rw[aR (rl w)] at hj;exact hj)⟩) λk I=>by
   rw[aR (by lia)];exact a k (by rw[<- h.length];exact I)
  exact⟨_,JU M,o.rf B T _ S _ D U O (k.mono s) (b p qs h.length)⟩⟩
end
noncomputable def Bs.BU (B:Bs):List (Addr×HO)->Bs
 | []=>B
 | (q,o)::l=>(Bs.BU B l).hid q o
section
variable {X:Cx}{B:Bs}{F F':Hp}{H:Hp}{Γ Γ':G}
theorem K7:∀ {l:List (Addr×HO)},(B.BU l).F=B.F
 | []=>rfl
 | _::l=>K7 (l:=l)
theorem E7:∀ {l:List (Addr×HO)},(B.BU l).own=B.own
 | []=>rfl
 | _::l=>E7 (l:=l)
theorem HD:∀ {l:List (Addr×HO)} {q:Addr},(B.BU l).H q=none->B.H q=none/\q∉l.map (·.1)
 | [],q,h=>⟨h,by simp⟩
 | (z,o)::l,q,h=>by
  have h:upd (B.BU l).H z o q=none:=h;have c:q≠z:=λw=>by rw[w,ax] at h;cases h
  rw[ar c] at h;obtain⟨a,b⟩:=HD h;exact⟨a,by rw[qq,fg,not_or];exact⟨c,b⟩⟩
theorem Cp:∀ {l:List (Addr×HO)} {q:Addr},B.H q=none->q∉l.map (·.1)->(B.BU l).H q=none
 | [],q,h,_=>h
 | (z,o)::l,q,h,n=>by
  rw[qq,fg,not_or] at n;show upd (B.BU l).H z o q=none;rw[ar n.1];exact Cp h n.2
theorem En.G6:∀ {l:List (Addr×HO)},En K (B.BU l) F σ H Γ->(l.map (·.1)).Nodup->(∀ z,z∈l->B.H z.1=none/\B.F z.1=none/\∀ i,(i,z.1)∉B.own)->
  En K B F σ H Γ/\∀ z,z∈l->H z.1=some z.2/\F z.1=none/\∀ (i:Nat) (d:D),Hld Γ i d->σ[i]?≠some (some (V.ref z.1))
 | [],e,_,_=>⟨e,λ_ h=>nomatch h⟩
 | (q,o)::l,e,a,b=>by
  rw[qq,tq] at a;obtain⟨p,b2,n⟩:=b (q,o) (.head _);obtain⟨m,g,j,c⟩:=En.FD (B:=B.BU l) e (Cp p a.1) (by rw[K7];exact b2) (by rw[E7];exact n);obtain⟨k,f⟩:=En.G6 m a.2 λz hz=>b z (.tail _ hz);refine⟨k,λz hz=>?_⟩;rcases fg.mp hz with rfl | hz
  .exact⟨g,j,c⟩
  .exact f z hz
def DN (g:On)(h:TI3)(i:TG3)(j:TE3)(Γ:G)(Q:RV->G->Prop):Prop:=h Γ λxs b=>xs.length < sizeLine/\∃ c:Nat->List (List D)->G->Prop,c 0 [] (g4 b (iM g))/\
 (∀ k d ys a,xs[k]?=some d->ys.length=k->c k ys a->i d a λf=>j f λr e=>frL r λzs=>c (k + 1) (ys++[zs]) e)/\∀ ys a,ys.length=xs.length->c xs.length ys a->Q (.rws ys) (aZ g b a)
theorem gu.snoc:∀ {qs:La0} {xss:List (List D)} {q:Addr} {xs:List D} {vs:List V},gu K F H qs xss->H q=some (.lst vs)->aI K F xs vs->gu K F H (qs++[q]) (xss++[xs])
 | [],_,q,xs,vs,h,b,a=>by cases h;exact⟨xs,[],vs,rfl,b,a,rfl⟩
 | _::_,_,q,xs,vs,⟨c,j,d,i,g,f,e⟩,b,a=>by subst i;exact⟨c,_,d,rfl,g,f,gu.snoc e b a⟩
noncomputable def xb (K:Fg0)(F:Hp):List (Addr×HO)->List (List D)->Prop
 | [],xss=>xss=[]
 | z::l,xss=>∃ xs a vs,xss=a++[xs]/\z.2=.lst vs/\aI K F xs vs/\xb K F l a
theorem xb.mono(s:aS F F'):∀ {l:List (Addr×HO)} {xss:List (List D)},xb K F l xss->xb K F' l xss
 | [],_,h=>h
 | _::_,_,⟨b,a,c,g,f,e,d⟩=>⟨b,a,c,g,f,e.mono s,xb.mono s d⟩
theorem xb.at:∀ {l:List (Addr×HO)} {xss:List (List D)},xb K F l xss->(∀ z,z∈l->H z.1=some z.2)->gu K F H (l.map (·.1)).reverse xss
 | [],_,h,_=>h
 | z::l,_,⟨i,g,j,f,e,d,c⟩,a=>by
  subst f;rw[qq,List.reverse_cons];exact(xb.at c λy b=>a y (.tail _ b)).snoc (by rw[a z (.head _),e]) d
theorem Ij{wi:TI}{i3:TI3}{g:TG}{g3:TG3}{te:TE}{U:TE3}(nd:(fr.filterMap id).Nodup)(hi:Md K wi i3)(hg:Jr K g g3)(he:Ref K te U):Ref K (m6 fr wi g (uw te)) (DN fr i3 g3 U):=by
 intro B F σ H Γ Q QQ e q k;refine hi B F σ H Γ _ _ e q λJ L M a u s1 I R Z=>?_;obtain⟨hz,Iv,i0,it,ie⟩:=Z;have eb:=I.blk nd;refine⟨λi m ys t H=>m=u.length - i/\i<=u.length/\∃ F' N n l,aS M F'/\En K ((Bs.mk M L (ownOf a σ (iM fr))).BU l) F' t H N/\ys=((l.map (·.1)).reverse).map V.ref/\(l.map (·.1)).Nodup/\(∀ z,z∈l->L z.1=none)/\xb K F' l n/\l.length=i/\n.length=i/\Iv i n N,
  ⟨_,rfl,Do _,M,_,[],[],aS.refl _,eb,rfl,by simp,(λ_ h=>nomatch h),rfl,rfl,rfl,i0⟩,?_⟩
 rintro i m ys t H2 ⟨rfl,a5,F2,c,n,l,O,W,rfl,v,f,r2,P,hl,iv⟩;have zz:(((l.map (·.1)).reverse).map V.ref).length < sizeLine:=by simp [P];lia
 have cond:∀ z,z∈l->(Bs.mk M L (ownOf a σ (iM fr))).H z.1=none/\(Bs.mk M L (ownOf a σ (iM fr))).F z.1=none/\∀ j,(j,z.1)∉(Bs.mk M L (ownOf a σ (iM fr))).own:=λz hz=>by
  have G:=f z hz;refine⟨G,I.nof G,λj hj=>?_⟩;obtain⟨i',d,_,h5,h6⟩:=oi.mp hj;exact I.Au G i' d h5 h6
 by_cases lt:i < u.length
 .refine .inr ⟨R.go i H2 (O.trans W.sub) lt,λx H3 y=>?_⟩;have hd:u[i]?=some u[i]:=gE0 lt;obtain⟨F3,s3,a4,r3⟩:=R.turn O W hd y;refine hg _ F3 t H3 c x _ _ _ a4 r3 (it i _ n c hd hl iv) λX a1 e4 q4=>?_;refine⟨zz,he _ F3 X H3 a1 _ _ e4 q4 λy H5 Z=>?_⟩;obtain⟨F5,Y,r,s5,e5,rv,C⟩:=Z;obtain⟨zs,rfl,C⟩:=xN C;obtain⟨p,rfl,f5,⟨vs,h5,r5⟩,b5,n5⟩:=rv;obtain⟨b6,b7⟩:=HD b5;refine⟨u.length - (i + 1),by lia,rfl,lt,F5,Y,n++[zs],(p,.lst vs)::l,((O.trans s3).trans s5),e5.hide f5 h5 n5,by simp,?_,?_,⟨zs,n,vs,rfl,rfl,r5,r2.mono (s3.trans s5)⟩,by simp [P],by simp [hl],C⟩
  .rw[qq,tq];exact⟨b7,v⟩
  .intro z hz;rcases fg.mp hz with rfl | hz
   .exact b6
   .exact f z hz
 .have z:i=u.length:=by lia
  subst z;refine .inl ⟨R.stop _ H2 (O.trans W.sub) rfl,zz,λl' b=>k _ _ ?_⟩;obtain⟨U,S⟩:=W.G6 v cond;have T:En K B F2 σ H2 (aZ fr a c):=I.back (ls:=fr) U (by have:=vD (Γ:=a) (σ:=σ) (bs:=iM fr);rw[AH] at this;exact this);have nh:∀ {p:Addr},L p=none->∀ (i:Nat) (x:D),Hld (aZ fr a c) i x->σ[i]?≠some (some (V.ref p)):=λ{p} a2 i x hx hp=>by
   obtain⟨d0,w⟩:∃ d0,Hld a i d0:=by
    rcases hx with hx | hx <;> rw[bR] at hx
    .cases w:a[i]? with
     | none=>rw[w] at hx;cases hx
     | some s=>rw[w] at hx;cases s with
      | none=>cases hx
      | some s=>cases s with
       | fz d=>cases hx
       | ow d=>exact⟨d,.inl w⟩
       | ln d=>cases hx
    .cases w:a[i]? with
     | none=>rw[w] at hx;cases hx
     | some s=>rw[w] at hx;cases s with
      | none=>cases hx
      | some s=>cases s with
       | fz d=>cases hx
       | ow d=>cases hx
       | ln d=>exact⟨d,.inr w⟩
   exact I.Au a2 i d0 w hp
  have A:∀ {z:Addr},z∈(l.map (·.1)).reverse->∃ o,(z,o)∈l:=λ{z} hz=>by
   rw[ac0,Ht] at hz;obtain⟨⟨y,o⟩,hy,rfl⟩:=hz;exact⟨o,hy⟩
  refine⟨F2,_,.rws n,s1.trans O,T.alloc b _,⟨l',(l.map (·.1)).reverse,rfl,ax,?_,?_,λz hz=>?_⟩,ie n c hl iv⟩
  .rw[tq];refine⟨λhz=>?_,Zv.mpr (v.imp λh=>rl h)⟩;obtain⟨o,E⟩:=A hz;rw[(S _ E).1] at b;cases b
  .refine(r2.at λz hz=>(S z hz).1).mono (aS.refl F2) λz hz=>?_;obtain⟨o,E⟩:=A hz;exact ar (aU (S _ E).1 b)
  .rcases fg.mp hz with rfl | hz
   .exact⟨T.nof b,T.dom _ b,T.Au b⟩
   .obtain⟨o,E⟩:=A hz;have G:=f _ E;exact⟨(S _ E).2.1,I.dom _ G,nh G⟩
theorem KG{i:TI}{j:TI3}{g:TG}{o:TG3}{te:TE}{p:TE3}(s:X.calm=true)(k:P3I K X tg iter i j)(t:Blk X.N X.env.scope sc Nc fr)(l:∀ s₀ H₀ C ex f,P3G K (cK X sc Nc s₀ H₀ C ex f) tg g o)(n:∀ s₀ H₀ C ex f,P3 K (cK X sc Nc s₀ H₀ C ex f) elt te p)(q:autoParam ((fr.filterMap id).Nodup) wP)(r:autoParam (∀ x,sF iter X.env x=pure x) wT) :
  P3 K X (.ListComp elt [⟨tg,iter,[],0⟩] sc pos) (m6 fr i g (uw te)) (DN fr j o p):=
 ⟨vz (m:=λD h=>Bb elt D h) s k.pe t (λa b c d e=>(l a b c d e).pe) (λa b c d e D=>vA rfl (n a b c d e).pe) (λ_ _ _=>rfl) r,Ij q k.rf (l X.s₀ X.H₀ 0 [] []).rf (n X.s₀ X.H₀ 0 [] []).rf⟩
noncomputable def tR (Γ:G)(g:Nat):Nat->G
 | 0=>Γ
 | n + 1=>tR (Γ.set g none) (g + 1) n
theorem Ek:∀ {n:Nat} {Γ:G} {g i:Nat},i < g->(tR Γ g n)[i]?=Γ[i]?
 | 0,_,_,_,_=>rfl
 | n + 1,Γ,g,i,h=>by unfold tR;rw[Ek (UF h),aR (Xa h)]
theorem En.uY:∀ {qs:La0} {xss:List (List D)} {g:Nat} {F:Hp} {Γ:G},En K B F σ H Γ->xss.length=qs.length->(∀ k q xs,qs[k]?=some q->xss[k]?=some xs->Γ[g + k]?=some (some (Sl.ow (.cel q xs))))->
  ∃ F',aS F F'/\En K B F' σ H (tR Γ g qs.length)/\aI K F' (xss.map .lst) (qs.map V.ref)/\∀ b o,F' b=some o->F b=some o\/(b∈qs/\∃ vs,o=.lst vs)
 | [],[],g,F,Γ,e,_,_=>⟨F,aS.refl F,e,rfl,λb o h=>.inl h⟩
 | q::qs,xs::xss,g,F,Γ,e,A,h=>by
  have a:Γ[g]?=some (some (Sl.ow (.cel q xs))):=h 0 q xs rfl rfl;obtain⟨r,n,vs,M,L⟩:=e.adr (.inl a);obtain⟨p,O,b2,N⟩:=e.hl g _ (.inl a);have I:=e.forget (i:=g) (by unfold cu;rw[a];trivial);have nh:∀ (i:Nat) (d:D),Hld (Γ.set g none) i d->σ[i]?≠some (some (V.ref q)):=λi d hi z=>by
   have il:g < Γ.length:=(gS0 a).1;have m:i≠g:=λw=>by subst w;rcases hi with hi | hi <;> rw[aT il] at hi <;> cases hi
   have j:Hld Γ i d:=by unfold Hld at hi ⊢;rw[aR (rl m)] at hi;exact hi
   exact m (e.dis i g d _ q j (.inl a) z r)
  have E:=I.freeze n M (e.ow g _ q a r) nh;have l:=bu (o:=.lst vs) n;obtain⟨F',f,J,s,u⟩:=En.uY (qs:=qs) (xss:=xss) (g:=g + 1) E (by simpa using A) λk t c y x=>by
   rw[aR (by lia),show g + 1 + k=g + (k + 1) by lia];exact h (k + 1) t c (by simpa using y) (by simpa using x)
  refine⟨F',l.trans f,J,⟨_,_,rfl,⟨q,vs,rfl,f _ _ ax,L.mono (l.trans f)⟩,s⟩,λb o C=>?_⟩;rcases u b o C with w | ⟨w,v⟩
  .by_cases z:b=q
   .subst z;rw[ax] at w;cases w;exact .inr ⟨.head _,vs,rfl⟩
   .rw[ar z] at w;exact .inl w
  .exact .inr ⟨.tail _ w,v⟩
structure Me (Γ:G) (i g:Nat) (p:Addr) (qs:La0) (xss:List (List D)):Prop where
 nm:Γ[i]?=some (some (Sl.fz (.adr p)))
 lt:i < g
 at0:Γ[g]?=some (some (Sl.ow (.cel p (qs.map .adr))))
 len:xss.length=qs.length
 ats:∀ k q xs,qs[k]?=some q->xss[k]?=some xs->Γ[g + 1 + k]?=some (some (Sl.ow (.cel q xs)))
noncomputable def Jb (Γ:G)(i g n:Nat)(xss:List (List D)):G:=(tR Γ g (n + 1)).set i (some (.fz (.lst (xss.map .lst))))
theorem En.Jb {i g:Nat}{p:Addr}{qs:La0}{xss:List (List D)}(e:En K B F σ H Γ)(h:Me Γ i g p qs xss) :
  ∃ F',aS F F'/\En K B F' σ H (Jb Γ i g qs.length xss)/\∀ b o,F' b=some o->F b=some o\/(b∈p::qs/\∃ vs,o=.lst vs):=by
 have il:g < Γ.length:=(gS0 h.at0).1;obtain⟨m,l,vs,Q,P⟩:=e.adr (.inl h.at0);obtain⟨u,O,b2⟩:=e.fz i _ h.nm;cases (show u=V.ref p from b2);have M:=e.forget (i:=g) (by unfold cu;rw[h.at0];trivial);have nh:∀ (i:Nat) (d:D),Hld (Γ.set g none) i d->σ[i]?≠some (some (V.ref p)):=λi d hi z=>by
  have f:i≠g:=λw=>by subst w;rcases hi with hi | hi <;> rw[aT il] at hi <;> cases hi
  have a:Hld Γ i d:=by unfold Hld at hi ⊢;rw[aR (rl f)] at hi;exact hi
  exact f (e.dis i g d _ p a (.inl h.at0) z m)
 have L:=M.freeze l Q (e.ow g _ p h.at0 m) nh;have s:=bu (o:=.lst vs) l;obtain⟨F',c,N,y,A⟩:=L.uY (qs:=qs) (xss:=xss) (g:=g + 1) h.len λk q n G E=>by
  rw[aR (by lia)];exact h.ats k q n G E
 have r:vs=qs.map V.ref:=by
  have J:∀ {qs:La0} {vs:List V},aI K F (qs.map D.adr) vs->vs=qs.map V.ref:=by
   intro qs
   induction qs with
   | nil=>intro vs h;exact h
   | cons q qs C=>
    intro vs h;obtain⟨v,R,rfl,x,t⟩:=h;rw[show v=V.ref q from x,C t];rfl
  exact J P
 refine⟨F',s.trans c,?_,λb o I=>?_⟩
 .refine N.VZ (i:=i) (d:=.adr p) ?_ λv j=>?_
  .rw[Ek (UF h.lt),aR (Xa h.lt)];exact h.nm
  .rw[O] at j;cases j;exact⟨p,vs,rfl,c _ _ ax,by rw[r];exact y⟩
 .rcases A b o I with w | ⟨w,v⟩
  .by_cases z:b=p
   .subst z;rw[ax] at w;cases w;exact .inr ⟨.head _,vs,rfl⟩
   .rw[ar z] at w;exact .inl w
  .exact .inr ⟨.tail _ w,v⟩
theorem PN{p:Addr}{xss:List (List D)}(h:Me Γ i g p qs xss):Wk K Γ (Jb Γ i g qs.length xss):=λB F c H e=>by
 obtain⟨b,s,a,_⟩:=e.Jb h;exact⟨b,s,a⟩
end
open PySem _2 PySem.Spec PyProof.Rows
theorem L1{xs:List D}:bare (.lst xs)=.lst xs:=rfl
theorem L4{xs:List D}:bare (.ins C ns xs)=.ins C ns xs:=rfl
theorem L5{xs:List D}:bare (.cel q xs)=.lst xs:=rfl
noncomputable def tlG (T:G):G:=T
noncomputable def nn (m:Nat):G:=fC m none
noncomputable def tlE:G:=[]
noncomputable def phs (m:Nat):Ls0:=(el m).map λi=>⟨#[0,i]⟩
theorem FK{Γa:G}(h:Γa.length<=N.length):i4 (N++phs m) Γa=Γa++(fC (N.length - Γa.length) none++tlG (nn m++tlE)):=by
 unfold i4 phs nn tlG tlE;rw[td,bS,lM0,rx,XE,show N.length + m - Γa.length=N.length - Γa.length + m by lia]
section
variable {Γ cs T:G}{ls:On}{s:Option Sl}
theorem WH:aZ [] Γ cs=Γ:=rfl
theorem WE:aZ (none::ls) Γ cs=aZ ls Γ cs.tail:=rfl
theorem WG{d:D}:aZ (some k::ls) Γ (some (.ln d)::cs)=BI (aZ ls Γ cs) k d:=rfl
theorem WC{d:D}:aZ (some k::ls) Γ (some (.fz d)::cs)=aZ ls Γ cs:=rfl
theorem WD{d:D}:aZ (some k::ls) Γ (some (.ow d)::cs)=aZ ls Γ cs:=rfl
theorem V6{d:D}:BI (s::Γ) 0 d=fc (some d) s::Γ:=rfl
theorem V5{d:D}:BI (s::Γ) (k + 1) d=s::BI Γ k d:=rfl
theorem VY:List.tail (s::Γ)=Γ:=rfl
theorem Wl{b c:Type}{f:b->c}{a:b}{l:List b}:Wq f (a::l)=f a::Wq f l:=rfl
theorem Wj{b a:Type}{f:b->a}:Wq f []=[]:=rfl
end
section
variable {i3:TI3}{g3:TG3}{e3:TE3}{o3 k3:TB3}{b3 u3 t3:TS3}{Γ:G}{Q:RV->G->Prop}{D1:E3}
def LG (c:On)(a:TI3)(b:TG3)(d:TE3)(Γ:G)(Q:RV->G->Prop)(_:Tag (c,a,b,d))(_:Tag Q):Prop:=DN c a b d Γ Q
theorem Og:DN fr i3 g3 e3 Γ Q=LG fr i3 g3 e3 Γ Q ⟨⟩ ⟨⟩:=rfl
abbrev hR (a:Nat->List (List D)->G->Prop)(k:Nat)(ys:List (List D))(Γ:G)(_:Tag a):Prop:=a k ys Γ
def LF (xs:List D)(b:G)(g:On)(h:TG3)(i:TE3)(Q:RV->G->Prop)(_:Tag (g,h,i,Q)):Prop:=∃ c:Nat->List (List D)->G->Prop,c 0 [] (g4 b (iM g))/\
 (∀ k d ys a,xs[k]?=some d->ys.length=k->c k ys a->h d a λf=>i f λr e=>frL r λzs=>c (k + 1) (ys++[zs]) e)/\∀ ys a,ys.length=xs.length->c xs.length ys a->Q (.rws ys) (aZ g b a)
theorem N5{c:Tag (fr,i3,g3,e3)}{b:Tag Q}:LG fr i3 g3 e3 Γ Q c b=(i3 Γ λxs a=>xs.length < sizeLine/\LF xs a fr g3 e3 Q ⟨⟩):=rfl
theorem Jf{xs:List D}{b:G}{t:Tag (fr,g3,e3,Q)}(c:Nat->List (List D)->G->Prop)(i:c 0 [] (g4 b (iM fr)))(g:∀ k d ys a,xs[k]?=some d->ys.length=k->c k ys a->g3 d a λf=>e3 f λr e=>frL r λzs=>hR c (k + 1) (ys++[zs]) e ⟨⟩)(h:∀ ys a,ys.length=xs.length->c xs.length ys a->Q (.rws ys) (aZ fr b a)):LF xs b fr g3 e3 Q t:=⟨c,i,g,h⟩
def VL (j:Nat)(a:Option D)(d:D)(Γ:G)(N:G->Prop)(_:Tag N):Prop:=∃ q xs k n,Hld Γ j (.cel q xs)/\a=some (.int k)/\ixN xs.length k=some n/\N (BH Γ j (xs.set n d))
theorem RN:O0 o3 k3 e3 D1 Γ=(e3 Γ λr d=>o3 d λe c=>vB e λj=>k3 c λb a=>VL j (b.at a) r.d a D1.nx ⟨⟩):=rfl
theorem SI{k:Addr->Prop}:OJ (.fz (.adr q)) k=k q:=rfl
theorem Qf{xss:List (List D)}{k:List (List D)->Prop}:ML (.rws xss) k=k xss:=rfl
theorem VW{k:Nat->Prop}:vB (.v j) k=k j:=rfl
def OA (q:Addr)(Γ:G)(Q:Bo->G->Prop)(_:Tag Q):Prop:=∃ j xs,Hld Γ j (.cel q xs)/\Q (.v j) Γ
theorem RW{b:Bo->G->Prop}:VC e3 Γ b=(e3 Γ λr a=>OJ r λq=>OA q a b ⟨⟩):=rfl
theorem L9{a:Bo->G->Prop}{t:Tag a}(j:Nat){xs:List D}(h:Hld Γ j (.cel q xs))(b:a (.v j) Γ):OA q Γ a t:=⟨j,xs,h,b⟩
def TC (g i:Nat)(xss:List (List D))(a:G)(b:TS3)(c:E3)(_:Tag (b,c)):Prop:=cu a i/\(∀ k,k < xss.length + 1->a[g + k]?=some none)/\∀ p qs,qs.length=xss.length->b c (pV (a.set i (some (.fz (.adr p)))) g (p::qs) (qs.map .adr::xss))
theorem RM:OZ g i e3 u3 D1 Γ=(e3 Γ λr a=>ML r λxss=>TC g i xss a u3 D1 ⟨⟩):=rfl
def wkH (K:Fg0)(a:TS3)(b:E3)(Γ:G)(_:Tag (a,b)):Prop:=wk3 K a b Γ
theorem Wv:wk3 K t3 D1 Γ=wkH K t3 D1 Γ ⟨⟩:=rfl
theorem SY{t:Tag (t3,D1)}{Γ':G}(h:Wk K Γ Γ')(q:t3 D1 Γ'):wkH K t3 D1 Γ t:=⟨Γ',h,q⟩
end
noncomputable def gh (c:D->Sl)(p:Addr)(ds:List D)(qs:La0)(xss:List (List D)):G:=some (c (.cel p ds))::Zh (λq xs=>some (c (.cel q xs))) qs xss
section
variable {c:D->Sl}{p:Addr}{ds:List D}{xs ys:List D}{xss:List (List D)}{T T' pre:G}{y:Nat}
theorem RY(h:qs.length=xss.length):(gh c p ds qs xss).length=qs.length + 1:=by
 unfold gh;rw[tx,Yl,<- h,Zg]
theorem HE(b:qs[y]?=some q)(a:xss[y]?=some xs):(gh c p ds qs xss++T)[1 + y]?=some (some (c (.cel q xs))):=by
 rw[Zd];unfold gh;rw[XU,List.getElem?_cons_succ,ef (by
  rw[Yl];have:=(gS0 b).1;have:=(gS0 a).1;lia),List.getElem?_zipWith,b,a]
theorem xa(h:pre.length=L):(pre++T)[L + j]?=T[j]?:=by
 subst h;rw[ic (ac1 _ _),YT]
theorem D5{d:D}(h:pre.length=L)(a:Hld T j d):Hld (pre++tlG T) (L + j) d:=by
 unfold Hld tlG at *;rw[xa h];exact a
theorem zt{s:Option Sl}(h:pre.length=L):(pre++T).set (L + j) s=pre++T.set j s:=by
 subst h;rw[XH _ _ (ac1 _ _),YT]
theorem Ki(h:pre.length=L):BH (pre++tlG T) (L + j) ys=pre++tlG (BH T j ys):=by
 unfold BH tlG;rw[xa h];split
 .rw[zt h]
 .rw[zt h]
 .rfl
theorem Jt {f:Addr->List D->Option Sl}:∀ {qs:La0} {xss:List (List D)} {y:Nat} {q:Addr},qs[y]?=some q->(Zh f qs xss).set y (f q ys)=Zh f qs (xss.set y ys)
 | [],_,_,_,h=>by simp at h
 | a::qs,[],y,q,h=>by simp
 | a::qs,x::xss,0,q,h=>by simp at h;subst h;rfl
 | a::qs,x::xss,y + 1,q,h=>by
  simp only[List.zipWith_cons_cons,Wp];rw[Jt (qs:=qs) (by simpa using h)]
theorem RX(a:qs[y]?=some q)(d:y < xss.length):(gh c p ds qs xss++T).set (1 + y) (some (c (.cel q ys)))=gh c p ds qs (xss.set y ys)++T:=by
 rw[Zd];unfold gh;rw[XU,Wp,Ya _ _ (by
  rw[Yl];have:=(gS0 a).1;lia),<- Jt (f:=λq b=>some (c (.cel q b))) a]
 rfl
theorem M3(d:c=Sl.ow\/c=Sl.ln)(b:qs[y]?=some q)(a:y < xss.length):BH (gh c p ds qs xss++T) (1 + y) ys=gh c p ds qs (xss.set y ys)++T:=by
 unfold BH;rw[HE b (gE0 a)];rcases d with rfl | rfl <;> exact RX b a
theorem B_:∀ {qs:La0} {xss:List (List D)} {T:G} {g:Nat},pre.length=L->pV (pre++T) (L + g) qs xss=pre++pV T g qs xss
 | [],_,_,_,_=>by unfold pV;rfl
 | _::_,[],_,_,_=>by unfold pV;rfl
 | q::qs,x::xss,T,g,h=>by
  unfold pV;rw[zt h,show L + g + 1=L + (g + 1) by lia,B_ h]
theorem El:∀ {qs:La0} {xss:List (List D)} {m:Nat} {A:G},qs.length=xss.length->qs.length<=m->pV (A++(nn m++T)) A.length qs xss=A++(Zh (λq xs=>some (Sl.ow (.cel q xs))) qs xss++(nn (m - qs.length)++T))
 | [],[],m,A,_,_=>rfl
 | q::qs,x::xss,0,A,_,h=>by simp at h
 | q::qs,x::xss,m + 1,A,a,h=>by
  unfold pV;have e:(A++(nn (m + 1)++T)).set A.length (some (Sl.ow (.cel q x)))=(A++[some (Sl.ow (.cel q x))])++(nn m++T):=by
   rw[XH _ _ (ek _),SD];unfold nn;rw[xt];simp
  rw[e,show A.length + 1=(A++[some (Sl.ow (D.cel q x))]).length by simp,El (by simpa using a) (by simpa using h)];simp
theorem JV(h:pre.length=L)(b:qs.length=xss.length)(a:qs.length + 1<=m):pV (pre++tlG (nn m++T)) L (p::qs) (qs.map .adr::xss)=pre++tlG (gh .ow p (qs.map .adr) qs xss++(nn (m - (qs.length + 1))++T)):=by
 unfold tlG;have:=B_ (pre:=pre) (L:=L) (g:=0) (T:=nn m++T) (qs:=p::qs) (xss:=qs.map .adr::xss) h;rw[Zi] at this;rw[this];have e:=El (T:=T) (A:=[]) (qs:=p::qs) (xss:=qs.map .adr::xss) (m:=m) (by simp [b]) (by simpa using a);simp only[Xk,Yg] at e;rw[e];simp [gh]
theorem Uc(h:k < m):(nn m++T)[k]?=some none:=by
 unfold nn;rw[ef (by simpa using h),Xq,if_pos h]
theorem ND(h:pre.length=L)(a:n<=m):∀ k,k < n->(pre++tlG (nn m++T))[L + k]?=some none:=λk b=>by
 unfold tlG;rw[xa h];exact Uc (ih b a)
theorem B9:∀ {n:Nat} {T:G} {g:Nat},pre.length=L->tR (pre++T) (L + g) n=pre++tR T g n
 | 0,_,_,_=>rfl
 | n + 1,T,g,h=>by
  unfold tR;rw[zt h,show L + g + 1=L + (g + 1) by lia,B9 h]
theorem Ej:∀ {n:Nat} {A Z:G},Z.length=n->tR (A++(Z++T)) A.length n=A++(nn n++T)
 | 0,A,[],_=>rfl
 | n + 1,A,[],h=>by simp at h
 | 0,A,z::Z,h=>by simp at h
 | n + 1,A,z::Z,h=>by
  unfold tR;have e:(A++(z::Z++T)).set A.length none=(A++[none])++(Z++T):=by
   rw[XH _ _ (ek _),SD];simp
  rw[e,show A.length + 1=(A++[none]).length by simp,Ej (by simpa using h)];unfold nn;rw[xt];simp
theorem Q_{a b:Nat}:nn a++(nn b++T)=nn (a + b)++T:=by
 unfold nn;rw[<- Xx,XE]
theorem Oa(h:pre.length=L)(c:i < L)(b:qs.length=xss.length):Jb (pre++tlG (gh .ow p ds qs xss++(nn m++T))) i L qs.length xss=pre.set i (some (.fz (.lst (xss.map .lst))))++tlG (nn (qs.length + 1 + m)++T):=by
 unfold Jb tlG;have e:=B9 (pre:=pre) (L:=L) (g:=0) (T:=gh .ow p ds qs xss++(nn m++T)) (n:=qs.length + 1) h;rw[Zi] at e;rw[e];have a:=Ej (T:=nn m++T) (A:=[]) (Z:=gh .ow p ds qs xss) (n:=qs.length + 1) (RY b);simp only[Xk,Yg] at a;rw[a,Q_,Ya _ _ (by rw[h];exact c)]
theorem Me.of(h:pre.length=L)(a:i < L)(d:pre[i]?=some (some (Sl.fz (.adr p))))(e:qs.length=xss.length):Me (pre++tlG (gh .ow p (qs.map .adr) qs xss++T)) i L p qs xss where
 nm:=by rw[ef (by rw[h];exact a)];exact d
 lt:=a
 at0:=by
  have:=xa (pre:=pre) (T:=tlG (gh .ow p (qs.map .adr) qs xss++T)) (j:=0) h;rw[Zi] at this;rw[this];rfl
 len:=e.symm
 ats:=λk q f c b=>by
  rw[Nat.add_assoc,xa h];exact HE c b
theorem Qj{R:LL0}:Wq D.lst (Wq (λr=>Wq D.int r) R)=Wq (λns=>D.lst (ns.map D.int)) R:=by rw[nr];rfl
theorem PY:(tlG (gh c p ds qs xss++T))[0]?=some (some (c (.cel p ds))):=rfl
theorem N7(a:c=Sl.ow\/c=Sl.ln):Hld (gh c p ds qs xss++T) 0 (.cel p ds):=by
 rcases a with rfl | rfl
 .exact .inl rfl
 .exact .inr rfl
theorem Lc(d:c=Sl.ow\/c=Sl.ln)(b:qs[y]?=some q)(a:xss[y]?=some xs):Hld (gh c p ds qs xss++T) (1 + y) (.cel q xs):=by
 rcases d with rfl | rfl
 .exact .inl (HE b a)
 .exact .inr (HE b a)
section
variable {Γ:G}{QB:Bo->G->Prop}{t:Tag QB}
theorem Ma(h:Γ=pre++tlG (gh c p ds qs xss++T))(a:pre.length=L)(b:c=Sl.ow\/c=Sl.ln)(d:QB (.v L) Γ):OA p Γ QB t:=by
 subst h;exact L9 L (D5 (j:=0) a (N7 b)) d
theorem Mb(h:Γ=pre++tlG (gh c p ds qs xss++T))(d:pre.length=L)(e:c=Sl.ow\/c=Sl.ln)(b:qs[y]?=some q)(a:xss[y]?=some xs)(f:QB (.v (L + (1 + y))) Γ):OA q Γ QB t:=by
 subst h;exact L9 _ (D5 d (Lc e b a)) f
end
theorem L_{Γ:G}{N:G->Prop}{t:Tag N}{a:Option D}{d:D}{k:Int}(h:Γ=pre++tlG (gh c p ds qs xss++T))(f:pre.length=L)(g:c=Sl.ow\/c=Sl.ln)(e:qs[y]?=some q)(b:xss[y]?=some xs)(j:a=some (.int k))(i:ixN xs.length k=some n)(l:N (pre++tlG (gh c p ds qs (xss.set y (xs.set n d))++T))):VL (L + (1 + y)) a d Γ N t:=by
 subst h;refine⟨q,xs,k,n,D5 f (Lc g e b),j,i,?_⟩;rw[Ki f,M3 g e (gS0 b).1];exact l
theorem M0{a:G}{c:TS3}{e:E3}{t:Tag (c,e)}(h:a=pre++tlG (nn m++T))(b:pre.length=L)(g:i < L)(j:cu pre i)(f:xss.length + 1<=m)(k:∀ p qs,qs.length=xss.length->c e (pre.set i (some (.fz (.adr p)))++tlG (gh .ow p (qs.map .adr) qs xss++(nn (m - (qs.length + 1))++T)))):TC L i xss a c e t:=by
 subst h;refine⟨?_,ND b f,λp qs d=>?_⟩
 .unfold cu at j ⊢;rw[ef (by rw[b];exact g)];exact j
 .rw[Ya _ _ (by rw[b];exact g),JV (by rw[tr];exact b) d (by rw[d];exact f)];exact k p qs d
theorem wkR(a:pre.length=L)(c:i < L)(d:pre[i]?=some (some (Sl.fz (.adr p))))(b:qs.length=xss.length):Wk K (pre++tlG (gh .ow p (qs.map .adr) qs xss++(nn m++T))) (pre.set i (some (.fz (.lst (xss.map .lst))))++tlG (nn (qs.length + 1 + m)++T)):=by
 rw[<- Oa (p:=p) (ds:=qs.map .adr) a c b];exact PN (Me.of a c d b)
end
section
variable {c:D->Sl}{p:Addr}{ds:List D}{xs ys:List D}{xss:List (List D)}{T T' T0 A Z pre Γ:G}{y:Nat}
def hX (L:Nat)(A T:G)(m:Nat)(p:Addr)(qs:La0)(Jv:Nat->G->List (List D)->Prop)(k:Nat)(Γ:G)(_:Tag Jv):Prop:=∃ pre X,pre.length=L/\X.length=qs.length/\Jv k pre X/\Γ=pre++tlG (A++(gh .ow p (qs.map .adr) qs X++(nn (m - (qs.length + 1))++T)))
end
end _3
namespace _2
open PySem PySem.Spec PyProof.Rows
theorem v_ {c:Type}{a:Addr}{v:c}:∀ {l:List (Addr×c)},l.lookup a=some v->(a,v)∈l
 | [],h=>by cases h
 | (b,u)::l,h=>by
  rw[fw] at h;cases q:a == b with
  | true=>
   rw[q] at h;cases h;have e:a=b:=by simpa using q
   rw[e];exact lU
  | false=>rw[q] at h;exact hY _ (v_ h)
def VO (K:Fg0)(h:Heap)(P:Addr):Prop:=h.get? P=some { cls:=.none,data:=.fields #[] }/\K.lookup P=none/\∃ c a vs,h.get? c=some a/\a.cls=.type "code"/\a.data=.fields vs/\vs[11]?=some (.ref P)
theorem IT{Q mb:SV0}{CX:CXT}{fa a:Addr}{sp:Sp}{s₁:Shared}{R:Li0}{tabs:List (Addr×Str)}(KX:K.In s₁.heap)(T:s₁.heap.Ns mainGlobals Q)(j:s₁.heap.Ns XN mb)(a7:∀ x:Str,x≠"__name__"->mb x=zp x)(U:s₁.heap.NoLimit)(a6:∃ Y B,Q "__builtins__"=some (.ref Y)/\Y≠XN/\s₁.heap.get? Y=some B/\B.cls=.type "module"/\B.dict=some XN/\B.data=.plain)(hg:s₁.gens=#[])(O:s₁.heap.get? a=some { cls:=.type "list",data:=.seq vs.toArray })(hi:ac9 vs R)(hl:R.length<=sizeLine)(hr:dH k ZI)(hT:∀ p∈tabs,VO K s₁.heap p.1)(F:∀ base:Heap,K.In base->base.Ns mainGlobals Q->(∀ P q,tabs.lookup P=some q->pT base P q)->aB P w K Q base CX k fa fd [x] sp)(N:∀ (s:Shared) (u:Value),aa8 s fd ⟨[u],[]⟩ [(x,u)])(a5:∀ H:Hp,SN H->SqL K H a (R.map V.int)->sp [.ref a] H (λv _=>v=.bl true) λ_ _ _=>False)(a8:∀ H e s',CX [] H s₁ (λ_ _ _=>False) e s'->False) :
  SB (model P w) ZI (.call (.ref fa) ⟨[.ref a],[]⟩) (λr s'=>r=.ok (.ret (.bool true))/\OldK s₁.heap s'.heap/\s'.os=s₁.os/\YC s'.gens) s₁:=by
 have rv:=B2 hi;have S:=hi.length;have i:∀ {b:Addr} {q:Str},tabs.lookup b=some q->s₁.heap.get? b=some { cls:=.none,data:=.fields #[] }:=λ{b q} e=>(hT _ (v_ e)).1;have A:tabs.lookup a=none:=by
  cases q:tabs.lookup a with
  | none=>rfl
  | some y=>have z:=i q;rw[O] at z;cases z
 have I:∀ H:Hp,SN H->SqL K H a (R.map V.int)->HOk P w H s₁.heap->(∀ b u,H b=some u->b=a\/∃ q,tabs.lookup b=some q)->(H a≠none->K.lookup a=none)->(∀ b q,tabs.lookup b=some q->H b=some (.tbl #[.str q 0]))->
   SB (model P w) ZI (.call (.ref fa) ⟨[.ref a],[]⟩) (λr s'=>r=.ok (.ret (.bool true))/\OldK s₁.heap s'.heap/\s'.os=s₁.os/\YC s'.gens) s₁:=by
  intro H hO hS M hA hK W;have g:∀ {b:Addr} {o:Obj},s₁.heap.get? b=some o->H b=none->(ix s₁.heap.objs.size (λb=>if (H b).isNone then s₁.heap.get? b else none) λb=>tabs.lookup b).get? b=some o:=λe n=>Av (hH e) (by rw[n];exact e) (AO e);have a1:∀ {b:Addr} {o:Obj},s₁.heap.get? b=some o->o.cls≠.type "list"->o≠{ cls:=.none,data:=.fields #[] }->H b=none:=λ{b o} e d1 d2=>by
   cases q:H b with
   | none=>rfl
   | some u=>
    rcases hA b u q with z | ⟨y,z⟩
    .subst z;rw[O] at e;cases e;exact absurd rfl d1
    .rw[i z] at e;cases e;exact absurd rfl d2
  have a2:∀ {b:Addr} {o:Obj} {es:Array DictEntry} {ep:Nat},s₁.heap.get? b=some o->o.data=.dict es ep->H b=none:=λ{b o es ep} e d=>by
   cases q:H b with
   | none=>rfl
   | some u=>
    rcases hA b u q with z | ⟨y,z⟩
    .subst z;rw[O] at e;cases e;cases d
    .rw[i z] at e;cases e;cases d
  have t:∀ {b:Addr} {m:SV0},s₁.heap.Ns b m->(ix s₁.heap.objs.size (λb=>if (H b).isNone then s₁.heap.get? b else none) λb=>tabs.lookup b).Ns b m:=λ{b m} ⟨o,es,ep,e,d,r⟩=>⟨o,es,ep,g e (a2 e d),d,r⟩;have X:K.In (ix s₁.heap.objs.size (λb=>if (H b).isNone then s₁.heap.get? b else none) λb=>tabs.lookup b):=λb o e=>by
   refine g (KX b o e) ?_;cases q:H b with
   | none=>rfl
   | some u=>
    rcases hA b u q with z | ⟨y,z⟩
    .subst z;rw[hK (by rw[q];simp)] at e;cases e
    .have z2:=(hT _ (v_ z)).2.1;rw[z2] at e;cases e
  have L:∀ {b:Addr} {o:Obj},(if (H b).isNone then s₁.heap.get? b else none)=some o->s₁.heap.get? b=some o/\H b=none:=λ{b o} e=>by
   split at e
   .rename_i z;exact⟨e,by simpa using z⟩
   .cases e
  have hM:Mod K Q (ix s₁.heap.objs.size (λb=>if (H b).isNone then s₁.heap.get? b else none) λb=>tabs.lookup b):=⟨X,t T,⟨mb,t j,a7⟩,let ⟨mc,h1,h2⟩:=U;⟨mc,t h1,h2⟩,let ⟨Y,B,h1,h2,h3,h4,h5⟩:=a6;⟨Y,B,h1,h2,g h3 (a1 h3 (by rw[h4];decide) (by intro z;rw[z] at h4;cases h4)),h4,h5⟩⟩;have e0:Fz P w K Q (ix s₁.heap.objs.size (λb=>if (H b).isNone then s₁.heap.get? b else none) λb=>tabs.lookup b) ZI [] s₁ H:=⟨rfl,hM,λb o e=>⟨(L (xy e).2).1,.inl (L (xy e).2).2⟩,Xu mG,trivial,λb j=>absurd (show b∈([]:La0) from j) (by simp),M,.of_eq hg,
   λP q z=>⟨_,0,W P q (EV (λo e=>AO (L e).1) z).2,rfl⟩⟩
  refine Xv ((F _ X (t T) λP q z=>Gq (hH (i z)) (by rw[W P q z];rfl) z).run ZI [] s₁ H ⟨[.ref a],[]⟩ [.ref a] [.ref a] _ _ hr e0 (N s₁ (.ref a)) (.cons rfl .nil) (a5 H hO hS)) λr s' h=>?_;cases r with
  | error e=>exact(a8 H e s' h).elim
  | ok fl=>
   cases fl with
   | next=>exact sO h
   | brk=>exact sO h
   | cont=>exact sO h
   | ret u=>
    obtain⟨v,H',os,bare,Z,E,r',q⟩:=h;have q':v=.bl true:=q;subst q';obtain rfl:u=YX true:=r';refine⟨rfl,⟨λb o e=>?_,λb o e=>Z.there b o e (by simp)⟩,os,bare⟩;cases q:H b with
    | none=>exact .inl (Z.keep b o e q (by intro z;exact absurd (show b∈([]:La0) from z) (by simp)) (by simp))
    | some u=>
     rcases hO b with z | ⟨B,xs,z⟩ | ⟨ps,z⟩
     .rw[q] at z;cases z
     .have z2:=Z.uY b B _ z;obtain⟨G,_⟩:=M b _ z;obtain⟨e2,_⟩:=E b _ z2;rw[e] at G;cases G;exact .inl e2
     .rcases hA b u q with y | ⟨y,hy⟩
      .subst y;obtain⟨_,_,_,_,G,_⟩:=M b _ z;rw[O] at G;cases G
      .obtain⟨m,z2⟩:=Z.tbls b ps z;obtain⟨_,_,qs,_,e2,_⟩:=E b _ z2;have G:=i hy;rw[e] at G;cases G;obtain⟨c,oc,ws,c1,c2,c3,c4⟩:=(hT _ (v_ hy)).2.2;exact .inr (.inl ⟨⟨c,oc,ws,c1,c2,c3,c4⟩,rfl,#[],qs,rfl,by rw[Array.empty_append];exact e2⟩)
 let J:Hp:=λb=>(tabs.lookup b).map λq=>.tbl #[.str q 0]
 have C:∀ {b:Addr} {u:HO} {H:Hp},J b=some u->gC P w H s₁.heap b u:=λ{b u H} z=>by
  cases q:tabs.lookup b with
  | none=>have l:(tabs.lookup b).map (λq=>HO.tbl #[.str q 0])=some u:=z;rw[q] at l;cases l
  | some y=>
   have l:(tabs.lookup b).map (λq=>HO.tbl #[.str q 0])=some u:=z;rw[q] at l;cases l;exact⟨y,0,#[],rfl,i q,trivial,λ_ _ r=>by simp [Yq] at r⟩
 have f:∀ {b:Addr} {u:HO},J b=some u->∃ q,tabs.lookup b=some q/\u=.tbl #[.str q 0]:=λ{b u} z=>by
  have l:(tabs.lookup b).map (λq=>HO.tbl #[.str q 0])=some u:=z;cases q:tabs.lookup b with
  | none=>rw[q] at l;cases l
  | some y=>rw[q] at l;cases l;exact⟨y,rfl,rfl⟩
 have a4:J a=none:=by show (tabs.lookup a).map _=none;rw[A];rfl
 have D:∀ b q,tabs.lookup b=some q->J b=some (.tbl #[.str q 0]):=λb q z=>by show (tabs.lookup b).map _=_;rw[z];rfl
 cases hk:K.lookup a with
 | some o=>
  have e:=KX a o hk;rw[O] at e;cases e;refine I J (λb=>?_) (.inr ⟨_,vs.toArray,_,hk,rfl,rfl,rfl,by rw[hL,S];exact hl,by simpa using rv⟩) (λb u z=>C z) (λb u z=>.inr (let ⟨q,h,_⟩:=f z;⟨q,h⟩)) (λz=>absurd a4 z) D;cases z:J b with
  | none=>exact .inl rfl
  | some u=>obtain⟨q,_,rfl⟩:=f z;exact .inr (.inr ⟨_,rfl⟩)
 | none=>
  refine I (upd J a (.frz { cls:=.type "list",data:=.seq vs.toArray } (.lst (R.map V.int)))) (λb=>?_) (.inl (.inr ⟨{ cls:=.type "list",data:=.seq vs.toArray },ax⟩)) (λb u z=>?_) (λb u z=>?_) (λ_=>hk) λb q z=>?_
  .by_cases j:b=a
   .subst j;exact .inr (.inl ⟨_,_,ax⟩)
   .rw[ar j];cases z:J b with
    | none=>exact .inl rfl
    | some u=>obtain⟨q,_,rfl⟩:=f z;exact .inr (.inr ⟨_,rfl⟩)
  .by_cases j:b=a
   .subst j;rw[ax] at z;cases z;exact⟨O,by rw[lM0];exact hl,vs,_,rv,O⟩
   .rw[ar j] at z;exact C z
  .by_cases j:b=a
   .exact .inl j
   .rw[ar j] at z;exact .inr (let ⟨q,h,_⟩:=f z;⟨q,h⟩)
  .rw[ar (λy=>by rw[y,A] at z;cases z)];exact D b q z
theorem JC{l:XY}{q:Qk}{g:Ls0}{XP:(SV0)->Heap->Prop}{I:World->Heap->Prop}{d:DefRec}{K:Params->Fg0}{CX:World->CXT}{sp:Fg0->Sp}{D:La0}(N:l.most=some n)(z:n<=sizeLine)(B:d.params.defaults=[])(L:dH k ZI)(S:∀ (w:World) (h:Heap),I w h->(K w.params).In h/\∀ P∈D,h.get? P=some (ad8 #[]))(F:∀ (w:World) (mg:SV0) (r:Addr) (h:Heap),(K w.params).In h->h.Ns mainGlobals mg->mg d.name=some (.ref r)->
   ∃ (fd:ec) (tabs:List (Addr×Str)),(∀ (s:Shared) (u:Value),aa8 s fd ⟨[u],[]⟩ [(x,u)])/\(∀ p∈tabs,p.1∈D/\(K w.params).lookup p.1=none/\∃ c,XB h c p.1)/\
    ∀ base:Heap,(K w.params).In base->base.Ns mainGlobals mg->(∀ P q,tabs.lookup P=some q->pT base P q)->aB l.prog w (K w.params) mg base (CX w) k r fd [x] (sp (K w.params)))(y:∀ (K:Fg0) (H:Hp) (a:Addr) (ns:Li0),ns.length<=n->SN H->SqL K H a (ns.map V.int)->sp K [.ref a] H (λv _=>v=.bl true) λ_ _ _=>False)(C:∀ (w:World) (H:Hp) (s:Shared) (e:Value) (s':Shared),CX w [] H s (λ_ _ _=>False) e s'->False) :
  ae1 q g XP I l.row.toRowW d [] (λf vs=>ad4 f vs):=by
 refine _a.Fy N B λw E j mg mb r o pm cd a1 a vs ns G Y ho hd Q A m i b O=>?_;obtain⟨J,t⟩:=S w _ Y;obtain⟨fd,tabs,R,T,X⟩:=F w mg r _ J G.T.g A;refine IT J G.T.g G.T.b G.T.builtins G.T.nolimit G.T.bmain O m i (zq b z) L (λp M=>?_) X R (λH W U=>y _ H a ns b W U) λH e s'=>C w H j e s';obtain⟨h1,Z,c,o,vs,_,_,_,_,_,_,_,c1,c2,c3,c4,_⟩:=T p M;exact⟨t _ h1,Z,c,o,vs,c1,c2,c3,c4⟩
end _2
namespace _3
open PySem _2 PySem.Spec PyProof.Rows
section
variable {X:Cx}{B:Bs}{F:Hp}{H:Hp}{Γ:G}{q:Str}{params:Arguments}{pm:Value}
def K1 (O:(Unit->Obj)->Prop)(Γ:G)(Q:RV->G->Prop):Prop:=∀ o f,O o->Q (.fz (.fn o f .non .non)) Γ
def OO (q:Str)(a:Arguments)(c:Expr)(scope:Scope)(b:List (Str×Addr))(o:Unit->Obj):Prop:=∃ pm d e,o ()=tP q a c scope b pm d e
theorem MT:Ref K (P4 q params body scope clos pm) (K1 (OO q params body scope clos)):=by
 intro B F r H Γ Q C e h k f c A j y v b n;have g:En K B F r y Γ:=by
  rcases v with rfl | ⟨t,rfl⟩
  .exact e
  .exact e.alloc t _
 have o:F f=none:=g.sub.free b;have w:=(g.alloc b (.frz (tP q params body scope clos pm c j) (.cod c q))).freeze (l:=f) o ax (g.dom f b) λi d s z=>by
  obtain⟨p,a,_,x⟩:=g.hl i d s;rw[z] at a;cases a;obtain⟨u,m⟩:=x.some;rw[b] at m;cases m
 exact k _ _ ⟨_,Γ,.fz (.fn (λ_=>tP q params body scope clos pm c j) f .non .non),bu o,w,⟨rfl,⟨c,q,ax,⟨_,rfl,rfl,rfl⟩⟩,rfl⟩,h (λ_=>tP q params body scope clos pm c j) f ⟨pm,c,j,rfl⟩⟩
theorem Gi{c P:Addr}(a:X.env.code=.ref c)(f:∀ h:Heap,X.K.In h->XB h c P)(e:pT X.base P (X.env.qual++"<lambda>"))(d:Ze scope X.env=pure clos)(b:autoParam (defaultsOf params X.env=([],[])) wE) :
  P3 K X (.Lambda params body scope pos) (P4 (X.env.qual++"<lambda>") params body scope clos ((X.mg "__name__").getD .none)) (K1 (OO (X.env.qual++"<lambda>") params body scope clos)):=⟨QP a f e d b,MT⟩
def Bi (O:(Unit->Obj)->Prop)(i j n:Nat)(S:(Unit->Obj)->Addr->V->S3)(d:fP)(Γ:G)(Q:RV->G->Prop):Prop:=d Γ λb a=>b.length=n/\(df b).Nodup/\∃ o f r,b[j]?=some (.d (.fn o f .non .non))/\O o/\a[i]?=some (some (.fz r))/\
 ∀ v,S o f v (g4 a ((b.set j (.d (.fn o f v r))).map some)) λx c=>Q x (aZ (((b.set j (.d (.fn o f v r))).map some).map dm) a c)
theorem xH:∀ {a:List Bo} {j:Nat} {x y:D},a[j]?=some (.d x)->df (a.set j (.d y))=df a
 | [],_,_,_,h=>by simp at h
 | .d _::_,0,_,_,_=>rfl
 | .v _::_,0,_,_,h=>by simp at h
 | .d _::a,j + 1,x,y,h=>by
  rw[Wp];show df (a.set j _)=df a;exact xH (by simpa using h)
 | .v i::a,j + 1,x,y,h=>by
  rw[Wp];show i::df (a.set j _)=i::df a;rw[xH (by simpa using h)]
theorem bH.set:∀ {d:List Bo} {vs:List V} {j:Nat} {x:D} {v:V},bH K F σ d vs->vs[j]?=some v->Rep K F x v->bH K F σ (d.set j (.d x)) vs
 | [],_,_,_,_,h,e,_=>by cases h;simp at e
 | _::_,_,0,x,v,⟨u,a,c,f,b⟩,e,r=>by
  subst c;simp at e;subst e;exact⟨_,a,rfl,r,b⟩
 | _::d,_,j + 1,x,v,⟨u,a,c,f,b⟩,e,r=>by
  subst c;rw[Wp];exact⟨u,a,rfl,f,bH.set b (by simpa using e) r⟩
theorem Il{c:Addr}{S:(Unit->Obj)->Addr->V->S3}{t:TA}{s:fP}(hc:X.env.cells.lookup nm=some c)(h:CQ K t s) :
  Ref K (FI X q params body scope nm i j (λo f v=>sp3 K n (S (λ_=>o) f v)) t) (Bi (OO q params body scope [(nm,c)]) i j n S s):=by
 intro B F p H J Q QQ e P k;refine h B F p H J _ _ e P λvs H1 Z=>?_;obtain⟨E,I,D,L,l,w,W,T,o,f,r,A,⟨g,d,ct,z⟩,hi,R⟩:=Z;obtain⟨x,y,M⟩:=w.get A;obtain⟨rfl,⟨c2,q2,C,fd,z1,z2,z3⟩,_⟩:=M;obtain⟨v,U,O⟩:=l.fz i r hi;rw[z] at z1;cases z1;cases z2;cases z3;have m:o=λ_=>tP q params body scope [(nm,c)] g d ct:=funext λ_=>z;subst m;have Y:(D.set j (.d (.fn (λ_=>tP q params body scope [(nm,c)] g d ct) f v r))).length=n:=by rw[tr];exact W
 have u:bH K E p (D.set j (.d (.fn (λ_=>tP q params body scope [(nm,c)] g d ct) f v r))) vs:=w.set y ⟨rfl,⟨d,q,C,⟨_,rfl,rfl,rfl⟩⟩,O⟩;refine⟨f,c,d,g,ct,v,y,l.sub _ _ C,hc,U,?_⟩;refine⟨by rw[u.length];exact Y,E,_,_,_,l.args u (by rw[xH A];exact T),sQ,R v,λr G q v H' F' e2 N=>?_⟩;obtain⟨a,b,c⟩:=l.called e2 N;exact k v H' ⟨F',_,r,L.trans a,b,c,q⟩
theorem Ai{c g:Addr}{S:(Unit->Obj)->Addr->V->S3}{t:TA}{h:fP}(F:∀ (base:Heap) (o:Unit->Obj) (f:Addr) (v:V),yM base q params body scope nm (o ()) f v->aB X.prog X.w X.K X.mg base CX0 k g fd ps (sp3 K n (S o f v)))(r:dH k X.A)(w:Gl X x)(s:X.mg x=some (.ref g))(u:mC X.K (.ref g)=true)(A:Binds X.K fd ps [])(B:X.N[i]?=some nm)(m:X.env.scope.names.lookup nm=some .cell)(b:X.fn nm=true)(z:X.env.cells.lookup nm=some c)(l:B1 K X (e::es) t h)(d:autoParam ((x == ("__debug__":Str))=false) wP)(y:autoParam (ew (e::es) X.env=(false,eval e X.env)::ew es X.env) wE)(a:autoParam ((backTo pos (ew es X.env)).any (·.1)=false) wE) :
  P3 K X (.Call (.Name x p) (e::es) [] pos) (FI X q params body scope nm i j (λo f v=>sp3 K n (S (λ_=>o) f v)) t) (Bi (OO q params body scope [(nm,c)]) i j n S h):=
 ⟨Kz (λbase o f v L=>F base (λ_=>o) f v L) r w s u A B m b l.pe d y a,Il z l.rf⟩
def LU (i n:Nat)(o:Unit->Obj)(f:Addr)(v:V)(S:S3)(d:fP)(Γ:G)(Q:RV->G->Prop):Prop:=∃ r,Γ[i]?=some (some (.fz (.fn o f v r)))/\d Γ λb a=>b.length=n/\(df b).Nodup/\a[i]?=some (some (.fz (.fn o f v r)))/\
 S (g4 a ((b++[Bo.d r]).map some)) λx c=>Q x (aZ (((b++[Bo.d r]).map some).map dm) a c)
theorem xI {r:D}:∀ {a:List Bo},df (a++[Bo.d r])=df a
 | []=>rfl
 | .d _::a=>by show df (a++_)=_;exact xI
 | .v i::a=>by show i::df (a++_)=i::df a;rw[xI]
theorem bH.app{r:D}{v:V}(h:Rep K F r v):∀ {a:List Bo} {vs:List V},bH K F σ a vs->bH K F σ (a++[Bo.d r]) (vs++[v])
 | [],_,e=>by cases e;exact⟨v,[],rfl,h,rfl⟩
 | _::a,_,Z=>by obtain⟨u,b,f,d,c⟩:=Z;subst f;exact⟨u,b++[v],rfl,d,bH.app h c⟩
theorem Ik{o:Unit->Obj}{v:V}{S:S3}{t:TA}{j:fP}(h:CQ K t j):Ref K (FH i f (λvs H Q _=>sp3 K (n + 1) S (vs++[v]) H Q E0) t) (LU i n o f v S j):=by
 intro B F m H u Q R e ⟨r,J,C⟩ k;obtain⟨x,G,rfl,_,_⟩:=e.fz i _ J;refine⟨G,h B F m H u _ _ e C λvs T Z=>?_⟩;obtain⟨N,s,P,w,g,A,I,E,d,D⟩:=Z;obtain⟨_,_,_,_,z⟩:=g.fz i _ d;have l:=bH.app z A;refine⟨by rw[l.length,bS,I];rfl,N,_,_,_,g.args l (by rw[xI];exact E),sQ,D,λr p q v M O L y=>?_⟩;obtain⟨a,b,c⟩:=g.called L y;exact k v M ⟨O,_,r,w.trans a,b,c,q⟩
theorem EK{o:Unit->Obj}{v:V}{S:S3}{t:TA}{d:fP}(m:X.base.get? f=some (o ()))(l:(o ()).data=.func fd)(F:aB X.prog X.w X.K X.mg X.base CX0 k f fd ps (λvs H Q _=>sp3 K (n + 1) S (vs++[v]) H Q E0))(j:dH k X.A)(r:Binds X.K fd ps [])(s:X.N[i]?=some x)(h:Vis X.env.scope x)(g:B1 K X (e::es) t d)(b:autoParam ((x == ("__debug__":Str))=false) wP)(c:autoParam ((x == ("__classdict__":Str))=false) wP)(q:autoParam (ew (e::es) X.env=(false,eval e X.env)::ew es X.env) wE)(a:autoParam ((backTo pos (ew es X.env)).any (·.1)=false) wE) :
  P3 K X (.Call (.Name x p) (e::es) [] pos) (FH i f (λvs H Q _=>sp3 K (n + 1) S (vs++[v]) H Q E0) t) (LU i n o f v S d):=⟨Ky m l F j r s h g.pe b c q a,Ik g.rf⟩
theorem okL{l:SV0}{o:Unit->Obj}{v:V}{S:S3}(L:yM base q params body scope nm (o ()) f v)(C:sv ps nm scope)(hbody:∀ (c d:Addr) (A:Around) (outer:List Env) (s:Shared) (H:Hp),dH k (A.deeper (XC q scope s.heap.objs.size f (.ref d) [(nm,c)]))->
   ∃ t t3,P3 K (Lz P w K l base ps q scope nm f c d A outer s H) body t t3/\∀ Γ Q,Γ.length=ps.length + 1->S Γ Q->t3 Γ Q)(j:∀ (clos:List (Str×Addr)) (pm:Value) (d:Addr) (I:Value) (us:Lv0),us.length=ps.length->Zz (ad7 "<lambda>" q params body scope clos pm (.ref d) I) ⟨us,[]⟩=pure (ps.zip us)) :
  ∃ fd,base.get? f=some (o ())/\(o ()).data=.func fd/\Binds K fd ps []/\aB P w K l base CX0 (k + 1) f fd ps (λvs H Q _=>sp3 K (ps.length + 1) S (vs++[v]) H Q E0):=by
 refine Rn L C (λvs H Q E h=>h.1) (λc d A outer s H vs Q u i=>?_) j;obtain⟨t,t3,h,y⟩:=hbody c d A outer s H u;obtain⟨x,F,g,a,m,e,_,p,z⟩:=i;exact⟨t,h.pe,h.rf ⟨F,H,g⟩ F _ H a m Q e (y a m (by rw[<- e.len,lM0];exact x) p) λv D ⟨G,b,r,_,B,n,q⟩=>z r b q v D G B n⟩
theorem okM{p:SV0}{S:S3}(F:Fun K x qual st f fd)(U:ao N ps (ae st))(R:autoParam (ps.length<=N.length) wP)(hbody:∀ (d:Value) (A:Around) (outer:List Env) (s:Shared) (H:Hp) (E:XK),d=fd.code->dH k (A.deeper (envOfC qual (ae st) s.heap.objs.size f d))->
   ∃ t t3,xc K (DL CX0 P w K p base N qual (ae st) f d A outer s H E).nox (c5 st) t t3/\∀ c Q,S c Q->c.length=ps.length->t3 { nx:=λΓ'=>Q (.fz .non) (kv c Γ'),rt:=λr Γ'=>Q r (kv c Γ') } (i4 N c)) :
  aB P w K p base CX0 (k + 1) f fd ps (sp3 K ps.length S):=by
 obtain⟨Z,Y,kV,T,X,an,d,ct,J,rfl,lk,m⟩:=F.ex;refine Pr lk m U (λC H Q E h=>h.1) λA outer s H C Q E L h=>?_;obtain⟨M,B,l,c,o,e,g,O,y⟩:=h;obtain⟨t,t3,u,I⟩:=hbody d A outer s H E rfl L;have i:c.length=ps.length:=by rw[<- e.len,lM0];exact M
 refine⟨t,u.pe.nox,u.rf ⟨B,H,l⟩ B _ H _ _ { nx:=λΓ'=>o (.fz .non) (kv c Γ'),rt:=λr Γ'=>o r (kv c Γ') } (e.start (N:=N) (by rw[i];exact R)) ⟨?_,?_,λ_ _ _ _ _ _ z=>sO z,λ_ _ _ _ _ _ z=>sO z⟩ (I c o O i)⟩
 .intro W j V Γ' D n q;obtain⟨a,b⟩:=e.out g n (v:=.non) (r:=.fz .non) rfl;exact y _ _ q _ _ _ a b
 .intro W j V Γ' v r D n G q;obtain⟨a,b⟩:=e.out g n G;exact y _ _ q _ _ _ a b
end
abbrev NR:=LL0
structure Js (F H:Hp) (p:Addr) (qs:La0) (xss:NR):Prop where
 sub:aS F H
 top:H p=some (.lst (qs.map V.ref))
 nd:(p::qs).Nodup
 len:qs.length=xss.length
 row:∀ (i:Nat) (q:Addr) (xs:Li0),qs[i]?=some q->xss[i]?=some xs->H q=some (.lst (xs.map V.int))
 no:∀ z,z∈p::qs->F z=none
structure Step (H0:Hp) (own:La0) (H:Hp) (qs:La0):Prop where
 keep:∀ b o,H0 b=some o->b∉own->H b=some o
 dom:∀ b,H b=none->H0 b=none
 new:∀ q,q∈qs->q∈own\/H0 q=none
abbrev E0n (K:Fg0)(F:Hp)(σ:_2.St)(H:Hp)(Γ:G):Prop:=En K ⟨F,H,[]⟩ F σ H Γ
section
variable {X:Cx}{F F':Hp}{H H' H0:Hp}{Γ Γ':G}{p:Addr}{xss:NR}
theorem Vn(sub:aS F H)(len:σ.length=Γ.length)(fz:∀ (k:Nat) (s:Sl),Γ[k]?=some (some s)->∃ d v,s=.fz d/\σ[k]?=some (some v)/\Rep K F d v):E0n K F σ H Γ where
 sub:=sub
 len:=len
 fz:=λk d h=>by obtain⟨c,v,e,a,b⟩:=fz k _ h;cases e;exact⟨v,a,b⟩
 hl:=λk d h=>by rcases h with h | h <;> (obtain⟨_,_,e,_⟩:=fz k _ h;cases e)
 ow:=λk d q h=>by obtain⟨_,_,e,_⟩:=fz k _ h;cases e
 ln:=λk d q h=>by obtain⟨_,_,e,_⟩:=fz k _ h;cases e
 dis:=λk j d e q h=>by rcases h with h | h <;> (obtain⟨_,_,e,_⟩:=fz k _ h;cases e)
 par:=λk q h=>nomatch h
 keep:=aS.refl F
 new:=λb o h=>.inl h
 rest:=λb o h _=>h
 dom:=λb h=>h
structure NSt (K:Fg0) (H0:Hp) (own:La0) (i:Nat) (p:Addr) (F:Hp) (σ:_2.St) (H:Hp) (Γ:G) (xss:NR):Prop where
 e:E0n K F σ H Γ
 at_:Γ[i]?=some (some (.fz (.adr p)))
 n:∃ qs,Js F H p qs xss/\Step H0 own H qs
 po:p∈own
abbrev TN:=(G->NR->Prop)->G->NR->Prop
def WY (K:Fg0)(i:Nat)(t:TS)(b:TN):Prop:=∀ (H0:Hp) (own:La0) (p:Addr) (F:Hp) (σ:_2.St) (H:Hp) (Γ:G) (xss:NR) (D:Ends) (k:G->NR->Prop),NSt K H0 own i p F σ H Γ xss->
 (∀ F' σ' H' Γ' a,aS F F'->NSt K H0 own i p F' σ' H' Γ' a->k Γ' a->D.nx σ' H')->b k Γ xss->t D σ H
structure W0 (K:Fg0) (X:Cx) (i:Nat) (st:List Stmt) (t:TS) (n3:TN):Prop where
 pe:PSs X st t
 rf:WY K i t n3
variable {t u:TS}{n3 m3:TN}
theorem N0(h:k < n):ixN n (k:Int)=some k:=by
 unfold ixN;rw[if_pos (by lia),if_pos (by lia),ky]
end
def spN (K:Fg0)(n:Nat)(S:List D->NR->(NR->Prop)->Prop):Sp:=λvs H Q _=>vs.length=n/\∃ F ds p qs xss k3,aI K F ds vs/\ds[1]?=some (.adr p)/\Js F H p qs xss/\S ds xss k3/\
 ∀ a,k3 a->∀ H' b,Js F H' p b a->Step H (p::qs) H' b->Q .non H'
section
variable {X:Cx}{F F':Hp}{H H' H0:Hp}{Γ Γ':G}{p:Addr}{xss:NR}
variable {t u:TS}{n3 m3:TN}
theorem Js.less(s:aS F F')(n:Js F' H p qs xss):Js F H p qs xss:=⟨s.trans n.sub,n.top,n.nd,n.len,n.row,λz a=>by
 cases q:F z with
 | none=>rfl
 | some o=>have:=s _ _ q;rw[n.no z a] at this;cases this⟩
end
section
variable {mg:SV0}
noncomputable def zL (N:Ls0)(ds:List D):G:=(ds.map λd=>some (Sl.fz d))++fC (N.length - ds.length) none
theorem okN{S:List D->NR->(NR->Prop)->Prop}(F:Fun K x qual st f fd)(V:ao N ps (ae st))(Z:autoParam (ps.length<=N.length) wP)(hbody:∀ (e:Value) (A:Around) (outer:List Env) (s:Shared) (H:Hp) (E:XK),dH k (A.deeper (envOfC qual (ae st) s.heap.objs.size f e))->
   ∃ t n3,W0 K (DL CX0 P w K mg base N qual (ae st) f e A outer s H E).nox 1 (c5 st) t n3/\∀ ds xss k3,S ds xss k3->ds.length=ps.length->n3 (λ_ c=>k3 c) (zL N ds) xss) :
  aB P w K mg base CX0 (k + 1) f fd ps (spN K ps.length S):=by
 refine F.ok V (λC H Q E h=>h.1) λe A outer s H C Q E O h=>?_;obtain⟨R,X,ds,p,n,xss,k3,i,y,r,T,U⟩:=h;obtain⟨t,n3,u,J⟩:=hbody e A outer s H E O;have dl:ds.length=ps.length:=by rw[<- i.length];exact R
 refine⟨t,u.pe,u.rf H (p::n) p X _ H (zL N ds) xss _ (λ_ c=>k3 c) ⟨Vn r.sub ?_ ?_,?_,⟨n,r,⟨λb o h _=>h,λb h=>h,λq h=>.inl (.tail _ h)⟩⟩,.head _⟩ (λF' z W B c I G M=>?_) (J ds xss k3 T dl)⟩
 .unfold _2.start zL;rw[bS,bS,lM0,lM0,rk,rk,i.length]
 .intro m Y g;unfold zL at g;by_cases lt:m < ds.length
  .rw[ef (by rw[lM0];exact lt),cm] at g;cases q:ds[m]? with
   | none=>rw[q] at g;cases g
   | some d=>
    rw[q] at g;cases g;obtain⟨v,a,b⟩:=i.get q;refine⟨d,v,rfl,?_,b⟩;unfold _2.start;rw[ef (by rw[lM0,i.length];exact lt),cm,a];rfl
  .rw[ic (by rw[lM0];lia)] at g;have:=(Wo.mp (hW g)).2;cases this
 .unfold zL;have lt:1 < ds.length:=(gS0 y).1;rw[ef (by rw[lM0];exact lt),cm,y];rfl
 .obtain⟨l,L,j⟩:=G.n;exact U c M W l (L.less I) j
end
end _3
namespace _2
open PySem
structure FN (K:Fg0) (x q:Str) (st:Stmt) (f:Addr) (d:ec):Prop where
 n:lp K mainGlobals x=some (some (.ref f))
 F:Fun K x q st f d
structure FM (K:Fg0) (C:Addr) (x q:Str) (st:Stmt) (f:Addr) (d:ec):Prop where
 m:ck K (.ref C) x=some (some (.ref f))
 i:Zb K (.ref f)=true
 F:Fun K x q st f d
structure FY (K:Fg0) (x q:Str) (st:Stmt) (f:Addr) (d:ec) (ps:Ls0):Prop where
 F:Fun K x q st f d
 b:Binds K d ps []
structure FX (K:Fg0) (mg:SV0) (x q:Str) (st:Stmt) (f:Addr) (d:ec) (ps:Ls0):Prop where
 F:Fun K x q st f d
 b:Binds K d ps []
 m:mg x=some (.ref f)
section
variable {mg:SV0}{q:Str}{d:ec}
theorem fx(X:K.In h)(G:h.Ns mainGlobals mg)(F:FN K x q st f d)(b:∀ (kV a pm:Value) (g:Option Addr) (c e:Value) (us:Lv0),us.length=ps.length->Zz (AC x q (gf st) (c5 st) (ae st) .none kV a pm g c e) ⟨us,[]⟩=pure (ps.zip us)):FX K mg x q st f d ps:=⟨F.F,F.F.binds b,nS X G F.n⟩
theorem fy(F:FM K C x q st f d)(b:∀ (kV a pm:Value) (g:Option Addr) (c e:Value) (us:Lv0),us.length=ps.length->Zz (AC x q (gf st) (c5 st) (ae st) .none kV a pm g c e) ⟨us,[]⟩=pure (ps.zip us)):FY K x q st f d ps:=⟨F.F,F.F.binds b⟩
theorem dH.dn(r:dH k A)(h:autoParam (j<=k) wP):dH j A:=r.mono h
theorem FM.me(F:FM K C x q st f d):Meth K C x f:=⟨F.m,F.i,F.F.kp⟩
end
open PySem PySem.Spec PyProof.Rows
open PySem PySem.Spec PyProof.Rows
theorem G8:∀ {ns:Li0} {us:Lv0},Vals (ns.map V.int) us->∃ ps:List (Int×Tok),us=ps.map (λp=>YL p.1 p.2)/\ps.map (·.1)=ns
 | [],_,.nil=>⟨[],rfl,rfl⟩
 | n::ns,u::us,.cons r h=>by
  obtain⟨ps,b,a⟩:=G8 h;obtain⟨t,rfl⟩:=r;exact⟨(n,t)::ps,by rw[b];rfl,by rw[<- a];rfl⟩
open PySem PySem.Spec PyProof.Rows
section
variable {X:Cx}
def Pf (ta:TA):TI:=λσ H R=>ta σ H λvs H1=>∃ j:Int,vs=[.int 0,.int j]/\0<=j/\j < 2 ^ 62/\R (SQ (j - 1) (-1) j.toNat) H1
theorem Na{b:Expr}{ta:TA}{E d:Pos}(n:Gl X "reversed")(m:X.mg "reversed"=none)(J:Gl X "range")(G:X.mg "range"=none)(L:PA X [a,b] ta)(F:autoParam (ew [a,b] X.env=[(false,eval a X.env),(false,eval b X.env)]) wE)(g:autoParam (ew [b] X.env=[(false,eval b X.env)]) wE)(i:autoParam (ew [.Call (.Name "range" p) [a,b] [] pos] X.env=[(false,eval (.Call (.Name "range" p) [a,b] [] pos) X.env)]) wE) :
  PI X tg (.Call (.Name "reversed" E) [.Call (.Name "range" p) [a,b] [] pos] [] d) (Pf ta):=by
 intro f s v H R I h;refine Call_ (nQ I n m (by decide +kernel:zp "reversed"=some (.type "reversed")) (ro ?_ i rfl));rw[i];show wpAny _ _ (spliced ((false,eval (.Call (.Name "range" p) [a,b] [] pos) X.env)::backTo d [])) _ _ s;refine Yx (Call_ (nQ I J G boot_range (ro (thn (L pos f s v H _ I h) λP c ⟨O,y,N,z,C⟩=>?_) (by rw[F,g]) (by rw[g];rfl))));obtain⟨j,e,D,B,q⟩:=C;subst e;cases z with
 | cons r l=>
 cases l with
 | cons A l=>
 cases l;obtain⟨w,rfl⟩:=r;obtain⟨t,rfl⟩:=A;refine call_range_2 (YE ?_);have u:Inv X f v y { c with heap:=c.heap.push { cls:=.type "range",data:=.fields #[.int 0 w,.int j t,.int 1 c.toks] },toks:=c.toks + 1 }:=N.kept λb o e=>dV _ e;refine tH (ae6 ..) D B ?_;refine Xt (x:=j - 1) (left:=j) (step:=-1) (ks _ rfl) ?_;refine⟨_,_,_,_,y,rfl,u.kept (t':=c.toks + 1) λb o e=>dV _ e,Ea _ (j - 1) (-1) j.toNat,?_,λb K=>?_,q⟩
 .show Zx _ _ (j - 1 + ((0:Nat):Int) * (-1)) (((j.toNat:Nat):Int) - ((0:Nat):Int)) (-1);rw[show j - 1 + ((0:Nat):Int) * (-1)=j - 1 by simp,show ((j.toNat:Nat):Int) - ((0:Nat):Int)=j by simp;lia];exact ks _ rfl
 .have M:b=c.heap.objs.size + 1:=by simpa using K
  have k:(c.heap.push { cls:=.type "range",data:=.fields #[.int 0 w,.int j t,.int 1 c.toks] }).objs.size<=b:=by rw[SG,M];exact ek _
  exact u.za k (u.hok.fresh k)
end
end _2
namespace _3
open PySem _2
def Pd (b:TA3)(Γ:G)(Q:List D->G->Prop):Prop:=b Γ λds a=>∃ j:Int,ds=[.int 0,.int j]/\(0<=j/\j < 2 ^ 62)/\Q (Aa (j - 1) (-1) j.toNat) a
section
variable {X:Cx}
theorem N1{b:Expr}{ta:TA}{m:TA3}{z c:Pos}(i:Gl X "reversed")(h:X.mg "reversed"=none)(D:Gl X "range")(C:X.mg "range"=none)(l:P3A K X [a,b] ta m)(A:autoParam (ew [a,b] X.env=[(false,eval a X.env),(false,eval b X.env)]) wE)(f:autoParam (ew [b] X.env=[(false,eval b X.env)]) wE)(g:autoParam (ew [.Call (.Name "range" p) [a,b] [] pos] X.env=[(false,eval (.Call (.Name "range" p) [a,b] [] pos) X.env)]) wE) :
  P3I K X tg (.Call (.Name "reversed" z) [.Call (.Name "range" p) [a,b] [] pos] [] c) (Pf ta) (Pd m):=⟨Na i h D C l.pe A f g,λB F n H o Q R e q k=>
 l.rf B F n H o _ _ e q λO L Z=>by
  obtain⟨M,d,S,s,J,t,j,I,⟨G,E⟩,y⟩:=Z;subst I;obtain⟨v,N,rfl,x,P,r,rfl,w,u⟩:=t;cases x;cases w;cases u;exact⟨j,rfl,G,E,k _ L M d _ s J Qi y⟩⟩
end
end _3
namespace _2
open PySem PySem.Spec PyProof.Rows
section
variable {X:Cx}
theorem Jk(w:X.calm=true):eO X (.builtin "min") (λxs H Q=>∃ (p:Addr) (ns:Li0),xs=[.ref p]/\H p=some (.lst (ns.map V.int))/\0 < ns.length/\∀ n∈ns,Q (.int n) H):=by
 intro c s A H xs B Q I r h;obtain⟨p,ns,rfl,o,d,q⟩:=h;cases r with
 | cons l j=>
 cases j;cases l;obtain⟨a,i,e⟩:=_3.GH I o;obtain⟨b,z,f⟩:=G8 i;have y:a.toArray=intItems b.toArray:=by rw[z];unfold intItems;simp
 rw[y] at e;refine min_intList (I.ok.hd w) e (by rw[<- f] at d;simpa using d) λv C g m k=>?_;obtain⟨⟨n,t⟩,u,rfl⟩:∃ x∈b,YL x.1 x.2=v:=by
  have:=Array.mem_of_getElem? m;unfold intItems at this;simpa using this
 exact⟨.int n,H,I.kept (t':=g) k,⟨t,rfl⟩,q n (by rw[<- f];exact Ht.mpr ⟨(n,t),u,rfl⟩)⟩
end
end _2
namespace _3
open PySem _2 PySem.Spec
section
variable {X:Cx}
def O7 (ds:List D)(Γ:G)(Q:RV->G->Prop):Prop:=∃ ns:Li0,ds=[.lst (ns.map D.int)]/\0 < ns.length/\∀ n∈ns,Q (.fz (.int n)) Γ
theorem Sq(c:X.calm=true):B3 K X (.builtin "min") (λxs H Q=>∃ (p:Addr) (ns:Li0),xs=[.ref p]/\H p=some (.lst (ns.map V.int))/\0 < ns.length/\∀ n∈ns,Q (.int n) H) O7:=⟨Jk c,by
 intro B F h H i l m Q o e r q k;obtain⟨ns,rfl,a,q⟩:=q;obtain⟨v,rfl,p,j,rfl,f,d⟩:=r.one;have g:=aI.wa d;subst g;exact⟨p,ns,rfl,f,a,λn b=>k _ _ (jQ e (q n b))⟩⟩
end
section
variable {B:Bs}{F:Hp}{H:Hp}{Γ:G}{X:Cx}{S:S3}{te:TE}{e3:TE3}
def LV (S:S3)(e:TE3)(Γ:G)(Q:RV->G->Prop):Prop:=e Γ λr b=>frR r λd=>S [some (.ln d)] λc a=>Q c (aZ [none] b a)
theorem FW{E:XK}(h:Ref K te e3):Ref K (zJ (sp3 K 1 S) [] E (kT te sR)) (LV S e3):=by
 intro B F l H D Q X en q k;refine h B F l H D _ _ en q λG Y Z=>?_;obtain⟨C,a,r,L,A,t,g⟩:=Z;show sp3 K 1 S ([G]++[]) Y X E;rw[td];cases r with
 | fz d=>exact g.elim
 | two _ _=>exact g.elim
 | rws _=>exact g.elim
 | fr d=>
  have g:S [some (.ln d)] λN c=>Q N (aZ [none] a c):=g;have m:=t;obtain⟨y,rfl,_⟩:=m;have v:=A.push t;have u:l.length=a.length:=A.len;have M:bH K C (l++[some (V.ref y)]) [Bo.v a.length] [.ref y]:=⟨_,_,rfl,by rw[<- u];exact iB,rfl⟩;have R:(df [Bo.v a.length]).Nodup:=by
   show [a.length].Nodup;simp
  have W:g4 (a++[some (Sl.ow d)]) ([Bo.v a.length].map some)=[some (.ln d)]:=by
   show [oO (a++[some (Sl.ow d)])[a.length]?]=_;rw[iB];rfl
  refine⟨rfl,C,_,_,_,v.args M R,sQ,by rw[W];exact g,λr c O I H' F' p n=>?_⟩;obtain⟨J,w,i⟩:=v.called p n;have T:c.length=1:=by have:=p.len;rw[<- this];rfl
  have o:(0,y)∈ownOf (a++[some (Sl.ow d)]) (l++[some (V.ref y)]) ([Bo.v a.length].map some):=oi.mpr ⟨a.length,d,rfl,.inl iB,by rw[<- u];exact iB⟩;obtain⟨_,e,f⟩:=p.par 0 y o;obtain rfl:c=[some (.ln e)]:=by
   match c,T,f with
   | [b],_,f=>
    have:b=some (.ln e):=by simpa using f
    rw[this]
  have U:aZ (([Bo.v a.length].map some).map dm) (a++[some (Sl.ow d)]) [some (.ln e)]=aZ [none] a [some (.ln e)]++[some (Sl.ow e)]:=by
   have s:(aZ [none] a [some (.ln e)]).length=a.length:=CO;refine XA λj=>?_;rw[bR];rcases Nat.lt_trichotomy j a.length with z | z | z
   .rw[ef z,ef (by rw[s];exact z),bR]
    congr 2
    show newD [some a.length] [some (.ln e)] j=newD [none] [some (.ln e)] j;simp only[newD];have P:¬ a.length=j:=by lia
    simp only[P,if_false]
   .subst z;rw[iB,<- s,iB];show Option.map (fc (newD [some _] [some (.ln e)] _)) _=_;simp only[newD,if_true]
    rfl
   .rw[ox (by simp;lia),ox (by rw[bS,s];simp;lia)]
    rfl
  rw[U] at w i;obtain⟨x,_⟩:=w.pop;exact k I H' ⟨F',_,r,L.trans J,x,qF.pop i x.len,O⟩
theorem Iz(m:X.K=K)(F:aB X.prog X.w X.K X.mg X.base CX0 k f fd ps (sp3 K 1 S))(g:dH k X.A)(j:Gl X x)(h:X.mg x=some (.ref f))(i:mC X.K (.ref f)=true)(l:Binds X.K fd ps [])(e:P3 K X a te e3)(c:autoParam ((x == ("__debug__":Str))=false) wP)(d:autoParam (ew [a] X.env=(false,eval a X.env)::ew [] X.env) wE)(b:autoParam ((backTo pos (ew ([]:List Expr) X.env)).any (·.1)=false) wE) :
  P3 K X (.Call (.Name x p) [a] [] pos) (zJ (sp3 K 1 S) [] E0 (kT te sR)) (LV S e3):=
 ⟨Hk F g j h i l .nil Ae (iq e.pe rh d) c d b,FW e.rf⟩
end
end _3
set_option maxHeartbeats 4000000
namespace _k
open PySem _2 _3
local macro_rules|`(tactic|walk_at "s0")=>`(tactic|exact ⟨rfl,rfl,rfl,by decide +kernel,rfl,by decide +kernel,by decide +kernel⟩)
local macro_rules|`(tactic|walk_at "s1")=>`(tactic|exact ⟨rfl,by decide +kernel,by decide +kernel,by decide +kernel,by decide +kernel,rfl,by decide +kernel⟩)
theorem WO{n:Option D}:fc n none=none:=rfl
theorem WK{n:Option D}{d:D}:fc n (some (.fz d))=some (.fz d):=rfl
theorem WL{n:Option D}{d:D}:fc n (some (.ow d))=some (.ow (n.getD d)):=rfl
theorem WQ{n:Option D}{d:D}:fc n (some (.ln d))=some (.ln (n.getD d)):=rfl
theorem WN{n:Option D}{s:Option D}:fc n (fo s)=fo s:=by cases s <;> rfl
noncomputable def uR:G->Bool
 | []=>true
 | some (.ln _)::_=>false
 | _::Γ=>uR Γ
theorem Ra:uR []=true:=rfl
theorem Wb{Γ:G}:uR (none::Γ)=uR Γ:=rfl
theorem V9{Γ:G}{d:D}:uR (some (.fz d)::Γ)=uR Γ:=rfl
theorem V_{Γ:G}{d:D}:uR (some (.ow d)::Γ)=uR Γ:=rfl
theorem Wa{Γ:G}{s:Option D}:uR (fo s::Γ)=uR Γ:=by cases s <;> rfl
theorem Dx:∀ {cs:G} {k:Nat} {d:D},uR cs=true->cs[k]?≠some (some (Sl.ln d))
 | [],_,_,_,h=>by simp at h
 | s::cs,0,d,a,h=>by
  simp at h;subst h;cases a
 | s::cs,k + 1,d,a,h=>by
  have b:uR cs=true:=by
   cases s with
   | none=>exact a
   | some s=>cases s with
    | fz _=>exact a
    | ow _=>exact a
    | ln _=>cases a
  exact Dx (cs:=cs) (k:=k) b (by simpa using h)
theorem G0{ls:On}{Γ cs:G}(h:uR cs=true):aZ ls Γ cs=Γ:=by
 apply XA;intro j;rw[bR];have:newD ls cs j=none:=by
  cases q:newD ls cs j with
  | none=>rfl
  | some d=>
   obtain⟨k,_,b⟩:=kK q;exact absurd b (Dx h)
 rw[this];cases Γ[j]? with
 | none=>rfl
 | some s=>cases s with
  | none=>rfl
  | some s=>cases s <;> rfl
theorem IH{ls:On}{cs:G}(h:uR cs=true):newD ls cs j=none:=by
 cases q:newD ls cs j with
 | none=>rfl
 | some d=>
  obtain⟨k,_,b⟩:=kK q;exact absurd b (Dx h)
theorem Ve{c:TI3}{g3:TG3}{e:TS3}{D:E3}{Γ:G}{g:Tag (c,g3,e)}{f:Tag D}:R9 c g3 e D Γ g f=(c Γ λxs b=>∃ a:Nat->G->Prop,a 0 b/\(∀ k d Γ,xs[k]?=some d->a k Γ->g3 d Γ λΓ'=>e { D with nx:=a (k + 1),ct:=a (k + 1),bk:=D.nx } Γ')/\∀ Γ,a xs.length Γ->D.nx Γ):=rfl
inductive Lt where
 | r | p | b
deriving DecidableEq
noncomputable def Lt.c:Lt->Nat
 | .r=>114 | .p=>112 | .b=>98
noncomputable def Lt.s (l:Lt):Str:=sgn l.c
theorem Lt.sr:Lt.s .r=("r":Str):=by decide +kernel
theorem Lt.sp:Lt.s .p=("p":Str):=by decide +kernel
theorem Lt.sb:Lt.s .b=("b":Str):=by decide +kernel
noncomputable def wy (ls:List Lt):Str:=⟨(ls.map Lt.c).toArray⟩
theorem D_(ls:List Lt):signs (wy ls)=ls.map λl=>D.str l.s:=by
 unfold signs wy;rw[nr]
 rfl
theorem PL(ls:List Lt):asc (wy ls)=true:=by
 unfold asc wy;rw[Array.all_eq_true_iff_forall_mem];intro x a;simp only[List.mem_toArray,Ht] at a;obtain⟨l,_,rfl⟩:=a;cases l <;> decide
theorem cz(ls:List Lt):(wy ls).length=ls.length:=by simp [Str.length,wy]
noncomputable def nh (l:Lt)(h:Int):Int:=if l=.r then h else (h + 1) / 2
noncomputable def nw (l:Lt)(w:Int):Int:=if l=.p then w else (w + 1) / 2
noncomputable def qy (h w:Int):List Lt->List (Int×Int)
 | []=>[(h,w)]
 | l::ls=>(h,w)::qy (nh l h) (nw l w) ls
theorem wQ (h w:Int):∀ ls:List Lt,(qy h w ls).length=ls.length + 1
 | []=>rfl
 | l::ls=>by rw[qy,tx,wQ];rfl
noncomputable def cD (c:Int×Int):D:=.tup [.int c.1,.int c.2]
def Can (l:Lt)(h w:Int):Prop:=(l≠.p->2<=w)/\(l≠.r->2<=h)
noncomputable def Good (h w:Int):List Lt->Prop
 | []=>True
 | l::ls=>Can l h w/\Good (nh l h) (nw l w) ls
structure D8 (h w:Int):Prop where
 h1:1<=h
 w1:1<=w
 h2:h<=64
 w2:w<=64
 m:h * w<=512
noncomputable def cat (h w:Int)(ls:List Lt)(k:Nat):Int×Int:=(qy h w ls).getD k (0,0)
theorem HQ{h w:Int}{ls:List Lt}(a:k<=ls.length):(qy h w ls)[k]?=some (cat h w ls k):=by
 unfold cat
 have:k < (qy h w ls).length:=by rw[wQ];lia
 rw[hP,gE0 this];rfl
theorem Vr{h w:Int}{ls:List Lt}(a:k<=ls.length):((qy h w ls).map cD)[k]?=some (cD (cat h w ls k)):=by rw[cm,HQ a];rfl
theorem yG(h w:Int)(ls:List Lt):cat h w ls 0=(h,w):=by cases ls <;> rfl
theorem Fs{h w:Int}{l:Lt}{ls:List Lt}:cat h w (l::ls) (k + 1)=cat (nh l h) (nw l w) ls k:=rfl
theorem Bf:∀ {ls:List Lt} {h w:Int} {k:Nat} {l:Lt},ls[k]?=some l->cat h w ls (k + 1)=(nh l (cat h w ls k).1,nw l (cat h w ls k).2)
 | [],_,_,k,l,e=>by simp at e
 | l0::ls,h,w,0,l,e=>by
  have:l0=l:=by simpa using e
  subst this;rw[Fs,yG,yG]
 | l0::ls,h,w,k + 1,l,e=>by
  rw[Fs,Fs];exact Bf (by simpa using e)
theorem wc:∀ {ls:List Lt} {h w:Int} {k:Nat} {l:Lt},Good h w ls->ls[k]?=some l->Can l (cat h w ls k).1 (cat h w ls k).2
 | [],_,_,k,l,_,e=>by simp at e
 | l0::ls,h,w,0,l,g,e=>by
  have:l0=l:=by simpa using e
  subst this;rw[yG];exact g.1
 | l0::ls,h,w,k + 1,l,g,e=>by
  rw[Fs];exact wc g.2 (by simpa using e)
theorem Oj{l:Lt}{h w:Int}(c:Can l h w)(b:1<=h)(a:1<=w):1<=nh l h/\1<=nw l w/\nh l h<=h/\nw l w<=w:=by
 cases l <;> simp [nh,nw] <;> lia
theorem DO:∀ {ls:List Lt} {h w:Int} {k:Nat},Good h w ls->1<=h->1<=w->k<=ls.length->1<=(cat h w ls k).1/\1<=(cat h w ls k).2/\(cat h w ls k).1<=h/\(cat h w ls k).2<=w
 | ls,h,w,0,_,i,e,_=>by rw[yG];exact⟨i,e,Int.le_refl _,Int.le_refl _⟩
 | [],_,_,k + 1,_,_,_,f=>by simp at f
 | l::ls,h,w,k + 1,g,i,e,f=>by
  rw[Fs];obtain⟨a,b,c,d⟩:=Oj g.1 i e;obtain⟨o,n,m,j⟩:=DO (k:=k) g.2 a b (by simpa using f);exact⟨o,n,ab2 m c,ab2 j d⟩
theorem D0{h w:Int}{ls:List Lt}(a:k<=ls.length):atI ((qy h w ls).map cD) (k:Int)=some (cD (cat h w ls k)):=dA (by lia) (by rw[ky];exact Vr a)
theorem UD{l:Lt}:inV (V.str l.s) [V.str "r",V.str "b"]=!(l == .p):=by cases l <;> decide +kernel
theorem UE{l:Lt}:inV (V.str l.s) [V.str "p",V.str "b"]=!(l == .r):=by cases l <;> decide +kernel
theorem UA{l:Lt}{Γ:G}{Q:RV->G->Prop}:in3 false (.str l.s) (kt ["r","b"]) Γ Q=Q (.fz (.bl (!(l == .p)))) Γ:=by
 refine propext ⟨λ⟨a,b,_,_,q⟩=>?_,λq=>⟨_,rfl,rfl,rfl,?_⟩⟩
 .have e:a=[D.str "r",D.str "b"]:=(ov b).symm;subst e;have q:Q (.fz (.bl (inV (V.str l.s) [V.str "r",V.str "b"]))) Γ:=q;rw[UD] at q;exact q
 .show Q (.fz (.bl (inV (V.str l.s) [V.str "r",V.str "b"]))) Γ;rw[UD];exact q
theorem UB{l:Lt}{Γ:G}{Q:RV->G->Prop}:in3 false (.str l.s) (kt ["p","b"]) Γ Q=Q (.fz (.bl (!(l == .r)))) Γ:=by
 refine propext ⟨λ⟨a,b,_,_,q⟩=>?_,λq=>⟨_,rfl,rfl,rfl,?_⟩⟩
 .have e:a=[D.str "p",D.str "b"]:=(ov b).symm;subst e;have q:Q (.fz (.bl (inV (V.str l.s) [V.str "p",V.str "b"]))) Γ:=q;rw[UE] at q;exact q
 .show Q (.fz (.bl (inV (V.str l.s) [V.str "p",V.str "b"]))) Γ;rw[UE];exact q
theorem L8{b a:Type}{f:b->a}{xs:List b}{i:Int}{c:a}(e:atI (xs.map f) i=some c):∃ l,atI xs i=some l/\c=f l:=by
 unfold _2.atI at e ⊢;rw[lM0] at e;cases q:ixN xs.length i with
 | none=>rw[q] at e;cases e
 | some j=>
  rw[q] at e;have e:(xs.map f)[j]?=some c:=e;rw[cm] at e;cases z:xs[j]? with
  | none=>rw[z] at e;cases e
  | some l=>rw[z] at e;cases e;exact⟨l,z,rfl⟩
def PM (ls:List Lt)(i:Int)(k:Lt->Prop)(_:Tag k):Prop:=(wy ls).length<=sizeLine/\∃ l,atI ls i=some l/\k l
theorem Uv{ls:List Lt}{i:Int}{Γ:G}{Q:RV->G->Prop}:ix3 (.str (wy ls)) (.int i) Γ Q=PM ls i (λl=>Q (.fz (.str l.s)) Γ) ⟨⟩:=by
 refine propext ⟨λ⟨b,c,a,q⟩=>⟨b,?_⟩,λ⟨b,l,a,q⟩=>⟨b,l.c,?_,q⟩⟩
 .obtain⟨l,d,rfl⟩:=L8 (f:=Lt.c) (xs:=ls) (by simpa [wy] using a);exact⟨l,d,q⟩
 .have:=HW (f:=Lt.c) a;simpa [wy] using this
theorem atL{ls:List Lt}{l:Lt}(h:ls[k]?=some l):atI ls (k:Int)=some l:=dA (by lia) (by rw[ky];exact h)
theorem sEr{l:Lt}:(l.s == ("r":Str))=(l == .r):=by cases l <;> decide +kernel
theorem sEp{l:Lt}:(l.s == ("p":Str))=(l == .p):=by cases l <;> decide +kernel
theorem WB{a b c d e f:D}:cut [a,b,c,d,e,f] (some 2) none=[c,d,e,f]:=rfl
theorem Wh:(("corners":Str) == ("chosen":Str))=false:=by decide +kernel
theorem Wf:(("letters":Str) == ("chosen":Str))=false:=by decide +kernel
theorem Wd:(("letters":Str) == ("corners":Str))=false:=by decide +kernel
theorem Ug:(Lt.r == Lt.r)=true:=rfl
theorem Uh:(Lt.r == Lt.p)=false:=rfl
theorem Uj:(Lt.p == Lt.r)=false:=rfl
theorem Uk:(Lt.p == Lt.p)=true:=rfl
theorem Um:(Lt.b == Lt.r)=false:=rfl
theorem Uo:(Lt.b == Lt.p)=false:=rfl
theorem Ui:(Lt.r == Lt.b)=false:=rfl
theorem Ul:(Lt.p == Lt.b)=false:=rfl
theorem Up:(Lt.b == Lt.b)=true:=rfl
theorem VF{c:Bool}{x y:D}:atI [x,y] (if c=true then 1 else 0)=some (if c=true then y else x):=by cases c <;> rfl
set_option bootstrap.genMatcherCode true in
def mkL(s:String):Lean.MacroM (Array (Lean.TSyntax [`Lean.Parser.Tactic.simpStar,`Lean.Parser.Tactic.simpErase,`Lean.Parser.Tactic.simpLemma])):=do
 let mut xs:=#[]
 for w in s.splitOn " " do
  let n:=(w.dropWhile (·=='↓')).toString.toName
  let i:=match (<-Lean.Macro.resolveGlobalName n) with
   |(c,[])::_=>Lean.mkCIdent c
   |_=>Lean.mkIdent n
  let t<-if w.startsWith "↓" then `(Lean.Parser.Tactic.simpLemma|↓$i:ident) else `(Lean.Parser.Tactic.simpLemma|$i:ident)
  xs:=xs.push ⟨t.raw⟩
 return xs
set_option bootstrap.genMatcherCode true in
local macro_rules | `(tactic| walk_at "w")=>do `(tactic| try simp -dsimp only [$(<-mkL "i4 WH WE WG WC WD V6 V5 VY Wl Wj TZ T2 TY T1 Vb Vd U9 U_ Vc OD OC OB NA NC cond_false Nat.reduceBEq Uq T9 S5 U1 U2 List.length_cons List.length_nil Nat.reduceAdd Nat.reduceSub Nat.zero_add List.replicate List.cons_append List.nil_append List.append_nil ↓Pn ↓La ↓Pm ↓UQ ↓RS ↓UU ↓WR ↓WS ↓WI ↓WJ TU ↓RK ↓P7 ↓P6 zm ↓UX ↓UY ↓Oo ↓N4 ↓RQ ↓Pk ↓Wz ↓Wy ↓RT ↓US ↓h_c Hb Mp ↓UP ↓U0 ↓Ww ↓UR PF T4 ↓UT ↓UO Gat Bo.at ats RV.d RV.sl OK i2 i2' Oi ↓Uy ↓Uw NN NJ NI NK Rk NT mx3 SJ RD Rb R6 R8 R3 R4 R7 sl3 Th ↓RP ↓RJ KZ AJ FG is3 knD dB dI dL dT ↓UZ Ho beq_self_eq_true Hf Lj List.zip_cons_cons List.lookup_cons List.lookup_nil ↓MA KQ AL ↓Rh N_ ↓UL Nz dS Tj RV.fz.injEq ↓Mz eZ putD tgN tgT iL3 iR1 iZ3 iE3 lz3 SH ↓Om ↓Oh ↓LJ ↓R_ List.isEmpty_nil List.isEmpty_cons ↓RU ↓N6 Sd Se ↓UW ↓Rg g4 D4 oO df dm Option.bind_some Option.bind_none List.nodup_nil List.nodup_cons List.getElem?_cons_zero List.getElem?_cons_succ List.getElem?_nil List.set_cons_zero List.set_cons_succ exists_eq_left' exists_eq_left exists_eq' exists_eq exists_and_left exists_and_right Option.some.injEq D.int.injEq D.lst.injEq D.str.injEq D.tup.injEq D.bl.injEq D.ins.injEq D.ty.injEq List.cons.injEq and_true true_and and_false false_and true_or false_or or_false or_true and_assoc List.not_mem_nil not_false_eq_true Fm Ot Oe Vi Vh Vj Fi Bool.false_xor Bool.not_true Bool.not_false Bool.true_xor Nat.reduceLT decide_true L1 L4 L5 ite_self Option.getD_some Option.getD_none VJ VI VH VG RB RA Rz if_pos if_true if_false List.all_cons List.all_nil Option.isNone_none Bool.and_true Bool.true_and decide_eq_true_eq not_true not_false_iff reduceCtorEq eq_self Bool.false_eq_true reduceIte Int.reduceEq WO WK WL WQ WN S4 OQ frL O4 iT3 Nat.reduceEqDiff RC ↓fz3 D.adr.injEq Qj PY ↓Og ↓N5 ↓RN SI Qf VW ↓RW ↓RM ↓Wv ↓Uv sEr sEp WB ↓UA ↓UB Wh Wf Wd Ug Uh Uj Uk Um Uo Ui Ul Up VF Tg ext3 Hq Hf ↓G0 Ra Wb V9 V_ Wa Pd O7"),*])
noncomputable def top (i:Nat):Stmt:=XI.main.body.getD i (.Pass ⟨0,0,0,0⟩)
noncomputable abbrev uH:Stmt:=top 17
noncomputable abbrev qQ:Stmt:=top 18
noncomputable abbrev vp:Stmt:=top 19
noncomputable abbrev pb:Stmt:=top 20
noncomputable abbrev xr:Stmt:=top 21
noncomputable abbrev h9:Stmt:=top 22
noncomputable abbrev uF:Stmt:=top 24
noncomputable abbrev sD:Stmt:=top 25
noncomputable abbrev qX:Stmt:=inClass (top 26) 0
noncomputable abbrev nA:Stmt:=inClass (top 26) 1
noncomputable abbrev qY:Stmt:=inClass (top 26) 2
noncomputable abbrev ny:Stmt:=inClass (top 26) 3
noncomputable abbrev nz:Stmt:=inClass (top 26) 4
noncomputable abbrev ij:Stmt:=inClass (top 26) 5
noncomputable abbrev nv:Stmt:=inClass (top 26) 6
noncomputable abbrev gL:Stmt:=inClass (top 26) 7
noncomputable abbrev gM:Stmt:=inClass (top 26) 8
noncomputable abbrev kY:Stmt:=inClass (top 26) 9
noncomputable abbrev kZ:Stmt:=inClass (top 26) 10
noncomputable abbrev nD:Stmt:=inClass (top 27) 0
noncomputable abbrev fE:Stmt:=inClass (top 27) 1
noncomputable abbrev fF:Stmt:=inClass (top 27) 2
noncomputable abbrev i5:Stmt:=inClass (top 27) 3
noncomputable abbrev i6:Stmt:=inClass (top 27) 4
noncomputable abbrev FU:Stmt:=top 29
noncomputable abbrev C9:Stmt:=top 30
noncomputable abbrev sC:Stmt:=top 31
noncomputable abbrev zu:Stmt:=top 32
noncomputable abbrev zv:Stmt:=top 33
noncomputable abbrev k8:Stmt:=inClass (top 34) 0
noncomputable abbrev dR:Stmt:=inClass (top 34) 1
noncomputable abbrev dU:Stmt:=inClass (top 34) 2
noncomputable abbrev k7:Stmt:=inClass (top 35) 0
noncomputable abbrev fV:Stmt:=inClass (top 35) 1
noncomputable abbrev fW:Stmt:=inClass (top 35) 2
noncomputable abbrev qT:Stmt:=top 36
noncomputable abbrev xq:Stmt:=top 37
noncomputable abbrev ik:Stmt:=inClass (top 39) 0
noncomputable abbrev fB:Stmt:=inClass (top 39) 1
noncomputable abbrev cg:Stmt:=inClass (top 39) 2
noncomputable abbrev dQ:Stmt:=inClass (top 39) 3
noncomputable abbrev c6:Stmt:=inClass (top 39) 4
noncomputable abbrev c7:Stmt:=inClass (top 39) 5
noncomputable abbrev gP:Stmt:=inClass (top 40) 0
noncomputable abbrev cV:Stmt:=inClass (top 40) 1
noncomputable abbrev cW:Stmt:=inClass (top 40) 2
noncomputable abbrev gk:Stmt:=inClass (top 41) 0
noncomputable abbrev bF:Stmt:=inClass (top 41) 1
noncomputable abbrev gN:Stmt:=inClass (top 42) 0
noncomputable abbrev cF:Stmt:=inClass (top 42) 1
noncomputable abbrev o_:Stmt:=top 43
noncomputable abbrev kX:Stmt:=top 45
noncomputable abbrev fX:Stmt:=inClass (top 46) 0
noncomputable abbrev k9:Stmt:=inClass (top 46) 1
noncomputable abbrev nE:Stmt:=inClass (top 46) 2
noncomputable abbrev kr:Stmt:=inClass (top 46) 3
noncomputable abbrev ku:Stmt:=inClass (top 46) 4
noncomputable abbrev ip:Stmt:=inClass (top 46) 5
noncomputable abbrev i7:Stmt:=inClass (top 46) 6
noncomputable abbrev uM:Stmt:=inClass (top 46) 7
noncomputable abbrev xp:Stmt:=top 50
noncomputable abbrev m_:Stmt:=top 51
noncomputable abbrev o9:Stmt:=top 52
noncomputable abbrev kW:Stmt:=top 53
noncomputable abbrev jN:Stmt:=top 54
noncomputable abbrev jO:Stmt:=top 55
noncomputable abbrev qS:Stmt:=top 59
noncomputable abbrev o8:Stmt:=top 60
noncomputable abbrev jP:Stmt:=inClass (top 62) 0
noncomputable abbrev nB:Stmt:=inClass (top 62) 1
noncomputable abbrev pv:Stmt:=inClass (top 62) 2
noncomputable abbrev qZ:Stmt:=inClass (top 62) 3
noncomputable abbrev uL:Stmt:=inClass (top 62) 4
noncomputable abbrev pA:Stmt:=inClass (top 62) 5
noncomputable abbrev nC:Stmt:=inClass (top 62) 6
noncomputable abbrev vo:Stmt:=top 64
noncomputable abbrev qR:Stmt:=top 65
noncomputable abbrev uG:Stmt:=top 66
noncomputable abbrev kq:Stmt:=top 67
noncomputable abbrev mw:Stmt:=top 68
noncomputable abbrev o7:Stmt:=top 69
noncomputable abbrev m9:Stmt:=top 70
noncomputable abbrev qP:Stmt:=top 71
noncomputable abbrev o6:Stmt:=top 72
noncomputable abbrev fA:Stmt:=top 73
noncomputable abbrev uE:Stmt:=top 74
noncomputable abbrev eD:Stmt:=top 75
noncomputable abbrev hZ:Stmt:=top 78
noncomputable abbrev qV:Stmt:=top 80
noncomputable abbrev uK:Stmt:=top 81
noncomputable abbrev qU:Stmt:=top 82
noncomputable abbrev uJ:Stmt:=top 83
noncomputable abbrev uI:Stmt:=top 84
noncomputable abbrev pj:Stmt:=top 85
noncomputable abbrev ph:Stmt:=top 86
noncomputable abbrev mx:Stmt:=top 87
noncomputable abbrev pq:Stmt:=top 88
noncomputable abbrev jt:Stmt:=top 89
noncomputable abbrev nu:Stmt:=top 90
noncomputable abbrev ig:Stmt:=top 91
noncomputable abbrev nk:Stmt:=top 92
noncomputable abbrev jr:Stmt:=top 93
noncomputable abbrev h_:Stmt:=top 94
noncomputable abbrev J1:Stmt:=top 95
theorem Er:ao ["thing","low","high"] ["thing","low","high"] (ae uH):=by walk_at "s0"
theorem C1:ao ["thing"] ["thing"] (ae qQ):=by walk_at "s0"
theorem Ii:ao ["thing","least"] ["thing","least"] (ae vp):=by walk_at "s0"
noncomputable def zh:Scope:={ kind:=.function,names:=[(".0",.local),("number",.local),("is_number",.globalImplicit)],isGenerator:=false,isCoroutine:=false,more:=[] }
theorem wY:Blk ["thing","least"] (ae vp) zh ["number"] [none]:=by walk_at "s1"
theorem BA:ao ["sums","differences"] ["sums","differences"] (ae pb):=by walk_at "s0"
theorem FQ:ao ["height","width"] ["height","width"] (ae xr):=by walk_at "s0"
theorem uC:ao ["thing","height","width"] ["thing","height","width"] (ae h9):=by walk_at "s0"
theorem Ep:ao ["row"] ["row"] (ae uF):=by walk_at "s0"
theorem FT:ao ["row"] ["row"] (ae sD):=by walk_at "s0"
noncomputable def xX:Scope:={ kind:=.function,names:=[(".0",.local),("first",.local),("second",.local)],isGenerator:=false,isCoroutine:=false,more:=[] }
theorem nX:Blk ["row"] (ae sD) xX ["first","second"] [none,none]:=by walk_at "s1"
theorem C6:ao ["self"] ["self"] (ae qX):=by walk_at "s0"
theorem zW:ao ["self","row"] ["self","row"] (ae nA):=by walk_at "s0"
theorem C7:ao ["self","sums","differences"] ["self","sums","differences"] (ae qY):=by walk_at "s0"
theorem zU:ao ["self","row"] ["self","row"] (ae ny):=by walk_at "s0"
theorem zV:ao ["self","sums","differences"] ["self","sums","differences"] (ae nz):=by walk_at "s0"
theorem pY:ao ["self","row","sums"] ["self","row"] (ae ij):=by walk_at "s0"
noncomputable def qD:Scope:={ kind:=.function,names:=[(".0",.local),("first",.local),("second",.local),("self",.free)],isGenerator:=false,isCoroutine:=false,more:=[] }
theorem gU:Blk ["self","row","sums"] (ae ij) qD ["first","second","self"] [none,none,some 0]:=by walk_at "s1"
theorem hU:ao ["self","sums","gaps","row","total","gap"] ["self","sums","gaps"] (ae nv):=by walk_at "s0"
theorem sS:ao ["self","first","second"] ["self","first","second"] (ae gL):=by walk_at "s0"
theorem sU:ao ["self","number"] ["self","number"] (ae gM):=by walk_at "s0"
theorem pZ:ao ["self","total","gap","first"] ["self","total","gap"] (ae kY):=by walk_at "s0"
theorem yP:ao ["self","total"] ["self","total"] (ae kZ):=by walk_at "s0"
theorem zZ:ao ["self"] ["self"] (ae nD):=by walk_at "s0"
theorem qp:ao ["self","first","second"] ["self","first","second"] (ae fE):=by walk_at "s0"
theorem qr:ao ["self","number"] ["self","number"] (ae fF):=by walk_at "s0"
theorem mv:ao ["self","total","gap","first"] ["self","total","gap"] (ae i5):=by walk_at "s0"
theorem vj:ao ["self","total"] ["self","total"] (ae i6):=by walk_at "s0"
theorem MC:ao ["numbers","at"] ["numbers","at"] (ae FU):=by walk_at "s0"
theorem vh:ao ["firsts","seconds","row","first","second"] ["firsts","seconds"] (ae C9):=by walk_at "s0"
theorem FR:ao ["firsts","many"] ["firsts","many"] (ae sC):=by walk_at "s0"
noncomputable def xW:Scope:={ kind:=.function,names:=[(".0",.local),("at",.local),("near",.globalImplicit),("firsts",.free)],isGenerator:=false,isCoroutine:=false,more:=[] }
theorem uv:Blk ["firsts","many"] (ae sC) xW ["at","firsts"] [none,some 0]:=by walk_at "s1"
theorem JX:ao ["differences","many"] ["differences","many"] (ae zu):=by walk_at "s0"
noncomputable def Bl:Scope:={ kind:=.function,names:=[(".0",.local),("at",.local),("near",.globalImplicit),("differences",.free)],isGenerator:=false,isCoroutine:=false,more:=[] }
theorem yH:Blk ["differences","many"] (ae zu) Bl ["at","differences"] [none,some 0]:=by walk_at "s1"
theorem JY:ao ["sums","many"] ["sums","many"] (ae zv):=by walk_at "s0"
noncomputable def Bm:Scope:={ kind:=.function,names:=[(".0",.local),("at",.local),("near",.globalImplicit),("sums",.free)],isGenerator:=false,isCoroutine:=false,more:=[] }
theorem yI:Blk ["sums","many"] (ae zv) Bm ["at","sums"] [none,some 0]:=by walk_at "s1"
theorem yR:ao ["self"] ["self"] (ae k8):=by walk_at "s0"
theorem eW:ao ["self","row","firsts","seconds","differences","sums"] ["self","row"] (ae dR):=by walk_at "s0"
noncomputable def oH:Scope:={ kind:=.function,names:=[(".0",.local),("first",.local),("lift",.local)],isGenerator:=false,isCoroutine:=false,more:=[] }
theorem fM:Blk ["self","row","firsts","seconds","differences","sums"] (ae dR) oH ["first","lift"] [none,none]:=by walk_at "s1"
noncomputable def oG:Scope:={ kind:=.function,names:=[(".0",.local),("second",.local),("guess",.local)],isGenerator:=false,isCoroutine:=false,more:=[] }
theorem fL:Blk ["self","row","firsts","seconds","differences","sums"] (ae dR) oG ["second","guess"] [none,none]:=by walk_at "s1"
theorem hV:ao ["self","sums","differences","firsts","seconds"] ["self","sums","differences"] (ae dU):=by walk_at "s0"
noncomputable def oK:Scope:={ kind:=.function,names:=[(".0",.local),("less",.local),("guess",.local)],isGenerator:=false,isCoroutine:=false,more:=[] }
theorem fO:Blk ["self","sums","differences","firsts","seconds"] (ae dU) oK ["less","guess"] [none,none]:=by walk_at "s1"
noncomputable def oJ:Scope:={ kind:=.function,names:=[(".0",.local),("total",.local),("lift",.local)],isGenerator:=false,isCoroutine:=false,more:=[] }
theorem fN:Blk ["self","sums","differences","firsts","seconds"] (ae dU) oJ ["total","lift"] [none,none]:=by walk_at "s1"
theorem yQ:ao ["self"] ["self"] (ae k7):=by walk_at "s0"
theorem mq:ao ["self","row","sums","gaps"] ["self","row"] (ae fV):=by walk_at "s0"
noncomputable def oE:Scope:={ kind:=.function,names:=[(".0",.local),("gap",.local),("lean",.local)],isGenerator:=false,isCoroutine:=false,more:=[] }
theorem fJ:Blk ["self","row","sums","gaps"] (ae fV) oE ["gap","lean"] [none,none]:=by walk_at "s1"
theorem mr:ao ["self","sums","differences","gaps"] ["self","sums","differences"] (ae fW):=by walk_at "s0"
noncomputable def oF:Scope:={ kind:=.function,names:=[(".0",.local),("less",.local),("lean",.local)],isGenerator:=false,isCoroutine:=false,more:=[] }
theorem fK:Blk ["self","sums","differences","gaps"] (ae fW) oF ["less","lean"] [none,none]:=by walk_at "s1"
theorem C4:ao [] [] (ae qT):=by walk_at "s0"
theorem zQ:ao ["word","rule"] ["word"] (ae xq):=by walk_at "s0"
theorem uD:ao ["self"] ["self"] (ae ik):=by walk_at "s0"
theorem qo:ao ["self","sums","differences"] ["self","sums","differences"] (ae fB):=by walk_at "s0"
theorem dP:ao ["self","sums","differences","gaps","errors"] ["self","sums","differences"] (ae cg):=by walk_at "s0"
noncomputable def jI:Scope:={ kind:=.function,names:=[(".0",.local),("total",.local),("self",.free)],isGenerator:=false,isCoroutine:=false,more:=[] }
theorem fI:Blk ["self","sums","differences","gaps","errors"] (ae cg) jI ["total","self"] [none,some 0]:=by walk_at "s1"
noncomputable def jH:Scope:={ kind:=.function,names:=[(".0",.local),("total",.local),("gap",.local),("self",.free)],isGenerator:=false,isCoroutine:=false,more:=[] }
theorem c_:Blk ["self","sums","differences","gaps","errors"] (ae cg) jH ["total","gap","self"] [none,none,some 0]:=by walk_at "s1"
theorem m8:ao ["self","sums","differences"] ["self","sums","differences"] (ae dQ):=by walk_at "s0"
theorem kn:ao ["self","total","gap"] ["self","total","gap"] (ae c6):=by walk_at "s0"
theorem ko:ao ["self","total"] ["self","total"] (ae c7):=by walk_at "s0"
theorem sW:ao ["self"] ["self"] (ae gP):=by walk_at "s0"
theorem jL:ao ["self","total","gap"] ["self","total","gap"] (ae cV):=by walk_at "s0"
theorem jM:ao ["self","total"] ["self","total"] (ae cW):=by walk_at "s0"
theorem qN:ao ["self"] ["self"] (ae gk):=by walk_at "s0"
theorem dh:ao ["self","sums","differences","firsts","seconds"] ["self","sums","differences"] (ae bF):=by walk_at "s0"
noncomputable def iL:Scope:={ kind:=.function,names:=[(".0",.local),("at",.local),("less",.local),("near",.globalImplicit),("firsts",.free)],isGenerator:=false,isCoroutine:=false,more:=[] }
theorem cQ:Blk ["self","sums","differences","firsts","seconds"] (ae bF) iL ["at","less","firsts"] [none,none,some 3]:=by walk_at "s1"
noncomputable def iK:Scope:={ kind:=.function,names:=[(".0",.local),("at",.local),("total",.local),("near",.globalImplicit),("differences",.free)],isGenerator:=false,isCoroutine:=false,more:=[] }
theorem cP:Blk ["self","sums","differences","firsts","seconds"] (ae bF) iK ["at","total","differences"] [none,none,some 2]:=by walk_at "s1"
theorem sV:ao ["self"] ["self"] (ae gN):=by walk_at "s0"
theorem lY:ao ["self","sums","differences"] ["self","sums","differences"] (ae cF):=by walk_at "s0"
noncomputable def iJ:Scope:={ kind:=.function,names:=[(".0",.local),("at",.local),("less",.local),("near",.globalImplicit),("sums",.free)],isGenerator:=false,isCoroutine:=false,more:=[] }
theorem cM:Blk ["self","sums","differences"] (ae cF) iJ ["at","less","sums"] [none,none,some 1]:=by walk_at "s1"
theorem tS:ao ["word","carrier"] ["word"] (ae o_):=by walk_at "s0"
theorem x5:ao ["thing","width"] ["thing"] (ae kX):=by walk_at "s0"
noncomputable def w6:Scope:={ kind:=.function,names:=[(".0",.local),("row",.local),("len",.globalImplicit),("width",.free)],isGenerator:=false,isCoroutine:=false,more:=[] }
theorem sg:Blk ["thing","width"] (ae kX) w6 ["row","width"] [none,some 1]:=by walk_at "s1"
noncomputable def w5:Scope:={ kind:=.function,names:=[(".0",.local),("row",.local),("is_row",.globalImplicit)],isGenerator:=false,isCoroutine:=false,more:=[] }
theorem sf:Blk ["thing","width"] (ae kX) w5 ["row"] [none]:=by walk_at "s1"
theorem vn:ao ["self","rows"] ["self","rows"] (ae fX):=by walk_at "s0"
noncomputable def oN:Scope:={ kind:=.function,names:=[(".0",.local),("row",.local),("tuple",.globalImplicit)],isGenerator:=false,isCoroutine:=false,more:=[] }
theorem jJ:Blk ["self","rows"] (ae fX) oN ["row"] [none]:=by walk_at "s1"
theorem yT:ao ["self"] ["self"] (ae k9):=by walk_at "s0"
theorem z7:ao ["self"] ["self"] (ae nE):=by walk_at "s0"
theorem BF:ao ["self"] ["self"] (ae kr):=by walk_at "s0"
noncomputable def tL:Scope:={ kind:=.function,names:=[(".0",.local),("row",.local),("list",.globalImplicit)],isGenerator:=false,isCoroutine:=false,more:=[] }
theorem oM:Blk ["self"] (ae kr) tL ["row"] [none]:=by walk_at "s1"
theorem BG:ao ["self"] ["self"] (ae ku):=by walk_at "s0"
noncomputable def tM:Scope:={ kind:=.function,names:=[(".0",.local),("row",.local),("number",.local)],isGenerator:=false,isCoroutine:=false,more:=[] }
theorem jg:Blk ["self"] (ae ku) tM ["row","number"] [none,none]:=by walk_at "s1"
theorem yS:ao ["self"] ["self"] (ae ip):=by walk_at "s0"
noncomputable def qE:Scope:={ kind:=.function,names:=[(".0",.local),("y",.local),("x",.local),("range",.globalImplicit),("self",.free)],isGenerator:=false,isCoroutine:=false,more:=[] }
theorem gW:Blk ["self"] (ae ip) qE ["y","x","self"] [none,none,some 0]:=by walk_at "s1"
theorem vm:ao ["self","thing"] ["self","thing"] (ae i7):=by walk_at "s0"
theorem qO:ao ["self","place","y","x"] ["self","place"] (ae uM):=by walk_at "s0"
theorem FP:ao ["thing"] ["thing"] (ae xp):=by walk_at "s0"
theorem zR:ao ["thing"] ["thing"] (ae m_):=by walk_at "s0"
theorem By:ao ["plan","thing"] ["plan","thing"] (ae o9):=by walk_at "s0"
theorem pW:ao ["field","low","high","place"] ["field","low","high"] (ae kW):=by walk_at "s0"
theorem xm:ao ["plan","thing"] ["plan","thing"] (ae jN):=by walk_at "s0"
theorem xn:ao ["plan","thing"] ["plan","thing"] (ae jO):=by walk_at "s0"
theorem C2:ao ["letter","height","width"] ["letter","height","width"] (ae qS):=by walk_at "s0"
theorem gy:ao ["height","width","way","corners","letter"] ["height","width","way"] (ae o8):=by walk_at "s0"
theorem xo:ao ["self","height","width","word","way"] ["self","height","width","word","way"] (ae jP):=by walk_at "s0"
theorem zX:ao ["self"] ["self"] (ae nB):=by walk_at "s0"
theorem BD:ao ["self"] ["self"] (ae pv):=by walk_at "s0"
theorem C8:ao ["self"] ["self"] (ae qZ):=by walk_at "s0"
theorem Et:ao ["self"] ["self"] (ae uL):=by walk_at "s0"
theorem BE:ao ["self"] ["self"] (ae pA):=by walk_at "s0"
theorem zY:ao ["self","step"] ["self","step"] (ae nC):=by walk_at "s0"
theorem Ih:ao ["rows"] ["rows"] (ae vo):=by walk_at "s0"
noncomputable def zg:Scope:={ kind:=.function,names:=[(".0",.local),("x",.cell),("rows",.free)],isGenerator:=false,isCoroutine:=false,more:=[] }
theorem wX:Blk ["rows"] (ae vo) zg ["x","rows"] [none,some 0]:=by walk_at "s1"
noncomputable def ze:Scope:={ kind:=.function,names:=[(".0",.local),("x",.cell),("rows",.cell)],isGenerator:=false,isCoroutine:=false,more:=[] }
noncomputable def zd:Scope:={ kind:=.function,names:=[(".0",.local),("row",.local),("x",.free)],isGenerator:=false,isCoroutine:=false,more:=[] }
theorem wW:Blk ["x","rows"] (ze) zd ["row","x"] [none,some 0]:=by walk_at "s1"
theorem o5:ao ["part","row","many","sums","differences"] ["part","row","many"] (ae qR):=by walk_at "s0"
theorem xZ:ao ["join","row","many","middle"] ["join","row","many"] (ae uG):=by walk_at "s0"
theorem Bw:ao ["part","rows","height","width"] ["part","rows","height","width"] (ae kq):=by walk_at "s0"
noncomputable def tJ:Scope:={ kind:=.function,names:=[(".0",.local),("row",.local),("halve_row",.globalImplicit),("part",.free),("width",.free)],isGenerator:=false,isCoroutine:=false,more:=[] }
theorem oC:Blk ["part","rows","height","width"] (ae kq) tJ ["row","part","width"] [none,some 0,some 3]:=by walk_at "s1"
theorem CZ:ao ["join","rows","height","width"] ["join","rows","height","width"] (ae mw):=by walk_at "s0"
noncomputable def u7:Scope:={ kind:=.function,names:=[(".0",.local),("row",.local),("join_row",.globalImplicit),("join",.free),("width",.free)],isGenerator:=false,isCoroutine:=false,more:=[] }
theorem qi:Blk ["join","rows","height","width"] (ae mw) u7 ["row","join","width"] [none,some 0,some 3]:=by walk_at "s1"
theorem eP:ao ["plan","part","rows","step","height","width","letter"] ["plan","part","rows","step"] (ae o7):=by walk_at "s0"
theorem kU:ao ["plan","part","rows","step"] ["plan","part","rows"] (ae m9):=by walk_at "s0"
theorem fU:ao ["plan","join","rows","step","height","width","letter"] ["plan","join","rows","step"] (ae qP):=by walk_at "s0"
theorem m7:ao ["plan","join","rows","step","later"] ["plan","join","rows","step"] (ae o6):=by walk_at "s0"
theorem Ca:ao ["plan","picture","rule"] ["plan","picture"] (ae fA):=by walk_at "s0"
theorem Eo:ao ["plan","numbers"] ["plan","numbers"] (ae uE):=by walk_at "s0"
theorem n_:ao ["plan","numbers","step","height","width","rule","rows"] ["plan","numbers","step"] (ae eD):=by walk_at "s0"
noncomputable def zi:Scope:={ kind:=.function,names:=[(".0",.local),("row",.local),("width",.free)],isGenerator:=false,isCoroutine:=false,more:=[] }
theorem wZ:Blk ["plan","numbers","step","height","width","rule","rows"] (ae eD) zi ["row","width"] [none,some 4]:=by walk_at "s1"
theorem Em:ao ["plan","errors","carrier"] ["plan","errors"] (ae hZ):=by walk_at "s0"
theorem C5:ao ["_law_script","_law_k"] ["_law_script","_law_k"] (ae qV):=by walk_at "s0"
theorem Es:ao ["_law_cell_here"] ["_law_cell_here"] (ae uK):=by walk_at "s0"
theorem g_:ao ["_law_box_here","_law_many","_law_digit","_law_turn","_law_number_here"] ["_law_box_here","_law_many"] (ae qU):=by walk_at "s0"
theorem x6:ao ["_law_box_here","_law_most","_law_number_here"] ["_law_box_here","_law_most"] (ae uJ):=by walk_at "s0"
theorem eg:ao ["_law_box_here","_law_height","_law_width","_law_way_here","_law_most","_law_some","_law_letter"] ["_law_box_here","_law_height","_law_width"] (ae uI):=by walk_at "s0"
theorem dD:ao ["_law_box_here","_law_side","_law_word","_law_height","_law_width","_law_some"] ["_law_box_here","_law_side"] (ae pj):=by walk_at "s0"
theorem BB:ao ["_law_box_here","_law_style"] ["_law_box_here","_law_style"] (ae ph):=by walk_at "s0"
theorem vi:ao ["_law_box_here","_law_height","_law_width","_law_style"] ["_law_box_here","_law_height","_law_width"] (ae mx):=by walk_at "s0"
noncomputable def va:Scope:={ kind:=.function,names:=[(".0",.local),("_law_y",.local),("range",.globalImplicit),("_law_box_here",.free),("_law_style",.free),("_law_width",.free)],isGenerator:=false,isCoroutine:=false,more:=[] }
theorem qk:Blk ["_law_box_here","_law_height","_law_width","_law_style"] (ae mx) va ["_law_y","_law_box_here","_law_style","_law_width"] [none,some 0,some 3,some 2]:=by walk_at "s1"
noncomputable def u_:Scope:={ kind:=.function,names:=[(".0",.local),("_law_y",.local),("range",.globalImplicit),("_law_box_here",.cell),("_law_style",.cell),("_law_width",.cell)],isGenerator:=false,isCoroutine:=false,more:=[] }
noncomputable def u9:Scope:={ kind:=.function,names:=[(".0",.local),("_law_x",.local),("_law_value",.globalImplicit),("_law_box_here",.free),("_law_style",.free)],isGenerator:=false,isCoroutine:=false,more:=[] }
theorem qj:Blk ["_law_y","_law_box_here","_law_style","_law_width"] (u_) u9 ["_law_x","_law_box_here","_law_style"] [none,some 1,some 2]:=by walk_at "s1"
theorem BC:ao ["_law_box_here","_law_style"] ["_law_box_here","_law_style"] (ae pq):=by walk_at "s0"
theorem qM:ao ["_law_box_here","_law_height","_law_width","_law_style"] ["_law_box_here","_law_height","_law_width"] (ae jt):=by walk_at "s0"
noncomputable def su:Scope:={ kind:=.function,names:=[(".0",.local),("_law_y",.local),("range",.globalImplicit),("_law_box_here",.free),("_law_style",.free),("_law_width",.free)],isGenerator:=false,isCoroutine:=false,more:=[] }
theorem mW:Blk ["_law_box_here","_law_height","_law_width","_law_style"] (ae jt) su ["_law_y","_law_box_here","_law_style","_law_width"] [none,some 0,some 3,some 2]:=by walk_at "s1"
noncomputable def so:Scope:={ kind:=.function,names:=[(".0",.local),("_law_y",.local),("range",.globalImplicit),("_law_box_here",.cell),("_law_style",.cell),("_law_width",.cell)],isGenerator:=false,isCoroutine:=false,more:=[] }
noncomputable def sj:Scope:={ kind:=.function,names:=[(".0",.local),("_law_x",.local),("_law_error",.globalImplicit),("_law_box_here",.free),("_law_style",.free)],isGenerator:=false,isCoroutine:=false,more:=[] }
theorem mV:Blk ["_law_y","_law_box_here","_law_style","_law_width"] (so) sj ["_law_x","_law_box_here","_law_style"] [none,some 1,some 2]:=by walk_at "s1"
theorem zS:ao ["_law_box_here","_law_style"] ["_law_box_here","_law_style"] (ae nu):=by walk_at "s0"
theorem pX:ao ["_law_box_here","_law_height","_law_width","_law_style"] ["_law_box_here","_law_height","_law_width"] (ae ig):=by walk_at "s0"
noncomputable def qB:Scope:={ kind:=.function,names:=[(".0",.local),("_law_y",.local),("range",.globalImplicit),("_law_box_here",.free),("_law_style",.free),("_law_width",.free)],isGenerator:=false,isCoroutine:=false,more:=[] }
theorem lT:Blk ["_law_box_here","_law_height","_law_width","_law_style"] (ae ig) qB ["_law_y","_law_box_here","_law_style","_law_width"] [none,some 0,some 3,some 2]:=by walk_at "s1"
noncomputable def qA:Scope:={ kind:=.function,names:=[(".0",.local),("_law_y",.local),("range",.globalImplicit),("_law_box_here",.cell),("_law_style",.cell),("_law_width",.cell)],isGenerator:=false,isCoroutine:=false,more:=[] }
noncomputable def qz:Scope:={ kind:=.function,names:=[(".0",.local),("_law_x",.local),("_law_number",.globalImplicit),("_law_box_here",.free),("_law_style",.free)],isGenerator:=false,isCoroutine:=false,more:=[] }
theorem lS:Blk ["_law_y","_law_box_here","_law_style","_law_width"] (qA) qz ["_law_x","_law_box_here","_law_style"] [none,some 1,some 2]:=by walk_at "s1"
theorem bC:ao ["_law_box_here","_law_rows_here","_law_errors_here","_law_way_here","_law_found","_law_row","_law_line","_law_some","_law_number_here","_law_error_here","_law_turn","_law_more"] ["_law_box_here","_law_rows_here","_law_errors_here"] (ae nk):=by walk_at "s0"
theorem g9:ao ["_law_plan","_law_rows_here","_law_others_here","_law_errors_here","_law_one","_law_two","_law_bounds"] ["_law_plan","_law_rows_here","_law_others_here","_law_errors_here"] (ae jr):=by walk_at "s0"
noncomputable def sh:Scope:={ kind:=.function,names:=[(".0",.local),("_law_k",.local),("abs",.globalImplicit),("_law_bounds",.free),("_law_one",.free),("_law_two",.free)],isGenerator:=false,isCoroutine:=false,more:=[] }
theorem mU:Blk ["_law_plan","_law_rows_here","_law_others_here","_law_errors_here","_law_one","_law_two","_law_bounds"] (ae jr) sh ["_law_k","_law_bounds","_law_one","_law_two"] [none,some 6,some 4,some 5]:=by walk_at "s1"
noncomputable abbrev jx:Ls0:=(["_law_box_here","_law_shape_here","_law_height","_law_width","_law_plan","_law_rows_here","_law_errors_here","_law_own","_law_single"]:Ls0)++phs 65
theorem BJ:Kt jx (ae h_) 9=true:=by decide +kernel
theorem Bu{a:Option Sl}:i4 jx [a]=a::none::none::none::none::none::none::none::none::tlG (nn 65++tlE):=FK (N:=["_law_box_here","_law_shape_here","_law_height","_law_width","_law_plan","_law_rows_here","_law_errors_here","_law_own","_law_single"]) (Γa:=[a]) (by decide:1<=9)
theorem cC:ao jx ["_law_box_here"] (ae h_):=by walk_at "s0"
noncomputable def tK:Scope:={ kind:=.function,names:=[(".0",.local),("_law_y",.local),("_law_width",.free)],isGenerator:=false,isCoroutine:=false,more:=[] }
theorem gg:Blk jx (ae h_) tK ["_law_y","_law_width"] [none,some 3]:=by walk_at "s1"
theorem JZ:ao ["_law_script","_law_k"] ["_law_script"] (ae J1):=by walk_at "s0"
set_option genInjectivity false in
set_option genSizeOf false in
structure Ad where
 bj:Addr
 cB:Addr
 aO:Addr
 aw:Addr
 aG:Addr
 az:Addr
 aN:Addr
 ay:Addr
 aF:Addr
 a_:Addr
 aH:Addr
 a8:Addr
 A4:Addr
 yl:ec
 yx:Addr
 wk:ec
 Ff:Addr
 CA:ec
 wJ:Addr
 t8:ec
 CD:Addr
 AX:ec
 mS:Addr
 lJ:ec
 A1:Addr
 yj:ec
 CG:Addr
 AZ:ec
 r_:Addr
 wz:ec
 eS:Addr
 rV:ec
 g0:Addr
 wA:ec
 jz:Addr
 rS:ec
 jA:Addr
 rT:ec
 d_:Addr
 p_:ec
 eR:Addr
 rR:ec
 eB:Addr
 j_:ec
 eC:Addr
 ka:ec
 iC:Addr
 qa:ec
 iD:Addr
 qb:ec
 nV:Addr
 rY:ec
 dv:Addr
 iQ:ec
 dz:Addr
 iS:ec
 gb:Addr
 mK:ec
 gc:Addr
 mM:ec
 Ln:Addr
 HH:ec
 HI:Addr
 Fd:ec
 CF:Addr
 AY:ec
 DI:Addr
 AV:ec
 DJ:Addr
 AW:ec
 lM:Addr
 qd:ec
 jb:Addr
 mO:ec
 jc:Addr
 mP:ec
 lL:Addr
 qc:ec
 i_:Addr
 mH:ec
 ja:Addr
 mJ:ec
 yA:Addr
 wq:ec
 CC:Addr
 AU:ec
 iE:Addr
 lK:ec
 bQ:Addr
 iP:ec
 cv:Addr
 gZ:ec
 bP:Addr
 gB:ec
 cx:Addr
 e9:ec
 cy:Addr
 e_:ec
 gT:Addr
 kc:ec
 bY:Addr
 eI:ec
 b_:Addr
 eK:ec
 gq:Addr
 jF:ec
 dG:Addr
 gj:ec
 gS:Addr
 kb:ec
 dF:Addr
 gi:ec
 wI:Addr
 t7:ec
 A5:Addr
 ym:ec
 je:Addr
 mR:ec
 lQ:Addr
 qf:ec
 nW:Addr
 rZ:ec
 pR:Addr
 ue:ec
 pS:Addr
 uf:ec
 lP:Addr
 qe:ec
 jd:Addr
 mQ:ec
 u6:Addr
 yr:ec
 CB:Addr
 AS:ec
 uh:Addr
 rM:ec
 wH:Addr
 t6:ec
 r8:Addr
 p8:ec
 qg:Addr
 oy:ec
 qh:Addr
 oz:ec
 yz:Addr
 wo:ec
 wG:Addr
 t5:ec
 j5:Addr
 oA:ec
 nR:Addr
 rW:ec
 pP:Addr
 uc:ec
 sd:Addr
 wB:ec
 uZ:Addr
 yq:ec
 pQ:Addr
 ud:ec
 nU:Addr
 rX:ec
 Fe:Addr
 Cz:ec
 yy:Addr
 wm:ec
 A2:Addr
 yk:ec
 wF:Addr
 t4:ec
 yw:Addr
 wj:ec
 wD:Addr
 tZ:ec
 ug:Addr
 rL:ec
 yu:Addr
 wg:ec
 wC:Addr
 tY:ec
 Fg:Addr
 xO:ec
 A0:Addr
 yi:ec
 Fh:Addr
 xP:ec
 HJ:Addr
 AR:ec
 yD:Addr
 wx:ec
 A8:Addr
 yp:ec
 yB:Addr
 wt:ec
 A7:Addr
 yo:ec
 A6:Addr
 yn:ec
 wL:Addr
 t_:ec
 wK:Addr
 t9:ec
 yC:Addr
 wu:ec
 wN:Addr
 ub:ec
 um:Addr
 rQ:ec
 uk:Addr
 rP:ec
 r9:Addr
 p9:ec
 uj:Addr
 rO:ec
 ui:Addr
 rN:ec
 wM:Addr
 ua:ec
 Lo:Addr
 GQ:ec
 kF:Addr
 iG:Addr
 iA:Addr
 eN:Addr
 iz:Addr
 fQ:Addr
structure Txt (K:Fg0) (mg:SV0) (a:Ad):Prop where
 bw:Cls K a.aO
 jD:mg "Field"=some (.ref a.aO)
 j6:Cls K a.aw
 y9:mg "GuessCarrier"=some (.ref a.aw)
 mk_GuessCarrier:Mk0 K a.aw
 jf:Cls K a.aG
 GA:mg "Guessed"=some (.ref a.aG)
 mk_Guessed:Mk0 K a.aG
 ee:Cls K a.az
 AG:mg "HalfCarrier"=some (.ref a.az)
 mk_HalfCarrier:Mk0 K a.az
 dq:Cls K a.aN
 IL:mg "Halves"=some (.ref a.aN)
 mk_Halves:Mk0 K a.aN
 ed:Cls K a.ay
 AF:mg "LeanCarrier"=some (.ref a.ay)
 mk_LeanCarrier:Mk0 K a.ay
 cL:Cls K a.aF
 Gz:mg "Leaning"=some (.ref a.aF)
 mk_Leaning:Mk0 K a.aF
 bJ:Cls K a.a_
 NM:mg "Plan"=some (.ref a.a_)
 eU:Cls K a.aH
 BS:mg "SumCarrier"=some (.ref a.aH)
 mk_SumCarrier:Mk0 K a.aH
 gI:Cls K a.a8
 NL:mg "Sums"=some (.ref a.a8)
 mk_Sums:Mk0 K a.a8
 eQ:iH K a.aO "grid"
 rB:iH K a.a_ "chosen"
 gH:iH K a.a_ "corners"
 jV:iH K a.a_ "letters"
 eL:SO K mg "ALONG_PILLARS" a.bj ["p","b"]
 iF:SO K mg "ALONG_ROWS" a.cB ["r","b"]
 tys:TyS K
 aW:FX K mg "is_whole" "is_whole" uH a.A4 a.yl ["thing","low","high"]
 md:FX K mg "is_number" "is_number" qQ a.yx a.wk ["thing"]
 dN:FX K mg "is_row" "is_row" vp a.Ff a.CA ["thing","least"]
 er:FX K mg "are_halves" "are_halves" pb a.wJ a.t8 ["sums","differences"]
 iV:FX K mg "is_size" "is_size" xr a.CD a.AX ["height","width"]
 eV:FX K mg "is_place_within" "is_place_within" h9 a.mS a.lJ ["thing","height","width"]
 gK:FX K mg "pairs_of" "pairs_of" uF a.A1 a.yj ["row"]
 iX:FX K mg "gaps_of" "gaps_of" sD a.CG a.AZ ["row"]
 qG:FY K "word" "Sums.word" qX a.r_ a.wz ["self"]
 gv:FY K "halves" "Sums.halves" nA a.eS a.rV ["self","row"]
 jB:FY K "back" "Sums.back" qY a.g0 a.wA ["self","sums","differences"]
 mX:FY K "parted" "Sums.parted" ny a.jz a.rS ["self","row"]
 mY:FY K "joined" "Sums.joined" nz a.jA a.rT ["self","sums","differences"]
 g6:FY K "sums_of" "Sums.sums_of" ij a.d_ a.p_ ["self","row"]
 jn:FY K "row_of" "Sums.row_of" nv a.eR a.rR ["self","sums","gaps"]
 kM:FY K "sum_of_pair" "Sums.sum_of_pair" gL a.eB a.j_ ["self","first","second"]
 kN:FY K "sum_of_lone" "Sums.sum_of_lone" gM a.eC a.ka ["self","number"]
 qI:FY K "pair_of" "Sums.pair_of" kY a.iC a.qa ["self","total","gap"]
 qJ:FY K "lone_of" "Sums.lone_of" kZ a.iD a.qb ["self","total"]
 mZ:FY K "word" "Halves.word" nD a.nV a.rY ["self"]
 fm:FY K "sum_of_pair" "Halves.sum_of_pair" fE a.dv a.iQ ["self","first","second"]
 ft:FY K "sum_of_lone" "Halves.sum_of_lone" fF a.dz a.iS ["self","number"]
 iY:FY K "pair_of" "Halves.pair_of" i5 a.gb a.mK ["self","total","gap"]
 iZ:FY K "lone_of" "Halves.lone_of" i6 a.gc a.mM ["self","total"]
 bK:FX K mg "near" "near" FU a.Ln a.HH ["numbers","at"]
 ji:FX K mg "woven" "woven" C9 a.HI a.Fd ["firsts","seconds"]
 iW:FX K mg "guesses" "guesses" sC a.CF a.AY ["firsts","many"]
 oU:FX K mg "lifts" "lifts" zu a.DI a.AV ["differences","many"]
 oV:FX K mg "leans" "leans" zv a.DJ a.AW ["sums","many"]
 kR:FY K "word" "Guessed.word" k8 a.lM a.qd ["self"]
 n6:FY K "parted" "Guessed.parted" dR a.jb a.mO ["self","row"]
 n8:FY K "joined" "Guessed.joined" dU a.jc a.mP ["self","sums","differences"]
 kO:FY K "word" "Leaning.word" k7 a.lL a.qc ["self"]
 nY:FY K "parted" "Leaning.parted" fV a.i_ a.mH ["self","row"]
 n4:FY K "joined" "Leaning.joined" fW a.ja a.mJ ["self","sums","differences"]
 mi:FX K mg "all_rules" "all_rules" qT a.yA a.wq []
 sy:FX K mg "rule_of" "rule_of" xq a.CC a.AU ["word"]
 mn:FY K "word" "SumCarrier.word" ik a.iE a.lK ["self"]
 cH:FY K "carried" "SumCarrier.carried" fB a.bQ a.iP ["self","sums","differences"]
 cS:FY K "errors_of" "SumCarrier.errors_of" cg a.cv a.gZ ["self","sums","differences"]
 dO:FY K "gap_errors" "SumCarrier.gap_errors" dQ a.bP a.gB ["self","sums","differences"]
 fh:FY K "error_of_pair" "SumCarrier.error_of_pair" c6 a.cx a.e9 ["self","total","gap"]
 fi:FY K "error_of_lone" "SumCarrier.error_of_lone" c7 a.cy a.e_ ["self","total"]
 kQ:FY K "word" "HalfCarrier.word" gP a.gT a.kc ["self"]
 cT:FY K "error_of_pair" "HalfCarrier.error_of_pair" cV a.bY a.eI ["self","total","gap"]
 cU:FY K "error_of_lone" "HalfCarrier.error_of_lone" cW a.b_ a.eK ["self","total"]
 j8:FY K "word" "GuessCarrier.word" gk a.gq a.jF ["self"]
 gx:FY K "errors_of" "GuessCarrier.errors_of" bF a.dG a.gj ["self","sums","differences"]
 kP:FY K "word" "LeanCarrier.word" gN a.gS a.kb ["self"]
 gw:FY K "gap_errors" "LeanCarrier.gap_errors" cF a.dF a.gi ["self","sums","differences"]
 kf:FX K mg "carrier_of" "carrier_of" o_ a.wI a.t7 ["word"]
 oX:FX K mg "are_rows" "are_rows" kX a.A5 a.ym ["thing"]
 bL:FY K "__init__" "Field.__init__" fX a.je a.mR ["self","rows"]
 g8:FY K "height" "Field.height" k9 a.lQ a.qf ["self"]
 jq:FY K "width" "Field.width" nE a.nW a.rZ ["self"]
 g7:FY K "rows" "Field.rows" kr a.pR a.ue ["self"]
 kl:FY K "flat" "Field.flat" ku a.pS a.uf ["self"]
 qK:FY K "places" "Field.places" ip a.lP a.qe ["self"]
 n9:FY K "is_place" "Field.is_place" i7 a.jd a.mQ ["self","thing"]
 zG:FY K "at" "Field.at" uM a.u6 a.yr ["self","place"]
 iU:FX K mg "size_of" "size_of" xp a.CB a.AS ["thing"]
 jk:FX K mg "check_field" "check_field" m_ a.uh a.rM ["thing"]
 cA:FX K mg "check_size" "check_size" o9 a.wH a.t6 ["plan","thing"]
 bB:FX K mg "check_bounds" "check_bounds" kW a.r8 a.p8 ["field","low","high"]
 gE:FX K mg "check_picture" "check_picture" jN a.qg a.oy ["plan","thing"]
 gF:FX K mg "check_numbers" "check_numbers" jO a.qh a.oz ["plan","thing"]
 mh:FX K mg "can_halve" "can_halve" qS a.yz a.wo ["letter","height","width"]
 ke:FX K mg "corners_of" "corners_of" o8 a.wG a.t5 ["height","width","way"]
 pU:FY K "__init__" "Plan.__init__" jP a.j5 a.oA ["self","height","width","word","way"]
 tQ:FY K "height" "Plan.height" nB a.nR a.rW ["self"]
 vd:FY K "width" "Plan.width" pv a.pP a.uc ["self"]
 fj:FY K "rule" "Plan.rule" qZ a.sd a.wB ["self"]
 uz:FY K "way" "Plan.way" uL a.uZ a.yq ["self"]
 kj:FY K "steps" "Plan.steps" pA a.pQ a.ud ["self"]
 jo:FY K "corner" "Plan.corner" nC a.nU a.rX ["self","step"]
 dM:FX K mg "turned" "turned" vo a.Fe a.Cz ["rows"]
 mf:FX K mg "halve_row" "halve_row" qR a.yy a.wm ["part","row","many"]
 oW:FX K mg "join_row" "join_row" uG a.A2 a.yk ["join","row","many"]
 ej:FX K mg "halve_rows" "halve_rows" kq a.wF a.t4 ["part","rows","height","width"]
 ff:FX K mg "join_rows" "join_rows" mw a.yw a.wj ["join","rows","height","width"]
 kd:FX K mg "step_forth" "step_forth" o7 a.wD a.tZ ["plan","part","rows","step"]
 jj:FX K mg "steps_forth" "steps_forth" m9 a.ug a.rL ["plan","part","rows"]
 ma:FX K mg "step_back" "step_back" qP a.yu a.wg ["plan","join","rows","step"]
 eh:FX K mg "steps_back" "steps_back" o6 a.wC a.tY ["plan","join","rows","step"]
 vb:FX K mg "halved" "halved" fA a.Fg a.xO ["plan","picture"]
 Jg:a.xO.code=.ref a.iz
 I9:VX K a.iz a.fQ=true
 gJ:FX K mg "put_back" "put_back" uE a.A0 a.yi ["plan","numbers"]
 vc:FX K mg "coarse" "coarse" eD a.Fh a.xP ["plan","numbers","step"]
 Jh:a.xP.code=.ref a.iA
 I_:VX K a.iA a.eN=true
 zl:FX K mg "worst" "worst" hZ a.HJ a.AR ["plan","errors"]
 LL:a.AR.code=.ref a.kF
 K8:VX K a.kF a.iG=true
 ml:FX K mg "_law_cell" "_law_cell" qV a.yD a.wx ["_law_script","_law_k"]
 oZ:FX K mg "_law_box" "_law_box" uK a.A8 a.yp ["_law_cell_here"]
 ah:FX K mg "_law_take" "_law_take" qU a.yB a.wt ["_law_box_here","_law_many"]
 dC:FX K mg "_law_far" "_law_far" uJ a.A7 a.yo ["_law_box_here","_law_most"]
 oY:FX K mg "_law_way" "_law_way" uI a.A6 a.yn ["_law_box_here","_law_height","_law_width"]
 kh:FX K mg "_law_shape" "_law_shape" pj a.wL a.t_ ["_law_box_here","_law_side"]
 kg:FX K mg "_law_value" "_law_value" ph a.wK a.t9 ["_law_box_here","_law_style"]
 mj:FX K mg "_law_rows" "_law_rows" mx a.yC a.wu ["_law_box_here","_law_height","_law_width"]
 eu:FX K mg "_law_error" "_law_error" pq a.wN a.ub ["_law_box_here","_law_style"]
 jm:FX K mg "_law_errors" "_law_errors" jt a.um a.rQ ["_law_box_here","_law_height","_law_width"]
 jl:FX K mg "_law_number" "_law_number" nu a.uk a.rP ["_law_box_here","_law_style"]
 g5:FX K mg "_law_numbers" "_law_numbers" ig a.r9 a.p9 ["_law_box_here","_law_height","_law_width"]
 cf:FX K mg "_law_others" "_law_others" nk a.uj a.rO ["_law_box_here","_law_rows_here","_law_errors_here"]
 cb:FX K mg "_law_within" "_law_within" jr a.ui a.rN ["_law_plan","_law_rows_here","_law_others_here","_law_errors_here"]
 ki:FX K mg "_law_right" "_law_right" h_ a.wM a.ua ["_law_box_here"]
 SW:FX K mg "law" "law" J1 a.Lo a.GQ ["_law_script"]
 mk_Field:Mk K a.aO a.je
 mk_Plan:Mk K a.a_ a.j5
 j0:Meth K a.aO "height" a.lQ
 lG:Meth K a.aO "width" a.nW
 jy:Meth K a.aO "rows" a.pR
 nO:Meth K a.aO "flat" a.pS
 y8:Meth K a.aO "places" a.lP
 v8:Meth K a.aO "is_place" a.jd
 EZ:Meth K a.aO "at" a.u6
 rE:Meth K a.aw "word" a.gq
 l_:Meth K a.aw "errors_of" a.dG
 oq:Meth K a.aw "carried" a.bQ
 AE:Meth K a.aw "gap_errors" a.bP
 yd:Meth K a.aw "error_of_pair" a.cx
 ye:Meth K a.aw "error_of_lone" a.cy
 p7:Meth K a.aG "word" a.lM
 vZ:Meth K a.aG "parted" a.jb
 v5:Meth K a.aG "joined" a.jc
 v7:Meth K a.aG "halves" a.eS
 y7:Meth K a.aG "back" a.g0
 Gr:Meth K a.aG "sums_of" a.d_
 Hs:Meth K a.aG "row_of" a.eR
 DA:Meth K a.aG "sum_of_pair" a.eB
 DB:Meth K a.aG "sum_of_lone" a.eC
 Gs:Meth K a.aG "pair_of" a.iC
 Gu:Meth K a.aG "lone_of" a.iD
 tF:Meth K a.az "word" a.gT
 jY:Meth K a.az "error_of_pair" a.bY
 jZ:Meth K a.az "error_of_lone" a.b_
 pM:Meth K a.az "carried" a.bQ
 nN:Meth K a.az "errors_of" a.cv
 l9:Meth K a.az "gap_errors" a.bP
 rC:Meth K a.aN "word" a.nV
 qv:Meth K a.aN "sum_of_pair" a.dv
 qw:Meth K a.aN "sum_of_lone" a.dz
 vX:Meth K a.aN "pair_of" a.gb
 vY:Meth K a.aN "lone_of" a.gc
 xD:Meth K a.aN "halves" a.eS
 AD:Meth K a.aN "back" a.g0
 xB:Meth K a.aN "parted" a.jz
 xC:Meth K a.aN "joined" a.jA
 vW:Meth K a.aN "sums_of" a.d_
 xA:Meth K a.aN "row_of" a.eR
 tE:Meth K a.ay "word" a.gS
 l8:Meth K a.ay "gap_errors" a.dF
 jW:Meth K a.ay "error_of_pair" a.bY
 jX:Meth K a.ay "error_of_lone" a.b_
 pK:Meth K a.ay "carried" a.bQ
 nM:Meth K a.ay "errors_of" a.cv
 p6:Meth K a.aF "word" a.lL
 vT:Meth K a.aF "parted" a.i_
 vU:Meth K a.aF "joined" a.ja
 pI:Meth K a.aF "sum_of_pair" a.dv
 pJ:Meth K a.aF "sum_of_lone" a.dz
 uU:Meth K a.aF "pair_of" a.gb
 uV:Meth K a.aF "lone_of" a.gc
 vV:Meth K a.aF "halves" a.eS
 y6:Meth K a.aF "back" a.g0
 uT:Meth K a.aF "sums_of" a.d_
 vS:Meth K a.aF "row_of" a.eR
 AB:Meth K a.a_ "height" a.nR
 BR:Meth K a.a_ "width" a.pP
 f_:Meth K a.a_ "rule" a.sd
 yc:Meth K a.a_ "way" a.uZ
 nL:Meth K a.a_ "steps" a.pQ
 lF:Meth K a.a_ "corner" a.nU
 uS:Meth K a.aH "word" a.iE
 qu:Meth K a.aH "carried" a.bQ
 oo:Meth K a.aH "errors_of" a.cv
 nK:Meth K a.aH "gap_errors" a.bP
 kD:Meth K a.aH "error_of_pair" a.cx
 kE:Meth K a.aH "error_of_lone" a.cy
 vR:Meth K a.a8 "word" a.r_
 AA:Meth K a.a8 "halves" a.eS
 Dz:Meth K a.a8 "back" a.g0
 Ay:Meth K a.a8 "parted" a.jz
 Az:Meth K a.a8 "joined" a.jA
 yZ:Meth K a.a8 "sums_of" a.d_
 Ax:Meth K a.a8 "row_of" a.eR
 tu:Meth K a.a8 "sum_of_pair" a.eB
 tw:Meth K a.a8 "sum_of_lone" a.eC
 y3:Meth K a.a8 "pair_of" a.iC
 y4:Meth K a.a8 "lone_of" a.iD
 DU:∃ t,mg "MOST_ERROR"=some (.int 1073741824 t)
 ur:∃ t,mg "MOST_HALVED"=some (.int 1000000000 t)
 uq:∃ t,mg "MOST_NUMBER"=some (.int 999999999999999 t)
 B0:∃ t,mg "MOST_PLACES"=some (.int 512 t)
 mT:∃ t,mg "MOST_SIDE"=some (.int 64 t)
 wU:∃ t,mg "MOST_VALUE"=some (.int 100000 t)
 K5:PJ K a.aO
 z_abs:mg "abs"=none
 z_all:mg "all"=none
 z_bool:mg "bool"=none
 z_enumerate:mg "enumerate"=none
 z_int:mg "int"=none
 z_isinstance:mg "isinstance"=none
 z_len:mg "len"=none
 z_list:mg "list"=none
 z_max:mg "max"=none
 z_min:mg "min"=none
 z_range:mg "range"=none
 z_reversed:mg "reversed"=none
 z_str:mg "str"=none
 z_tuple:mg "tuple"=none
 z_zip:mg "zip"=none
 ty:kJ K
noncomputable abbrev il (a:Li0):D:=.lst (a.map .int)
def Fig (a:Li0):Prop:=∀ n∈a,-1000000000000000 < n/\n < 1000000000000000
theorem snoc{f:Nat->D}{d:D}(h:d=f k):(el k).map f++[d]=(el (k + 1)).map f:=by
 rw[Yh,gp,h];rfl
theorem ints_get{a:Li0}{d:D}(h:(a.map D.int)[k]?=some d):k < a.length/\d=.int (a.getD k 0):=by
 have lt:k < a.length:=by have:=(gS0 h).1;simpa using this
 rw[cm,gE0 lt] at h;cases h;exact⟨lt,by simp [vk,lt]⟩
theorem v9{f:Nat->D}{d:D}(h:((el n).map f)[k]?=some d):k < n/\d=f k:=by
 have lt:k < n:=by have:=(gS0 h).1;simpa using this
 rw[cm,Bn lt] at h;cases h;exact⟨lt,rfl⟩
theorem Oc{a:Li0}(f:Fig a)(h:k < a.length):-1000000000000000 < a.getD k 0/\a.getD k 0 < 1000000000000000:=by
 have:a.getD k 0=a[k]:=by simp [vk,h]
 rw[this];exact f _ (FB h)
theorem small(h:n<=1000):n < sizeLine:=by rw[hG];lia
theorem jC(f:Nat->Int)(n:Nat):(el n).map (λj=>D.int (f j))=((el n).map f).map D.int:=by rw[nr];rfl
theorem Dh{a c:Type}(f:a->c)(xs:List a)(lo b st:Option Int):pk (xs.map f) lo b st=(pk xs lo b st).map f:=by
 unfold pk;rw[lM0,aa1]
 congr 1
 funext x
 rw[cm]
theorem Ko{a:Type}(xs:List a)(d:a)(lo b st:Option Int):pk xs lo b st=(pk ((el xs.length).map Yr) lo b st).map λi=>xs.getD i.toNat d:=by
 unfold pk;rw[lM0,rx,aa1]
 congr 1
 funext j
 rw[cm];by_cases h:j < xs.length
 .rw[Bn h,gE0 h];simp [vk,h]
 .rw[ox (by lia),ox (by rw[rx];lia)];rfl
theorem HC{a b:Li0}(h:a.map V.int=b.map V.int):a=b:=List.map_inj_right (λ_ _ q=>by cases q;rfl) |>.mp h
theorem V2(a:Li0):pk a (some 0) none (some 2)=(el ((a.length + 1) / 2)).map λk=>a.getD (2 * k) 0:=by
 have h:=TJ a;have e:q_ (a.map V.int) (some 0) none (some 2)=(pk a (some 0) none (some 2)).map V.int:=Dh V.int a _ _ _;rw[e,show (el ((a.length + 1) / 2)).map (λk=>V.int (a.getD (2 * k) 0))=((el ((a.length + 1) / 2)).map λk=>a.getD (2 * k) 0).map V.int by rw[nr];rfl] at h;exact HC h
theorem V1(a:Li0):pk a (some 1) none (some 2)=(el (a.length / 2)).map λk=>a.getD (2 * k + 1) 0:=by
 have h:=TH a;have e:q_ (a.map V.int) (some 1) none (some 2)=(pk a (some 1) none (some 2)).map V.int:=Dh V.int a _ _ _;rw[e,show (el (a.length / 2)).map (λk=>V.int (a.getD (2 * k + 1) 0))=((el (a.length / 2)).map λk=>a.getD (2 * k + 1) 0).map V.int by rw[nr];rfl] at h;exact HC h
theorem QD{a:Type}(f:a->D)(z:a)(xs:List a):pk (xs.map f) (some 0) none (some 2)=(el ((xs.length + 1) / 2)).map λk=>f (xs.getD (2 * k) z):=by
 rw[Dh,Ko xs z,V2,lM0,rx,nr,nr];refine VU λj b=>?_;have b:=Os.mp b;show f (xs.getD (((el xs.length).map Yr).getD (2 * j) 0).toNat z)=f (xs.getD (2 * j) z);have e:((el xs.length).map Yr).getD (2 * j) 0=Yr (2 * j):=by simp [vk,show 2 * j < xs.length by lia]
 rw[e];rfl
theorem QC{a:Type}(f:a->D)(z:a)(xs:List a):pk (xs.map f) (some 1) none (some 2)=(el (xs.length / 2)).map λk=>f (xs.getD (2 * k + 1) z):=by
 rw[Dh,Ko xs z,V1,lM0,rx,nr,nr];refine VU λj b=>?_;have b:=Os.mp b;show f (xs.getD (((el xs.length).map Yr).getD (2 * j + 1) 0).toNat z)=f (xs.getD (2 * j + 1) z);have e:((el xs.length).map Yr).getD (2 * j + 1) 0=Yr (2 * j + 1):=by simp [vk,show 2 * j + 1 < xs.length by lia]
 rw[e];rfl
noncomputable def prG {a:Type}(f:a->D)(z:a)(xs:List a):List D:=(el (xs.length / 2)).map λj=>.tup [f (xs.getD (2 * j) z),f (xs.getD (2 * j + 1) z)]
theorem PK{f g:Nat->D}(a:n<=m):iI ((el m).map f) ((el n).map g)=(el n).map λj=>.tup [f j,g j]:=by
 refine XA λi=>?_;unfold iI;by_cases h:i < n
 .rw[cm,cm,Bn h];have:(((el m).map f).zip ((el n).map g))[i]?=some (f i,g i):=by
   rw[KM];exact⟨by rw[cm,Bn (by lia)];rfl,by rw[cm,Bn h];rfl⟩
  rw[this];rfl
 .rw[ox (by simp;lia),ox (by simp;lia)]
section
variable {mg:SV0}{a:Ad}
noncomputable def whD (d:D)(lo a:Int):Bool:=match d with
 | .int i=>decide (lo<=i) && decide (i<=a)
 | _=>false
def Ml:S3:=λΓ Q=>∃ (d:D) (lo hi:Int),Γ=[some (.fz d),some (.fz (.int lo)),some (.fz (.int hi))]/\knD d=true/\Q (.fz (.bl (whD d lo hi))) Γ
theorem fG(T:Txt K mg a):aB P w K mg base CX0 1 a.A4 a.yl ["thing","low","high"] (sp3 K 3 Ml):=by
 refine ok3 T.aW.F Er (hbody:=λf A b s H E g=>⟨_,_,(aj (bg (P3W.pt (uO (bU (av (Vz T.ty) (by rfl) T.z_isinstance (by decide +kernel) (aa (bv 0) (aa (P3.opd (Ci (n:="bool") (by rfl) T.z_bool (by decide +kernel))) ab)))) (pC (bV (bU (av (Vy T.ty) (by rfl) T.z_isinstance (by decide +kernel) (aa (bv 0) (aa (P3.opd (Ci (n:="int") (by rfl) T.z_int (by decide +kernel))) ab)))))))) (ai (aq og)) aV)
   (ai (aq (KI Bj Bj (bv 1) (bv 0) (bv 2))))),λc Q h j=>?_⟩)
 obtain⟨d,lo,k,rfl,e,q⟩:=h;cases d <;> (try cases e) <;> walk_at "w" <;> (try exact q)
 rename_i i;by_cases h:lo<=i
 .simp only[xQ,h,decide_true];simpa only[whD,h,decide_true,Bool.true_and] using q
 .simp only[xQ,h,decide_false];simpa only[whD,h,decide_false,ad1] using q
def KR:S3:=λΓ Q=>∃ (d:D),Γ=[some (.fz d)]/\knD d=true/\Q (.fz (.bl (whD d (-999999999999999) 999999999999999))) Γ
theorem Dq(T:Txt K mg a):aB P w K mg base CX0 2 a.yx a.wk ["thing"] (sp3 K 1 KR):=by
 refine ok3 T.md.F C1 (hbody:=λg A b s H E e=>⟨_,_,(ai (aq (ak (by rfl) (fG T) e.dn (by rfl) T.aW.m T.aW.F.kp T.aW.b (aa (P3.opd (p3v 0)) (aa (P3.opd (gQ (P3.opd (gG (i:=999999999999999) (by rfl) T.uq)))) (aa (P3.opd (gG (i:=999999999999999) (by rfl) T.uq)) ab)))))),λc Q h j=>?_⟩);obtain⟨d,rfl,f,q⟩:=h;walk_at "w";exact⟨d,_,_,rfl,f,q⟩
theorem Mm{n:Int}(h:-1000000000000000 < n/\n < 1000000000000000):whD (.int n) (-999999999999999) 999999999999999=true:=by
 simp only[whD,sE,decide_eq_true_eq];lia
def To:S3:=λΓ Q=>∃ (ns:Li0) (a:Int),Γ=[some (.fz (il ns)),some (.fz (.int a))]/\Fig ns/\ns.length<=64/\a<=(ns.length:Int)/\Q (.fz (.bl true)) Γ
theorem sJ(T:Txt K mg a):aB P w K mg base CX0 3 a.Ff a.CA ["thing","least"] (sp3 K 2 To):=by
 refine ok3 T.dN.F Ii (hbody:=λt A g s H E l=>⟨_,_,(aj (bg (P3W.pt (uO (bV (bU (av (PC T.ty) (by rfl) T.z_isinstance (by decide +kernel) (aa (bv 0) (aa (P3.opd (Ci (n:="list") (by rfl) T.z_list (by decide +kernel))) ab))))) (pC (bV (Iw Bj Bj (bv 1) (P3.opd (av (cR (by rfl)) (by rfl) T.z_len (by decide +kernel) (aa (bv 0) ab))) (P3.opd (gG (i:=64) (by rfl) T.mT))))))) (ai (aq og)) aV)
   (ai (aq (av (LX (by rfl) rfl) (by rfl) T.z_all (by decide +kernel) (aa (P3.opd (bW rfl (eX (by rfl) (p3v 0)) wY (λ_ _ _ _ _=>(aY (i:=0) wY.nd rfl (hE rfl))) (λ_ _ _ _ _=>(ak (by rfl) (Dq T) l.dn (by rfl) T.md.m T.md.F.kp T.md.b (aa (P3.opd (p3v 0)) ab))))) ab))))),λj Q h u=>?_⟩)
 obtain⟨e,c,rfl,o,v,r,q⟩:=h;walk_at "w";rw[lM0,show xQ c (e.length:Int)=true by simp only[xQ,r,decide_true],show xQ (e.length:Int) 64=true by simp only[xQ,decide_eq_true_eq];lia];walk_at "w";refine⟨small (by rw[lM0];lia),aQ (λk f b=>f=(el k).map (λ_=>D.bl true)/\∃ s,b=[fo s]) ⟨rfl,none,rfl⟩ ?_ ?_⟩
 .rintro k d f b p m ⟨rfl,s,rfl⟩;obtain⟨lt,rfl⟩:=ints_get p;walk_at "w";refine⟨_,rfl,rfl,?_⟩;rw[Mm (Oc o lt)];walk_at "w";exact⟨snoc rfl,some _,rfl⟩
 .rintro f b m ⟨rfl,s,rfl⟩;walk_at "w";refine⟨(el e.length).map λ_=>true,by rw[lM0,nr];rfl,?_⟩;have:((el e.length).map λ_=>true).all id=true:=by simp
  rw[this];exact q
def N2 (f:Int->Int->Int):S3:=λΓ Q=>∃ (d:D) (x y:Int),Γ=[some (.fz d),some (.fz (.int x)),some (.fz (.int y))]/\Q (.fz (.int (f x y))) Γ
def IY (f:Int->Int):S3:=λΓ Q=>∃ (d:D) (x:Int),Γ=[some (.fz d),some (.fz (.int x))]/\Q (.fz (.int (f x))) Γ
theorem sY(T:Txt K mg a):aB P w K mg base CX0 1 a.eB a.j_ ["self","first","second"] (sp3 K 3 (N2 λx y=>x + y)):=by
 refine ok3 T.kM.F sS (hbody:=λe A b s H E f=>⟨_,_,(ai (aq (aJ (bv 1) (bv 2)))),λc Q h g=>?_⟩);obtain⟨d,x,y,rfl,q⟩:=h;walk_at "w";exact q
theorem s_(T:Txt K mg a):aB P w K mg base CX0 1 a.eC a.ka ["self","number"] (sp3 K 2 (IY λx=>2 * x)):=by
 refine ok3 T.kN.F sU (hbody:=λe A b s H E f=>⟨_,_,(ai (aq (ir (P3.opd ag) (bv 1)))),λc Q h g=>?_⟩);obtain⟨d,x,rfl,q⟩:=h;walk_at "w";exact⟨.inl ⟨by decide,by decide⟩,q⟩
theorem iN(T:Txt K mg a):aB P w K mg base CX0 1 a.dv a.iQ ["self","first","second"] (sp3 K 3 (N2 λx y=>(x + y) / 2)):=by
 refine ok3 T.fm.F qp (hbody:=λe A b s H E f=>⟨_,_,(ai (aq (cJ (P3.opd (aJ (bv 1) (bv 2))) (P3.opd ag)))),λc Q h g=>?_⟩);obtain⟨d,x,y,rfl,q⟩:=h;walk_at "w";exact⟨⟨by decide,by decide⟩,q⟩
theorem iO(T:Txt K mg a):aB P w K mg base CX0 1 a.dz a.iS ["self","number"] (sp3 K 2 (IY λx=>x)):=by
 refine ok3 T.ft.F qr (hbody:=λe A b s H E f=>⟨_,_,(ai (aq (qt 1))),λc Q h g=>?_⟩);obtain⟨d,x,rfl,q⟩:=h;walk_at "w";exact q
noncomputable def nrF (a:Li0)(k:Int):Int:=a.getD (fmin (fmax k 0) ((a.length:Int) - 1)).toNat 0
def Rc:S3:=λΓ Q=>∃ (ns:Li0) (k:Int),Γ=[some (.fz (il ns)),some (.fz (.int k))]/\1<=ns.length/\Q (.fz (.int (nrF ns k))) Γ
theorem jv(T:Txt K mg a):aB P w K mg base CX0 1 a.Ln a.HH ["numbers","at"] (sp3 K 2 Rc):=by
 refine ok3 T.bK.F MC (hbody:=λd A b s H E f=>⟨_,_,(ai (aq (ba (by rfl) (bv 0) (P3.opd (av (HS rfl) (by rfl) T.z_min (by decide +kernel) (aa (P3.opd (av (HU rfl) (by rfl) T.z_max (by decide +kernel) (aa (bv 1) (aa (P3.opd ag) ab)))) (aa (P3.opd (dk (P3.opd (av (cR (by rfl)) (by rfl) T.z_len (by decide +kernel) (aa (bv 0) ab))) (P3.opd ag))) ab)))) (λ_ _=>rfl)))),λc Q h g=>?_⟩);obtain⟨e,k,rfl,i,q⟩:=h;walk_at "w";rw[lM0];exact de.mpr ⟨_,DY (by simp only[fmin,fmax];split <;> split <;> lia) (by simp only[fmin,fmax];split <;> split <;> lia),q⟩
def Nl:S3:=λΓ Q=>∃ (α:Type) (f:α->D) (z:α) (xs:List α),Γ=[some (.fz (.lst (xs.map f)))]/\xs.length<=64/\Q (.fr (.lst (prG f z xs))) Γ
theorem x_(T:Txt K mg a):aB P w K mg base CX0 1 a.A1 a.yj ["row"] (sp3 K 1 Nl):=by
 refine ok3 T.gK.F Ep (hbody:=λd A b s H E i=>⟨_,_,(ai (aq (Gg rfl (by rfl) T.z_list (by rfl) T.z_zip (aa (P3.opd (sH (by rfl) (bv 0) (bh (P3.opd ag)) cI (bh (P3.opd ag)))) (aa (P3.opd (sH (by rfl) (bv 0) (bh (P3.opd ag)) cI (bh (P3.opd ag)))) ab))))),λc Q h j=>?_⟩);obtain⟨e,f,z,g,rfl,k,q⟩:=h;walk_at "w";refine⟨by decide,by decide,?_,?_⟩
 .rw[QD f z,QC f z];simp only[lM0,rx,hG];lia
 .rw[QD f z,QC f z,PK (by lia)];exact q
noncomputable abbrev Af (a:Li0):List D:=prG D.int 0 a
noncomputable def rg (f:Nat->Int)(k:Nat):Li0:=(el k).map f
noncomputable def rG (a:Li0):Li0:=rg (λj=>a.getD (2 * j) 0 - a.getD (2 * j + 1) 0) (a.length / 2)
def NP (f:Li0->Li0):S3:=λΓ Q=>∃ (ns:Li0),Γ=[some (.fz (il ns))]/\ns.length<=64/\Q (.fr (il (f ns))) Γ
theorem Ao(T:Txt K mg a):aB P w K mg base CX0 2 a.CG a.AZ ["row"] (sp3 K 1 (NP rG)):=by
 refine ok3 T.iX.F FT (hbody:=λr A f s H E m=>⟨_,_,(ai (aq (bW rfl (eX (by rfl) (ak (by rfl) (x_ T) m.dn (by rfl) T.gK.m T.gK.F.kp T.gK.b (aa (P3.opd (p3v 0)) ab))) nX (λ_ _ _ _ _=>(gn (is:=[0,1]) (by rfl) (aD (aL (i:=0) nX.nd rfl (hE rfl)) (aD (aL (i:=1) nX.nd rfl (hE rfl)) cj)) rfl)) (λ_ _ _ _ _=>(dk (bv 0) (bv 1)))))),λl Q h t=>?_⟩);obtain⟨g,rfl,p,q⟩:=h;walk_at "w";refine⟨Int,.int,0,g,rfl,p,?_⟩;walk_at "w";refine⟨small (by simp only[Af,prG,lM0,rx];lia),aQ (λk c b=>c=(el k).map (λj=>D.int (g.getD (2 * j) 0 - g.getD (2 * j + 1) 0))/\∃ s e,b=[fo s,fo e]) ⟨rfl,none,none,rfl⟩ ?_ ?_⟩
 .rintro k d c b o n ⟨rfl,s,e,rfl⟩;obtain⟨lt,rfl⟩:=v9 o;walk_at "w";exact⟨snoc rfl,some _,some _,rfl⟩
 .rintro c b n ⟨rfl,s,e,rfl⟩;walk_at "w";simp only[Af,prG,lM0,rx];rw[jC];exact q
inductive Rl where
 | sum | half | guess | lean
noncomputable def Rl.cls (a:Ad):Rl->Addr
 | .sum=>a.a8 | .half=>a.aN | .guess=>a.aG | .lean=>a.aF
noncomputable abbrev Rl.ob (a:Ad)(R:Rl):D:=.ins (R.cls a) [] []
noncomputable def fv (p:Int->Int->Int)(l:Int->Int)(a:Li0):Li0:=rg (λj=>p (a.getD (2 * j) 0) (a.getD (2 * j + 1) 0)) (a.length / 2)++(if a.length % 2=1 then [l (a.getD (a.length - 1) 0)] else [])
noncomputable def Rl.pair:Rl->Int->Int->Int
 | .sum=>λx y=>x + y | _=>λx y=>(x + y) / 2
noncomputable def Rl.xF:Rl->Int->Int
 | .sum=>λx=>2 * x | _=>λx=>x
def P8 (a:Ad):S3:=λΓ Q=>∃ (R:Rl) (ns:Li0),Γ=[some (.fz (R.ob a)),some (.fz (il ns))]/\R≠.guess/\2<=ns.length/\ns.length<=64/\Q (.fr (il (fv R.pair R.xF ns))) Γ
theorem aK(f:Nat->Int)(k:Nat):(rg f k).length=k:=by unfold rg;simp
theorem jT(T:Txt K mg a):aB P w K mg base CX0 2 a.d_ a.p_ ["self","row"] (sp3 K 2 (P8 a)):=by
 refine ok3 T.g6.F pY (hbody:=λx A m s H E e=>⟨_,_,(aj (ey (i:=2) pY.nd rfl rfl rfl (eX (by rfl) (ak (by rfl) (x_ T) e.dn (by rfl) T.gK.m T.gK.F.kp T.gK.b (aa (P3.opd (p3v 1)) ab))) gU (λ_ _ _ _ _=>(gn (is:=[0,1]) (by rfl) (aD (aL (i:=0) gU.nd rfl (hE rfl)) (aD (aL (i:=1) gU.nd rfl (hE rfl)) cj)) rfl)) (λ_ _ _ _ _=>(P3.or (aC (by rfl) (bv 2) T.gI T.tu (sY T) e.dn T.kM.b (aa (P3.opd (p3v 0)) (aa (P3.opd (p3v 1)) ab))) (P3.or (aC (by rfl) (bv 2) T.dq T.qv (iN T) e.dn T.fm.b (aa (P3.opd (p3v 0)) (aa (P3.opd (p3v 1)) ab))) (aC (by rfl) (bv 2) T.cL T.pI (iN T) e.dn T.fm.b (aa (P3.opd (p3v 0)) (aa (P3.opd (p3v 1)) ab)))))))
   (aj (bg (aX wV (P3.opd (av (cR (by rfl)) (by rfl) T.z_len (by decide +kernel) (aa (bv 1) ab))) (P3.opd (ir (P3.opd ag) (P3.opd (av (cR (by rfl)) (by rfl) T.z_len (by decide +kernel) (aa (bv 2) ab))))) (a9 _)) (ai (dJ (oh 2 (by rfl) (bv 2) (P3.or (aC (by rfl) (bv 0) T.gI T.tw (s_ T) e.dn T.kN.b (aa (P3.opd (ba (by rfl) (bv 1) (P3.opd (gQ (P3.opd ag))) (λ_ _=>rfl))) ab)) (P3.or (aC (by rfl) (bv 0) T.dq T.qw (iO T) e.dn T.ft.b (aa (P3.opd (ba (by rfl) (bv 1) (P3.opd (gQ (P3.opd ag))) (λ_ _=>rfl))) ab)) (aC (by rfl) (bv 0) T.cL T.pJ (iO T) e.dn T.ft.b (aa (P3.opd (ba (by rfl) (bv 1) (P3.opd (gQ (P3.opd ag))) (λ_ _=>rfl))) ab))))))) aV)
   (ai (aq (qt 2))))),λp Q h y=>?_⟩)
 obtain⟨R,b,rfl,hR,z,v,q⟩:=h;walk_at "w";refine⟨Int,.int,0,b,rfl,v,?_⟩;walk_at "w";refine⟨small (by simp only[Af,prG,lM0,rx];lia),aQ (λk g c=>g=(el k).map (λj=>D.int (R.pair (b.getD (2 * j) 0) (b.getD (2 * j + 1) 0)))/\∃ s l,c=[fo s,fo l,some (.fz (R.ob a))]) ⟨rfl,none,none,rfl⟩ ?_ ?_⟩
 .rintro k d g c u t ⟨rfl,s,l,rfl⟩;obtain⟨lt,rfl⟩:=v9 u;walk_at "w";cases R with
  | guess=>exact absurd rfl hR
  | sum=>
   refine .inl ?_;walk_at "w";refine⟨rfl,_,_,_,rfl,?_⟩;walk_at "w";exact⟨snoc rfl,some _,some _,rfl⟩
  | half=>
   refine .inr (.inl ?_);walk_at "w";refine⟨rfl,_,_,_,rfl,?_⟩;walk_at "w";exact⟨snoc rfl,some _,some _,rfl⟩
  | lean=>
   refine .inr (.inr ?_);walk_at "w";refine⟨rfl,_,_,_,rfl,?_⟩;walk_at "w";exact⟨snoc rfl,some _,some _,rfl⟩
 .rintro g c t ⟨rfl,s,l,rfl⟩;have r:(Af b).length=b.length / 2:=by simp [Af,prG]
  rw[r,jC];walk_at "w";refine⟨.inl ⟨by decide,by decide⟩,?_⟩;simp only[lM0,rx];by_cases f:b.length % 2=1
  .have o:zb (b.length:Int) (2 * ((b.length / 2:Nat):Int))=true:=by simp only[zb,decide_eq_true_eq];lia
   have n:fv R.pair R.xF b=((el (b.length / 2)).map λj=>R.pair (b.getD (2 * j) 0) (b.getD (2 * j + 1) 0))++[R.xF (b.getD (b.length - 1) 0)]:=by
    unfold fv;rw[if_pos f];rfl
   rw[n,il,gp] at q;rw[o];walk_at "w";cases R with
   | guess=>exact absurd rfl hR
   | sum=>
    refine .inl ⟨rfl,de.mpr ⟨_,lV (by lia),?_⟩⟩;walk_at "w";refine⟨_,_,rfl,?_⟩;walk_at "w";exact⟨small (by simp only[lM0,rx];lia),q⟩
   | half=>
    refine .inr (.inl ⟨rfl,de.mpr ⟨_,lV (by lia),?_⟩⟩);walk_at "w";refine⟨_,_,rfl,?_⟩;walk_at "w";exact⟨small (by simp only[lM0,rx];lia),q⟩
   | lean=>
    refine .inr (.inr ⟨rfl,de.mpr ⟨_,lV (by lia),?_⟩⟩);walk_at "w";refine⟨_,_,rfl,?_⟩;walk_at "w";exact⟨small (by simp only[lM0,rx];lia),q⟩
  .have o:zb (b.length:Int) (2 * ((b.length / 2:Nat):Int))=false:=by simp only[zb,decide_eq_false_iff_not];lia
   have n:fv R.pair R.xF b=((el (b.length / 2)).map λj=>R.pair (b.getD (2 * j) 0) (b.getD (2 * j + 1) 0)):=by
    unfold fv;rw[if_neg f,td];rfl
   rw[n] at q;rw[o];exact q
noncomputable def Bc (F:Li0)(a:Li0):Li0:=rg (λj=>a.getD (2 * j + 1) 0 - (F.getD j 0 + nrF F ((j:Int) + 1)) / 2) (a.length / 2)
noncomputable def fsF (a:Li0):Li0:=rg (λj=>a.getD (2 * j) 0) ((a.length + 1) / 2)
noncomputable def c8 (d:Li0)(j:Nat):Int:=(nrF d ((j:Int) - 1) + nrF d (j:Int) + 2) / 4
noncomputable def gm (s:Li0)(j:Nat):Int:=(nrF s ((j:Int) - 1) - nrF s ((j:Int) + 1) + 2) / 4
noncomputable def Rl.dif (R:Rl)(a:Li0):Li0:=match R with
 | .sum=>rG a | .half=>rG a
 | .guess=>Bc (fsF a) a
 | .lean=>rg (λj=>(rG a).getD j 0 - gm (fv Rl.lean.pair Rl.lean.xF a) j) (a.length / 2)
noncomputable def Rl.sums (R:Rl)(a:Li0):Li0:=match R with
 | .guess=>rg (λj=>(fsF a).getD j 0 + c8 (Bc (fsF a) a) j) ((a.length + 1) / 2)
 | R=>fv R.pair R.xF a
theorem bI(i:Int)(n:Nat):(rng i n).length=n:=by unfold rng;simp
theorem C_{d:D}(h:(rng 0 n)[k]?=some d):k < n/\d=.int (k:Int):=by
 unfold rng at h;obtain⟨b,a⟩:=v9 h;exact⟨b,by rw[a];simp⟩
noncomputable def kG (F:Li0)(j:Nat):Int:=(F.getD j 0 + nrF F ((j:Int) + 1)) / 2
def Gw (f:Li0->Nat->Int)(ok:Nat->Nat->Prop):S3:=λΓ Q=>∃ (F:Li0) (m:Nat),Γ=[some (.fz (il F)),some (.fz (.int m))]/\1<=F.length/\ok m F.length/\m<=64/\Q (.fr (il (rg (f F) m))) Γ
theorem An(T:Txt K mg a):aB P w K mg base CX0 2 a.CF a.AY ["firsts","many"] (sp3 K 2 (Gw kG (·<=·))):=by
 refine ok3 T.iW.F FR (hbody:=λp A e s H E g=>⟨_,_,(ai (aq (bW rfl (bM (by rfl) T.z_range (af (p3v 1) au)) uv (λ_ _ _ _ _=>(aY (i:=0) uv.nd rfl (hE rfl))) (λ_ _ _ _ _=>(cJ (P3.opd (aJ (P3.opd (ba (by rfl) (bv 1) (bv 0) (λ_ _=>rfl))) (P3.opd (ak (by rfl) (jv T) g.dn (by rfl) T.bK.m T.bK.F.kp T.bK.b (aa (P3.opd (p3v 1)) (aa (P3.opd (aJ (bv 0) (P3.opd ag))) ab)))))) (P3.opd ag)))))),λf Q h r=>?_⟩);obtain⟨F,m,rfl,o,u,t,q⟩:=h;walk_at "w";refine⟨by lia,by lia,small (by rw[bI];lia),aQ (λk c b=>c=(el k).map (λj=>D.int (kG F j))/\∃ s,b=[fo s,some (.fz (il F))]) ⟨rfl,none,rfl⟩ ?_ ?_⟩
 .rintro k d c b n l ⟨rfl,s,rfl⟩;obtain⟨lt,rfl⟩:=C_ n;walk_at "w";refine de.mpr ⟨_,DY (by lia) (by lia),?_⟩;walk_at "w";refine⟨_,_,rfl,o,?_⟩;walk_at "w";exact⟨⟨by decide,by decide⟩,snoc (by rw[ky];rfl),some _,rfl⟩
 .rintro c b l ⟨rfl,s,rfl⟩;walk_at "w";rw[bI,ky,jC];exact q
theorem EM(T:Txt K mg a):aB P w K mg base CX0 2 a.DI a.AV ["differences","many"] (sp3 K 2 (Gw c8 λ_ _=>True)):=by
 refine ok3 T.oU.F JX (hbody:=λp A e s H E f=>⟨_,_,(ai (aq (bW rfl (bM (by rfl) T.z_range (af (p3v 1) au)) yH (λ_ _ _ _ _=>(aY (i:=0) yH.nd rfl (hE rfl))) (λ_ _ _ _ _=>(cJ (P3.opd (aJ (P3.opd (aJ (P3.opd (ak (by rfl) (jv T) f.dn (by rfl) T.bK.m T.bK.F.kp T.bK.b (aa (P3.opd (p3v 1)) (aa (P3.opd (dk (bv 0) (P3.opd ag))) ab)))) (P3.opd (ak (by rfl) (jv T) f.dn (by rfl) T.bK.m T.bK.F.kp T.bK.b (aa (P3.opd (p3v 1)) (aa (P3.opd (p3v 0)) ab)))))) (P3.opd ag))) (P3.opd ag)))))),λl Q h r=>?_⟩);obtain⟨F,m,rfl,g,u,t,q⟩:=h;walk_at "w";refine⟨by lia,by lia,small (by rw[bI];lia),aQ (λk c b=>c=(el k).map (λj=>D.int (c8 F j))/\∃ s,b=[fo s,some (.fz (il F))]) ⟨rfl,none,rfl⟩ ?_ ?_⟩
 .rintro k d c b o n ⟨rfl,s,rfl⟩;obtain⟨lt,rfl⟩:=C_ o;walk_at "w";refine⟨_,_,rfl,g,?_⟩;walk_at "w";refine⟨_,_,rfl,g,?_⟩;walk_at "w";exact⟨⟨by decide,by decide⟩,snoc rfl,some _,rfl⟩
 .rintro c b n ⟨rfl,s,rfl⟩;walk_at "w";rw[bI,ky,jC];exact q
theorem EN(T:Txt K mg a):aB P w K mg base CX0 2 a.DJ a.AW ["sums","many"] (sp3 K 2 (Gw gm λ_ _=>True)):=by
 refine ok3 T.oV.F JY (hbody:=λp A e s H E f=>⟨_,_,(ai (aq (bW rfl (bM (by rfl) T.z_range (af (p3v 1) au)) yI (λ_ _ _ _ _=>(aY (i:=0) yI.nd rfl (hE rfl))) (λ_ _ _ _ _=>(cJ (P3.opd (aJ (P3.opd (dk (P3.opd (ak (by rfl) (jv T) f.dn (by rfl) T.bK.m T.bK.F.kp T.bK.b (aa (P3.opd (p3v 1)) (aa (P3.opd (dk (bv 0) (P3.opd ag))) ab)))) (P3.opd (ak (by rfl) (jv T) f.dn (by rfl) T.bK.m T.bK.F.kp T.bK.b (aa (P3.opd (p3v 1)) (aa (P3.opd (aJ (bv 0) (P3.opd ag))) ab)))))) (P3.opd ag))) (P3.opd ag)))))),λl Q h r=>?_⟩);obtain⟨F,m,rfl,g,u,t,q⟩:=h;walk_at "w";refine⟨by lia,by lia,small (by rw[bI];lia),aQ (λk c b=>c=(el k).map (λj=>D.int (gm F j))/\∃ s,b=[fo s,some (.fz (il F))]) ⟨rfl,none,rfl⟩ ?_ ?_⟩
 .rintro k d c b o n ⟨rfl,s,rfl⟩;obtain⟨lt,rfl⟩:=C_ o;walk_at "w";refine⟨_,_,rfl,g,?_⟩;walk_at "w";refine⟨_,_,rfl,g,?_⟩;walk_at "w";exact⟨⟨by decide,by decide⟩,snoc rfl,some _,rfl⟩
 .rintro c b n ⟨rfl,s,rfl⟩;walk_at "w";rw[bI,ky,jC];exact q
theorem Gn(T:Txt K mg a):aB P w K mg base CX0 2 a.DI a.AV ["differences","many"] (sp3 K 2 (rd2 (λns=>.ln (il ns)) (λns m=>0<=m/\1<=ns.length/\m<=64) λns m=>rg (c8 ns) m.toNat)):=
 O_ ((EM T).imp (UG λd Q h=>by obtain⟨ns,m,rfl,⟨c,b,e⟩,q⟩:=h;exact⟨ns,m.toNat,by rw[Ym c],b,trivial,by lia,q⟩))
theorem Gp(T:Txt K mg a):aB P w K mg base CX0 2 a.DJ a.AW ["sums","many"] (sp3 K 2 (rd2 (λns=>.ln (il ns)) (λns m=>0<=m/\1<=ns.length/\m<=64) λns m=>rg (gm ns) m.toNat)):=
 O_ ((EN T).imp (UG λd Q h=>by obtain⟨ns,m,rfl,⟨c,b,e⟩,q⟩:=h;exact⟨ns,m.toNat,by rw[Ym c],b,trivial,by lia,q⟩))
noncomputable def seF (a:Li0):Li0:=rg (λj=>a.getD (2 * j + 1) 0) (a.length / 2)
theorem V4(a:Li0):pk (a.map D.int) (some 0) none (some 2)=(fsF a).map D.int:=by rw[QD _ 0];unfold fsF rg;rw[nr];rfl
theorem V3(a:Li0):pk (a.map D.int) (some 1) none (some 2)=(seF a).map D.int:=by rw[QC _ 0];unfold seF rg;rw[nr];rfl
theorem DF(a:Li0):(fsF a).length=(a.length + 1) / 2:=aK _ _
theorem FO(a:Li0):(seF a).length=a.length / 2:=aK _ _
theorem dj(f:Nat->Int)(h:j < k):(rg f k).getD j 0=f j:=by unfold rg;simp [vk,h]
theorem JN{p:Int->Int->Int}{l:Int->Int}(a:Li0)(h:2<=a.length):1<=(fv p l a).length:=by
 unfold fv;rw[bS,aK];lia
theorem fR(xs ys:Li0):(iI (xs.map D.int) (ys.map D.int)).length=min xs.length ys.length:=by unfold iI;simp
theorem zip_get{xs ys:Li0}{d:D}(h:(iI (xs.map D.int) (ys.map D.int))[k]?=some d):k < xs.length/\k < ys.length/\d=.tup [.int (xs.getD k 0),.int (ys.getD k 0)]:=by
 have lt:=(gS0 h).1;rw[fR] at lt;have b:k < xs.length:=by lia
 have a:k < ys.length:=by lia
 unfold iI at h;have:((xs.map D.int).zip (ys.map D.int))[k]?=some (D.int (xs.getD k 0),D.int (ys.getD k 0)):=by
  rw[KM];exact⟨by rw[cm,gE0 b];simp [vk,b],by rw[cm,gE0 a];simp [vk,a]⟩
 rw[cm,this] at h;cases h;exact⟨b,a,rfl⟩
def Gf (a:Ad)(ok:Rl->Prop):S3:=λΓ Q=>∃ (R:Rl) (ns:Li0),Γ=[some (.fz (R.ob a)),some (.fz (il ns))]/\ok R/\2<=ns.length/\ns.length<=64/\Q (.two ((R.sums ns).map .int) ((R.dif ns).map .int)) Γ
theorem rm(T:Txt K mg a):aB P w K mg base CX0 3 a.jz a.rS ["self","row"] (sp3 K 2 (Gf a λR=>R=.sum\/R=.half)):=by
 refine ok3 T.mX.F zU (hbody:=λi A d s H E e=>⟨_,_,(ai (aq (KD (P3.or (aC (by rfl) (bv 0) T.gI T.yZ (jT T) e.dn T.g6.b (aa (P3.opd (p3v 1)) ab)) (aC (by rfl) (bv 0) T.dq T.vW (jT T) e.dn T.g6.b (aa (P3.opd (p3v 1)) ab))) (ak (by rfl) (Ao T) e.dn (by rfl) T.iX.m T.iX.F.kp T.iX.b (aa (P3.opd (p3v 1)) ab))))),λg Q h j=>?_⟩);obtain⟨R,b,rfl,hR,f,c,q⟩:=h;walk_at "w";rcases hR with rfl | rfl
 .refine .inl ⟨rfl,.sum,b,rfl,by simp,f,c,?_⟩;walk_at "w";refine⟨b,rfl,c,?_⟩;walk_at "w";exact q
 .refine .inr ⟨rfl,.half,b,rfl,by simp,f,c,?_⟩;walk_at "w";refine⟨b,rfl,c,?_⟩;walk_at "w";exact q
theorem vL(T:Txt K mg a):aB P w K mg base CX0 3 a.jb a.mO ["self","row"] (sp3 K 2 (Gf a (·=.guess))):=by
 refine ok3 T.n6.F eW (hbody:=λt A l s H E p=>⟨_,_,(aj (Qe (i:=2) (j:=3) rfl eW.nd rfl rfl (by decide) (by rfl) (by rfl) (af (sH (by rfl) (bv 1) (bh (P3.opd ag)) cI (bh (P3.opd ag))) (af (sH (by rfl) (bv 1) (bh (P3.opd ag)) cI (bh (P3.opd ag))) au)) (by rfl))
   (aj (ey (i:=4) eW.nd rfl rfl rfl (lH (by rfl) T.z_zip (af (p3v 3) (af (ak (by rfl) (An T) p.dn (by rfl) T.iW.m T.iW.F.kp T.iW.b (aa (P3.opd (p3v 2)) (aa (P3.opd (av (cR (by rfl)) (by rfl) T.z_len (by decide +kernel) (aa (bv 3) ab))) ab))) au))) fL (λ_ _ _ _ _=>(gn (is:=[0,1]) (by rfl) (aD (aL (i:=0) fL.nd rfl (hE rfl)) (aD (aL (i:=1) fL.nd rfl (hE rfl)) cj)) rfl)) (λ_ _ _ _ _=>(dk (bv 0) (bv 1))))
   (aj (ey (i:=5) eW.nd rfl rfl rfl (lH (by rfl) T.z_zip (af (p3v 2) (af (ak (by rfl) (Gn T) p.dn (by rfl) T.oU.m T.oU.F.kp T.oU.b (aa (bv 4) (aa (P3.opd (av (cR (by rfl)) (by rfl) T.z_len (by decide +kernel) (aa (bv 2) ab))) ab))) au))) fM (λ_ _ _ _ _=>(gn (is:=[0,1]) (by rfl) (aD (aL (i:=0) fM.nd rfl (hE rfl)) (aD (aL (i:=1) fM.nd rfl (hE rfl)) cj)) rfl)) (λ_ _ _ _ _=>(aJ (bv 0) (bv 1))))
   (ai (aq (KD (qt 5) (qt 4))))))),λr Q h u=>?_⟩)
 obtain⟨R,b,rfl,hR,v,x,q⟩:=h;walk_at "w";subst hR;refine⟨by decide,by decide,?_⟩;rw[V4,V3];refine⟨fsF b,b.length / 2,by rw[lM0,FO],by rw[DF];lia,by rw[DF];lia,by lia,?_⟩;walk_at "w";have z1:(iI ((seF b).map D.int) ((rg (kG (fsF b)) (b.length / 2)).map D.int)).length=b.length / 2:=by rw[fR,FO,aK];lia
 refine⟨small (by rw[z1];lia),aQ (λk e c=>e=(el k).map (λj=>D.int (b.getD (2 * j + 1) 0 - kG (fsF b) j))/\∃ s f,c=[fo s,fo f]) ⟨rfl,none,none,rfl⟩ ?_ ?_⟩
 .rintro k d e c o n ⟨rfl,s,f,rfl⟩;obtain⟨g,m,rfl⟩:=zip_get o;rw[FO] at g;walk_at "w";exact⟨snoc (by unfold seF;rw[dj _ g,dj _ g]),some _,some _,rfl⟩
 .rintro e c n ⟨rfl,s,f,rfl⟩;rw[z1,jC];have z2:(Bc (fsF b) b).length=b.length / 2:=aK _ _;walk_at "w";refine⟨Bc (fsF b) b,(((b.length + 1) / 2:Nat):Int),by rw[lM0,DF];rfl,⟨by lia,by lia,by lia⟩,?_⟩;walk_at "w";rw[ky];have z3:(iI ((fsF b).map D.int) ((rg (c8 (Bc (fsF b) b)) ((b.length + 1) / 2)).map D.int)).length=(b.length + 1) / 2:=by rw[fR,DF,aK];lia
  refine⟨small (by rw[z3];lia),aQ (λk e c=>e=(el k).map (λj=>D.int ((fsF b).getD j 0 + c8 (Bc (fsF b) b) j))/\∃ s f,c=[fo s,fo f]) ⟨rfl,none,none,rfl⟩ ?_ ?_⟩
  .rintro k d e c o n ⟨rfl,s,f,rfl⟩;obtain⟨g,m,rfl⟩:=zip_get o;rw[aK] at m;walk_at "w";exact⟨snoc (by rw[dj _ m]),some _,some _,rfl⟩
  .rintro e c n ⟨rfl,s,f,rfl⟩;rw[z3,jC];walk_at "w";exact q
theorem vJ(T:Txt K mg a):aB P w K mg base CX0 3 a.i_ a.mH ["self","row"] (sp3 K 2 (Gf a (·=.lean))):=by
 refine ok3 T.nY.F mq (hbody:=λv A g s H E l=>⟨_,_,(aj (MI (i:=2) (j:=3) rfl mq.nd rfl rfl (by decide) (by rfl) (by rfl) (aC (by rfl) (bv 0) T.cL T.uT (jT T) l.dn T.g6.b (aa (P3.opd (p3v 1)) ab)) (ak (by rfl) (Ao T) l.dn (by rfl) T.iX.m T.iX.F.kp T.iX.b (aa (P3.opd (p3v 1)) ab)) (by rfl))
   (ai (aq (Nn 2 (bv 2) (bW rfl (lH (by rfl) T.z_zip (af (p3v 3) (af (ak (by rfl) (Gp T) l.dn (by rfl) T.oV.m T.oV.F.kp T.oV.b (aa (bv 2) (aa (P3.opd (av (cR (by rfl)) (by rfl) T.z_len (by decide +kernel) (aa (bv 3) ab))) ab))) au))) fJ (λ_ _ _ _ _=>(gn (is:=[0,1]) (by rfl) (aD (aL (i:=0) fJ.nd rfl (hE rfl)) (aD (aL (i:=1) fJ.nd rfl (hE rfl)) cj)) rfl)) (λ_ _ _ _ _=>(dk (bv 0) (bv 1)))))))),λr Q h y=>?_⟩)
 obtain⟨R,b,rfl,hR,o,p,q⟩:=h;walk_at "w";subst hR;refine⟨rfl,.lean,b,rfl,by simp,o,p,?_⟩;walk_at "w";refine⟨b,rfl,p,?_⟩;walk_at "w";have n:(rG b).length=b.length / 2:=aK _ _;refine⟨_,((b.length / 2:Nat):Int),by rw[lM0,n],⟨by lia,JN b o,by lia⟩,?_⟩;walk_at "w";rw[ky];have z1:(iI ((rG b).map D.int) ((rg (gm (fv Rl.lean.pair Rl.lean.xF b)) (b.length / 2)).map D.int)).length=b.length / 2:=by rw[fR,n,aK];lia
 refine⟨small (by rw[z1];lia),aQ (λk e c=>e=(el k).map (λj=>D.int ((rG b).getD j 0 - gm (fv Rl.lean.pair Rl.lean.xF b) j))/\∃ s f,c=[fo s,fo f]) ⟨rfl,none,none,rfl⟩ ?_ ?_⟩
 .rintro k d e c u t ⟨rfl,s,f,rfl⟩;obtain⟨x,m,rfl⟩:=zip_get u;rw[aK] at m;walk_at "w";exact⟨snoc (by rw[dj _ m]),some _,some _,rfl⟩
 .rintro e c t ⟨rfl,s,f,rfl⟩;rw[z1,jC];walk_at "w";exact⟨_,rfl,q⟩
def K9 (a:Ad):S3:=λΓ Q=>∃ (R:Rl) (ns:Li0),Γ=[some (.fz (R.ob a)),some (.fz (il ns))]/\Fig ns/\2<=ns.length/\ns.length<=64/\Q (.two ((R.sums ns).map .int) ((R.dif ns).map .int)) Γ
theorem iw(T:Txt K mg a):aB P w K mg base CX0 4 a.eS a.rV ["self","row"] (sp3 K 2 (K9 a)):=by
 refine ok3 T.gv.F zW (hbody:=λi A f s H E c=>⟨_,_,(aj (bg (bV (bU (ak (by rfl) (sJ T) c.dn (by rfl) T.dN.m T.dN.F.kp T.dN.b (aa (P3.opd (p3v 1)) (aa (P3.opd ag) ab))))) (ai dr) aV)
   (ai (aq (P3.or (aC (by rfl) (bv 0) T.gI T.Ay (rm T) c.dn T.mX.b (aa (P3.opd (p3v 1)) ab)) (P3.or (aC (by rfl) (bv 0) T.dq T.xB (rm T) c.dn T.mX.b (aa (P3.opd (p3v 1)) ab)) (P3.or (aC (by rfl) (bv 0) T.jf T.vZ (vL T) c.dn T.n6.b (aa (P3.opd (p3v 1)) ab)) (aC (by rfl) (bv 0) T.cL T.vT (vJ T) c.dn T.nY.b (aa (P3.opd (p3v 1)) ab)))))))),λg Q h j=>?_⟩)
 obtain⟨R,b,rfl,hR,e,d,q⟩:=h;walk_at "w";refine⟨b,2,rfl,hR,d,by lia,?_⟩;walk_at "w";cases R with
 | sum=>exact .inl ⟨rfl,.sum,b,rfl,.inl rfl,e,d,q⟩
 | half=>exact .inr (.inl ⟨rfl,.half,b,rfl,.inr rfl,e,d,q⟩)
 | guess=>exact .inr (.inr (.inl ⟨rfl,.guess,b,rfl,rfl,e,d,q⟩))
 | lean=>exact .inr (.inr (.inr ⟨rfl,.lean,b,rfl,rfl,e,d,q⟩))
noncomputable def Rl.num:Rl->Nat
 | .sum=>0 | .half=>1 | .guess=>2 | .lean=>3
noncomputable def Rl.word:Rl->Str
 | .sum=>"sum" | .half=>"half" | .guess=>"guess" | .lean=>"lean"
def fu (x:Str):S3:=λΓ Q=>∃ d,Γ=[some (.fz d)]/\Q (.fz (.str x)) Γ
theorem vI(T:Txt K mg a):aB P w K mg base CX0 1 a.r_ a.wz ["self"] (sp3 K 1 (fu "sum")):=by
 refine ok3 T.qG.F C6 (hbody:=λe A b s H E f=>⟨_,_,(ai (aq eA)),λc Q h g=>?_⟩);obtain⟨d,rfl,q⟩:=h;walk_at "w";exact q
theorem rz(T:Txt K mg a):aB P w K mg base CX0 1 a.nV a.rY ["self"] (sp3 K 1 (fu "half")):=by
 refine ok3 T.mZ.F zZ (hbody:=λe A b s H E f=>⟨_,_,(ai (aq eA)),λc Q h g=>?_⟩);obtain⟨d,rfl,q⟩:=h;walk_at "w";exact q
theorem p5(T:Txt K mg a):aB P w K mg base CX0 1 a.lM a.qd ["self"] (sp3 K 1 (fu "guess")):=by
 refine ok3 T.kR.F yR (hbody:=λe A b s H E f=>⟨_,_,(ai (aq eA)),λc Q h g=>?_⟩);obtain⟨d,rfl,q⟩:=h;walk_at "w";exact q
theorem p4(T:Txt K mg a):aB P w K mg base CX0 1 a.lL a.qc ["self"] (sp3 K 1 (fu "lean")):=by
 refine ok3 T.kO.F yQ (hbody:=λe A b s H E f=>⟨_,_,(ai (aq eA)),λc Q h g=>?_⟩);obtain⟨d,rfl,q⟩:=h;walk_at "w";exact q
def MM (a:Ad):S3:=λΓ Q=>Γ=[]/\Q (.fr (.lst [Rl.sum.ob a,Rl.half.ob a,Rl.guess.ob a,Rl.lean.ob a])) Γ
theorem Dt(T:Txt K mg a):aB P w K mg base CX0 1 a.yA a.wq [] (sp3 K 0 (MM a)):=by
 refine ok3 T.mi.F C4 (hbody:=λd A b s H E e=>⟨_,_,(ai (aq (cY (af (gX T.mk_Sums (by rfl) T.NL) (af (gX T.mk_Halves (by rfl) T.IL) (af (gX T.mk_Guessed (by rfl) T.GA) (af (gX T.mk_Leaning (by rfl) T.Gz) au))))))),λc Q h f=>?_⟩);obtain⟨rfl,q⟩:=h;walk_at "w";exact⟨by rw[hG];lia,q⟩
def Qg (a:Ad):S3:=λΓ Q=>∃ (R:Rl),Γ=[some (.fz (.str R.word))]/\Q (.fz (R.ob a)) Γ
theorem Gm(T:Txt K mg a):aB P w K mg base CX0 2 a.CC a.AU ["word"] (sp3 K 1 (Qg a)):=by
 refine ok3 T.sy.F zQ (hbody:=λm A j s H E c=>⟨_,_,(aj (k_ wh rfl (eX (by rfl) (KJ (by rfl) (Dt T) c.dn (by rfl) T.mi.m T.mi.F.kp T.mi.b)) (aY (i:=1) zQ.nd rfl (hE rfl))
   (ai (bg (aX (gr (by rfl) c) (P3.opd (P3.or (aM (by rfl) (bv 1) T.gI T.vR (vI T) c.dn T.qG.b) (P3.or (aM (by rfl) (bv 1) T.dq T.rC (rz T) c.dn T.mZ.b) (P3.or (aM (by rfl) (bv 1) T.jf T.p7 (p5 T) c.dn T.kR.b) (aM (by rfl) (bv 1) T.cL T.p6 (p4 T) c.dn T.kO.b))))) (bv 0) (a9 _)) (ai (aq (qt 1))) aV)))
   (ai dr)),λl Q h n=>?_⟩)
 obtain⟨R,rfl,q⟩:=h;walk_at "w";refine⟨rfl,?_⟩;walk_at "w";refine fH (λk g=>k<=R.num/\∃ s,g=[some (.fz (.str R.word)),fo s]) ⟨Do _,none,rfl⟩ ?_ ?_
 .rintro k d g b ⟨f,s,rfl⟩
  match k,b with
  | 0,b=>
   cases b;walk_at "w";refine .inl ⟨rfl,_,rfl,?_⟩;walk_at "w";refine iT (λe=>?_) (λe=>?_)
   .have hR:R=.sum:=by cases R <;> first | rfl | exact absurd e (by decide +kernel)
    subst hR;walk_at "w";exact q
   .walk_at "w";exact⟨by cases R <;> first | decide | exact absurd f (by decide) | exact absurd e (by decide +kernel),some _,rfl⟩
  | 1,b=>
   cases b;walk_at "w";refine .inr (.inl ⟨rfl,_,rfl,?_⟩);walk_at "w";refine iT (λe=>?_) (λe=>?_)
   .have hR:R=.half:=by cases R <;> first | rfl | exact absurd e (by decide +kernel)
    subst hR;walk_at "w";exact q
   .walk_at "w";exact⟨by cases R <;> first | decide | exact absurd f (by decide) | exact absurd e (by decide +kernel),some _,rfl⟩
  | 2,b=>
   cases b;walk_at "w";refine .inr (.inr (.inl ⟨rfl,_,rfl,?_⟩));walk_at "w";refine iT (λe=>?_) (λe=>?_)
   .have hR:R=.guess:=by cases R <;> first | rfl | exact absurd e (by decide +kernel)
    subst hR;walk_at "w";exact q
   .walk_at "w";exact⟨by cases R <;> first | decide | exact absurd f (by decide) | exact absurd e (by decide +kernel),some _,rfl⟩
  | 3,b=>
   cases b;walk_at "w";refine .inr (.inr (.inr ⟨rfl,_,rfl,?_⟩));walk_at "w";refine iT (λe=>?_) (λe=>?_)
   .have hR:R=.lean:=by cases R <;> first | rfl | exact absurd e (by decide +kernel)
    subst hR;walk_at "w";exact q
   .walk_at "w";exact⟨by cases R <;> first | decide | exact absurd f (by decide) | exact absurd e (by decide +kernel),some _,rfl⟩
 .rintro g ⟨f,_⟩;cases R <;> exact absurd (show 4<=_ from f) (by decide)
noncomputable abbrev plD (a:Ad)(R:Rl)(h w:Int)(ls:List Lt):D:=.ins a.a_ ["chosen","corners","letters"] [R.ob a,.tup ((qy h w ls).map cD),.str (wy ls)]
def Vt:S3:=λΓ Q=>∃ (l:Lt) (h w:Int),Γ=[some (.fz (.str l.s)),some (.fz (.int h)),some (.fz (.int w))]/\Can l h w/\Q (.fz (.bl true)) Γ
def Qa:S3:=λΓ Q=>∃ h w:Int,Γ=[some (.fz (.int h)),some (.fz (.int w))]/\D8 h w/\Q (.fz (.bl true)) Γ
theorem Am(T:Txt K mg a):aB P w K mg base CX0 2 a.CD a.AX ["height","width"] (sp3 K 2 Qa):=by
 refine ok3 T.iV.F FQ (hbody:=λe A b s H E c=>⟨_,_,(aj (bg (P3W.pt (uO (bV (bU (ak (by rfl) (fG T) c.dn (by rfl) T.aW.m T.aW.F.kp T.aW.b (aa (P3.opd (p3v 0)) (aa (P3.opd ag) (aa (P3.opd (gG (i:=64) (by rfl) T.mT)) ab)))))) (pC (bV (bU (ak (by rfl) (fG T) c.dn (by rfl) T.aW.m T.aW.F.kp T.aW.b (aa (P3.opd (p3v 1)) (aa (P3.opd ag) (aa (P3.opd (gG (i:=64) (by rfl) T.mT)) ab))))))))) (ai (aq og)) aV)
   (ai (aq (i9 Bj (P3.opd (ir (bv 0) (bv 1))) (P3.opd (gG (i:=512) (by rfl) T.B0)) (a9 _))))),λd Q h g=>?_⟩)
 obtain⟨h,w,rfl,⟨m,l,k,j,f⟩,q⟩:=h;walk_at "w";refine⟨_,_,_,rfl,rfl,?_⟩;rw[show whD (.int h) 1 64=true by simp only[whD,sE,decide_eq_true_eq];lia];walk_at "w";refine⟨_,_,_,rfl,rfl,?_⟩;rw[show whD (.int w) 1 64=true by simp only[whD,sE,decide_eq_true_eq];lia];walk_at "w";refine⟨.inl ⟨by lia,by lia⟩,?_⟩;rw[show xQ (h * w) 512=true by simp only[xQ,decide_eq_true_eq];exact f];exact q
theorem Ds(T:Txt K mg a):aB P w K mg base CX0 1 a.yz a.wo ["letter","height","width"] (sp3 K 3 Vt):=by
 refine ok3 T.mh.F C2 (hbody:=λf A b s H E g=>⟨_,_,(aj (bg (P3W.pt (Dl (aX (uu (by rfl)) (bv 0) (P3.opd (ju (p:=a.cB) (zs:=["r","b"]) (by rfl) T.iF)) (by with_unfolding_all rfl)) (Ag (aX Fv (bv 2) (P3.opd ag) (a9 _))))) (ai (aq og)) aV)
   (aj (bg (P3W.pt (Dl (aX (uu (by rfl)) (bv 0) (P3.opd (ju (p:=a.bj) (zs:=["p","b"]) (by rfl) T.eL)) (by with_unfolding_all rfl)) (Ag (aX Fv (bv 1) (P3.opd ag) (a9 _))))) (ai (aq og)) aV)
   (ai (aq (TV (i9 (uu (by rfl)) (bv 0) (P3.opd (ju (p:=a.cB) (zs:=["r","b"]) (by rfl) T.iF)) (by with_unfolding_all rfl)) (Ah (i9 (uu (by rfl)) (bv 0) (P3.opd (ju (p:=a.bj) (zs:=["p","b"]) (by rfl) T.eL)) (by with_unfolding_all rfl)))))))),λe Q h i=>?_⟩)
 obtain⟨l,h,w,rfl,⟨c1,c2⟩,q⟩:=h;have d:l≠.p->GS w 2=false:=λz=>by have:=c1 z;simp only[GS,decide_eq_false_iff_not];lia
 have c:l≠.r->GS h 2=false:=λz=>by have:=c2 z;simp only[GS,decide_eq_false_iff_not];lia
 cases l
 .walk_at "w";rw[d (by decide)];walk_at "w";exact q
 .walk_at "w";rw[c (by decide)];walk_at "w";exact q
 .walk_at "w";rw[d (by decide)];walk_at "w";rw[c (by decide)];walk_at "w";exact q
def Sj:S3:=λΓ Q=>∃ (h w:Int) (ls:List Lt),Γ=[some (.fz (.int h)),some (.fz (.int w)),some (.fz (.str (wy ls)))]/\Good h w ls/\ls.length<=10/\Q (.fz (.tup ((qy h w ls).map cD))) Γ
theorem xT{h w:Int}{ls:List Lt}(a:k < ls.length):((qy h w ls).take (k + 1)).map cD++[cD (cat h w ls (k + 1))]=((qy h w ls).take (k + 2)).map cD:=by
 have e:(qy h w ls).take (k + 1 + 1)=(qy h w ls).take (k + 1)++[cat h w ls (k + 1)]:=by
  conv=>lhs;rw[ad9]
  rw[HQ (by lia)];rfl
 show _=((qy h w ls).take (k + 1 + 1)).map cD;rw[e,gp];rfl
theorem NQ{ls:List Lt}{d:D}(h:(ls.map λl=>D.str l.s)[k]?=some d):∃ l,ls[k]?=some l/\d=.str l.s:=by
 rw[cm] at h;cases q:ls[k]? with
 | none=>rw[q] at h;cases h
 | some l=>rw[q] at h;cases h;exact⟨l,rfl,rfl⟩
theorem pN{b:Type}{l:List b}{a:b}(h:l[k]?=some a):k < l.length:=(gS0 h).1
theorem BL(T:Txt K mg a):aB P w K mg base CX0 2 a.wG a.t5 ["height","width","way"] (sp3 K 3 Sj):=by
 refine ok3 T.ke.F gy (hbody:=λv A j s H E r=>⟨_,_,(aj (bg (bV (bU (av (Vw T.tys) (by rfl) T.z_isinstance (by decide +kernel) (aa (bv 2) (aa (P3.opd (Ci (n:="str") (by rfl) T.z_str (by decide +kernel))) ab))))) (ai dr) aV)
   (aj (aP (i:=3) gy.nd rfl (hE rfl) (cY (af (i8 (af (p3v 0) (af (p3v 1) au))) au)))
   (aj (k_ wh rfl (RH (p3v 2)) (aY (i:=4) gy.nd rfl (hE rfl))
   (aj (bg (bV (bU (ak (by rfl) (Ds T) r.dn (by rfl) T.mh.m T.mh.F.kp T.mh.b (aa (P3.opd (p3v 4)) (aa (P3.opd (p3v 0)) (aa (P3.opd (p3v 1)) ab)))))) (ai dr) aV)
   (aj (bg (aX (uu (by rfl)) (bv 4) (P3.opd (ju (p:=a.cB) (zs:=["r","b"]) (by rfl) T.iF)) (by with_unfolding_all rfl)) (ai (aP (i:=1) gy.nd rfl (hE rfl) (cJ (P3.opd (aJ (bv 1) (P3.opd ag))) (P3.opd ag)))) aV)
   (aj (bg (aX (uu (by rfl)) (bv 4) (P3.opd (ju (p:=a.bj) (zs:=["p","b"]) (by rfl) T.eL)) (by with_unfolding_all rfl)) (ai (aP (i:=0) gy.nd rfl (hE rfl) (cJ (P3.opd (aJ (bv 0) (P3.opd ag))) (P3.opd ag)))) aV)
   (ai (dJ (oh 3 (by rfl) (bv 3) (i8 (af (p3v 0) (af (p3v 1) au))))))))))
   (ai (aq (fY (DT (by rfl)) (by rfl) T.z_tuple (by decide +kernel) (aa (bv 3) ab))))))),λo Q h e=>?_⟩)
 obtain⟨h,w,b,rfl,g,t,q⟩:=h;walk_at "w";refine⟨by rw[hG];lia,by rw[hG];lia,?_⟩;refine⟨PL b,fH (λk f=>k<=b.length/\∃ s,f=[some (.fz (.int (cat h w b k).1)),some (.fz (.int (cat h w b k).2)),some (.fz (.str (wy b))),some (.ow (.lst (((qy h w b).take (k + 1)).map cD))),fo s]) ⟨Do _,none,by rw[yG];cases b <;> rfl⟩ ?_ ?_⟩
 .rintro k d f m ⟨u,s,rfl⟩;rw[D_] at m;obtain⟨l,e,rfl⟩:=NQ m;have lt:=pN e;walk_at "w";refine⟨l,_,_,rfl,wc g e,?_⟩;walk_at "w";have st:=Bf (h:=h) (w:=w) e;have x:((qy h w b).take (k + 1)).length<=11:=by rw[gs,wQ];lia
  have z1:(2:Nat)<=sizeLine:=by rw[hG];lia
  have z2:(((qy h w b).take (k + 1)).map cD).length < sizeLine:=by rw[lM0,hG];lia
  cases l
  .have c:cat h w b (k + 1)=((cat h w b k).1,((cat h w b k).2 + 1) / 2):=st;walk_at "w";refine⟨⟨by decide,by decide⟩,?_⟩;walk_at "w";refine⟨z1,z2,lt,some (.str Lt.r.s),?_⟩;rw[<- xT lt,c]
   rfl
  .have c:cat h w b (k + 1)=(((cat h w b k).1 + 1) / 2,(cat h w b k).2):=st;walk_at "w";refine⟨⟨by decide,by decide⟩,?_⟩;walk_at "w";refine⟨z1,z2,lt,some (.str Lt.p.s),?_⟩;rw[<- xT lt,c]
   rfl
  .have c:cat h w b (k + 1)=(((cat h w b k).1 + 1) / 2,((cat h w b k).2 + 1) / 2):=st;walk_at "w";refine⟨⟨by decide,by decide⟩,?_⟩;walk_at "w";refine⟨⟨by decide,by decide⟩,?_⟩;walk_at "w";refine⟨z1,z2,lt,some (.str Lt.b.s),?_⟩;rw[<- xT lt,c]
   rfl
 .rintro f ⟨u,s,rfl⟩;walk_at "w";rw[D_,lM0,ng (by rw[wQ];lia)];exact q
def Qz (a:Ad):S3:=λΓ Q=>∃ (R:Rl) (h w:Int) (ls:List Lt),Γ=[some (.ln (.ins a.a_ [] [])),some (.fz (.int h)),some (.fz (.int w)),some (.fz (.str R.word)),some (.fz (.str (wy ls)))]/\D8 h w/\Good h w ls/\ls.length<=10/\
 Q (.fz .non) [some (.ln (plD a R h w ls)),some (.fz (.int h)),some (.fz (.int w)),some (.fz (.str R.word)),some (.fz (.str (wy ls)))]
theorem xx(T:Txt K mg a):aB P w K mg base CX0 3 a.j5 a.oA ["self","height","width","word","way"] (sp3 K 5 (Qz a)):=by
 refine ok3 T.pU.F xo (hbody:=λj A b s H E c=>⟨_,_,(aj (bg (bV (bU (ak (by rfl) (Am T) c.dn (by rfl) T.iV.m T.iV.F.kp T.iV.b (aa (P3.opd (p3v 1)) (aa (P3.opd (p3v 2)) ab))))) (ai dr) aV)
   (aj (zx (C0:=a.a_) 0 (by rfl) T.bJ T.rB (bv 0) (ak (by rfl) (Gm T) c.dn (by rfl) T.sy.m T.sy.F.kp T.sy.b (aa (P3.opd (p3v 3)) ab)))
   (aj (zx (C0:=a.a_) 0 (by rfl) T.bJ T.gH (bv 0) (ak (by rfl) (BL T) c.dn (by rfl) T.ke.m T.ke.F.kp T.ke.b (aa (P3.opd (p3v 1)) (aa (P3.opd (p3v 2)) (aa (P3.opd (p3v 4)) ab)))))
   (ai (zx (C0:=a.a_) 0 (by rfl) T.bJ T.jV (bv 0) (p3v 4)))))),λe Q h k=>?_⟩)
 obtain⟨R,h,w,i,rfl,f,g,d,q⟩:=h;walk_at "w";refine⟨h,w,rfl,f,?_⟩;walk_at "w";refine⟨R,rfl,?_⟩;walk_at "w";refine⟨h,w,i,rfl,g,d,?_⟩;walk_at "w";exact⟨by decide +kernel,by decide +kernel,q⟩
def zO (a:Ad)(f:Rl->Int->Int->List Lt->D):S3:=λΓ Q=>∃ (R:Rl) (h w:Int) (ls:List Lt),Γ=[some (.fz (plD a R h w ls))]/\ls.length<=10/\Q (.fz (f R h w ls)) Γ
theorem fZ(T:Txt K mg a):aB P w K mg base CX0 1 a.sd a.wB ["self"] (sp3 K 1 (zO a λR _ _ _=>R.ob a)):=by
 refine ok3 T.fj.F C8 (hbody:=λe A b s H E i=>⟨_,_,(ai (aq (iu (f:="chosen") (by rfl) (bv 0) T.bJ T.rB))),λc Q h j=>?_⟩);obtain⟨R,h,w,g,rfl,d,q⟩:=h;walk_at "w";exact q
theorem ya(T:Txt K mg a):aB P w K mg base CX0 1 a.uZ a.yq ["self"] (sp3 K 1 (zO a λ_ _ _ ls=>.str (wy ls))):=by
 refine ok3 T.uz.F Et (hbody:=λe A b s H E g=>⟨_,_,(ai (aq (iu (f:="letters") (by rfl) (bv 0) T.bJ T.jV))),λc Q h i=>?_⟩);obtain⟨R,h,w,ls,rfl,d,q⟩:=h;walk_at "w";exact q
theorem As(T:Txt K mg a):aB P w K mg base CX0 1 a.nR a.rW ["self"] (sp3 K 1 (zO a λ_ h _ _=>.int h)):=by
 refine ok3 T.tQ.F zX (hbody:=λg A b s H E i=>⟨_,_,(ai (aq (ba (by rfl) (P3.opd (ba (by rfl) (P3.opd (iu (f:="corners") (by rfl) (bv 0) T.bJ T.gH)) (P3.opd ag) (λ_ _=>rfl))) (P3.opd ag) (λ_ _=>rfl)))),λc Q h j=>?_⟩);obtain⟨R,h,w,ls,rfl,d,q⟩:=h;walk_at "w";have e:=D0 (h:=h) (w:=w) (ls:=ls) (k:=0) (Do _);rw[yG] at e;refine de.mpr ⟨_,e,?_⟩;unfold cD;walk_at "w";exact q
theorem BQ(T:Txt K mg a):aB P w K mg base CX0 1 a.pP a.uc ["self"] (sp3 K 1 (zO a λ_ _ w _=>.int w)):=by
 refine ok3 T.vd.F BD (hbody:=λg A b s H E i=>⟨_,_,(ai (aq (ba (by rfl) (P3.opd (ba (by rfl) (P3.opd (iu (f:="corners") (by rfl) (bv 0) T.bJ T.gH)) (P3.opd ag) (λ_ _=>rfl))) (P3.opd ag) (λ_ _=>rfl)))),λc Q h j=>?_⟩);obtain⟨R,h,w,ls,rfl,d,q⟩:=h;walk_at "w";have e:=D0 (h:=h) (w:=w) (ls:=ls) (k:=0) (Do _);rw[yG] at e;refine de.mpr ⟨_,e,?_⟩;unfold cD;walk_at "w";exact q
theorem nG(T:Txt K mg a):aB P w K mg base CX0 1 a.pQ a.ud ["self"] (sp3 K 1 (zO a λ_ _ _ ls=>.int ls.length)):=by
 refine ok3 T.kj.F BE (hbody:=λe A b s H E g=>⟨_,_,(ai (aq (av (cR (by rfl)) (by rfl) T.z_len (by decide +kernel) (aa (P3.opd (iu (f:="letters") (by rfl) (bv 0) T.bJ T.jV)) ab)))),λc Q h i=>?_⟩);obtain⟨R,h,w,ls,rfl,d,q⟩:=h;walk_at "w";refine⟨by rw[cz,hG];lia,?_⟩;rw[cz];exact q
def LD (a:Ad):S3:=λΓ Q=>∃ (R:Rl) (h w:Int) (ls:List Lt) (k:Nat),Γ=[some (.fz (plD a R h w ls)),some (.fz (.int k))]/\ls.length<=10/\k<=ls.length/\Q (.fz (cD (cat h w ls k))) Γ
theorem lC(T:Txt K mg a):aB P w K mg base CX0 2 a.nU a.rX ["self","step"] (sp3 K 2 (LD a)):=by
 refine ok3 T.jo.F zY (hbody:=λj A b s H E e=>⟨_,_,(aj (bg (bV (bU (ak (by rfl) (fG T) e.dn (by rfl) T.aW.m T.aW.F.kp T.aW.b (aa (P3.opd (p3v 1)) (aa (P3.opd ag) (aa (P3.opd (aM (by rfl) (bv 0) T.bJ T.nL (nG T) e.dn T.kj.b)) ab)))))) (ai dr) aV)
   (ai (aq (ba (by rfl) (P3.opd (iu (f:="corners") (by rfl) (bv 0) T.bJ T.gH)) (bv 1) (λ_ _=>rfl))))),λg Q h l=>?_⟩)
 obtain⟨R,h,w,d,k,rfl,c,i,q⟩:=h;walk_at "w";refine⟨by decide +kernel,R,h,w,d,rfl,c,?_⟩;walk_at "w";refine⟨_,_,_,rfl,rfl,?_⟩;rw[show whD (.int k) 0 (d.length:Int)=true by simp only[whD,sE,decide_eq_true_eq];lia];walk_at "w";exact de.mpr ⟨_,D0 i,q⟩
theorem jh{a:Type}{f:a->D}{l:List a}{d:D}(h:(l.map f)[k]?=some d):∃ x,l[k]?=some x/\d=f x:=by
 rw[cm] at h;cases q:l[k]? with
 | none=>rw[q] at h;cases h
 | some x=>rw[q] at h;cases h;exact⟨x,rfl,rfl⟩
theorem take_snoc{a:Type}{xs:List a}{x:a}(h:xs[k]?=some x):xs.take (k + 1)=xs.take k++[x]:=by rw[ad9,h];rfl
theorem CW(h:n<=200000):n < sizeLine:=by rw[hG];lia
theorem P9(h:n<=200000):n<=sizeLine:=Wn (CW h)
theorem z1:1<=sizeLine:=by rw[hG];decide
theorem z2:2<=sizeLine:=by rw[hG];decide
theorem z3:3<=sizeLine:=by rw[hG];decide
theorem z4:4<=sizeLine:=by rw[hG];decide
theorem z5:5<=sizeLine:=by rw[hG];decide
theorem z0:0<=sizeLine:=Do _
theorem dW{i:Int}{d:D}(h:(rng i n)[k]?=some d):k < n/\d=.int (i + (k:Int)):=by
 unfold rng at h;exact v9 h
theorem Cw{f:Nat->List D}:((el k).map f).flatten++f k=((el (k + 1)).map f).flatten:=by
 rw[Yh,gp,Yn];simp
theorem Fc {f:Nat->List D}{m:Nat}(a:∀ k,(f k).length=m):∀ n:Nat,((el n).map f).flatten.length=n * m
 | 0=>by simp
 | n + 1=>by rw[<- Cw,bS,Fc a n,a,Nat.add_mul,Nat.one_mul]
theorem J7{lo c:Int}{d:D}(h:(Aa lo c n)[k]?=some d):k < n/\d=.int (lo + (k:Int) * c):=by
 unfold Aa at h;exact v9 h
theorem J6(lo c:Int)(n:Nat):(Aa lo c n).length=n:=by simp [Aa]
noncomputable def Rl.two (R:Rl)(t g:Int):Li0:=match R with
 | .sum=>[(t + g) / 2,t - (t + g) / 2]
 | _=>[t + (g + 1) / 2,t + (g + 1) / 2 - g]
noncomputable def Rl.one (R:Rl)(t:Int):Int:=match R with
 | .sum=>t / 2
 | _=>t
def OP (f:Int->Int->Li0):S3:=λΓ Q=>∃ (d:D) (x y:Int),Γ=[some (.fz d),some (.fz (.int x)),some (.fz (.int y))]/\Q (.fr (il (f x y))) Γ
theorem yW(T:Txt K mg a):aB P w K mg base CX0 1 a.iC a.qa ["self","total","gap"] (sp3 K 3 (OP Rl.sum.two)):=by
 refine ok3 T.qI.F pZ (hbody:=λe A b s H E f=>⟨_,_,(aj (aP (i:=3) pZ.nd rfl (hE rfl) (cJ (P3.opd (aJ (bv 1) (bv 2))) (P3.opd ag)))
   (ai (aq (cY (af (p3v 3) (af (dk (bv 1) (bv 3)) au)))))),λc Q h g=>?_⟩)
 obtain⟨d,x,y,rfl,q⟩:=h;walk_at "w";exact⟨⟨by decide,by decide⟩,by rw[hG];lia,q⟩
theorem mE(T:Txt K mg a):aB P w K mg base CX0 1 a.gb a.mK ["self","total","gap"] (sp3 K 3 (OP Rl.half.two)):=by
 refine ok3 T.iY.F mv (hbody:=λe A b s H E f=>⟨_,_,(aj (aP (i:=3) mv.nd rfl (hE rfl) (aJ (bv 1) (P3.opd (cJ (P3.opd (aJ (bv 2) (P3.opd ag))) (P3.opd ag)))))
   (ai (aq (cY (af (p3v 3) (af (dk (bv 3) (bv 2)) au)))))),λc Q h g=>?_⟩)
 obtain⟨d,x,y,rfl,q⟩:=h;walk_at "w";exact⟨⟨by decide,by decide⟩,by rw[hG];lia,q⟩
theorem yX(T:Txt K mg a):aB P w K mg base CX0 1 a.iD a.qb ["self","total"] (sp3 K 2 (IY Rl.sum.one)):=by
 refine ok3 T.qJ.F yP (hbody:=λe A b s H E f=>⟨_,_,(ai (aq (cJ (bv 1) (P3.opd ag)))),λc Q h g=>?_⟩);obtain⟨d,x,rfl,q⟩:=h;walk_at "w";exact⟨⟨by decide,by decide⟩,q⟩
theorem mF(T:Txt K mg a):aB P w K mg base CX0 1 a.gc a.mM ["self","total"] (sp3 K 2 (IY Rl.half.one)):=by
 refine ok3 T.iZ.F vj (hbody:=λe A b s H E f=>⟨_,_,(ai (aq (qt 1))),λc Q h g=>?_⟩);obtain⟨d,x,rfl,q⟩:=h;walk_at "w";exact q
noncomputable def ez (f:Int->Int->Li0)(S G:Li0)(k:Nat):Li0:=((el k).map λj=>f (S.getD j 0) (G.getD j 0)).flatten
theorem mB{f:Int->Int->Li0}{S G:Li0}:ez f S G k++f (S.getD k 0) (G.getD k 0)=ez f S G (k + 1):=by
 unfold ez;rw[Yh,gp,Yn];simp
theorem dE {f:Int->Int->Li0}(a:∀ x y,(f x y).length=2){S G:Li0}:∀ k:Nat,(ez f S G k).length=2 * k
 | 0=>by simp [ez]
 | k + 1=>by rw[<- mB,bS,dE a k,a];lia
theorem sA(R:Rl)(x y:Int):(R.two x y).length=2:=by cases R <;> rfl
noncomputable def vt (R:Rl)(S G:Li0):Li0:=ez R.two S G G.length++(if S.length=G.length then [] else [R.one (S.getD (S.length - 1) 0)])
def MN (a:Ad):S3:=λΓ Q=>∃ (R:Rl) (S G:Li0),Γ=[some (.fz (R.ob a)),some (.fz (il S)),some (.fz (il G))]/\R≠.guess/\G.length<=S.length/\S.length<=G.length + 1/\1<=G.length/\S.length<=64/\Q (.fr (il (vt R S G))) Γ
theorem lB(T:Txt K mg a):aB P w K mg base CX0 2 a.eR a.rR ["self","sums","gaps"] (sp3 K 3 (MN a)):=by
 refine ok3 T.jn.F hU (hbody:=λu A l s H E c=>⟨_,_,(aj (aP (i:=3) hU.nd rfl (hE rfl) (cY au))
   (aj (k_ wh rfl (lH (by rfl) T.z_zip (af (p3v 1) (af (p3v 2) au))) (gn (is:=[4,5]) (by rfl) (aD (aL (i:=4) hU.nd rfl (hE rfl)) (aD (aL (i:=5) hU.nd rfl (hE rfl)) cj)) rfl)
   (ai (dJ (Cj 3 (by rfl) (bv 3) (P3.opd (P3.or (aC (by rfl) (bv 0) T.gI T.y3 (yW T) c.dn T.qI.b (aa (P3.opd (p3v 4)) (aa (P3.opd (p3v 5)) ab))) (P3.or (aC (by rfl) (bv 0) T.dq T.vX (mE T) c.dn T.iY.b (aa (P3.opd (p3v 4)) (aa (P3.opd (p3v 5)) ab))) (aC (by rfl) (bv 0) T.cL T.uU (mE T) c.dn T.iY.b (aa (P3.opd (p3v 4)) (aa (P3.opd (p3v 5)) ab))))))))))
   (aj (bg (aX wV (P3.opd (av (cR (by rfl)) (by rfl) T.z_len (by decide +kernel) (aa (bv 1) ab))) (P3.opd (av (cR (by rfl)) (by rfl) T.z_len (by decide +kernel) (aa (bv 2) ab))) (a9 _)) (ai (dJ (oh 3 (by rfl) (bv 3) (P3.or (aC (by rfl) (bv 0) T.gI T.y4 (yX T) c.dn T.qJ.b (aa (P3.opd (ba (by rfl) (bv 1) (P3.opd (gQ (P3.opd ag))) (λ_ _=>rfl))) ab)) (P3.or (aC (by rfl) (bv 0) T.dq T.vY (mF T) c.dn T.iZ.b (aa (P3.opd (ba (by rfl) (bv 1) (P3.opd (gQ (P3.opd ag))) (λ_ _=>rfl))) ab)) (aC (by rfl) (bv 0) T.cL T.uV (mF T) c.dn T.iZ.b (aa (P3.opd (ba (by rfl) (bv 1) (P3.opd (gQ (P3.opd ag))) (λ_ _=>rfl))) ab))))))) aV)
   (ai (aq (qt 3)))))),λp Q h x=>?_⟩)
 obtain⟨R,S,G,rfl,hR,C,B,z,y,q⟩:=h;walk_at "w";refine⟨by rw[hG];lia,?_⟩;have o:=dE (f:=R.two) (sA R) (S:=S) (G:=G);refine fH (λk g=>k<=G.length/\∃ s j,g=[some (.fz (R.ob a)),some (.fz (il S)),some (.fz (il G)),some (.ow (il (ez R.two S G k))),fo s,fo j]) ⟨by lia,none,none,rfl⟩ ?_ ?_
 .rintro k d g t ⟨r,s,j,rfl⟩;obtain⟨v,m,rfl⟩:=zip_get t;walk_at "w";have b:(Wq D.int (ez R.two S G k)).length + (Wq D.int (R.two (S.getD k 0) (G.getD k 0))).length<=sizeLine:=by rw[lM0,lM0,o,sA,hG];lia
  have fin:D.lst (Wq D.int (ez R.two S G k)++Wq D.int (R.two (S.getD k 0) (G.getD k 0)))=il (ez R.two S G (k + 1)):=by rw[il,<- mB,gp]
  cases R with
  | guess=>exact absurd rfl hR
  | sum=>
   refine .inl ?_;walk_at "w";refine⟨rfl,_,_,_,rfl,?_⟩;walk_at "w";exact⟨b,m,some _,some _,by rw[<- fin];rfl⟩
  | half=>
   refine .inr (.inl ?_);walk_at "w";refine⟨rfl,_,_,_,rfl,?_⟩;walk_at "w";exact⟨b,m,some _,some _,by rw[<- fin];rfl⟩
  | lean=>
   refine .inr (.inr ?_);walk_at "w";refine⟨rfl,_,_,_,rfl,?_⟩;walk_at "w";exact⟨b,m,some _,some _,by rw[<- fin];rfl⟩
 .rintro g ⟨r,s,j,rfl⟩;rw[fR,show min S.length G.length=G.length by lia];walk_at "w";rw[lM0,lM0];by_cases e:S.length=G.length
  .rw[show zb (S.length:Int) (G.length:Int)=false by simp only[zb,decide_eq_false_iff_not];lia];have n:vt R S G=ez R.two S G G.length:=by unfold vt;rw[if_pos e,td]
   rw[n] at q;exact q
  .rw[show zb (S.length:Int) (G.length:Int)=true by simp only[zb,decide_eq_true_eq];lia];have n:vt R S G=ez R.two S G G.length++[R.one (S.getD (S.length - 1) 0)]:=by unfold vt;rw[if_neg e]
   rw[n,il,gp] at q;have b:(Wq D.int (ez R.two S G G.length)).length < sizeLine:=by rw[lM0,o,hG];lia
   dsimp only;cases R with
   | guess=>exact absurd rfl hR
   | sum=>
    refine .inl ?_;walk_at "w";refine⟨rfl,de.mpr ⟨_,lV (by lia),?_⟩⟩;walk_at "w";refine⟨_,_,rfl,?_⟩;walk_at "w";exact⟨b,q⟩
   | half=>
    refine .inr (.inl ?_);walk_at "w";refine⟨rfl,de.mpr ⟨_,lV (by lia),?_⟩⟩;walk_at "w";refine⟨_,_,rfl,?_⟩;walk_at "w";exact⟨b,q⟩
   | lean=>
    refine .inr (.inr ?_);walk_at "w";refine⟨rfl,de.mpr ⟨_,lV (by lia),?_⟩⟩;walk_at "w";refine⟨_,_,rfl,?_⟩;walk_at "w";exact⟨b,q⟩
def Jq:S3:=λΓ Q=>∃ (S D:Li0),Γ=[some (.fz (il S)),some (.fz (il D))]/\Fig S/\Fig D/\1<=D.length/\D.length<=S.length/\S.length<=D.length + 1/\S.length + D.length<=64/\Q (.fz (.bl true)) Γ
theorem tV(T:Txt K mg a):aB P w K mg base CX0 4 a.wJ a.t8 ["sums","differences"] (sp3 K 2 Jq):=by
 refine ok3 T.er.F BA (hbody:=λg A b s H E c=>⟨_,_,(aj (bg (P3W.pt (uO (bV (bU (ak (by rfl) (sJ T) c.dn (by rfl) T.dN.m T.dN.F.kp T.dN.b (aa (P3.opd (p3v 1)) (aa (P3.opd ag) ab))))) (pC (bV (bU (ak (by rfl) (sJ T) c.dn (by rfl) T.dN.m T.dN.F.kp T.dN.b (aa (P3.opd (p3v 0)) (aa (P3.opd (av (cR (by rfl)) (by rfl) T.z_len (by decide +kernel) (aa (bv 1) ab))) ab)))))))) (ai (aq og)) aV)
   (ai (aq (Dn (i9 Bj (P3.opd (av (cR (by rfl)) (by rfl) T.z_len (by decide +kernel) (aa (bv 0) ab))) (P3.opd (aJ (P3.opd (av (cR (by rfl)) (by rfl) T.z_len (by decide +kernel) (aa (bv 1) ab))) (P3.opd ag))) (a9 _)) (Ah (i9 Bj (P3.opd (aJ (P3.opd (av (cR (by rfl)) (by rfl) T.z_len (by decide +kernel) (aa (bv 0) ab))) (P3.opd (av (cR (by rfl)) (by rfl) T.z_len (by decide +kernel) (aa (bv 1) ab))))) (P3.opd (gG (i:=64) (by rfl) T.mT)) (a9 _))))))),λd Q h j=>?_⟩)
 obtain⟨S,D,rfl,f,e,n,m,l,k,q⟩:=h;walk_at "w";refine⟨D,1,rfl,e,by lia,by lia,?_⟩;walk_at "w";refine⟨S,D.length,by rw[lM0],f,by lia,by lia,?_⟩;walk_at "w";rw[lM0,lM0,show xQ (S.length:Int) ((D.length:Int) + 1)=true by simp only[xQ,decide_eq_true_eq];lia,show xQ ((S.length:Int) + (D.length:Int)) 64=true by simp only[xQ,decide_eq_true_eq];lia];exact q
noncomputable def jK (F S:Li0):Li0:=ez (λx y=>[x,y]) F S S.length++F.drop S.length
def Mi:S3:=λΓ Q=>∃ (F S:Li0),Γ=[some (.fz (il F)),some (.fz (il S))]/\S.length<=F.length/\F.length<=64/\Q (.fr (il (jK F S))) Γ
theorem LC{F:Li0}(h:n<=F.length):cut (F.map D.int) (some (n:Int)) none=(F.drop n).map D.int:=by
 have e:_h.sIx (F.map D.int).length 0 (some (n:Int))=n:=by
  simp only[_h.sIx,lM0];split <;> lia
 unfold cut;rw[e,show _h.sIx (F.map D.int).length (F.map D.int).length none=F.length by simp [_h.sIx]];rw[ng (by simp),YJ]
theorem Aj(T:Txt K mg a):aB P w K mg base CX0 1 a.HI a.Fd ["firsts","seconds"] (sp3 K 2 Mi):=by
 refine ok3 T.ji.F vh (hbody:=λp A e s H E t=>⟨_,_,(aj (aP (i:=2) vh.nd rfl (hE rfl) (cY au))
   (aj (k_ wh rfl (lH (by rfl) T.z_zip (af (p3v 0) (af (p3v 1) au))) (gn (is:=[3,4]) (by rfl) (aD (aL (i:=3) vh.nd rfl (hE rfl)) (aD (aL (i:=4) vh.nd rfl (hE rfl)) cj)) rfl)
   (ai (dJ (Cj 2 (by rfl) (bv 2) (P3.opd (cY (af (p3v 3) (af (p3v 4) au))))))))
   (ai (aq (aJ (bv 2) (P3.opd (dX (by rfl) (bv 0) (bh (P3.opd (av (cR (by rfl)) (by rfl) T.z_len (by decide +kernel) (aa (bv 1) ab)))) cI))))))),λj Q h u=>?_⟩)
 obtain⟨F,S,rfl,o,v,q⟩:=h;walk_at "w";refine⟨by rw[hG];lia,?_⟩;have g:=dE (f:=λx y=>[x,y]) (λ_ _=>rfl) (S:=F) (G:=S);refine fH (λk b=>k<=S.length/\∃ s c,b=[some (.fz (il F)),some (.fz (il S)),some (.ow (il (ez (λx y=>[x,y]) F S k))),fo s,fo c]) ⟨by lia,none,none,rfl⟩ ?_ ?_
 .rintro k d b n ⟨m,s,c,rfl⟩;obtain⟨r,l,rfl⟩:=zip_get n;walk_at "w";refine⟨by rw[hG];lia,by rw[lM0,g,hG];lia,l,some (.int (F.getD k 0)),some (.int (S.getD k 0)),?_⟩;rw[<- show D.lst ((ez (λx y=>[x,y]) F S k).map D.int++[D.int (F.getD k 0),D.int (S.getD k 0)])=il (ez (λx y=>[x,y]) F S (k + 1)) by rw[il,<- mB,gp];rfl];rfl
 .rintro b ⟨m,s,c,rfl⟩;rw[fR,show min F.length S.length=S.length by lia];walk_at "w";simp only[lM0];rw[LC o];refine⟨by rw[lM0,g,lr,hG];lia,?_⟩;rw[<- gp];exact q
noncomputable def Pc (S D:Li0):Li0:=jK (rg (λj=>S.getD j 0 - c8 D j) S.length) (rg (λj=>D.getD j 0 + kG (rg (λj=>S.getD j 0 - c8 D j) S.length) j) D.length)
noncomputable def rF (R:Rl)(S D:Li0):Li0:=match R with
 | .guess=>Pc S D
 | .lean=>vt .lean S (rg (λj=>D.getD j 0 + gm S j) D.length)
 | R=>vt R S D
def GF (a:Ad)(ok:Rl->Prop):S3:=λΓ Q=>∃ (R:Rl) (S D:Li0),Γ=[some (.fz (R.ob a)),some (.fz (il S)),some (.fz (il D))]/\ok R/\1<=D.length/\D.length<=S.length/\S.length<=D.length + 1/\S.length + D.length<=64/\Q (.fr (il (rF R S D))) Γ
theorem rn(T:Txt K mg a):aB P w K mg base CX0 3 a.jA a.rT ["self","sums","differences"] (sp3 K 3 (GF a λR=>R=.sum\/R=.half)):=by
 refine ok3 T.mY.F zV (hbody:=λi A b s H E c=>⟨_,_,(ai (aq (P3.or (aC (by rfl) (bv 0) T.gI T.Ax (lB T) c.dn T.jn.b (aa (P3.opd (p3v 1)) (aa (P3.opd (p3v 2)) ab))) (aC (by rfl) (bv 0) T.dq T.xA (lB T) c.dn T.jn.b (aa (P3.opd (p3v 1)) (aa (P3.opd (p3v 2)) ab)))))),λg Q h j=>?_⟩);obtain⟨R,S,D,rfl,hR,f,e,d,k,q⟩:=h;walk_at "w";rcases hR with rfl | rfl
 .exact .inl ⟨rfl,.sum,S,D,rfl,by simp,e,d,f,by lia,q⟩
 .exact .inr ⟨rfl,.half,S,D,rfl,by simp,e,d,f,by lia,q⟩
theorem vM(T:Txt K mg a):aB P w K mg base CX0 3 a.jc a.mP ["self","sums","differences"] (sp3 K 3 (GF a (·=.guess))):=by
 refine ok3 T.n8.F hV (hbody:=λu A l s H E m=>⟨_,_,(aj (ey (i:=3) hV.nd rfl rfl rfl (lH (by rfl) T.z_zip (af (p3v 1) (af (ak (by rfl) (EM T) m.dn (by rfl) T.oU.m T.oU.F.kp T.oU.b (aa (P3.opd (p3v 2)) (aa (P3.opd (av (cR (by rfl)) (by rfl) T.z_len (by decide +kernel) (aa (bv 1) ab))) ab))) au))) fN (λ_ _ _ _ _=>(gn (is:=[0,1]) (by rfl) (aD (aL (i:=0) fN.nd rfl (hE rfl)) (aD (aL (i:=1) fN.nd rfl (hE rfl)) cj)) rfl)) (λ_ _ _ _ _=>(dk (bv 0) (bv 1))))
   (aj (ey (i:=4) hV.nd rfl rfl rfl (lH (by rfl) T.z_zip (af (p3v 2) (af (ak (by rfl) (An T) m.dn (by rfl) T.iW.m T.iW.F.kp T.iW.b (aa (P3.opd (p3v 3)) (aa (P3.opd (av (cR (by rfl)) (by rfl) T.z_len (by decide +kernel) (aa (bv 2) ab))) ab))) au))) fO (λ_ _ _ _ _=>(gn (is:=[0,1]) (by rfl) (aD (aL (i:=0) fO.nd rfl (hE rfl)) (aD (aL (i:=1) fO.nd rfl (hE rfl)) cj)) rfl)) (λ_ _ _ _ _=>(aJ (bv 0) (bv 1))))
   (ai (aq (ak (by rfl) (Aj T) m.dn (by rfl) T.ji.m T.ji.F.kp T.ji.b (aa (P3.opd (p3v 3)) (aa (P3.opd (p3v 4)) ab))))))),λp Q h v=>?_⟩)
 obtain⟨R,S,c,rfl,hR,t,z,y,x,q⟩:=h;subst hR;walk_at "w";refine⟨c,S.length,by rw[lM0],t,trivial,by lia,?_⟩;walk_at "w";have z1:(iI (S.map D.int) ((rg (c8 c) S.length).map D.int)).length=S.length:=by rw[fR,aK];lia
 refine⟨small (by rw[z1];lia),aQ (λk e b=>e=(el k).map (λj=>D.int (S.getD j 0 - c8 c j))/\∃ s f,b=[fo s,fo f]) ⟨rfl,none,none,rfl⟩ ?_ ?_⟩
 .rintro k d e b o n ⟨rfl,s,f,rfl⟩;obtain⟨r,g,rfl⟩:=zip_get o;rw[aK] at g;walk_at "w";exact⟨snoc (by rw[dj _ g]),some _,some _,rfl⟩
 .rintro e b n ⟨rfl,s,f,rfl⟩;rw[z1,jC];walk_at "w";refine⟨rg (λj=>S.getD j 0 - c8 c j) S.length,c.length,by rw[lM0];rfl,by rw[aK];lia,by rw[aK];lia,by lia,?_⟩;walk_at "w";have z3:(iI (c.map D.int) ((rg (kG (rg (λj=>S.getD j 0 - c8 c j) S.length)) c.length).map D.int)).length=c.length:=by rw[fR,aK];lia
  refine⟨small (by rw[z3];lia),aQ (λk e b=>e=(el k).map (λj=>D.int (c.getD j 0 + kG (rg (λj=>S.getD j 0 - c8 c j) S.length) j))/\∃ s f,b=[fo s,fo f]) ⟨rfl,none,none,rfl⟩ ?_ ?_⟩
  .rintro k d e b o n ⟨rfl,s,f,rfl⟩;obtain⟨r,g,rfl⟩:=zip_get o;rw[aK] at g;walk_at "w";exact⟨snoc (by rw[dj _ g]),some _,some _,rfl⟩
  .rintro e b n ⟨rfl,s,f,rfl⟩;rw[z3,jC];walk_at "w";exact⟨_,_,rfl,by simp;lia,by simp;lia,q⟩
theorem vK(T:Txt K mg a):aB P w K mg base CX0 3 a.ja a.mJ ["self","sums","differences"] (sp3 K 3 (GF a (·=.lean))):=by
 refine ok3 T.n4.F mr (hbody:=λr A g s H E m=>⟨_,_,(aj (ey (i:=3) mr.nd rfl rfl rfl (lH (by rfl) T.z_zip (af (p3v 2) (af (ak (by rfl) (EN T) m.dn (by rfl) T.oV.m T.oV.F.kp T.oV.b (aa (P3.opd (p3v 1)) (aa (P3.opd (av (cR (by rfl)) (by rfl) T.z_len (by decide +kernel) (aa (bv 2) ab))) ab))) au))) fK (λ_ _ _ _ _=>(gn (is:=[0,1]) (by rfl) (aD (aL (i:=0) fK.nd rfl (hE rfl)) (aD (aL (i:=1) fK.nd rfl (hE rfl)) cj)) rfl)) (λ_ _ _ _ _=>(aJ (bv 0) (bv 1))))
   (ai (aq (aC (by rfl) (bv 0) T.cL T.vS (lB T) m.dn T.jn.b (aa (P3.opd (p3v 1)) (aa (P3.opd (p3v 3)) ab)))))),λn Q h u=>?_⟩)
 obtain⟨R,S,c,rfl,hR,z,y,x,v,q⟩:=h;subst hR;walk_at "w";refine⟨S,c.length,by rw[lM0],by lia,trivial,by lia,?_⟩;walk_at "w";have z1:(iI (c.map D.int) ((rg (gm S) c.length).map D.int)).length=c.length:=by rw[fR,aK];lia
 refine⟨small (by rw[z1];lia),aQ (λk e b=>e=(el k).map (λj=>D.int (c.getD j 0 + gm S j))/\∃ s f,b=[fo s,fo f]) ⟨rfl,none,none,rfl⟩ ?_ ?_⟩
 .rintro k d e b p o ⟨rfl,s,f,rfl⟩;obtain⟨t,l,rfl⟩:=zip_get p;rw[aK] at l;walk_at "w";exact⟨snoc (by rw[dj _ l]),some _,some _,rfl⟩
 .rintro e b o ⟨rfl,s,f,rfl⟩;rw[z1,jC];walk_at "w";exact⟨rfl,.lean,S,_,rfl,by simp,by simp;lia,by simp;lia,by simp;lia,by lia,q⟩
def Sx (a:Ad):S3:=λΓ Q=>∃ (R:Rl) (S D:Li0),Γ=[some (.fz (R.ob a)),some (.fz (il S)),some (.fz (il D))]/\Fig S/\Fig D/\1<=D.length/\D.length<=S.length/\S.length<=D.length + 1/\S.length + D.length<=64/\Q (.fr (il (rF R S D))) Γ
theorem kx(T:Txt K mg a):aB P w K mg base CX0 5 a.g0 a.wA ["self","sums","differences"] (sp3 K 3 (Sx a)):=by
 refine ok3 T.jB.F C7 (hbody:=λm A i s H E b=>⟨_,_,(aj (bg (bV (bU (ak (by rfl) (tV T) b.dn (by rfl) T.er.m T.er.F.kp T.er.b (aa (P3.opd (p3v 1)) (aa (P3.opd (p3v 2)) ab))))) (ai dr) aV)
   (ai (aq (P3.or (aC (by rfl) (bv 0) T.gI T.Az (rn T) b.dn T.mY.b (aa (P3.opd (p3v 1)) (aa (P3.opd (p3v 2)) ab))) (P3.or (aC (by rfl) (bv 0) T.dq T.xC (rn T) b.dn T.mY.b (aa (P3.opd (p3v 1)) (aa (P3.opd (p3v 2)) ab))) (P3.or (aC (by rfl) (bv 0) T.jf T.v5 (vM T) b.dn T.n8.b (aa (P3.opd (p3v 1)) (aa (P3.opd (p3v 2)) ab))) (aC (by rfl) (bv 0) T.cL T.vU (vK T) b.dn T.n4.b (aa (P3.opd (p3v 1)) (aa (P3.opd (p3v 2)) ab))))))))),λj Q h n=>?_⟩)
 obtain⟨R,S,g,rfl,l,k,f,e,d,c,q⟩:=h;walk_at "w";refine⟨S,g,rfl,l,k,f,e,d,c,?_⟩;walk_at "w";cases R with
 | sum=>exact .inl ⟨rfl,.sum,S,g,rfl,.inl rfl,f,e,d,c,q⟩
 | half=>exact .inr (.inl ⟨rfl,.half,S,g,rfl,.inr rfl,f,e,d,c,q⟩)
 | guess=>exact .inr (.inr (.inl ⟨rfl,.guess,S,g,rfl,rfl,f,e,d,c,q⟩))
 | lean=>exact .inr (.inr (.inr ⟨rfl,.lean,S,g,rfl,rfl,f,e,d,c,q⟩))
theorem eH{A B:Li0}:(A++B).getD j 0=if j < A.length then A.getD j 0 else B.getD (j - A.length) 0:=by
 by_cases h:j < A.length
 .rw[if_pos h];simp [vk,ef h]
 .rw[if_neg h];simp [vk,ic (Xb h)]
theorem uN {f:Int->Int->Li0}(a:∀ x y,(f x y).length=2){S G:Li0}:∀ {k j:Nat},j < k->(ez f S G k).getD (2 * j) 0=(f (S.getD j 0) (G.getD j 0)).getD 0 0/\(ez f S G k).getD (2 * j + 1) 0=(f (S.getD j 0) (G.getD j 0)).getD 1 0
 | 0,j,h=>absurd h (by lia)
 | k + 1,j,h=>by
  have b:=dE a (S:=S) (G:=G) k;rw[<- mB,eH,eH,b];by_cases e:j < k
  .rw[if_pos (by lia),if_pos (by lia)];exact uN a e
  .have:j=k:=by lia
   subst this;rw[if_neg (by lia),if_neg (by lia),show 2 * j - 2 * j=0 by lia,show 2 * j + 1 - 2 * j=1 by lia];exact⟨rfl,rfl⟩
theorem z9(R:Rl){S G:Li0}(b:G.length<=S.length)(a:S.length<=G.length + 1):(vt R S G).length=S.length + G.length:=by
 unfold vt;rw[bS,dE (sA R)];split <;> simp <;> lia
theorem z_(R:Rl){S G:Li0}(h:j < G.length):(vt R S G).getD (2 * j) 0=(R.two (S.getD j 0) (G.getD j 0)).getD 0 0/\(vt R S G).getD (2 * j + 1) 0=(R.two (S.getD j 0) (G.getD j 0)).getD 1 0:=by
 unfold vt;rw[eH,eH,dE (sA R),if_pos (by lia),if_pos (by lia)];exact uN (sA R) h
theorem xu(R:Rl){S G:Li0}(h:S.length=G.length + 1):(vt R S G).getD (2 * G.length) 0=R.one (S.getD G.length 0):=by
 unfold vt;rw[eH,dE (sA R),if_neg (by lia),if_neg (by lia),show 2 * G.length - 2 * G.length=0 by lia,h]
 rfl
theorem SU{p:Int->Int->Int}{l:Int->Int}{a:Li0}(h:a.length % 2=1):(fv p l a).getD (a.length / 2) 0=l (a.getD (a.length - 1) 0):=by
 unfold fv;rw[eH,aK,if_neg (by lia),if_pos h,SD]
 rfl
theorem Ie{p:Int->Int->Int}{l:Int->Int}(a:Li0):(fv p l a).length=(a.length + 1) / 2:=by
 unfold fv;rw[bS,aK];split <;> simp <;> lia
theorem xg{F S:Li0}(h:S.length<=F.length):(jK F S).length=F.length + S.length:=by
 unfold jK;rw[bS,dE (λ_ _=>rfl),lr];lia
theorem xh{F S:Li0}(h:j < S.length):(jK F S).getD (2 * j) 0=F.getD j 0/\(jK F S).getD (2 * j + 1) 0=S.getD j 0:=by
 unfold jK;rw[eH,eH,dE (λ_ _=>rfl),if_pos (by lia),if_pos (by lia)];exact uN (λ_ _=>rfl) h
theorem uA{F S:Li0}(h:F.length=S.length + 1):(jK F S).getD (2 * S.length) 0=F.getD S.length 0:=by
 unfold jK;rw[eH,dE (λ_ _=>rfl),if_neg (by lia),SD];simp [vk]
theorem W5:(el n).map (λ_=>D.bl true)=((el n).map λ_=>true).map D.bl:=by rw[nr];rfl
theorem all_true:((el n).map λ_=>true).all id=true:=by simp
structure GR (w:Nat) (R:LL0):Prop where
 h1:1<=R.length
 h2:R.length<=64
 w1:1<=w
 w2:w<=64
 all:R.length * w<=512
 len:∀ r∈R,r.length=w
 fig:∀ r∈R,Fig r
noncomputable abbrev rD (R:LL0):D:=.lst (R.map il)
noncomputable abbrev tD (r:Li0):D:=.tup (r.map .int)
noncomputable abbrev fD (a:Ad)(R:LL0):D:=.ins a.aO ["grid"] [.tup (R.map tD)]
def Qh:S3:=λΓ Q=>∃ (w:Nat) (R:LL0),Γ=[some (.fz (rD R))]/\GR w R/\Q (.fz (.bl true)) Γ
theorem GR.at0{w:Nat}{R:LL0}(g:GR w R):∃ r,R[0]?=some r/\r∈R/\r.length=w:=by
 have h:=g.h1;exact⟨R[0],gE0 (by lia),FB _,g.len _ (FB _)⟩
theorem ER(T:Txt K mg a):aB P w K mg base CX0 4 a.A5 a.ym ["thing"] (sp3 K 1 Qh):=by
 refine ok3 T.oX.F x5 (hbody:=λx A l s H E e=>⟨_,_,(aj (bg (P3W.pt (uO (bV (bU (av (PC T.ty) (by rfl) T.z_isinstance (by decide +kernel) (aa (bv 0) (aa (P3.opd (Ci (n:="list") (by rfl) T.z_list (by decide +kernel))) ab))))) (pC (aX (gr (by rfl) e) (P3.opd (av (cR (by rfl)) (by rfl) T.z_len (by decide +kernel) (aa (bv 0) ab))) (P3.opd ag) (a9 _))))) (ai (aq og)) aV)
   (aj (bg (bV (bU (av (LX (by rfl) rfl) (by rfl) T.z_all (by decide +kernel) (aa (P3.opd (bW rfl (eX (by rfl) (p3v 0)) sf (λ_ _ _ _ _=>(aY (i:=0) sf.nd rfl (hE rfl))) (λ_ _ _ _ _=>(ak (by rfl) (sJ T) e.dn (by rfl) T.dN.m T.dN.F.kp T.dN.b (aa (P3.opd (p3v 0)) (aa (P3.opd ag) ab)))))) ab)))) (ai (aq og)) aV)
   (aj (aP (i:=1) x5.nd rfl (SF rfl) (av (cR (by rfl)) (by rfl) T.z_len (by decide +kernel) (aa (P3.opd (ba (by rfl) (bv 0) (P3.opd ag) (λ_ _=>rfl))) ab)))
   (ai (aq (Dn (ak (by rfl) (Am T) e.dn (by rfl) T.iV.m T.iV.F.kp T.iV.b (aa (P3.opd (av (cR (by rfl)) (by rfl) T.z_len (by decide +kernel) (aa (bv 0) ab))) (aa (P3.opd (p3v 1)) ab))) (Ah (av (LX (by rfl) rfl) (by rfl) T.z_all (by decide +kernel) (aa (P3.opd (bW rfl (eX (by rfl) (p3v 0)) sg (λ_ _ _ _ _=>(aY (i:=0) sg.nd rfl (hE rfl))) (λ_ _ _ _ _=>(i9 (gr (by rfl) e) (P3.opd (av (cR (by rfl)) (by rfl) T.z_len (by decide +kernel) (aa (bv 0) ab))) (bv 1) (a9 _))))) ab))))))))),λp Q h y=>?_⟩)
 obtain⟨w,R,rfl,g,q⟩:=h;have B:=g.h1;have z:=g.h2;obtain⟨t,v,u,c⟩:=g.at0;walk_at "w";rw[lM0,show ((R.length:Int) == 0)=false by rw[beq_eq_false_iff_ne];lia];walk_at "w";refine⟨small (by rw[lM0];lia),aQ (λk f b=>f=(el k).map (λ_=>D.bl true)/\∃ s,b=[fo s]) ⟨rfl,none,rfl⟩ ?_ ?_⟩
 .rintro k d f b o m ⟨rfl,s,rfl⟩;obtain⟨r,e,rfl⟩:=jh o;have j:=hW e;walk_at "w";refine⟨r,1,rfl,g.fig r j,by rw[g.len r j];exact g.w2,by rw[g.len r j];have:=g.w1;lia,?_⟩;walk_at "w";exact⟨snoc rfl,some _,rfl⟩
 .rintro f b m ⟨rfl,s,rfl⟩;walk_at "w";refine⟨(el R.length).map λ_=>true,by rw[lM0,nr];rfl,?_⟩;rw[all_true];walk_at "w";refine de.mpr ⟨il t,dA (by decide) (by rw[cm,show (Ys 0)=0 from rfl,v];rfl),?_⟩;walk_at "w";refine⟨_,_,rfl,⟨by rw[lM0];lia,by rw[lM0,c];have:=g.w1;lia,by rw[lM0];lia,by rw[lM0,c];have:=g.w2;lia,by rw[lM0,lM0,c];have:=g.all;exact_mod_cast this⟩,?_⟩;walk_at "w";refine⟨small (by rw[lM0];lia),aQ (λk f b=>f=(el k).map (λ_=>D.bl true)/\∃ s,b=[fo s,some (.fz (.int w))]) ⟨rfl,none,by rw[lM0,c];rfl⟩ ?_ ?_⟩
  .rintro k d f b o m ⟨rfl,s,rfl⟩;obtain⟨r,e,rfl⟩:=jh o;have j:=hW e;walk_at "w";rw[lM0,g.len r j];walk_at "w";exact⟨snoc rfl,some _,rfl⟩
  .rintro f b m ⟨rfl,s,rfl⟩;walk_at "w";refine⟨(el R.length).map λ_=>true,by rw[lM0,nr];rfl,?_⟩;rw[all_true];exact q
def RE (a:Ad):S3:=λΓ Q=>∃ (w:Nat) (R:LL0),Γ=[some (.ln (.ins a.aO [] [])),some (.fz (rD R))]/\GR w R/\Q (.fz .non) [some (.ln (fD a R)),some (.fz (rD R))]
theorem cp(T:Txt K mg a):aB P w K mg base CX0 5 a.je a.mR ["self","rows"] (sp3 K 2 (RE a)):=by
 refine ok3 T.bL.F vn (hbody:=λn A e s H E f=>⟨_,_,(aj (bg (bV (bU (ak (by rfl) (ER T) f.dn (by rfl) T.oX.m T.oX.F.kp T.oX.b (aa (P3.opd (p3v 1)) ab)))) (ai dr) aV)
   (ai (zx (C0:=a.aO) 0 (by rfl) T.bw T.eQ (bv 0) (fY (DT (by rfl)) (by rfl) T.z_tuple (by decide +kernel) (aa (P3.opd (bW rfl (eX (by rfl) (p3v 1)) jJ (λ_ _ _ _ _=>(aY (i:=0) jJ.nd rfl (hE rfl))) (λ_ _ _ _ _=>(fY (DT (by rfl)) (by rfl) T.z_tuple (by decide +kernel) (aa (bv 0) ab))))) ab))))),λj Q h o=>?_⟩)
 obtain⟨w,R,rfl,g,q⟩:=h;have p:=g.h2;walk_at "w";refine⟨w,R,rfl,g,?_⟩;walk_at "w";refine⟨small (by rw[lM0];lia),aQ (λk c b=>c=(R.take k).map tD/\∃ s,b=[fo s]) ⟨rfl,none,rfl⟩ ?_ ?_⟩
 .rintro k d c b m l ⟨rfl,s,rfl⟩;obtain⟨r,f,rfl⟩:=jh m;walk_at "w";exact⟨by rw[take_snoc f,gp];rfl,some _,rfl⟩
 .rintro c b l ⟨rfl,s,rfl⟩;walk_at "w";rw[ng (by rw[lM0];exact ek _)];exact q
def Ob (a:Ad):S3:=λΓ Q=>∃ (w:Nat) (R:LL0),Γ=[some (.fz (fD a R))]/\GR w R/\Q (.fr (rD R)) Γ
theorem jw(T:Txt K mg a):aB P w K mg base CX0 1 a.pR a.ue ["self"] (sp3 K 1 (Ob a)):=by
 refine ok3 T.g7.F BF (hbody:=λo A e s H E j=>⟨_,_,(ai (aq (bW rfl (GJ (by rfl) (iu (f:="grid") (by rfl) (bv 0) T.bw T.eQ)) oM (λ_ _ _ _ _=>(aY (i:=0) oM.nd rfl (hE rfl))) (λ_ _ _ _ _=>(fY (Sr (by rfl)) (by rfl) T.z_list (by decide +kernel) (aa (bv 0) ab)))))),λl Q h p=>?_⟩);obtain⟨w,R,rfl,g,q⟩:=h;have t:=g.h2;walk_at "w";refine⟨CW (by rw[lM0];lia),aQ (λk c b=>c=(R.take k).map il/\∃ s,b=[fo s]) ⟨rfl,none,rfl⟩ ?_ ?_⟩
 .rintro k d c b n m ⟨rfl,s,rfl⟩;obtain⟨r,j,rfl⟩:=jh n;walk_at "w";exact⟨by rw[take_snoc j,gp];rfl,some _,rfl⟩
 .rintro c b m ⟨rfl,s,rfl⟩;walk_at "w";rw[ng (by rw[lM0];exact ek _)];exact q
def Jd (a:Ad):S3:=λΓ Q=>∃ (w:Nat) (R:LL0),Γ=[some (.fz (fD a R))]/\GR w R/\Q (.fz (.int R.length)) Γ
theorem jU(T:Txt K mg a):aB P w K mg base CX0 1 a.lQ a.qf ["self"] (sp3 K 1 (Jd a)):=by
 refine ok3 T.g8.F yT (hbody:=λd A b s H E e=>⟨_,_,(ai (aq (av (cR (by rfl)) (by rfl) T.z_len (by decide +kernel) (aa (P3.opd (iu (f:="grid") (by rfl) (bv 0) T.bw T.eQ)) ab)))),λc Q h i=>?_⟩);obtain⟨w,R,rfl,g,q⟩:=h;walk_at "w";rw[lM0];exact q
def Lf (a:Ad):S3:=λΓ Q=>∃ (w:Nat) (R:LL0),Γ=[some (.fz (fD a R))]/\GR w R/\Q (.fz (.int w)) Γ
theorem lD(T:Txt K mg a):aB P w K mg base CX0 1 a.nW a.rZ ["self"] (sp3 K 1 (Lf a)):=by
 refine ok3 T.jq.F z7 (hbody:=λk A b s H E l=>⟨_,_,(ai (aq (av (cR (by rfl)) (by rfl) T.z_len (by decide +kernel) (aa (P3.opd (ba (by rfl) (P3.opd (iu (f:="grid") (by rfl) (bv 0) T.bw T.eQ)) (P3.opd ag) (λ_ _=>rfl))) ab)))),λd Q h m=>?_⟩);obtain⟨w,R,rfl,g,q⟩:=h;obtain⟨e,j,i,c⟩:=g.at0;walk_at "w";refine de.mpr ⟨tD e,dA (by decide) (by rw[cm,show (Ys 0)=0 from rfl,j];rfl),?_⟩;walk_at "w";rw[lM0,c];exact q
noncomputable abbrev pD (h w:Int):D:=.tup [.int h,.int w]
noncomputable def GP (w:Nat)(y:Nat):List D:=(el w).map λx:Nat=>pD (y:Int) (x:Int)
noncomputable def pls (h w:Nat):List D:=((el h).map (GP w)).flatten
theorem Fb{w y:Nat}:(GP w y).length=w:=by simp [GP]
theorem Hj{h w:Nat}:(pls h w).length=h * w:=Fc (λ_=>Fb) h
def Jc (a:Ad):S3:=λΓ Q=>∃ (w:Nat) (R:LL0),Γ=[some (.fz (fD a R))]/\GR w R/\Q (.fr (.lst (pls R.length w))) Γ
theorem yY(T:Txt K mg a):aB P w K mg base CX0 2 a.lP a.qe ["self"] (sp3 K 1 (Jc a)):=by
 refine ok3 T.qK.F yS (hbody:=λu A f s H E m=>⟨_,_,(ai (aq (EJ rfl (bM (by rfl) T.z_range (af (aM (by rfl) (bv 0) T.bw T.j0 (jU T) m.dn T.g8.b) au)) gW (λ_ _ _ _ _=>(aY (i:=0) gW.nd rfl (hE rfl))) (λ_ _ _ _ _=>(bM (by rfl) T.z_range (af (aM (by rfl) (bv 2) T.bw T.lG (lD T) m.dn T.jq.b) au))) (λ_ _ _ _ _=>(aY (i:=1) gW.nd rfl (hE rfl))) (λ_ _ _ _ _=>(i8 (af (p3v 0) (af (p3v 1) au))))))),λn Q h x=>?_⟩);obtain⟨w,R,rfl,g,q⟩:=h;have y:=g.h2;have v:=g.w2;walk_at "w";refine⟨by decide +kernel,w,R,rfl,g,?_⟩;walk_at "w";refine⟨by lia,by lia,xU (λk e b=>e=pls k w/\k<=R.length/\∃ s c,b=[fo s,fo c,some (.fz (fD a R))]) ⟨rfl,by lia,none,none,rfl⟩ ?_ ?_⟩
 .rintro k d e b l ⟨rfl,p,s,c,rfl⟩;obtain⟨lt,rfl⟩:=dW l;have t:k * w<=64 * 64:=HT (by lia) (by lia);walk_at "w";refine⟨by decide +kernel,w,R,rfl,g,?_⟩;walk_at "w";refine⟨by lia,by lia,λj e b=>e=pls k w++GP j k/\j<=w/\∃ c,b=[some (.fz (.int (0 + (k:Int)))),fo c,some (.fz (fD a R))],⟨by simp [GP],by lia,c,rfl⟩,?_,?_⟩
  .rintro j d e b l ⟨rfl,r,c,rfl⟩;obtain⟨o,rfl⟩:=dW l;walk_at "w";refine⟨CW (by rw[bS,Hj,Fb];lia),P9 (by decide),?_,by lia,some _,rfl⟩;rw[Xx];congr 1;unfold GP;rw[Yh,gp];simp
  .rintro e b ⟨rfl,r,c,rfl⟩;refine⟨?_,by lia,some _,c,rfl⟩;rw[bI];exact Cw
 .rintro e b ⟨rfl,p,s,c,rfl⟩;have t:R.length * w<=64 * 64:=HT (by lia) (by lia);rw[bI,ky];refine⟨CW (by rw[Hj];lia),?_⟩;walk_at "w";exact q
def Jz:S3:=λΓ Q=>∃ (y x h w:Int),Γ=[some (.fz (pD y x)),some (.fz (.int h)),some (.fz (.int w))]/\0<=y/\y < h/\0<=x/\x < w/\Q (.fz (.bl true)) Γ
theorem S0{i lo a:Int}(c:lo<=i)(b:i<=a):whD (.int i) lo a=true:=by
 show (decide (lo<=i) && decide (i<=a))=true;rw[decide_eq_true c,decide_eq_true b];rfl
theorem uP(T:Txt K mg a):aB P w K mg base CX0 2 a.mS a.lJ ["thing","height","width"] (sp3 K 3 Jz):=by
 refine ok3 T.eV.F uC (hbody:=λg A b s H E c=>⟨_,_,(aj (bg (P3W.pt (uO (bV (bU (av (Vv T.ty) (by rfl) T.z_isinstance (by decide +kernel) (aa (bv 0) (aa (P3.opd (Ci (n:="tuple") (by rfl) T.z_tuple (by decide +kernel))) ab))))) (pC (aX (DV (by rfl) c) (P3.opd (av (cR (by rfl)) (by rfl) T.z_len (by decide +kernel) (aa (bv 0) ab))) (P3.opd ag) (a9 _))))) (ai (aq og)) aV)
   (ai (aq (Dn (ak (by rfl) (fG T) c.dn (by rfl) T.aW.m T.aW.F.kp T.aW.b (aa (P3.opd (ba (by rfl) (bv 0) (P3.opd ag) (λ_ _=>rfl))) (aa (P3.opd ag) (aa (P3.opd (dk (bv 1) (P3.opd ag))) ab)))) (Ah (ak (by rfl) (fG T) c.dn (by rfl) T.aW.m T.aW.F.kp T.aW.b (aa (P3.opd (ba (by rfl) (bv 0) (P3.opd ag) (λ_ _=>rfl))) (aa (P3.opd ag) (aa (P3.opd (dk (bv 2) (P3.opd ag))) ab))))))))),λd Q h i=>?_⟩)
 obtain⟨y,x,h,w,rfl,f,k,e,j,q⟩:=h;walk_at "w";rw[show (!(((2:Nat):Int) == 2))=false from rfl];walk_at "w";refine⟨_,_,_,rfl,rfl,?_⟩;rw[S0 f (by lia)];walk_at "w";refine⟨_,_,_,rfl,rfl,?_⟩;rw[S0 e (by lia)];exact q
def Sb (a:Ad):S3:=λΓ Q=>∃ (w:Nat) (R:LL0) (y x:Nat),Γ=[some (.fz (fD a R)),some (.fz (pD y x))]/\GR w R/\y < R.length/\x < w/\Q (.fz (.bl true)) Γ
theorem vO(T:Txt K mg a):aB P w K mg base CX0 3 a.jd a.mQ ["self","thing"] (sp3 K 2 (Sb a)):=by
 refine ok3 T.n9.F vm (hbody:=λe A b s H E c=>⟨_,_,(ai (aq (ak (by rfl) (uP T) c.dn (by rfl) T.eV.m T.eV.F.kp T.eV.b (aa (P3.opd (p3v 1)) (aa (P3.opd (aM (by rfl) (bv 0) T.bw T.j0 (jU T) c.dn T.g8.b)) (aa (P3.opd (aM (by rfl) (bv 0) T.bw T.lG (lD T) c.dn T.jq.b)) ab)))))),λd Q h j=>?_⟩);obtain⟨w,R,y,x,rfl,g,f,i,q⟩:=h;walk_at "w";refine⟨by decide +kernel,w,R,rfl,g,?_⟩;walk_at "w";refine⟨by decide +kernel,w,R,rfl,g,?_⟩;walk_at "w";exact⟨_,_,_,_,rfl,by lia,by lia,by lia,by lia,q⟩
theorem GR.row{w:Nat}{R:LL0}(g:GR w R){y:Nat}(a:y < R.length):∃ r,R[y]?=some r/\r.length=w/\Fig r:=
 ⟨R[y],gE0 a,g.len _ (FB _),g.fig _ (FB _)⟩
def Vf (a:Ad):S3:=λΓ Q=>∃ (w:Nat) (R:LL0) (y x:Nat) (r:Li0) (n:Int),Γ=[some (.fz (fD a R)),some (.fz (pD y x))]/\GR w R/\R[y]?=some r/\r[x]?=some n/\Q (.fz (.int n)) Γ
theorem EU(T:Txt K mg a):aB P w K mg base CX0 4 a.u6 a.yr ["self","place"] (sp3 K 2 (Vf a)):=by
 refine ok3 T.zG.F qO (hbody:=λl A c s H E k=>⟨_,_,(aj (bg (bV (bU (aC (by rfl) (bv 0) T.bw T.v8 (vO T) k.dn T.n9.b (aa (P3.opd (p3v 1)) ab)))) (ai dr) aV)
   (aj (pB (is:=[2,3]) (by rfl) (p3v 1) (aD (aL (i:=2) qO.nd rfl (hE rfl)) (aD (aL (i:=3) qO.nd rfl (hE rfl)) cj)) rfl)
   (ai (aq (ba (by rfl) (P3.opd (ba (by rfl) (P3.opd (iu (f:="grid") (by rfl) (bv 0) T.bw T.eQ)) (bv 2) (λ_ _=>rfl))) (bv 3) (λ_ _=>rfl)))))),λe Q h p=>?_⟩)
 obtain⟨w,R,y,x,r,n,rfl,g,b,d,q⟩:=h;have j:=pN b;have m:=pN d;have o:=g.len r (hW b);walk_at "w";refine⟨by decide +kernel,w,R,y,x,rfl,g,j,by lia,?_⟩;walk_at "w";refine de.mpr ⟨tD r,dA (by lia) (by rw[cm,ky,b];rfl),?_⟩;walk_at "w";refine de.mpr ⟨.int n,dA (by lia) (by rw[cm,ky,d];rfl),?_⟩;walk_at "w";exact q
def JT (a:Ad):S3:=λΓ Q=>∃ (h w:Int) (d:D),Γ=[some (.fz d)]/\((∃ (R:Rl) (ls:List Lt),d=plD a R h w ls/\ls.length<=10)\/∃ (u:Nat) (G:LL0),d=fD a G/\GR u G/\h=G.length/\w=u)/\Q (.fz (.tup [.int h,.int w])) Γ
theorem Al(T:Txt K mg a):aB P w K mg base CX0 2 a.CB a.AS ["thing"] (sp3 K 1 (JT a)):=by
 refine ok3 T.iU.F FP (hbody:=λk A e s H E c=>⟨_,_,(ai (aq (i8 (af (P3.or (aM (by rfl) (bv 0) T.bJ T.AB (As T) c.dn T.tQ.b) (aM (by rfl) (bv 0) T.bw T.j0 (jU T) c.dn T.g8.b)) (af (P3.or (aM (by rfl) (bv 0) T.bJ T.BR (BQ T) c.dn T.vd.b) (aM (by rfl) (bv 0) T.bw T.lG (lD T) c.dn T.jq.b)) au))))),λi Q h l=>?_⟩);obtain⟨h,w,d,rfl,j,q⟩:=h;rcases j with ⟨R,f,rfl,b⟩ | ⟨u,G,rfl,g,rfl,rfl⟩
 .walk_at "w";refine .inl ⟨by decide +kernel,R,h,w,f,rfl,b,?_⟩;walk_at "w";refine .inl ⟨by decide +kernel,R,h,w,f,rfl,b,?_⟩;walk_at "w";exact⟨by rw[hG];lia,q⟩
 .walk_at "w";refine .inr ⟨by decide +kernel,u,G,rfl,g,?_⟩;walk_at "w";refine .inr ⟨by decide +kernel,u,G,rfl,g,?_⟩;walk_at "w";exact⟨by rw[hG];lia,q⟩
def Vp (a:Ad):S3:=λΓ Q=>∃ (G:LL0),Γ=[some (.fz (fD a G))]/\Q (.fz .non) Γ
theorem Ap(T:Txt K mg a):aB P w K mg base CX0 1 a.uh a.rM ["thing"] (sp3 K 1 (Vp a)):=by
 refine ok3 T.jk.F zR (hbody:=λd A b s H E e=>⟨_,_,(ai (bg (bV (bU (av (Vx (by rfl) T.K5) (by rfl) T.z_isinstance (by decide +kernel) (aa (bv 0) (aa (P3.opd (Nq (by rfl) T.jD)) ab))))) (ai dr) aV)),λc Q h f=>?_⟩);obtain⟨G,rfl,q⟩:=h;walk_at "w";refine⟨true,by simp [QU],?_⟩;walk_at "w";exact q
def Vo (a:Ad):S3:=λΓ Q=>∃ (R:Rl) (ls:List Lt) (u:Nat) (G:LL0),Γ=[some (.fz (plD a R G.length u ls)),some (.fz (fD a G))]/\ls.length<=10/\GR u G/\Q (.fz .non) Γ
theorem nF(T:Txt K mg a):aB P w K mg base CX0 3 a.wH a.t6 ["plan","thing"] (sp3 K 2 (Vo a)):=by
 refine ok3 T.cA.F By (hbody:=λi A c s H E b=>⟨_,_,(aj (dJ (ak (by rfl) (Ap T) b.dn (by rfl) T.jk.m T.jk.F.kp T.jk.b (aa (P3.opd (p3v 1)) ab)))
   (ai (bg (aX (DV (by rfl) b) (P3.opd (ak (by rfl) (Al T) b.dn (by rfl) T.iU.m T.iU.F.kp T.iU.b (aa (P3.opd (p3v 0)) ab))) (P3.opd (ak (by rfl) (Al T) b.dn (by rfl) T.iU.m T.iU.F.kp T.iU.b (aa (P3.opd (p3v 1)) ab))) (a9 _)) (ai dr) aV))),λe Q h j=>?_⟩)
 obtain⟨R,f,u,G,rfl,d,g,q⟩:=h;walk_at "w";refine⟨G,rfl,?_⟩;walk_at "w";refine⟨_,_,_,rfl,.inl ⟨R,f,rfl,d⟩,?_⟩;walk_at "w";refine⟨_,_,_,rfl,.inr ⟨u,G,rfl,g,rfl,rfl⟩,?_⟩;walk_at "w";refine⟨true,by simp [eqN,lR,eqS],?_⟩;walk_at "w";exact q
theorem M_{h w:Nat}{d:D}(e:(pls h w)[k]?=some d):∃ y x:Nat,y < h/\x < w/\d=pD y x:=by
 have m:=hW e;unfold pls at m;obtain⟨l,f,a⟩:=List.mem_flatten.mp m;obtain⟨y,b,rfl⟩:=Ht.mp f;unfold GP at a;obtain⟨x,c,rfl⟩:=Ht.mp a;exact⟨y,x,Os.mp b,Os.mp c,rfl⟩
def Vq (a:Ad):S3:=λΓ Q=>∃ (u:Nat) (G:LL0) (lo hi:Int),Γ=[some (.fz (fD a G)),some (.fz (.int lo)),some (.fz (.int hi))]/\GR u G/\(∀ r∈G,∀ n∈r,lo<=n/\n<=hi)/\Q (.fz .non) Γ
theorem jS(T:Txt K mg a):aB P w K mg base CX0 5 a.r8 a.p8 ["field","low","high"] (sp3 K 3 (Vq a)):=by
 refine ok3 T.bB.F pW (hbody:=λt A e s H E f=>⟨_,_,(ai (k_ wh rfl (eX (by rfl) (aM (by rfl) (bv 0) T.bw T.y8 (yY T) f.dn T.qK.b)) (aY (i:=3) pW.nd rfl (hE rfl))
   (ai (bg (bV (bU (ak (by rfl) (fG T) f.dn (by rfl) T.aW.m T.aW.F.kp T.aW.b (aa (P3.opd (aC (by rfl) (bv 0) T.bw T.EZ (EU T) f.dn T.zG.b (aa (P3.opd (p3v 3)) ab))) (aa (P3.opd (p3v 1)) (aa (P3.opd (p3v 2)) ab)))))) (ai dr) aV)))),λm Q h C=>?_⟩)
 obtain⟨u,G,lo,l,rfl,g,p,q⟩:=h;walk_at "w";refine⟨by decide +kernel,u,G,rfl,g,?_⟩;walk_at "w";refine fH (λk c=>∃ s,c=[some (.fz (fD a G)),some (.fz (.int lo)),some (.fz (.int l)),fo s]) ⟨none,rfl⟩ ?_ ?_
 .rintro k d c o ⟨s,rfl⟩;obtain⟨y,x,n,B,rfl⟩:=M_ o;obtain⟨r,b,z,_⟩:=g.row n;have j:r[x]?=some r[x]:=gE0 (by lia);walk_at "w";refine⟨by decide +kernel,u,G,y,x,r,r[x],rfl,g,b,j,?_⟩;walk_at "w";refine⟨_,_,_,rfl,rfl,?_⟩;obtain⟨v,b2⟩:=p r (hW b) r[x] (hW j);rw[show whD (.int r[x]) lo l=true by simp only[whD,sE,decide_eq_true_eq];exact⟨v,b2⟩];walk_at "w";exact⟨some _,rfl⟩
 .rintro c ⟨s,rfl⟩;walk_at "w";exact q
def Kp (a:Ad)(B:Int):S3:=λΓ Q=>∃ (R:Rl) (ls:List Lt) (u:Nat) (G:LL0),Γ=[some (.fz (plD a R G.length u ls)),some (.fz (fD a G))]/\ls.length<=10/\GR u G/\(∀ r∈G,∀ n∈r,-B<=n/\n<=B)/\Q (.fz .non) Γ
theorem xv(T:Txt K mg a):aB P w K mg base CX0 6 a.qg a.oy ["plan","thing"] (sp3 K 2 (Kp a 100000)):=by
 refine ok3 T.gE.F xm (hbody:=λk A b s H E d=>⟨_,_,(aj (dJ (ak (by rfl) (nF T) d.dn (by rfl) T.cA.m T.cA.F.kp T.cA.b (aa (P3.opd (p3v 0)) (aa (P3.opd (p3v 1)) ab))))
   (ai (dJ (ak (by rfl) (jS T) d.dn (by rfl) T.bB.m T.bB.F.kp T.bB.b (aa (P3.opd (p3v 1)) (aa (P3.opd (gQ (P3.opd (gG (i:=100000) (by rfl) T.wU)))) (aa (P3.opd (gG (i:=100000) (by rfl) T.wU)) ab))))))),λe Q h l=>?_⟩)
 obtain⟨R,f,u,G,rfl,c,g,j,q⟩:=h;walk_at "w";refine⟨R,f,u,G,rfl,c,g,?_⟩;walk_at "w";refine⟨u,G,_,_,rfl,g,j,?_⟩;walk_at "w";exact q
theorem xw(T:Txt K mg a):aB P w K mg base CX0 6 a.qh a.oz ["plan","thing"] (sp3 K 2 (Kp a 1000000000)):=by
 refine ok3 T.gF.F xn (hbody:=λk A b s H E d=>⟨_,_,(aj (dJ (ak (by rfl) (nF T) d.dn (by rfl) T.cA.m T.cA.F.kp T.cA.b (aa (P3.opd (p3v 0)) (aa (P3.opd (p3v 1)) ab))))
   (ai (dJ (ak (by rfl) (jS T) d.dn (by rfl) T.bB.m T.bB.F.kp T.bB.b (aa (P3.opd (p3v 1)) (aa (P3.opd (gQ (P3.opd (gG (i:=1000000000) (by rfl) T.ur)))) (aa (P3.opd (gG (i:=1000000000) (by rfl) T.ur)) ab))))))),λe Q h l=>?_⟩)
 obtain⟨R,f,u,G,rfl,c,g,j,q⟩:=h;walk_at "w";refine⟨R,f,u,G,rfl,c,g,?_⟩;walk_at "w";refine⟨u,G,_,_,rfl,g,j,?_⟩;walk_at "w";exact q
theorem xS{a:Type}{f:a->D}{F:List a}(h:n<=F.length):cut (F.map f) none (some (n:Int))=(F.take n).map f:=by
 unfold cut;rw[_h.Eu,_h.zw,lM0,List.drop_zero,Nat.sub_zero,Wr h,List.map_take]
theorem jG{a:Type}{f:a->D}{F:List a}(h:n<=F.length):cut (F.map f) (some (n:Int)) none=(F.drop n).map f:=by
 unfold cut;rw[_h.Eu,_h.zw,lM0,Wr h,ng (by rw[lr,lM0];exact ek _),YJ]
theorem Of{a:Type}{f:a->D}{F:List a}(h:n<=F.length)(b:m<=n):cut (F.map f) (some (m:Int)) (some (n:Int))=((F.drop m).take (n - m)).map f:=by
 unfold cut;rw[_h.zw,_h.zw,lM0,Wr h,Wr (by lia),<- YJ,List.map_take]
noncomputable abbrev gl {a:Type}(e:a->D)(xs:List a):D:=.lst (xs.map e)
noncomputable abbrev gD {a:Type}(e:a->D)(R:List (List a)):D:=.lst (R.map (gl e))
structure Hv (α:Type) where
 e:α->D
 z:α
 s:Rl->List α->List α
 d:Rl->List α->List α
 sl:∀ R xs,(s R xs).length=(xs.length + 1) / 2
 dl:∀ R xs,(d R xs).length=xs.length / 2
 c:Rl->D
 ok:List α->Prop
variable {α:Type}{Y:Hv α}{o:Unit->Obj}{v:V}
def Hv.lam (Y:Hv α):S3:=λΓ Q=>∃ (R:Rl) (xs:List α),Γ=[some (.fz (gl Y.e xs)),some (.fz (Y.c R))]/\Y.ok xs/\xs.length<=64/\Q (.fz (.tup [gl Y.e (Y.s R xs),gl Y.e (Y.d R xs)])) Γ
def sx (P:Qk)(w:World)(K:Fg0)(a:SV0)(base:Heap)(ps:Ls0)(n:Nat)(S:S3)(o:Unit->Obj)(f:Addr)(v:V):Prop:=
 ∃ fd,base.get? f=some (o ())/\(o ()).data=.func fd/\Binds K fd ps []/\aB P w K a base CX0 (5 + 1) f fd ps (λvs H Q _=>sp3 K (n + 1) S (vs++[v]) H Q E0)
noncomputable def DD (Y:Hv α)(R:Rl)(xs:List α)(m:Nat):List α:=Y.s R (xs.take m)++Y.d R (xs.take m)++xs.drop m
theorem K6{R:Rl}{xs:List α}(h:m<=xs.length):(DD Y R xs m).length=xs.length:=by
 unfold DD;rw[bS,bS,Y.sl,Y.dl,gs,lr];lia
def RI (Y:Hv α)(o:Unit->Obj)(f:Addr)(v:V):S3:=λΓ Q=>∃ (R:Rl) (xs:List α) (m:Nat),Γ=[some (.fz (.fn o f v (Y.c R))),some (.fz (gl Y.e xs)),some (.fz (.int m))]/\m<=xs.length/\xs.length<=64/\Y.ok (xs.take m)/\Q (.fr (gl Y.e (DD Y R xs m))) Γ
theorem Dr(T:Txt K mg a)(L:sx P w K mg base ["row"] 1 Y.lam o f v):aB P w K mg base CX0 7 a.yy a.wm ["part","row","many"] (sp3 K 3 (RI Y o f v)):=by
 obtain⟨z,p,l,r,x⟩:=L;refine ok3 T.mf.F o5 (hbody:=λu A c s H E k=>⟨_,_,(aj (pB (is:=[3,4]) (by rfl) (EK p l x k.dn r (i:=0) (by rfl) (by first | exact hE rfl | exact SF (hE rfl) | exact SF (SF rfl)) (aa (P3.opd (dX (by rfl) (bv 1) cI (bh (bv 2)))) ab)) (aD (aL (i:=3) o5.nd rfl (hE rfl)) (aD (aL (i:=4) o5.nd rfl (hE rfl)) cj)) rfl)
   (ai (aq (aJ (P3.opd (aJ (bv 3) (bv 4))) (P3.opd (dX (by rfl) (bv 1) (bh (bv 2)) cI)))))),λe Q h y=>?_⟩)
 obtain⟨R,b,m,rfl,d,t,n,q⟩:=h;walk_at "w";refine⟨Y.c R,rfl,?_⟩;walk_at "w";rw[xS d];refine⟨R,b.take m,rfl,n,by rw[gs];lia,?_⟩;walk_at "w";rw[jG d];have j:=Y.sl R (b.take m);have g:=Y.dl R (b.take m);rw[gs] at j g;refine⟨by rw[lM0,lM0,hG];lia,by rw[bS,lM0,lM0,lM0,lr,hG];lia,?_⟩;rw[<- gp,<- gp];exact q
noncomputable def eY (Y:Hv α)(R:Rl)(a:List (List α))(h m:Nat):List (List α):=(a.take h).map (λr=>DD Y R r m)++a.drop h
def okR (Y:Hv α)(a:List (List α))(h m:Nat):Prop:=∀ r∈a.take h,Y.ok (r.take m)
structure Sz (h w:Nat) (rows:List (List α)):Prop where
 hh:rows.length=h
 ww:∀ r∈rows,r.length=w
def N3 (Y:Hv α)(o:Unit->Obj)(f:Addr)(v:V):S3:=λΓ Q=>∃ (R:Rl) (a:List (List α)) (H W h m:Nat),Γ=[some (.fz (.fn o f v (Y.c R))),some (.fz (gD Y.e a)),some (.fz (.int h)),some (.fz (.int m))]/\Sz H W a/\H<=64/\W<=64/\h<=H/\m<=W/\okR Y a h m/\Q (.fr (gD Y.e (eY Y R a h m))) Γ
theorem tU(T:Txt K mg a)(L:sx P w K mg base ["row"] 1 Y.lam o f v):aB P w K mg base CX0 8 a.wF a.t4 ["part","rows","height","width"] (sp3 K 4 (N3 Y o f v)):=by
 refine ok3 T.ej.F Bw (hbody:=λC A n s H E y=>⟨_,_,(ai (aq (aJ (P3.opd (bW rfl (eX (by rfl) (dX (by rfl) (bv 1) cI (bh (bv 2)))) oC (λ_ _ _ _ _=>(aY (i:=0) oC.nd rfl (hE rfl))) (λ_ _ _ _ _=>(ak (by rfl) (Dr T L) y.dn (by rfl) T.mf.m T.mf.F.kp T.mf.b (aa (P3.opd (p3v 1)) (aa (P3.opd (p3v 0)) (aa (P3.opd (p3v 2)) ab))))))) (P3.opd (dX (by rfl) (bv 1) (bh (bv 2)) cI))))),λx Q h G=>?_⟩);obtain⟨R,b,H,W,h,m,rfl,t,M,J,I,F,p,q⟩:=h;have D:=t.hh;walk_at "w";rw[xS (by lia)];have u:(b.take h).length=h:=by rw[gs];lia
 refine⟨small (by rw[lM0,u];lia),aQ (λk l c=>l=((b.take h).take k).map (λr=>gl Y.e (DD Y R r m))/\∃ s,c=[fo s,some (.fz (.fn o f v (Y.c R))),some (.fz (.int m))]) ⟨rfl,none,rfl⟩ ?_ ?_⟩
 .rintro k d l c B z ⟨rfl,s,rfl⟩;obtain⟨r,g,rfl⟩:=jh B;have j:=hW g;have e:=t.ww r (vr j);walk_at "w";refine⟨R,r,m,rfl,by lia,by lia,p r j,?_⟩;walk_at "w";exact⟨by rw[take_snoc g,gp];rfl,some _,rfl⟩
 .rintro l c z ⟨rfl,s,rfl⟩;walk_at "w";rw[jG (by lia),ng (show (b.take h).length<=((b.take h).map (gl Y.e)).length by rw[lM0];exact ek _)];refine⟨by rw[lM0,lM0,lr,u,hG];lia,?_⟩;rw[show (b.take h).map (λr=>gl Y.e (DD Y R r m))++(b.drop h).map (gl Y.e)=(eY Y R b h m).map (gl Y.e) by unfold eY;rw[gp,nr];rfl];exact q
variable {α:Type}{Y:Hv α}{o:Unit->Obj}{v:V}
noncomputable def GU (z:α)(a:List (List α))(x:Nat):List α:=a.map λr=>r.getD x z
noncomputable def bp (z:α)(u:Nat)(a:List (List α)):List (List α):=(el u).map (GU z a)
def PX:S3:=λΓ Q=>∃ (α:Type) (e:α->D) (z:α) (h w:Nat) (a:List (List α)),Γ=[some (.fz (gD e a))]/\Sz h w a/\1<=h/\h<=64/\w<=64/\Q (.fr (gD e (bp z w a))) Γ
theorem Cv{xs:List α}(z:α)(h:k < xs.length):xs[k]?=some (xs.getD k z):=by rw[gE0 h];simp [vk,h]
theorem sI(T:Txt K mg a):aB P w K mg base CX0 1 a.Fe a.Cz ["rows"] (sp3 K 1 PX):=by
 refine ok3 T.dM.F Ih (hbody:=λD A n s H E I=>⟨_,_,(ai (aq (bW rfl (bM (by rfl) T.z_range (af (av (cR (by rfl)) (by rfl) T.z_len (by decide +kernel) (aa (P3.opd (ba (by rfl) (bv 0) (P3.opd ag) (λ_ _=>rfl))) ab)) au)) wX (λ_ _ _ _ _=>(aY (i:=0) wX.nd rfl (SF rfl))) (λ_ _ _ _ _=>(bW rfl (eX (by rfl) (p3v 1)) wW (λ_ _ _ _ _=>(aY (i:=0) wW.nd rfl (hE rfl))) (λ_ _ _ _ _=>(ba (by rfl) (bv 0) (bv 1) (λ_ _=>rfl)))))))),λp Q h J=>?_⟩);obtain⟨F,e,z,h,w,b,rfl,m,M,B,t,q⟩:=h;have L:=m.hh;have C:b[0]?=some b[0]:=gE0 (by lia);have u:=m.ww b[0] (FB _);walk_at "w";refine de.mpr ⟨gl e b[0],dA (by decide) (by rw[cm,show (Ys 0)=0 from rfl,C];rfl),?_⟩;walk_at "w";rw[lM0,u];refine⟨by lia,by lia,small (by rw[bI];lia),aQ (λk g c=>g=(el k).map (λx=>gl e (GU z b x))/\∃ s,c=[fo s,some (.fz (gD e b))]) ⟨rfl,none,rfl⟩ ?_ ?_⟩
 .rintro k d g c o v ⟨rfl,s,rfl⟩;obtain⟨lt,rfl⟩:=dW o;walk_at "w";refine⟨small (by rw[lM0];lia),aQ (λj g c=>g=(b.take j).map (λr=>e (r.getD k z))/\∃ s,c=[fo s,some (.fz (.int (0 + (k:Int))))]) ⟨rfl,none,rfl⟩ ?_ ?_⟩
  .rintro j d g c o y ⟨rfl,s,rfl⟩;obtain⟨r,l,rfl⟩:=jh o;have G:=m.ww r (hW l);walk_at "w";refine de.mpr ⟨e (r.getD k z),dA (by lia) (by rw[show (0 + (k:Int)).toNat=k by lia,cm,Cv z (by lia)];rfl),?_⟩;exact⟨by rw[take_snoc l,gp];rfl,some _,rfl⟩
  .rintro g c y ⟨rfl,s,rfl⟩;walk_at "w";refine⟨?_,some _,rfl⟩;rw[ng (by rw[lM0];exact ek _),<- snoc (f:=λx=>gl e (GU z b x)) rfl];unfold GU;rw[gl,nr];rfl
 .rintro g c v ⟨rfl,s,rfl⟩;walk_at "w";rw[bI,ky];rw[show (el w).map (λx=>gl e (GU z b x))=(bp z w b).map (gl e) by unfold bp;rw[nr];rfl];exact q
theorem IZ{R:Rl}{a:List (List α)}{h:Nat}{r:List α}(c:r∈eY Y R a h m):r∈a\/∃ b∈a,r=DD Y R b m:=by
 unfold eY at c;rcases mm.mp c with q | q
 .obtain⟨b,d,rfl⟩:=Ht.mp q;exact .inr ⟨b,vr d,rfl⟩
 .exact .inl (Yb q)
theorem gA{R:Rl}{a:List (List α)}{H W h:Nat}(s:Sz H W a)(d:m<=W):Sz H W (eY Y R a h m):=⟨by
 unfold eY;rw[bS,lM0,gs,lr,s.hh];lia,λr c=>by
 rcases IZ c with q | ⟨b,q,rfl⟩
 .exact s.ww r q
 .rw[K6 (by rw[s.ww b q];exact d)];exact s.ww b q⟩
theorem bc{z:α}{a:List (List α)}{H W:Nat}(s:Sz H W a):Sz W H (bp z W a):=⟨by unfold bp;simp,λr b=>by
 unfold bp GU at b;obtain⟨x,_,rfl⟩:=Ht.mp b;rw[lM0];exact s.hh⟩
noncomputable def Eg (Y:Hv α)(R:Rl)(H W:Nat)(l:Lt)(h w:Nat)(a:List (List α)):List (List α):=match l with
 | .r=>eY Y R a h w
 | .p=>bp Y.z H (eY Y R (bp Y.z W a) w h)
 | .b=>bp Y.z H (eY Y R (bp Y.z W (eY Y R a h w)) w h)
theorem JR{R:Rl}{H W:Nat}{l:Lt}{h w:Nat}{a:List (List α)}(s:Sz H W a)(d:h<=H)(c:w<=W):Sz H W (Eg Y R H W l h w a):=by
 cases l with
 | r=>exact gA s c
 | p=>exact bc (gA (bc s) d)
 | b=>exact bc (gA (bc (gA s c)) d)
def okS (Y:Hv α)(R:Rl)(W:Nat)(l:Lt)(h w:Nat)(a:List (List α)):Prop:=match l with
 | .r=>okR Y a h w
 | .p=>okR Y (bp Y.z W a) w h
 | .b=>okR Y a h w/\okR Y (bp Y.z W (eY Y R a h w)) w h
variable {α:Type}{Y:Hv α}{o:Unit->Obj}{v:V}
def Ms (a:Ad)(Y:Hv α)(o:Unit->Obj)(f:Addr)(v:V):S3:=λΓ Q=>∃ (R d:Rl) (h w:Int) (ls:List Lt) (b:List (List α)) (k:Nat) (l:Lt) (H W ch c:Nat),
 Γ=[some (.fz (plD a d h w ls)),some (.fz (.fn o f v (Y.c R))),some (.fz (gD Y.e b)),some (.fz (.int k))]/\ls.length<=10/\ls[k]?=some l/\cat h w ls k=((ch:Int),(c:Int))/\Sz H W b/\1<=H/\H<=64/\1<=W/\W<=64/\ch<=H/\c<=W/\okS Y R W l ch c b/\
 Q (.fr (gD Y.e (Eg Y R H W l ch c b))) Γ
theorem BK(T:Txt K mg a)(L:sx P w K mg base ["row"] 1 Y.lam o f v):aB P w K mg base CX0 9 a.wD a.tZ ["plan","part","rows","step"] (sp3 K 4 (Ms a Y o f v)):=by
 refine ok3 T.kd.F eP (hbody:=λO A x s H E j=>⟨_,_,(aj (pB (is:=[4,5]) (by rfl) (aC (by rfl) (bv 0) T.bJ T.lF (lC T) j.dn T.jo.b (aa (P3.opd (p3v 3)) ab)) (aD (aL (i:=4) eP.nd rfl (hE rfl)) (aD (aL (i:=5) eP.nd rfl (hE rfl)) cj)) rfl)
   (aj (aP (i:=6) eP.nd rfl (hE rfl) (ba (by rfl) (P3.opd (aM (by rfl) (bv 0) T.bJ T.yc (ya T) j.dn T.uz.b)) (bv 3) (λ_ _=>rfl)))
   (aj (bg (aX (uu (by rfl)) (bv 6) (P3.opd (ju (p:=a.cB) (zs:=["r","b"]) (by rfl) T.iF)) (by with_unfolding_all rfl)) (ai (aP (i:=2) eP.nd rfl (hE rfl) (ak (by rfl) (tU T L) j.dn (by rfl) T.ej.m T.ej.F.kp T.ej.b (aa (P3.opd (p3v 1)) (aa (P3.opd (p3v 2)) (aa (P3.opd (p3v 4)) (aa (P3.opd (p3v 5)) ab))))))) aV)
   (aj (bg (aX (uu (by rfl)) (bv 6) (P3.opd (ju (p:=a.bj) (zs:=["p","b"]) (by rfl) T.eL)) (by with_unfolding_all rfl)) (ai (aP (i:=2) eP.nd rfl (hE rfl) (ak (by rfl) (sI T) j.dn (by rfl) T.dM.m T.dM.F.kp T.dM.b (aa (P3.opd (ak (by rfl) (tU T L) j.dn (by rfl) T.ej.m T.ej.F.kp T.ej.b (aa (P3.opd (p3v 1)) (aa (P3.opd (ak (by rfl) (sI T) j.dn (by rfl) T.dM.m T.dM.F.kp T.dM.b (aa (P3.opd (p3v 2)) ab))) (aa (P3.opd (p3v 5)) (aa (P3.opd (p3v 4)) ab)))))) ab)))) aV)
   (ai (aq (qt 2))))))),λM Q h S=>?_⟩)
 obtain⟨R,I,h,w,D,b,k,l,H,W,m,u,rfl,t,F,N,n,J,e,G,d,g,r,c,q⟩:=h;have lk:=pN F;walk_at "w";refine⟨by decide +kernel,I,h,w,D,k,rfl,t,by lia,?_⟩;rw[N];unfold cD;walk_at "w";refine⟨by decide +kernel,I,h,w,D,rfl,t,?_⟩;walk_at "w";refine⟨by rw[cz,hG];lia,l,atL F,?_⟩;walk_at "w";have y:=bc (z:=Y.z) n;cases l
 .walk_at "w";refine⟨R,b,H,W,m,u,rfl,n,e,d,g,r,c,?_⟩;walk_at "w";exact q
 .walk_at "w";refine⟨_,Y.e,Y.z,H,W,b,rfl,n,J,e,d,?_⟩;walk_at "w";refine⟨R,bp Y.z W b,W,H,u,m,rfl,y,d,e,r,g,c,?_⟩;walk_at "w";refine⟨_,Y.e,Y.z,W,H,_,rfl,gA y g,G,d,e,?_⟩;walk_at "w";exact q
 .walk_at "w";refine⟨R,b,H,W,m,u,rfl,n,e,d,g,r,c.1,?_⟩;have C:=gA (Y:=Y) (R:=R) (h:=m) n r;have B:=bc (z:=Y.z) C;walk_at "w";refine⟨_,Y.e,Y.z,H,W,_,rfl,C,J,e,d,?_⟩;walk_at "w";refine⟨R,bp Y.z W (eY Y R b m u),W,H,u,m,rfl,B,d,e,r,g,c.2,?_⟩;walk_at "w";refine⟨_,Y.e,Y.z,W,H,_,rfl,gA B g,G,d,e,?_⟩;walk_at "w";exact q
variable {α:Type}{Y:Hv α}{o:Unit->Obj}{v:V}
noncomputable def cN (h w:Int)(ls:List Lt)(k:Nat):Nat×Nat:=((cat h w ls k).1.toNat,(cat h w ls k).2.toNat)
noncomputable def stK (Y:Hv α)(R:Rl)(h w:Int)(ls:List Lt)(a:List (List α)):Nat->List (List α)
 | 0=>a
 | k + 1=>Eg Y R h.toNat w.toNat (ls.getD k .r) (cN h w ls k).1 (cN h w ls k).2 (stK Y R h w ls a k)
structure Pl (h w:Int) (ls:List Lt):Prop where
 sz:D8 h w
 good:Good h w ls
 len:ls.length<=10
theorem Pl.cn{h w:Int}{ls:List Lt}(p:Pl h w ls)(e:k<=ls.length):cat h w ls k=(((cN h w ls k).1:Int),((cN h w ls k).2:Int))/\(cN h w ls k).1<=h.toNat/\(cN h w ls k).2<=w.toNat/\1<=(cN h w ls k).1/\1<=(cN h w ls k).2:=by
 obtain⟨a,b,c,d⟩:=DO p.good p.sz.h1 p.sz.w1 e;unfold cN;refine⟨Prod.ext ?_ ?_,?_,?_,?_,?_⟩ <;> dsimp only <;> lia
theorem CU {R:Rl}{h w:Int}{ls:List Lt}{c:List (List α)}(p:Pl h w ls)(s:Sz h.toNat w.toNat c):∀ {k:Nat},k<=ls.length->Sz h.toNat w.toNat (stK Y R h w ls c k)
 | 0,_=>s
 | k + 1,d=>by
  obtain⟨_,a,b,_,_⟩:=p.cn (k:=k) (by lia);exact JR (CU p s (by lia)) a b
theorem OV{R:Rl}{h w:Int}{ls:List Lt}{a:List (List α)}{l:Lt}(b:ls[k]?=some l):stK Y R h w ls a (k + 1)=Eg Y R h.toNat w.toNat l (cN h w ls k).1 (cN h w ls k).2 (stK Y R h w ls a k):=by
 rw[show l=ls.getD k .r by simp [vk,b]];rfl
noncomputable abbrev JQ (Y:Hv α)(R:Rl)(h w:Int)(ls:List Lt)(a:List (List α)):List (List α):=stK Y R h w ls a ls.length
def okK (Y:Hv α)(R:Rl)(h w:Int)(ls:List Lt)(a:List (List α)):Prop:=∀ k l,ls[k]?=some l->okS Y R w.toNat l (cN h w ls k).1 (cN h w ls k).2 (stK Y R h w ls a k)
def JO (a:Ad)(Y:Hv α)(o:Unit->Obj)(f:Addr)(v:V):S3:=λΓ Q=>∃ (R c:Rl) (h w:Int) (ls:List Lt) (b:List (List α)),Γ=[some (.fz (plD a c h w ls)),some (.fz (.fn o f v (Y.c R))),some (.fz (gD Y.e b))]/\Pl h w ls/\Sz h.toNat w.toNat b/\okK Y R h w ls b/\
 Q (.fz (gD Y.e (JQ Y R h w ls b))) Γ
theorem Ak(T:Txt K mg a)(L:sx P w K mg base ["row"] 1 Y.lam o f v):aB P w K mg base CX0 10 a.ug a.rL ["plan","part","rows"] (sp3 K 3 (JO a Y o f v)):=by
 refine ok3 T.jj.F kU (hbody:=λC A n s H E x=>⟨_,_,(aj (k_ wh rfl (bM (by rfl) T.z_range (af (aM (by rfl) (bv 0) T.bJ T.nL (nG T) x.dn T.kj.b) au)) (aY (i:=3) kU.nd rfl (hE rfl))
   (ai (aP (i:=2) kU.nd rfl (hE rfl) (lq (ak (by rfl) (BK T L) x.dn (by rfl) T.kd.m T.kd.F.kp T.kd.b (aa (P3.opd (p3v 0)) (aa (P3.opd (p3v 1)) (aa (P3.opd (p3v 2)) (aa (P3.opd (p3v 3)) ab)))))))))
   (ai (aq (qt 2)))),λy Q h j=>?_⟩)
 obtain⟨R,u,h,w,b,c,rfl,p,z,r,q⟩:=h;have g:=p.len;obtain⟨J,I,G,F,D⟩:=p.sz;walk_at "w";refine⟨by decide +kernel,u,h,w,b,rfl,g,?_⟩;walk_at "w";refine⟨by lia,by lia,fH (λk m=>k<=b.length/\∃ s,m=[some (.fz (plD a u h w b)),some (.fz (.fn o f v (Y.c R))),some (.fz (gD Y.e (stK Y R h w b c k))),fo s]) ⟨Do _,none,rfl⟩ ?_ ?_⟩
 .rintro k d m B ⟨t,s,rfl⟩;obtain⟨lt,rfl⟩:=dW B;rw[ky] at lt;obtain⟨l,j⟩:∃ l,b[k]?=some l:=⟨_,gE0 lt⟩;obtain⟨e,c1,c2,c3,M⟩:=p.cn (k:=k) t;walk_at "w";refine⟨R,u,h,w,b,_,k,l,h.toNat,w.toNat,_,_,by rw[Int.zero_add],g,j,e,CU p z t,by lia,by lia,by lia,by lia,c1,c2,r k l j,?_⟩;walk_at "w";exact⟨lt,some (.int (0 + (k:Int))),by rw[OV j];rfl⟩
 .rintro m ⟨t,s,rfl⟩;rw[bI,ky];walk_at "w";exact q
variable {o:Unit->Obj}{v:V}
structure Jv where
 g:Rl->Li0->Li0->Li0
 gl:∀ R S Df,Df.length<=S.length->S.length<=Df.length + 1->(g R S Df).length=S.length + Df.length
 c:Rl->D
 p:Int->Prop
variable {J:Jv}
def Jv.lam (J:Jv):S3:=λΓ Q=>∃ (R:Rl) (S a:Li0),Γ=[some (.fz (il S)),some (.fz (il a)),some (.fz (J.c R))]/\(∀ n∈S,J.p n)/\(∀ n∈a,J.p n)/\1<=a.length/\a.length<=S.length/\S.length<=a.length + 1/\S.length + a.length<=64/\Q (.fr (il (J.g R S a))) Γ
noncomputable def E6 (J:Jv)(R:Rl)(a:Li0)(m:Nat):Li0:=J.g R (a.take ((m + 1) / 2)) ((a.drop ((m + 1) / 2)).take (m - (m + 1) / 2))++a.drop m
theorem K3{R:Rl}{a:Li0}(h:m<=a.length):(E6 J R a m).length=a.length:=by
 unfold E6;rw[bS,J.gl _ _ _ (by rw[gs,gs,lr];lia) (by rw[gs,gs,lr];lia),gs,gs,lr,lr];lia
def okN (J:Jv)(a:Li0)(m:Nat):Prop:=∀ n∈a.take m,J.p n
def Ru (J:Jv)(o:Unit->Obj)(f:Addr)(v:V):S3:=λΓ Q=>∃ (R:Rl) (ns:Li0) (m:Nat),Γ=[some (.fz (.fn o f v (J.c R))),some (.fz (il ns)),some (.fz (.int m))]/\2<=m/\m<=ns.length/\ns.length<=64/\okN J ns m/\Q (.fr (il (E6 J R ns m))) Γ
theorem EO(T:Txt K mg a)(L:sx P w K mg base ["sums","differences"] 2 J.lam o f v):aB P w K mg base CX0 7 a.A2 a.yk ["join","row","many"] (sp3 K 3 (Ru J o f v)):=by
 obtain⟨D,l,k,p,u⟩:=L;refine ok3 T.oW.F xZ (hbody:=λt A d s H E j=>⟨_,_,(aj (aP (i:=3) xZ.nd rfl (hE rfl) (cJ (P3.opd (aJ (bv 2) (P3.opd ag))) (P3.opd ag)))
   (ai (aq (aJ (P3.opd (EK l k u j.dn p (i:=0) (by rfl) (by first | exact hE rfl | exact SF (hE rfl) | exact SF (SF rfl)) (aa (P3.opd (dX (by rfl) (bv 1) cI (bh (bv 3)))) (aa (P3.opd (dX (by rfl) (bv 1) (bh (bv 3)) (bh (bv 2)))) ab)))) (P3.opd (dX (by rfl) (bv 1) (bh (bv 2)) cI)))))),λg Q h B=>?_⟩)
 obtain⟨R,b,m,rfl,x,C,r,e,q⟩:=h;walk_at "w";refine⟨⟨by decide,by decide⟩,J.c R,rfl,?_⟩;rw[show ((m:Int) + 1) / 2=((m + 1) / 2:Nat) by lia];walk_at "w";rw[xS (by lia),Of (by lia) (by lia)];have z:(b.take ((m + 1) / 2)).length=(m + 1) / 2:=by rw[gs];lia
 have y:((b.drop ((m + 1) / 2)).take (m - (m + 1) / 2)).length=m - (m + 1) / 2:=by rw[gs,lr];lia
 have gl:=J.gl R (b.take ((m + 1) / 2)) ((b.drop ((m + 1) / 2)).take (m - (m + 1) / 2)) (by lia) (by lia);refine⟨R,_,_,rfl,λn c=>e n ?_,λn c=>e n ?_,by lia,by lia,by lia,by lia,?_⟩
 .rw[show (b.take ((m + 1) / 2))=(b.take m).take ((m + 1) / 2) by rw[List.take_take,Wr (by lia)]] at c;exact vr c
 .rw[<- List.drop_take] at c;exact Yb c
 walk_at "w";rw[jG (by lia)];refine⟨by rw[lM0,lM0,lr,hG];lia,?_⟩;rw[<- gp];exact q
noncomputable def dg (J:Jv)(R:Rl)(a:LL0)(h m:Nat):LL0:=(a.take h).map (λr=>E6 J R r m)++a.drop h
theorem dZ{R:Rl}{a:LL0}{H W h:Nat}(s:Sz H W a)(f:m<=W):Sz H W (dg J R a h m):=⟨by
 unfold dg;rw[bS,lM0,gs,lr,s.hh];lia,λr b=>by
 unfold dg at b;rcases mm.mp b with q | q
 .obtain⟨c,d,rfl⟩:=Ht.mp q;have e:=s.ww c (vr d);rw[K3 (by lia),e]
 .exact s.ww r (Yb q)⟩
def okQ (J:Jv)(a:LL0):Prop:=∀ r∈a,∀ n∈r,J.p n
def NX (J:Jv)(o:Unit->Obj)(f:Addr)(v:V):S3:=λΓ Q=>∃ (R:Rl) (a:LL0) (H W h m:Nat),Γ=[some (.fz (.fn o f v (J.c R))),some (.fz (rD a)),some (.fz (.int h)),some (.fz (.int m))]/\Sz H W a/\H<=64/\W<=64/\h<=H/\2<=m/\m<=W/\okQ J a/\Q (.fr (rD (dg J R a h m))) Γ
theorem vH(T:Txt K mg a)(L:sx P w K mg base ["sums","differences"] 2 J.lam o f v):aB P w K mg base CX0 8 a.yw a.wj ["join","rows","height","width"] (sp3 K 4 (NX J o f v)):=by
 refine ok3 T.ff.F CZ (hbody:=λG A p s H E B=>⟨_,_,(ai (aq (aJ (P3.opd (bW rfl (eX (by rfl) (dX (by rfl) (bv 1) cI (bh (bv 2)))) qi (λ_ _ _ _ _=>(aY (i:=0) qi.nd rfl (hE rfl))) (λ_ _ _ _ _=>(ak (by rfl) (EO T L) B.dn (by rfl) T.oW.m T.oW.F.kp T.oW.b (aa (P3.opd (p3v 1)) (aa (P3.opd (p3v 0)) (aa (P3.opd (p3v 2)) ab))))))) (P3.opd (dX (by rfl) (bv 1) (bh (bv 2)) cI))))),λy Q h N=>?_⟩);obtain⟨R,b,H,W,h,m,rfl,u,U,S,O,z,M,t,q⟩:=h;have I:=u.hh;walk_at "w";rw[xS (by lia)];have x:(b.take h).length=h:=by rw[gs];lia
 refine⟨small (by rw[lM0,x];lia),aQ (λk l c=>l=((b.take h).take k).map (λr=>il (E6 J R r m))/\∃ s,c=[fo s,some (.fz (.fn o f v (J.c R))),some (.fz (.int m))]) ⟨rfl,none,rfl⟩ ?_ ?_⟩
 .rintro k d l c F D ⟨rfl,s,rfl⟩;obtain⟨r,g,rfl⟩:=jh F;have j:=vr (hW g);have e:=u.ww r j;walk_at "w";refine⟨R,r,m,rfl,z,by lia,by lia,λn C=>t r j n (vr C),?_⟩;walk_at "w";exact⟨by rw[take_snoc g,gp];rfl,some _,rfl⟩
 .rintro l c D ⟨rfl,s,rfl⟩;walk_at "w";rw[jG (by lia),ng (show (b.take h).length<=((b.take h).map il).length by rw[lM0];exact ek _)];refine⟨by rw[lM0,lM0,lr,x,hG];lia,?_⟩;rw[show (b.take h).map (λr=>il (E6 J R r m))++(b.drop h).map il=(dg J R b h m).map il by unfold dg;rw[gp,nr];rfl];exact q
variable {o:Unit->Obj}{v:V}{J:Jv}
noncomputable def vg (J:Jv)(R:Rl)(H W:Nat)(l:Lt)(h w:Nat)(a:LL0):LL0:=match l with
 | .r=>dg J R a h w
 | .p=>bp 0 H (dg J R (bp 0 W a) w h)
 | .b=>dg J R (bp 0 H (dg J R (bp 0 W a) w h)) h w
theorem JS{R:Rl}{H W:Nat}{l:Lt}{h w:Nat}{a:LL0}(s:Sz H W a)(d:h<=H)(c:w<=W):Sz H W (vg J R H W l h w a):=by
 cases l with
 | r=>exact dZ s c
 | p=>exact bc (dZ (bc s) d)
 | b=>exact dZ (bc (dZ (bc s) d)) c
def Ny (J:Jv)(R:Rl)(H W:Nat)(l:Lt)(h w:Nat)(a:LL0):Prop:=match l with
 | .r=>okQ J a
 | .p=>okQ J (bp 0 W a)
 | .b=>okQ J (bp 0 W a)/\okQ J (bp 0 H (dg J R (bp 0 W a) w h))
def Mt (a:Ad)(J:Jv)(o:Unit->Obj)(f:Addr)(v:V):S3:=λΓ Q=>∃ (R d:Rl) (h w:Int) (ls:List Lt) (b:LL0) (k:Nat) (l:Lt) (H W ch c:Nat),
 Γ=[some (.fz (plD a d h w ls)),some (.fz (.fn o f v (J.c R))),some (.fz (rD b)),some (.fz (.int k))]/\ls.length<=10/\ls[k]?=some l/\cat h w ls k=((ch:Int),(c:Int))/\Can l ch c/\Sz H W b/\1<=H/\H<=64/\1<=W/\W<=64/\ch<=H/\c<=W/\Ny J R H W l ch c b/\
 Q (.fr (rD (vg J R H W l ch c b))) Γ
theorem Dp(T:Txt K mg a)(L:sx P w K mg base ["sums","differences"] 2 J.lam o f v):aB P w K mg base CX0 9 a.yu a.wg ["plan","join","rows","step"] (sp3 K 4 (Mt a J o f v)):=by
 refine ok3 T.ma.F fU (hbody:=λO A B s H E g=>⟨_,_,(aj (pB (is:=[4,5]) (by rfl) (aC (by rfl) (bv 0) T.bJ T.lF (lC T) g.dn T.jo.b (aa (P3.opd (p3v 3)) ab)) (aD (aL (i:=4) fU.nd rfl (hE rfl)) (aD (aL (i:=5) fU.nd rfl (hE rfl)) cj)) rfl)
   (aj (aP (i:=6) fU.nd rfl (hE rfl) (ba (by rfl) (P3.opd (aM (by rfl) (bv 0) T.bJ T.yc (ya T) g.dn T.uz.b)) (bv 3) (λ_ _=>rfl)))
   (aj (bg (aX (uu (by rfl)) (bv 6) (P3.opd (ju (p:=a.bj) (zs:=["p","b"]) (by rfl) T.eL)) (by with_unfolding_all rfl)) (ai (aP (i:=2) fU.nd rfl (hE rfl) (ak (by rfl) (sI T) g.dn (by rfl) T.dM.m T.dM.F.kp T.dM.b (aa (P3.opd (ak (by rfl) (vH T L) g.dn (by rfl) T.ff.m T.ff.F.kp T.ff.b (aa (P3.opd (p3v 1)) (aa (P3.opd (ak (by rfl) (sI T) g.dn (by rfl) T.dM.m T.dM.F.kp T.dM.b (aa (P3.opd (p3v 2)) ab))) (aa (P3.opd (p3v 5)) (aa (P3.opd (p3v 4)) ab)))))) ab)))) aV)
   (aj (bg (aX (uu (by rfl)) (bv 6) (P3.opd (ju (p:=a.cB) (zs:=["r","b"]) (by rfl) T.iF)) (by with_unfolding_all rfl)) (ai (aP (i:=2) fU.nd rfl (hE rfl) (ak (by rfl) (vH T L) g.dn (by rfl) T.ff.m T.ff.F.kp T.ff.b (aa (P3.opd (p3v 1)) (aa (P3.opd (p3v 2)) (aa (P3.opd (p3v 4)) (aa (P3.opd (p3v 5)) ab))))))) aV)
   (ai (aq (qt 2))))))),λM Q h S=>?_⟩)
 obtain⟨R,G,h,w,C,b,k,l,H,W,u,n,rfl,m,D,N,⟨c1,c2⟩,r,I,e,F,d,j,t,c,q⟩:=h;have lk:=pN D;have x:=bc (z:=0) r;have y:=dZ (J:=J) (R:=R) (h:=n) x j;walk_at "w";refine⟨by decide +kernel,G,h,w,C,k,rfl,m,by lia,?_⟩;rw[N];unfold cD;walk_at "w";refine⟨by decide +kernel,G,h,w,C,rfl,m,?_⟩;walk_at "w";refine⟨by rw[cz,hG];lia,l,atL D,?_⟩;walk_at "w";cases l
 .walk_at "w";refine⟨R,b,H,W,u,n,rfl,r,e,d,j,by have:=c1 (by decide);lia,t,c,?_⟩;walk_at "w";exact q
 .walk_at "w";refine⟨Int,.int,0,H,W,b,rfl,r,I,e,d,?_⟩;walk_at "w";refine⟨R,bp 0 W b,W,H,n,u,rfl,x,d,e,t,by have:=c2 (by decide);lia,j,c,?_⟩;walk_at "w";refine⟨Int,.int,0,W,H,_,rfl,y,F,d,e,?_⟩;walk_at "w";exact q
 .walk_at "w";refine⟨Int,.int,0,H,W,b,rfl,r,I,e,d,?_⟩;walk_at "w";refine⟨R,bp 0 W b,W,H,n,u,rfl,x,d,e,t,by have:=c2 (by decide);lia,j,c.1,?_⟩;walk_at "w";refine⟨Int,.int,0,W,H,_,rfl,y,F,d,e,?_⟩;walk_at "w";refine⟨R,_,H,W,u,n,rfl,bc y,e,d,j,by have:=c1 (by decide);lia,t,c.2,?_⟩;walk_at "w";exact q
noncomputable def stB (J:Jv)(R:Rl)(h w:Int)(ls:List Lt)(a:LL0):Nat->LL0
 | 0=>a
 | i + 1=>vg J R h.toNat w.toNat (ls.getD (ls.length - 1 - i) .r) (cN h w ls (ls.length - 1 - i)).1 (cN h w ls (ls.length - 1 - i)).2 (stB J R h w ls a i)
theorem OW{R:Rl}{h w:Int}{ls:List Lt}{a:LL0}{l:Lt}(b:ls[ls.length - 1 - i]?=some l):stB J R h w ls a (i + 1)=vg J R h.toNat w.toNat l (cN h w ls (ls.length - 1 - i)).1 (cN h w ls (ls.length - 1 - i)).2 (stB J R h w ls a i):=by
 rw[show l=ls.getD (ls.length - 1 - i) .r by simp [vk,b]];rfl
theorem uB {R:Rl}{h w:Int}{ls:List Lt}{c:LL0}(p:Pl h w ls)(s:Sz h.toNat w.toNat c):∀ i,Sz h.toNat w.toNat (stB J R h w ls c i)
 | 0=>s
 | i + 1=>by
  obtain⟨_,a,b,_,_⟩:=p.cn (k:=ls.length - 1 - i) (by lia);exact JS (uB p s i) a b
def T_ (J:Jv)(R:Rl)(h w:Int)(ls:List Lt)(a:LL0):Prop:=∀ i l,i < ls.length->ls[ls.length - 1 - i]?=some l->Ny J R h.toNat w.toNat l (cN h w ls (ls.length - 1 - i)).1 (cN h w ls (ls.length - 1 - i)).2 (stB J R h w ls a i)
def JP (a:Ad)(J:Jv)(o:Unit->Obj)(f:Addr)(v:V):S3:=λΓ Q=>∃ (R c:Rl) (h w:Int) (ls:List Lt) (b:LL0),Γ=[some (.fz (plD a c h w ls)),some (.fz (.fn o f v (J.c R))),some (.fz (rD b)),some (.fz (.int 0))]/\Pl h w ls/\Sz h.toNat w.toNat b/\T_ J R h w ls b/\
 Q (.fz (rD (stB J R h w ls b ls.length))) Γ
theorem tT(T:Txt K mg a)(L:sx P w K mg base ["sums","differences"] 2 J.lam o f v):aB P w K mg base CX0 10 a.wC a.tY ["plan","join","rows","step"] (sp3 K 4 (JP a J o f v)):=by
 refine ok3 T.eh.F m7 (hbody:=λD A n s H E u=>⟨_,_,(aj (k_ wh rfl (N1 (by rfl) T.z_reversed (by rfl) T.z_range (af (p3v 3) (af (aM (by rfl) (bv 0) T.bJ T.nL (nG T) u.dn T.kj.b) au))) (aY (i:=4) m7.nd rfl (hE rfl))
   (ai (aP (i:=2) m7.nd rfl (hE rfl) (lq (ak (by rfl) (Dp T L) u.dn (by rfl) T.ma.m T.ma.F.kp T.ma.b (aa (P3.opd (p3v 0)) (aa (P3.opd (p3v 1)) (aa (P3.opd (p3v 2)) (aa (P3.opd (p3v 4)) ab)))))))))
   (ai (aq (qt 2)))),λy Q h j=>?_⟩)
 obtain⟨R,t,h,w,b,c,rfl,p,z,r,q⟩:=h;have g:=p.len;obtain⟨N,M,I,G,F⟩:=p.sz;walk_at "w";refine⟨by decide +kernel,t,h,w,b,rfl,g,?_⟩;walk_at "w";refine⟨by lia,by lia,fH (λi m=>i<=b.length/\∃ s,m=[some (.fz (plD a t h w b)),some (.fz (.fn o f v (J.c R))),some (.fz (rD (stB J R h w b c i))),some (.fz (.int 0)),fo s]) ⟨Do _,none,rfl⟩ ?_ ?_⟩
 .rintro i d m C ⟨B,s,rfl⟩;obtain⟨lt,rfl⟩:=J7 C;have lt:i < b.length:=by lia
  obtain⟨l,j⟩:∃ l,b[b.length - 1 - i]?=some l:=⟨_,gE0 (by lia)⟩;obtain⟨e,c1,c2,c3,O⟩:=p.cn (k:=b.length - 1 - i) (by lia);have x:=wc p.good j;rw[e] at x;walk_at "w";refine⟨R,t,h,w,b,stB J R h w b c i,b.length - 1 - i,l,h.toNat,w.toNat,_,_,by rw[show (b.length:Int) - 1 + (i:Int) * -1=((b.length - 1 - i:Nat):Int) by lia],g,j,e,x,uB p z i,by lia,by lia,by lia,by lia,c1,c2,r i l lt j,?_⟩;walk_at "w";exact⟨lt,some (.int ((b.length - 1 - i:Nat):Int)),by rw[OW j,show (b.length:Int) - 1 + (i:Int) * -1=((b.length - 1 - i:Nat):Int) by lia];rfl⟩
 .rintro m ⟨B,s,rfl⟩;rw[J6,show Ys b.length=b.length by lia];walk_at "w";exact q
theorem Lk {w:Nat}:∀ {R:LL0},(∀ r∈R,r.length=w)->R.flatten.length=R.length * w
 | [],_=>by simp
 | r::R,h=>by
  rw[rr,bS,Lk λx a=>h x (.tail _ a),h r (.head _),tx,Nat.add_mul,Nat.one_mul,Zd]
theorem GR.take{w:Nat}{R:LL0}(g:GR w R)(k:Nat):((R.take k).flatten).length<=512:=by
 rw[Lk λr a=>g.len r (vr a)];refine zq (Nat.mul_le_mul_right w ?_) g.all;rw[gs];lia
theorem Li{R:LL0}{r:Li0}(h:R[k]?=some r):(R.take (k + 1)).flatten=(R.take k).flatten++r:=by
 rw[take_snoc h,Yn];simp
def Od (a:Ad):S3:=λΓ Q=>∃ (w:Nat) (R:LL0),Γ=[some (.fz (fD a R))]/\GR w R/\Q (.fr (il R.flatten)) Γ
theorem nI(T:Txt K mg a):aB P w K mg base CX0 1 a.pS a.uf ["self"] (sp3 K 1 (Od a)):=by
 refine ok3 T.kl.F BG (hbody:=λy A l s H E m=>⟨_,_,(ai (aq (EJ rfl (GJ (by rfl) (iu (f:="grid") (by rfl) (bv 0) T.bw T.eQ)) jg (λ_ _ _ _ _=>(aY (i:=0) jg.nd rfl (hE rfl))) (λ_ _ _ _ _=>(GJ (by rfl) (p3v 0))) (λ_ _ _ _ _=>(aY (i:=1) jg.nd rfl (hE rfl))) (λ_ _ _ _ _=>(p3v 1))))),λu Q h B=>?_⟩);obtain⟨w,R,rfl,g,q⟩:=h;have C:=g.h2;walk_at "w";refine xU (λk e b=>e=(R.take k).flatten.map .int/\∃ s c,b=[fo s,fo c]) ⟨rfl,none,none,rfl⟩ ?_ ?_
 .rintro k d e b o ⟨rfl,s,c,rfl⟩;obtain⟨r,m,rfl⟩:=jh o;have v:=g.len r (hW m);have z:=g.w2;have p:=g.take k;walk_at "w";refine⟨λj e b=>e=((R.take k).flatten++r.take j).map .int/\j<=r.length/\∃ c,b=[some (.fz (tD r)),fo c],⟨by simp,by lia,c,rfl⟩,?_,?_⟩
  .rintro j d e b o ⟨rfl,x,c,rfl⟩;obtain⟨n,t,rfl⟩:=jh o;have:=pN t;walk_at "w";refine⟨small (by rw[lM0,bS,gs];lia),?_,by lia,some _,rfl⟩;rw[take_snoc t,<- Xx,gp (l₁:=_++_)];rfl
  .rintro e b ⟨rfl,x,c,rfl⟩;refine⟨?_,some _,c,rfl⟩;rw[lM0,YU,Li m]
 .rintro e b ⟨rfl,s,c,rfl⟩;have p:=g.take R.length;rw[YU] at p;rw[ng (show R.length<=(R.map tD).length by rw[lM0];exact ek _)];refine⟨small (by rw[lM0];lia),?_⟩;walk_at "w";exact q
theorem Mq(R:Rl)(a:Li0):(R.sums a).length=(a.length + 1) / 2:=by
 cases R with
 | guess=>exact aK _ _
 | _=>exact Ie _
theorem Sg(R:Rl)(a:Li0):(R.dif a).length=a.length / 2:=by cases R <;> exact aK _ _
noncomputable def nH (a:Ad):Hv Int:=⟨.int,0,Rl.sums,Rl.dif,Mq,Sg,Rl.ob a,λns=>Fig ns/\2<=ns.length⟩
variable {α:Type}{Y:Hv α}
noncomputable def en (z:α)(a:List (List α))(y x:Nat):α:=(a.getD y []).getD x z
theorem Sz.row{H W y:Nat}{a:List (List α)}(s:Sz H W a)(h:y < H):a[y]?=some (a.getD y [])/\(a.getD y []).length=W:=by
 have b:=s.hh;have e:=Cv (xs:=a) [] (k:=y) (by lia);exact⟨e,s.ww _ (hW e)⟩
theorem GN{a:Type}{g:a->α}{xs:List a}{z:α}{u:a}(h:xs[k]?=some u):(xs.map g).getD k z=g u:=by
 rw[hP,cm,h];rfl
theorem kI{z:α}{H W y x:Nat}{a:List (List α)}(s:Sz H W a)(c:x < W)(b:y < H):en z (bp z W a) x y=en z a y x:=by
 unfold en bp;rw[GN (Bn c)];unfold GU;rw[GN (s.row b).1]
theorem Lw{R:Rl}{H W h y x:Nat}{a:List (List α)}(s:Sz H W a)(k:m<=W)(j:y < H):en Y.z (eY Y R a h m) y x=if y < h/\x < m then (if x < (m + 1) / 2 then (Y.s R ((a.getD y []).take m)).getD x Y.z else (Y.d R ((a.getD y []).take m)).getD (x - (m + 1) / 2) Y.z) else en Y.z a y x:=by
 obtain⟨e,l⟩:=s.row j;have n:=s.hh;unfold en;by_cases c:y < h
 .have i:(eY Y R a h m).getD y []=DD Y R (a.getD y []) m:=by
   unfold eY;rw[hP,ef (by rw[lM0,gs];lia),cm,UV c,e];rfl
  rw[i]
  clear i e
  generalize a.getD y []=r at l ⊢;have b:=Y.sl R (r.take m);have d:=Y.dl R (r.take m);rw[gs,Wr (by lia)] at b d;unfold DD;rw[hP];by_cases g:x < m
  .rw[if_pos ⟨c,g⟩,ef (by rw[bS];lia)];by_cases f:x < (m + 1) / 2
   .rw[if_pos f,ef (by lia)];rfl
   .rw[if_neg f,ic (by lia),b];rfl
  .rw[if_neg (λq=>g q.2),ic (by rw[bS];lia),bS,b,d,MP,show m + (x - ((m + 1) / 2 + m / 2))=x by lia];rfl
 .rw[if_neg (λq=>c q.1)]
  congr 1
  unfold eY;rw[hP,ic (by rw[lM0,gs];lia),lM0,gs,MP,show h + (y - min h a.length)=y by lia];rfl
def SR (a:LL0):Prop:=∀ r∈a,Fig r
def Bd (B:Int)(a:Li0):Prop:=∀ n∈a,-B<=n/\n<=B
theorem jE{a:Li0}{B:Int}(b:0<=B)(h:Bd B a)(k:Nat):-B<=a.getD k 0/\a.getD k 0<=B:=by
 by_cases lt:k < a.length
 .have:a.getD k 0=a[k]:=by simp [vk,lt]
  rw[this];exact h _ (FB lt)
 .have:a.getD k 0=0:=by simp [vk,lt]
  rw[this];lia
theorem Cb{f:Nat->Int}{B:Int}(h:∀ j,-B<=f j/\f j<=B):Bd B (rg f k):=λn a=>by
 unfold rg at a;obtain⟨j,_,rfl⟩:=Ht.mp a;exact h j
theorem Fx{ns:Li0}{B C:Int}(h:Bd B ns)(b:B<=C):Bd C ns:=λn a=>by have:=h n a;lia
theorem Sw{xs ys:Li0}{B:Int}(h:Bd B xs)(h':Bd B ys):Bd B (xs++ys):=λn a=>by
 rcases mm.mp a with q | q
 .exact h n q
 .exact h' n q
theorem Ed{p:Int->Int->Int}{l:Int->Int}{c:Li0}{B C:Int}(f:0<=B)(h:Bd B c)(g:∀ x y,-B<=x->x<=B->-B<=y->y<=B->-C<=p x y/\p x y<=C)(i:∀ x,-B<=x->x<=B->-C<=l x/\l x<=C):Bd C (fv p l c):=by
 refine Sw (Cb λj=>?_) ?_
 .have a:=jE f h (2 * j);have b:=jE f h (2 * j + 1);exact g _ _ a.1 a.2 b.1 b.2
 .split
  .intro n d;have e:n=l (c.getD (c.length - 1) 0):=by simpa using d
   subst e;have a:=jE f h (c.length - 1);exact i _ a.1 a.2
  .intro n d;cases d
theorem DE{c:Li0}{B:Int}(d:0<=B)(h:Bd B c):Bd (2 * B) (rG c):=Cb λj=>by
 have a:=jE d h (2 * j);have b:=jE d h (2 * j + 1);lia
theorem Lh{a:Li0}{B:Int}(b:0<=B)(h:Bd B a):Bd B (fsF a):=Cb λj=>jE b h (2 * j)
theorem DK{d:Li0}{B:Int}(e:0<=B)(h:Bd B d):Bd (2 * B) (Bc (fsF d) d):=Cb λj=>by
 have a:=jE e h (2 * j + 1);have b:=jE e (Lh e h) j;have c:-B<=nrF (fsF d) ((j:Int) + 1)/\nrF (fsF d) ((j:Int) + 1)<=B:=jE e (Lh e h) _;lia
theorem zB{e:Li0}{B:Int}(f:0<=B)(h:Bd B e):Bd B (fv Rl.lean.pair Rl.lean.xF e):=Ed f h (λx y a b c d=>by show -B<=(x + y) / 2/\(x + y) / 2<=B;lia) λx a b=>⟨a,b⟩
theorem Mr(R:Rl){e:Li0}{B:Int}(i:1<=B)(h:Bd B e):Bd (2 * B) (R.sums e):=by
 have f:0<=B:=by lia
 cases R with
 | sum=>exact Ed f h (λx y a b c d=>by show -(2 * B)<=x + y/\x + y<=2 * B;lia) λx a b=>by show -(2 * B)<=2 * x/\2 * x<=2 * B;lia
 | half=>exact Fx (zB f h) (by lia)
 | lean=>exact Fx (zB f h) (by lia)
 | guess=>
  refine Cb λj=>?_;have a:=jE f (Lh f h) j;have g:0<=2 * B:=by lia
  have b:-(2 * B)<=nrF (Bc (fsF e) e) ((j:Int) - 1)/\nrF (Bc (fsF e) e) ((j:Int) - 1)<=2 * B:=jE g (DK f h) _;have c:-(2 * B)<=nrF (Bc (fsF e) e) (j:Int)/\nrF (Bc (fsF e) e) (j:Int)<=2 * B:=jE g (DK f h) _;unfold c8;lia
theorem Si(R:Rl){e:Li0}{B:Int}(f:1<=B)(h:Bd B e):Bd (3 * B) (R.dif e):=by
 have d:0<=B:=by lia
 cases R with
 | sum=>exact Fx (DE d h) (by lia)
 | half=>exact Fx (DE d h) (by lia)
 | guess=>exact Fx (DK d h) (by lia)
 | lean=>
  refine Cb λj=>?_;have a:=jE (show 0<=2 * B by lia) (DE d h) j;have b:-B<=nrF (fv Rl.lean.pair Rl.lean.xF e) ((j:Int) - 1)/\nrF (fv Rl.lean.pair Rl.lean.xF e) ((j:Int) - 1)<=B:=jE d (zB d h) _;have c:-B<=nrF (fv Rl.lean.pair Rl.lean.xF e) ((j:Int) + 1)/\nrF (fv Rl.lean.pair Rl.lean.xF e) ((j:Int) + 1)<=B:=jE d (zB d h) _;unfold gm;lia
theorem Ou{r:Li0}{B:Int}(c:m<=r.length)(h:∀ j,j < m->-B<=r.getD j 0/\r.getD j 0<=B):Bd B (r.take m):=λn a=>by
 obtain⟨j,b,rfl⟩:=Re a;rw[gs] at b;have:=h j (by lia);rw[List.getElem_take];simpa [vk,show j < r.length by lia] using this
theorem AK{R:Rl}{H W h:Nat}{b:LL0}(s:Sz H W b)(g:m<=W){p:Nat->Int}{F:Nat->Nat->Int}(f:∀ y,1<=p y)(i:∀ y x,y < H->x < W->-F y x<=en 0 b y x/\en 0 b y x<=F y x)(e:∀ y x,y < h->x < m->F y x=p y) :
  ∀ y x,y < H->x < W->-(if y < h/\x < m then (if x < (m + 1) / 2 then 2 * p y else 3 * p y) else F y x)<=en 0 (eY (nH a) R b h m) y x/\en 0 (eY (nH a) R b h m) y x<=if y < h/\x < m then (if x < (m + 1) / 2 then 2 * p y else 3 * p y) else F y x:=by
 intro y x d l;have E:en 0 (eY (nH a) R b h m) y x=_:=Lw (Y:=nH a) s g d;rw[E];by_cases c:y < h/\x < m
 .rw[if_pos c,if_pos c];have k:Bd (p y) ((b.getD y []).take m):=Ou (by rw[(s.row d).2];exact g) λj n=>by rw[<- e y j c.1 n];exact i y j d (by lia)
  have:=f y;by_cases c2:x < (m + 1) / 2
  .rw[if_pos c2,if_pos c2];exact jE (by lia) (Mr R (f y) k) x
  .rw[if_neg c2,if_neg c2];exact jE (by lia) (Si R (f y) k) _
 .rw[if_neg c,if_neg c];exact i y x d l
noncomputable def bx (h w:Nat)(c:Int)(y x:Nat):Int:=if y < h/\x < w then c else 1000000000
def Bx (H W h w:Nat)(c:Int)(a:LL0):Prop:=∀ y x,y < H->x < W->-bx h w c y x<=en 0 a y x/\en 0 a y x<=bx h w c y x
theorem PD{h w y x:Nat}{c:Int}(a:c<=1000000000):bx h w c y x<=1000000000:=by unfold bx;split <;> lia
theorem DX{H W h w:Nat}{c:Int}{a:LL0}(s:Sz H W a)(b:Bx H W h w c a):Bx W H w h c (bp 0 W a):=λx y e d=>by
 rw[kI s e d,show bx w h c x y=bx h w c y x by unfold bx;simp only[And.comm]];exact b y x d e
theorem Lm{H W:Nat}{a:LL0}(s:Sz H W a)(b:∀ y x,y < H->x < W->-1000000000<=en 0 a y x/\en 0 a y x<=1000000000):∀ r∈a,∀ n∈r,-1000000000<=n/\n<=1000000000:=λr c n f=>by
 obtain⟨y,d,rfl⟩:=Re c;obtain⟨x,e,rfl⟩:=Re f;have:=b y x (by have:=s.hh;lia) (by have:=s.ww _ c;lia);simpa [en,vk,d,e] using this
theorem GY{H W h w:Nat}{c:Int}{rows:LL0}(s:Sz H W rows)(b:Bx H W h w c rows)(g:c<=1000000000):SR rows:=λr e n f=>by
 have:=Lm s (λy x a d=>by have:=b y x a d;have:=PD (h:=h) (w:=w) (y:=y) (x:=x) g;lia) r e n f;lia
theorem Hm{H W h:Nat}{b:LL0}(s:Sz H W b)(f:SR b)(e:2<=m)(g:m<=W):okR (nH a) b h m:=λr c=>by
 have c:=vr c;exact⟨λn d=>f r c n (vr d),by rw[gs,s.ww r c];lia⟩
theorem FV{R:Rl}{H W h w:Nat}{c:Int}{d:LL0}(s:Sz H W d)(j:w<=W)(c1:1<=c)(c3:3 * c<=1000000000)(b:Bx H W h w c d):Bx H W h ((w + 1) / 2) (2 * c) (eY (nH a) R d h w):=λy x g i=>by
 have:=AK (a:=a) (R:=R) s j (p:=λ_=>c) (F:=bx h w c) (λ_=>c1) b (λy x f e=>if_pos ⟨f,e⟩) y x g i;unfold bx at this ⊢;split at this <;> split <;> (try split at this) <;> lia
noncomputable def nhN (l:Lt)(h:Nat):Nat:=match l with
 | .r=>h
 | _=>(h + 1) / 2
noncomputable def nwN (l:Lt)(w:Nat):Nat:=match l with
 | .p=>w
 | _=>(w + 1) / 2
theorem Pl.cs{h w:Int}{ls:List Lt}{l:Lt}(p:Pl h w ls)(d:ls[k]?=some l):cN h w ls (k + 1)=(nhN l (cN h w ls k).1,nwN l (cN h w ls k).2):=by
 have lt:=pN d;have e:=(p.cn (k:=k) (by lia)).1;have f:=(p.cn lt).1;have st:=Bf (h:=h) (w:=w) d;rw[e,f] at st;have b:=congrArg Prod.fst st;have a:=congrArg Prod.snd st;generalize cN h w ls k=c at b a ⊢;generalize cN h w ls (k + 1)=g at b a ⊢;cases l <;> exact Prod.ext (by simp only[nh,nhN] at b ⊢;simp at b;lia) (by simp only[nw,nwN] at a ⊢;simp at a;lia)
theorem Mv{R:Rl}{H W h w:Nat}{l:Lt}{c:Int}{rows:LL0}(s:Sz H W rows)(g:h<=H)(f:w<=W)(o:Can l h w)(c1:1<=c)(c3:3 * c<=1000000000)(A:l=.b->9 * c<=1000000000)(b:Bx H W h w c rows) :
  Bx H W (nhN l h) (nwN l w) (if l=.b then 4 * c else 2 * c) (Eg (nH a) R H W l h w rows)/\okS (nH a) R W l h w rows:=by
 have v:=GY s b (by lia);have j:=bc (z:=0) s;cases l with
 | r=>
  have B:=o.1 (by decide);have r:=FV (a:=a) (R:=R) s f c1 c3 b;exact⟨r,Hm s v (by lia) f⟩
 | p=>
  have G:=o.2 (by decide);have bT:=DX s b;have r:=FV (a:=a) (R:=R) j g c1 c3 bT;exact⟨DX (gA (Y:=nH a) (R:=R) (h:=w) j g) r,Hm j (GY j bT (by lia)) (by lia) g⟩
 | b=>
  have B:=o.1 (by decide);have G:=o.2 (by decide);have A:=A rfl;have k:=gA (Y:=nH a) (R:=R) (h:=h) s f;have q:=bc (z:=0) k;have K:=AK (a:=a) (R:=R) s f (p:=λ_=>c) (F:=bx h w c) (λ_=>c1) b λy x u t=>if_pos ⟨u,t⟩;have I:SR (eY (nH a) R rows h w):=GY k (FV s f c1 c3 b) (by lia);have b2:=AK (a:=a) (R:=R) (h:=w) q g (p:=λx=>if x < (w + 1) / 2 then 2 * c else 3 * c) (F:=λx y=>if y < h/\x < w then (if x < (w + 1) / 2 then 2 * c else 3 * c) else bx h w c y x) (λx=>by split <;> lia) (λx y d m=>by rw[kI k d m];exact K y x m d) λx y u t=>if_pos ⟨t,u⟩;have C:=gA (Y:=nH a) (R:=R) (h:=w) q g;have J:Bx W H ((w + 1) / 2) ((h + 1) / 2) (4 * c) (eY (nH a) R (bp 0 W (eY (nH a) R rows h w)) w h):=λx y d m=>by
   have:=b2 x y d m;unfold bx at this ⊢;split at this <;> split <;> (try split at this) <;> (try split at this) <;> (try split at this) <;> lia
  exact⟨DX C J,Hm s v (by lia) f,Hm q (λr D n E=>by
   obtain⟨x,d,rfl⟩:=Ht.mp D;obtain⟨r',i,rfl⟩:=Ht.mp E;have L:=Os.mp d;have e:=k.ww r' i;have:r'.getD x 0∈r':=by simp [vk,show x < r'.length by lia]
   exact I r' i _ this) (by lia) g⟩
noncomputable def pw (n:Nat):Nat:=if n<=1 then 1 else if n<=2 then 2 else if n<=4 then 4 else if n<=8 then 8 else if n<=16 then 16 else if n<=32 then 32 else 64
theorem my(a:2<=n)(b:n<=64):2 * pw ((n + 1) / 2)=pw n:=
 (show ∀ n:Fin 65,2<=n.1->2 * pw ((n.1 + 1) / 2)=pw n.1 by decide +kernel) ⟨n,by lia⟩ a
theorem yU(n:Nat):1<=pw n/\pw n<=64/\(2<=n->2<=pw n):=by
 unfold pw;refine⟨?_,?_,λ_=>?_⟩ <;> (repeat' split) <;> lia
theorem Ef {R:Rl}{h w:Int}{ls:List Lt}{d:LL0}(p:Pl h w ls)(s:Sz h.toNat w.toNat d)(b:∀ r∈d,∀ n∈r,-100000<=n/\n<=100000):∀ k,k<=ls.length->∃ c:Nat,1<=c/\c * (pw (cN h w ls k).1 * pw (cN h w ls k).2)<=409600000/\Bx h.toNat w.toNat (cN h w ls k).1 (cN h w ls k).2 c (stK (nH a) R h w ls d k)/\
  ∀ j,j < k->∀ l,ls[j]?=some l->okS (nH a) R w.toNat l (cN h w ls j).1 (cN h w ls j).2 (stK (nH a) R h w ls d j)
 | 0,_=>by
  refine⟨100000,by decide,?_,λy x N Z=>?_,λj G=>absurd G (Yi _)⟩
  .have:=HT (yU (cN h w ls 0).1).2.1 (yU (cN h w ls 0).2).2.1;lia
  .obtain⟨e,l⟩:=s.row N;have:=b _ (hW e) ((d.getD y []).getD x 0) (by have:=Cv (xs:=d.getD y []) 0 (k:=x) (by lia);exact hW this);show -bx _ _ _ _ _<=(d.getD y []).getD x 0/\(d.getD y []).getD x 0<=_;unfold bx;split <;> lia
 | k + 1,O=>by
  obtain⟨c,c1,q,v,L⟩:=Ef (R:=R) p s b k (by lia);obtain⟨l,u⟩:∃ l,ls[k]?=some l:=⟨_,gE0 O⟩;obtain⟨e,C,B,I,H⟩:=p.cn (k:=k) (by lia);have f:=wc p.good u;have Q:=p.sz.h2;have J:=p.sz.w2;have D:=CU (Y:=nH a) (R:=R) p s (k:=k) (by lia);rw[e] at f;rw[OV u,p.cs u];generalize hX:stK (nH a) R h w ls d k=X at v D ⊢;generalize P:cN h w ls k=T at q v f C B I H ⊢;obtain⟨i,g⟩:=T;dsimp only at q v f C B I H ⊢;obtain⟨M,W,F⟩:=yU i;obtain⟨K,V,E⟩:=yU g;have o:(2<=pw i * pw g->3 * (c:Int)<=1000000000)/\(4<=pw i * pw g->9 * (c:Int)<=1000000000):=⟨λz=>by have:=VV c z;lia,λz=>by have:=VV c z;lia⟩;have t:2<=pw i * pw g/\(l=.b->4<=pw i * pw g):=by
   cases l with
   | r=>exact⟨HT M (E (by have:=f.1 (by decide);lia)),λz=>nomatch z⟩
   | p=>exact⟨HT (F (by have:=f.2 (by decide);lia)) K,λz=>nomatch z⟩
   | b=>
    have:=HT (F (by have:=f.2 (by decide);lia)) (E (by have:=f.1 (by decide);lia));exact⟨by lia,λ_=>this⟩
  obtain⟨U,b2⟩:=Mv (a:=a) (R:=R) D C B f (by lia) (o.1 t.1) (λz=>o.2 (t.2 z)) v;refine⟨if l=.b then 4 * c else 2 * c,by split <;> lia,?_,by cases l <;> exact U,λj G m A=>?_⟩
  .cases l with
   | r=>
    have e:=my (n:=g) (by have:=f.1 (by decide);lia) (by lia);show 2 * c * (pw i * pw ((g + 1) / 2))<=_;rw[<- e] at q
    grind
   | p=>
    have e:=my (n:=i) (by have:=f.2 (by decide);lia) (by lia);show 2 * c * (pw ((i + 1) / 2) * pw g)<=_;rw[<- e] at q
    grind
   | b=>
    have e:=my (n:=g) (by have:=f.1 (by decide);lia) (by lia);have S:=my (n:=i) (by have:=f.2 (by decide);lia) (by lia);show 4 * c * (pw ((i + 1) / 2) * pw ((g + 1) / 2))<=_;rw[<- e,<- S] at q
    grind
  .by_cases z:j < k
   .exact L j z m A
   .obtain rfl:j=k:=by lia
    rw[u] at A;cases A;rw[hX,P];exact b2
noncomputable def Rl.car (a:Ad):Rl->Addr
 | .sum=>a.aH | .half=>a.az | .guess=>a.aw | .lean=>a.ay
noncomputable abbrev Rl.co (a:Ad)(R:Rl):D:=.ins (R.car a) [] []
noncomputable def pairE:Rl->Int->Int->Int
 | .sum=>λx y=>(x + y + 1) / 2 | _=>λx y=>x + (y + 1) / 2
noncomputable def j9:Rl->Int->Int
 | .sum=>λx=>(x + 1) / 2 | _=>λx=>x
theorem kA(T:Txt K mg a):aB P w K mg base CX0 1 a.cx a.e9 ["self","total","gap"] (sp3 K 3 (N2 (pairE .sum))):=by
 refine ok3 T.fh.F kn (hbody:=λe A b s H E f=>⟨_,_,(ai (aq (cJ (P3.opd (aJ (P3.opd (aJ (bv 1) (bv 2))) (P3.opd ag))) (P3.opd ag)))),λc Q h g=>?_⟩);obtain⟨d,x,y,rfl,q⟩:=h;walk_at "w";exact⟨⟨by decide,by decide⟩,q⟩
theorem eE(T:Txt K mg a):aB P w K mg base CX0 1 a.bY a.eI ["self","total","gap"] (sp3 K 3 (N2 (pairE .half))):=by
 refine ok3 T.cT.F jL (hbody:=λe A b s H E f=>⟨_,_,(ai (aq (aJ (bv 1) (P3.opd (cJ (P3.opd (aJ (bv 2) (P3.opd ag))) (P3.opd ag)))))),λc Q h g=>?_⟩);obtain⟨d,x,y,rfl,q⟩:=h;walk_at "w";exact⟨⟨by decide,by decide⟩,q⟩
theorem kB(T:Txt K mg a):aB P w K mg base CX0 1 a.cy a.e_ ["self","total"] (sp3 K 2 (IY (j9 .sum))):=by
 refine ok3 T.fi.F ko (hbody:=λe A b s H E f=>⟨_,_,(ai (aq (cJ (P3.opd (aJ (bv 1) (P3.opd ag))) (P3.opd ag)))),λc Q h g=>?_⟩);obtain⟨d,x,rfl,q⟩:=h;walk_at "w";exact⟨⟨by decide,by decide⟩,q⟩
theorem eF(T:Txt K mg a):aB P w K mg base CX0 1 a.b_ a.eK ["self","total"] (sp3 K 2 (IY (j9 .half))):=by
 refine ok3 T.cU.F jM (hbody:=λe A b s H E f=>⟨_,_,(ai (aq (qt 1))),λc Q h g=>?_⟩);obtain⟨d,x,rfl,q⟩:=h;walk_at "w";exact q
noncomputable def GO (S Df:Li0):Li0:=rg (λj=>Df.getD j 0 + (nrF S ((j:Int) - 1) + nrF S ((j:Int) + 1) + 3) / 4) Df.length
noncomputable def uW (R:Rl)(S Df:Li0):Li0:=match R with
 | .lean=>GO S Df | _=>Df
def R0:S3:=λΓ Q=>∃ (d:D) (S a:Li0),Γ=[some (.fz d),some (.fz (il S)),some (.fz (il a))]/\Q (.fz (il a)) Γ
theorem gz(T:Txt K mg a):aB P w K mg base CX0 1 a.bP a.gB ["self","sums","differences"] (sp3 K 3 R0):=by
 refine ok3 T.dO.F m8 (hbody:=λe A b s H E f=>⟨_,_,(ai (aq (qt 2))),λc Q h g=>?_⟩);obtain⟨d,S,i,rfl,q⟩:=h;walk_at "w";exact q
theorem A_{xs:Li0}{d:D}(h:(Ba (xs.map D.int))[k]?=some d):k < xs.length/\d=.tup [.int k,.int (xs.getD k 0)]:=by
 obtain⟨x,a,rfl⟩:=xR h;obtain⟨lt,rfl⟩:=ints_get a;exact⟨lt,rfl⟩
theorem oB{xs:Li0}:(Ba (xs.map D.int)).length=xs.length:=by unfold Ba;simp
def RZ:S3:=λΓ Q=>∃ (d:D) (S a:Li0),Γ=[some (.fz d),some (.fz (il S)),some (.fz (il a))]/\1<=S.length/\a.length<=64/\Q (.fr (il (GO S a))) Γ
theorem l6(T:Txt K mg a):aB P w K mg base CX0 2 a.dF a.gi ["self","sums","differences"] (sp3 K 3 RZ):=by
 refine ok3 T.gw.F lY (hbody:=λp A f s H E g=>⟨_,_,(ai (aq (bW rfl (DC (by rfl) T.z_enumerate (af (p3v 2) au)) cM (λ_ _ _ _ _=>(gn (is:=[0,1]) (by rfl) (aD (aL (i:=0) cM.nd rfl (hE rfl)) (aD (aL (i:=1) cM.nd rfl (hE rfl)) cj)) rfl)) (λ_ _ _ _ _=>(aJ (bv 1) (P3.opd (cJ (P3.opd (aJ (P3.opd (aJ (P3.opd (ak (by rfl) (jv T) g.dn (by rfl) T.bK.m T.bK.F.kp T.bK.b (aa (P3.opd (p3v 2)) (aa (P3.opd (dk (bv 0) (P3.opd ag))) ab)))) (P3.opd (ak (by rfl) (jv T) g.dn (by rfl) T.bK.m T.bK.F.kp T.bK.b (aa (P3.opd (p3v 2)) (aa (P3.opd (aJ (bv 0) (P3.opd ag))) ab)))))) (P3.opd ag))) (P3.opd ag)))))))),λm Q h t=>?_⟩);obtain⟨d,S,r,rfl,l,u,q⟩:=h;walk_at "w";refine⟨small (by rw[oB];lia),aQ (λk c b=>c=(el k).map (λj:Nat=>D.int (r.getD j 0 + (nrF S ((j:Int) - 1) + nrF S ((j:Int) + 1) + 3) / 4))/\∃ s e,b=[fo s,fo e,some (.fz (il S))]) ⟨rfl,none,none,rfl⟩ ?_ ?_⟩
 .rintro k d c b o n ⟨rfl,s,e,rfl⟩;obtain⟨lt,rfl⟩:=A_ o;walk_at "w";refine⟨S,_,rfl,l,?_⟩;walk_at "w";refine⟨S,_,rfl,l,?_⟩;walk_at "w";exact⟨⟨by decide,by decide⟩,snoc rfl,some _,some _,rfl⟩
 .rintro c b n ⟨rfl,s,e,rfl⟩;rw[oB,jC];walk_at "w";exact q
noncomputable def qx (R:Rl)(S Df:Li0):Li0:=rg (λj=>pairE R (S.getD j 0) ((uW R S Df).getD j 0)) Df.length
noncomputable def Jj (R:Rl)(S Df:Li0):Li0:=jK (qx R S Df++(S.drop Df.length).map (j9 R)) (qx R S Df)
noncomputable def j4 (S Df:Li0):Li0:=rg (λj=>S.getD j 0 + (nrF Df ((j:Int) - 1) + nrF Df (j:Int) + 3) / 4) S.length
noncomputable def Vs (S Df:Li0):Li0:=jK (j4 S Df) (rg (λj=>Df.getD j 0 + ((j4 S Df).getD j 0 + nrF (j4 S Df) ((j:Int) + 1) + 1) / 2) Df.length)
noncomputable def BY (R:Rl)(S Df:Li0):Li0:=match R with
 | .guess=>Vs S Df | R=>Jj R S Df
def Lq (a:Ad)(ok:Rl->Prop):S3:=λΓ Q=>∃ (R:Rl) (S b:Li0),Γ=[some (.fz (R.co a)),some (.fz (il S)),some (.fz (il b))]/\ok R/\1<=b.length/\b.length<=S.length/\S.length<=b.length + 1/\S.length + b.length<=64/\Q (.fr (il (BY R S b))) Γ
theorem N9(R:Rl)(S Df:Li0):(uW R S Df).length=Df.length:=by cases R <;> first | rfl | exact aK _ _
theorem dY(T:Txt K mg a):aB P w K mg base CX0 3 a.cv a.gZ ["self","sums","differences"] (sp3 K 3 (Lq a (·≠.guess))):=by
 refine ok3 T.cS.F dP (hbody:=λz A t s H E o=>⟨_,_,(aj (aP (i:=3) dP.nd rfl (hE rfl) (lq (P3.or (aC (by rfl) (bv 0) T.eU T.nK (gz T) o.dn T.dO.b (aa (P3.opd (p3v 1)) (aa (P3.opd (p3v 2)) ab))) (P3.or (aC (by rfl) (bv 0) T.ee T.l9 (gz T) o.dn T.dO.b (aa (P3.opd (p3v 1)) (aa (P3.opd (p3v 2)) ab))) (aC (by rfl) (bv 0) T.ed T.l8 (l6 T) o.dn T.gw.b (aa (P3.opd (p3v 1)) (aa (P3.opd (p3v 2)) ab)))))))
   (aj (ey (i:=4) dP.nd rfl rfl rfl (lH (by rfl) T.z_zip (af (p3v 1) (af (p3v 3) au))) c_ (λ_ _ _ _ _=>(gn (is:=[0,1]) (by rfl) (aD (aL (i:=0) c_.nd rfl (hE rfl)) (aD (aL (i:=1) c_.nd rfl (hE rfl)) cj)) rfl)) (λ_ _ _ _ _=>(P3.or (aC (by rfl) (bv 2) T.eU T.kD (kA T) o.dn T.fh.b (aa (P3.opd (p3v 0)) (aa (P3.opd (p3v 1)) ab))) (P3.or (aC (by rfl) (bv 2) T.ee T.jY (eE T) o.dn T.cT.b (aa (P3.opd (p3v 0)) (aa (P3.opd (p3v 1)) ab))) (aC (by rfl) (bv 2) T.ed T.jW (eE T) o.dn T.cT.b (aa (P3.opd (p3v 0)) (aa (P3.opd (p3v 1)) ab)))))))
   (ai (aq (ak (by rfl) (Aj T) o.dn (by rfl) T.ji.m T.ji.F.kp T.ji.b (aa (P3.opd (aJ (bv 4) (P3.opd (bW rfl (eX (by rfl) (dX (by rfl) (bv 1) (bh (P3.opd (av (cR (by rfl)) (by rfl) T.z_len (by decide +kernel) (aa (bv 3) ab)))) cI)) fI (λ_ _ _ _ _=>(aY (i:=0) fI.nd rfl (hE rfl))) (λ_ _ _ _ _=>(P3.or (aC (by rfl) (bv 1) T.eU T.kE (kB T) o.dn T.fi.b (aa (P3.opd (p3v 0)) ab)) (P3.or (aC (by rfl) (bv 1) T.ee T.jZ (eF T) o.dn T.cU.b (aa (P3.opd (p3v 0)) ab)) (aC (by rfl) (bv 1) T.ed T.jX (eF T) o.dn T.cU.b (aa (P3.opd (p3v 0)) ab))))))))) (aa (P3.opd (p3v 4)) ab))))))),λy Q h B=>?_⟩)
 obtain⟨R,S,b,rfl,hR,I,G,F,C,q⟩:=h;have gl:=N9 R S b;have p:(qx R S b).length=b.length:=aK _ _;walk_at "w";have g:∀ (E:Li0),E=qx R S b->E.length=b.length->Q (RV.fr (il (jK (E++(S.drop b.length).map (j9 R)) E))) [some (.fz (R.co a)),some (.fz (il S)),some (.fz (il b))]:=λE e _=>by
  subst e;cases R
  case guess=>exact absurd rfl hR
  all_goals exact q
 cases R
 case guess=>exact absurd rfl hR
 case sum=>
  have z1:(iI (S.map D.int) (b.map D.int)).length=b.length:=by rw[fR,show b.length=b.length from gl];lia
  refine .inl ⟨rfl,_,S,b,rfl,?_⟩;walk_at "w";refine⟨small (by rw[z1];lia),aQ (λk f c=>f=(el k).map (λj=>D.int (pairE .sum (S.getD j 0) (b.getD j 0)))/\∃ s l,c=[fo s,fo l,some (.fz (Rl.sum.co a))]) ⟨rfl,none,none,rfl⟩ ?_ ?_⟩
  .rintro k d f c n m ⟨rfl,s,l,rfl⟩;obtain⟨v,u,rfl⟩:=zip_get n;walk_at "w";refine .inl ?_;walk_at "w";refine⟨rfl,_,_,_,rfl,?_⟩;walk_at "w";exact⟨snoc rfl,some _,some _,rfl⟩
  rintro f c m ⟨rfl,s,l,rfl⟩;rw[z1,jC,show (el b.length).map (λj=>pairE .sum (S.getD j 0) (b.getD j 0))=qx .sum S b from rfl];have g:=g _ rfl p;generalize qx .sum S b=E at g p ⊢;walk_at "w";rw[lM0,show (b).length=b.length from gl,jG (by lia)];have dl:(S.drop b.length).length<=1:=by rw[lr];lia
  refine⟨small (by rw[lM0];lia),aQ (λk f c=>f=((S.drop b.length).take k).map (λx=>D.int (j9 .sum x))/\∃ s,c=[fo s,some (.fz (Rl.sum.co a))]) ⟨rfl,none,rfl⟩ ?_ ?_⟩
  .rintro k d f c n m ⟨rfl,s,rfl⟩;obtain⟨x,r,rfl⟩:=jh n;walk_at "w";refine .inl ?_;walk_at "w";refine⟨rfl,_,_,rfl,?_⟩;walk_at "w";exact⟨by rw[take_snoc r,gp];rfl,some _,rfl⟩
  rintro f c m ⟨rfl,s,rfl⟩;rw[ng (by rw[lM0];exact ek _)];walk_at "w";refine⟨by rw[lM0,lM0,hG];lia,E++(S.drop b.length).map (j9 .sum),E,by rw[il,gp,nr];rfl,by rw[bS];lia,by rw[bS,lM0];lia,?_⟩;walk_at "w";exact g
 case half=>
  have z1:(iI (S.map D.int) (b.map D.int)).length=b.length:=by rw[fR,show b.length=b.length from gl];lia
  refine .inr (.inl ⟨rfl,_,S,b,rfl,?_⟩);walk_at "w";refine⟨small (by rw[z1];lia),aQ (λk f c=>f=(el k).map (λj=>D.int (pairE .half (S.getD j 0) (b.getD j 0)))/\∃ s l,c=[fo s,fo l,some (.fz (Rl.half.co a))]) ⟨rfl,none,none,rfl⟩ ?_ ?_⟩
  .rintro k d f c n m ⟨rfl,s,l,rfl⟩;obtain⟨v,u,rfl⟩:=zip_get n;walk_at "w";refine .inr (.inl ?_);walk_at "w";refine⟨rfl,_,_,_,rfl,?_⟩;walk_at "w";exact⟨snoc rfl,some _,some _,rfl⟩
  rintro f c m ⟨rfl,s,l,rfl⟩;rw[z1,jC,show (el b.length).map (λj=>pairE .half (S.getD j 0) (b.getD j 0))=qx .half S b from rfl];have g:=g _ rfl p;generalize qx .half S b=E at g p ⊢;walk_at "w";rw[lM0,show (b).length=b.length from gl,jG (by lia)];have dl:(S.drop b.length).length<=1:=by rw[lr];lia
  refine⟨small (by rw[lM0];lia),aQ (λk f c=>f=((S.drop b.length).take k).map (λx=>D.int (j9 .half x))/\∃ s,c=[fo s,some (.fz (Rl.half.co a))]) ⟨rfl,none,rfl⟩ ?_ ?_⟩
  .rintro k d f c n m ⟨rfl,s,rfl⟩;obtain⟨x,r,rfl⟩:=jh n;walk_at "w";refine .inr (.inl ?_);walk_at "w";refine⟨rfl,_,_,rfl,?_⟩;walk_at "w";exact⟨by rw[take_snoc r,gp];rfl,some _,rfl⟩
  rintro f c m ⟨rfl,s,rfl⟩;rw[ng (by rw[lM0];exact ek _)];walk_at "w";refine⟨by rw[lM0,lM0,hG];lia,E++(S.drop b.length).map (j9 .half),E,by rw[il,gp,nr];rfl,by rw[bS];lia,by rw[bS,lM0];lia,?_⟩;walk_at "w";exact g
 case lean=>
  have z1:(iI (S.map D.int) ((GO S b).map D.int)).length=b.length:=by rw[fR,show (GO S b).length=b.length from gl];lia
  refine .inr (.inr ⟨rfl,_,S,b,rfl,by lia,by lia,?_⟩);walk_at "w";refine⟨small (by rw[z1];lia),aQ (λk f c=>f=(el k).map (λj=>D.int (pairE .lean (S.getD j 0) ((GO S b).getD j 0)))/\∃ s l,c=[fo s,fo l,some (.fz (Rl.lean.co a))]) ⟨rfl,none,none,rfl⟩ ?_ ?_⟩
  .rintro k d f c n m ⟨rfl,s,l,rfl⟩;obtain⟨v,u,rfl⟩:=zip_get n;walk_at "w";refine .inr (.inr ?_);walk_at "w";refine⟨rfl,_,_,_,rfl,?_⟩;walk_at "w";exact⟨snoc rfl,some _,some _,rfl⟩
  rintro f c m ⟨rfl,s,l,rfl⟩;rw[z1,jC,show (el b.length).map (λj=>pairE .lean (S.getD j 0) ((GO S b).getD j 0))=qx .lean S b from rfl];have g:=g _ rfl p;generalize qx .lean S b=E at g p ⊢;walk_at "w";rw[lM0,show (GO S b).length=b.length from gl,jG (by lia)];have dl:(S.drop b.length).length<=1:=by rw[lr];lia
  refine⟨small (by rw[lM0];lia),aQ (λk f c=>f=((S.drop b.length).take k).map (λx=>D.int (j9 .lean x))/\∃ s,c=[fo s,some (.fz (Rl.lean.co a))]) ⟨rfl,none,rfl⟩ ?_ ?_⟩
  .rintro k d f c n m ⟨rfl,s,rfl⟩;obtain⟨x,r,rfl⟩:=jh n;walk_at "w";refine .inr (.inr ?_);walk_at "w";refine⟨rfl,_,_,rfl,?_⟩;walk_at "w";exact⟨by rw[take_snoc r,gp];rfl,some _,rfl⟩
  rintro f c m ⟨rfl,s,rfl⟩;rw[ng (by rw[lM0];exact ek _)];walk_at "w";refine⟨by rw[lM0,lM0,hG];lia,E++(S.drop b.length).map (j9 .lean),E,by rw[il,gp,nr];rfl,by rw[bS];lia,by rw[bS,lM0];lia,?_⟩;walk_at "w";exact g
theorem l7(T:Txt K mg a):aB P w K mg base CX0 2 a.dG a.gj ["self","sums","differences"] (sp3 K 3 (Lq a (·=.guess))):=by
 refine ok3 T.gx.F dh (hbody:=λr A l s H E g=>⟨_,_,(aj (aP (i:=3) dh.nd rfl (SF rfl) (lq (bW rfl (DC (by rfl) T.z_enumerate (af (p3v 1) au)) cP (λ_ _ _ _ _=>(gn (is:=[0,1]) (by rfl) (aD (aL (i:=0) cP.nd rfl (hE rfl)) (aD (aL (i:=1) cP.nd rfl (hE rfl)) cj)) rfl)) (λ_ _ _ _ _=>(aJ (bv 1) (P3.opd (cJ (P3.opd (aJ (P3.opd (aJ (P3.opd (ak (by rfl) (jv T) g.dn (by rfl) T.bK.m T.bK.F.kp T.bK.b (aa (P3.opd (p3v 2)) (aa (P3.opd (dk (bv 0) (P3.opd ag))) ab)))) (P3.opd (ak (by rfl) (jv T) g.dn (by rfl) T.bK.m T.bK.F.kp T.bK.b (aa (P3.opd (p3v 2)) (aa (P3.opd (p3v 0)) ab)))))) (P3.opd ag))) (P3.opd ag))))))))
   (aj (ey (i:=4) dh.nd rfl rfl rfl (DC (by rfl) T.z_enumerate (af (p3v 2) au)) cQ (λ_ _ _ _ _=>(gn (is:=[0,1]) (by rfl) (aD (aL (i:=0) cQ.nd rfl (hE rfl)) (aD (aL (i:=1) cQ.nd rfl (hE rfl)) cj)) rfl)) (λ_ _ _ _ _=>(aJ (bv 1) (P3.opd (cJ (P3.opd (aJ (P3.opd (aJ (P3.opd (ba (by rfl) (bv 2) (bv 0) (λ_ _=>rfl))) (P3.opd (ak (by rfl) (jv T) g.dn (by rfl) T.bK.m T.bK.F.kp T.bK.b (aa (P3.opd (p3v 2)) (aa (P3.opd (aJ (bv 0) (P3.opd ag))) ab)))))) (P3.opd ag))) (P3.opd ag))))))
   (ai (aq (ak (by rfl) (Aj T) g.dn (by rfl) T.ji.m T.ji.F.kp T.ji.b (aa (P3.opd (p3v 3)) (aa (P3.opd (p3v 4)) ab))))))),λp Q h t=>?_⟩)
 obtain⟨R,S,c,rfl,rfl,o,x,v,u,q⟩:=h;walk_at "w";refine⟨small (by rw[oB];lia),aQ (λk e b=>e=(el k).map (λj:Nat=>D.int (S.getD j 0 + (nrF c ((j:Int) - 1) + nrF c (j:Int) + 3) / 4))/\∃ s f,b=[fo s,fo f,some (.fz (il c))]) ⟨rfl,none,none,rfl⟩ ?_ ?_⟩
 .rintro k d e b n m ⟨rfl,s,f,rfl⟩;obtain⟨lt,rfl⟩:=A_ n;walk_at "w";refine⟨c,_,rfl,o,?_⟩;walk_at "w";refine⟨c,_,rfl,o,?_⟩;walk_at "w";exact⟨⟨by decide,by decide⟩,snoc rfl,some _,some _,rfl⟩
 rintro e b m ⟨rfl,s,f,rfl⟩;rw[oB,jC,show (el S.length).map (λj:Nat=>S.getD j 0 + (nrF c ((j:Int) - 1) + nrF c (j:Int) + 3) / 4)=j4 S c from rfl];have y:(j4 S c).length=S.length:=aK _ _;walk_at "w";refine⟨small (by rw[oB];lia),aQ (λk e b=>e=(el k).map (λj:Nat=>D.int (c.getD j 0 + ((j4 S c).getD j 0 + nrF (j4 S c) ((j:Int) + 1) + 1) / 2))/\∃ s f,b=[fo s,fo f,some (.fz (il (j4 S c)))]) ⟨rfl,none,none,rfl⟩ ?_ ?_⟩
 .rintro k d e b n m ⟨rfl,s,f,rfl⟩;obtain⟨lt,rfl⟩:=A_ n;walk_at "w";refine de.mpr ⟨_,DY (by lia) (by lia),?_⟩;walk_at "w";refine⟨j4 S c,_,rfl,by lia,?_⟩;walk_at "w";exact⟨⟨by decide,by decide⟩,snoc (by rw[ky]),some _,some _,rfl⟩
 rintro e b m ⟨rfl,s,f,rfl⟩;rw[oB,jC];walk_at "w";exact⟨j4 S c,_,rfl,by simp;lia,by lia,q⟩
theorem sP(R:Rl)(S Df:Li0)(a:Df.length<=S.length)(b:S.length<=Df.length + 1):(rF R S Df).length=S.length + Df.length:=by
 cases R with
 | guess=>
  unfold rF Pc;rw[xg (by rw[aK,aK];exact a),aK,aK]
 | lean=>exact(z9 .lean (by rw[aK];exact a) (by rw[aK];exact b)).trans (by rw[aK])
 | sum=>exact z9 .sum a b
 | half=>exact z9 .half a b
theorem Bh(R:Rl)(S Df:Li0)(a:Df.length<=S.length)(b:S.length<=Df.length + 1):(BY R S Df).length=S.length + Df.length:=by
 have e:∀ R,(qx R S Df).length=Df.length:=λR=>aK _ _;have z:∀ R,(Jj R S Df).length=S.length + Df.length:=λR=>by
  unfold Jj;rw[xg (by rw[bS];lia),bS,lM0,lr,e];lia
 cases R with
 | guess=>
  unfold BY Vs;rw[xg (by rw[show (j4 S Df).length=S.length from aK _ _,aK];exact a),aK];rw[show (j4 S Df).length=S.length from aK _ _]
 | _=>exact z _
noncomputable def rK (S Df:Li0):Li0:=rg (λj=>S.getD j 0 - c8 Df j) S.length
noncomputable def BV (R:Rl)(S Df:Li0)(j:Nat):Int:=match R with
 | .lean=>Df.getD j 0 + gm S j | _=>Df.getD j 0
noncomputable def j1 (R:Rl)(S Df:Li0)(i:Nat):Int:=match R with
 | .sum=>(S.getD i 0 + Df.getD i 0) / 2
 | .guess=>S.getD i 0 - c8 Df i
 | R=>S.getD i 0 + (BV R S Df i + 1) / 2
noncomputable def j2 (R:Rl)(S Df:Li0)(i:Nat):Int:=match R with
 | .sum=>S.getD i 0 - (S.getD i 0 + Df.getD i 0) / 2
 | .guess=>Df.getD i 0 + ((rK S Df).getD i 0 + nrF (rK S Df) ((i:Int) + 1)) / 2
 | R=>S.getD i 0 + (BV R S Df i + 1) / 2 - BV R S Df i
noncomputable def j3 (R:Rl)(S Df:Li0)(i:Nat):Int:=match R with
 | .sum=>S.getD i 0 / 2
 | .guess=>S.getD i 0 - c8 Df i
 | _=>S.getD i 0
theorem ou(R:Rl){S Df:Li0}(b:Df.length<=S.length)(a:i < Df.length):(rF R S Df).getD (2 * i) 0=j1 R S Df i/\(rF R S Df).getD (2 * i + 1) 0=j2 R S Df i:=by
 cases R with
 | sum=>exact z_ .sum a
 | half=>exact z_ .half a
 | lean=>
  have:=z_ .lean (S:=S) (G:=rg (λj=>Df.getD j 0 + gm S j) Df.length) (j:=i) (by rw[aK];exact a);rw[dj _ a] at this;exact this
 | guess=>
  have:=xh (F:=rK S Df) (S:=rg (λj=>Df.getD j 0 + kG (rK S Df) j) Df.length) (j:=i) (by rw[aK];exact a);rw[dj _ a,show (rK S Df).getD i 0=_ from dj _ (by lia)] at this;refine⟨this.1,this.2.trans ?_⟩;show _ + ((rK S Df).getD i 0 + _) / 2=_
  rfl
theorem xK(R:Rl){S Df:Li0}(h:S.length=Df.length + 1):(rF R S Df).getD (2 * Df.length) 0=j3 R S Df Df.length:=by
 cases R with
 | sum=>exact xu .sum h
 | half=>exact xu .half h
 | lean=>
  have:=xu .lean (S:=S) (G:=rg (λj=>Df.getD j 0 + gm S j) Df.length) (by rw[aK];exact h);rw[aK] at this;exact this
 | guess=>
  have:=uA (F:=rK S Df) (S:=rg (λj=>Df.getD j 0 + kG (rK S Df) j) Df.length) (by rw[aK,show (rK S Df).length=S.length from aK _ _];exact h);rw[aK,show (rK S Df).getD Df.length 0=_ from dj _ (by lia)] at this;exact this
noncomputable def c1 (R:Rl)(S Df:Li0)(i:Nat):Int:=match R with
 | .guess=>S.getD i 0 + (nrF Df ((i:Int) - 1) + nrF Df (i:Int) + 3) / 4
 | R=>pairE R (S.getD i 0) ((uW R S Df).getD i 0)
noncomputable def c2 (R:Rl)(S Df:Li0)(i:Nat):Int:=match R with
 | .guess=>Df.getD i 0 + ((j4 S Df).getD i 0 + nrF (j4 S Df) ((i:Int) + 1) + 1) / 2
 | R=>pairE R (S.getD i 0) ((uW R S Df).getD i 0)
noncomputable def c3 (R:Rl)(S Df:Li0)(i:Nat):Int:=match R with
 | .guess=>S.getD i 0 + (nrF Df ((i:Int) - 1) + nrF Df (i:Int) + 3) / 4
 | R=>j9 R (S.getD i 0)
theorem Bg(R:Rl){S Df:Li0}(a:i < Df.length):(Jj R S Df).getD (2 * i) 0=pairE R (S.getD i 0) ((uW R S Df).getD i 0)/\(Jj R S Df).getD (2 * i + 1) 0=pairE R (S.getD i 0) ((uW R S Df).getD i 0):=by
 have l:(qx R S Df).length=Df.length:=aK _ _;have:=xh (F:=qx R S Df++(S.drop Df.length).map (j9 R)) (S:=qx R S Df) (j:=i) (by lia);rw[eH,if_pos (by lia),show (qx R S Df).getD i 0=_ from dj _ a] at this;exact this
theorem xV(R:Rl){S Df:Li0}(h:S.length=Df.length + 1):(Jj R S Df).getD (2 * Df.length) 0=j9 R (S.getD Df.length 0):=by
 have l:(qx R S Df).length=Df.length:=aK _ _;have:=uA (F:=qx R S Df++(S.drop Df.length).map (j9 R)) (S:=qx R S Df) (by rw[bS,lM0,lr];lia);rw[l,eH,if_neg (by lia),l,SD,GN (u:=S.getD Df.length 0) (by rw[MP,Zi,Cv 0 (by lia)])] at this;exact this
theorem zD(R:Rl){S Df:Li0}(b:Df.length<=S.length)(a:i < Df.length):(BY R S Df).getD (2 * i) 0=c1 R S Df i/\(BY R S Df).getD (2 * i + 1) 0=c2 R S Df i:=by
 cases R with
 | guess=>
  have:=xh (F:=j4 S Df) (S:=rg (λj=>Df.getD j 0 + ((j4 S Df).getD j 0 + nrF (j4 S Df) ((j:Int) + 1) + 1) / 2) Df.length) (j:=i) (by rw[aK];exact a);rw[dj _ a] at this;exact⟨this.1.trans (dj _ (by lia)),this.2⟩
 | sum=>exact Bg .sum a
 | half=>exact Bg .half a
 | lean=>exact Bg .lean a
theorem Ft(R:Rl){S Df:Li0}(h:S.length=Df.length + 1):(BY R S Df).getD (2 * Df.length) 0=c3 R S Df Df.length:=by
 cases R with
 | guess=>
  have:=uA (F:=j4 S Df) (S:=rg (λj=>Df.getD j 0 + ((j4 S Df).getD j 0 + nrF (j4 S Df) ((j:Int) + 1) + 1) / 2) Df.length) (by rw[aK,show (j4 S Df).length=S.length from aK _ _];exact h);rw[aK] at this;exact this.trans (dj _ (by lia))
 | sum=>exact xV .sum h
 | half=>exact xV .half h
 | lean=>exact xV .lean h
theorem CS{a b:Nat}(d:b<=a)(c:a<=b + 1)(h:j < a + b):(∃ i,i < b/\j=2 * i)\/(∃ i,i < b/\j=2 * i + 1)\/(a=b + 1/\j=2 * b):=by
 by_cases e:j=2 * b
 .exact .inr (.inr ⟨by lia,e⟩)
 .by_cases o:j % 2=0
  .exact .inl ⟨j / 2,by lia,by lia⟩
  .exact .inr (.inl ⟨j / 2,by lia,by lia⟩)
def xf (X Z E:Li0):Prop:=∀ j,X.getD j 0 - Z.getD j 0<=E.getD j 0/\Z.getD j 0 - X.getD j 0<=E.getD j 0
theorem kC{X Z E:Li0}(n:xf X Z E)(b:Z.length=X.length)(a:E.length=X.length)(k:Int):nrF X k - nrF Z k<=nrF E k/\nrF Z k - nrF X k<=nrF E k:=by
 unfold nrF;rw[b,a];exact n _
theorem Lg{S d A Df f B:Li0}(l:xf S d A)(g:xf Df f B)(n:d.length=S.length)(m:A.length=S.length)(k:f.length=Df.length)(i:B.length=Df.length):xf (rK S Df) (rK d f) (j4 A B):=λj=>by
 by_cases h:j < S.length
 .rw[show (rK S Df).getD j 0=_ from dj _ h,show (rK d f).getD j 0=_ from dj _ (by lia),show (j4 A B).getD j 0=_ from dj _ (by lia)];have a:=l j;have b:=kC g k i ((j:Int) - 1);have c:=kC g k i (j:Int);unfold c8;lia
 .have z:∀ X:Li0,X.length=S.length->X.getD j 0=0:=λX e=>by rw[hP,ox (by lia)];rfl
  rw[z (rK S Df) (aK _ _),z (rK d f) ((aK _ _).trans n),z (j4 A B) ((aK _ _).trans m)];lia
theorem E_(R:Rl){S d A Df e B:Li0}(g:xf S d A)(f:xf Df e B)(j:d.length=S.length)(h:A.length=S.length)(l:B.length=Df.length)(k:i < Df.length):BV R S Df i - BV R d e i<=(uW R A B).getD i 0/\BV R d e i - BV R S Df i<=(uW R A B).getD i 0:=by
 cases R with
 | lean=>
  rw[show (uW .lean A B).getD i 0=_ from dj _ (by lia)];have a:=f i;have b:=kC g j h ((i:Int) - 1);have c:=kC g j h ((i:Int) + 1);unfold BV gm;dsimp only;lia
 | _=>exact f i
theorem J4(R:Rl){S n A Df o B:Li0}(p:xf S n A)(k:xf Df o B)(t:n.length=S.length)(s:A.length=S.length)(m:o.length=Df.length)(l:B.length=Df.length)(r:Df.length<=S.length)(u:S.length<=Df.length + 1):xf (rF R S Df) (rF R n o) (BY R A B):=λj=>by
 by_cases h:j < S.length + Df.length
 .rcases CS r u h with ⟨i,q,rfl⟩ | ⟨i,q,rfl⟩ | ⟨v,rfl⟩
  .rw[(ou R r q).1,(ou R (S:=n) (Df:=o) (by lia) (by lia)).1,(zD R (S:=A) (Df:=B) (by lia) (by lia)).1];have a:=p i;have b:=k i;have g:=E_ R p k t s l q;cases R with
   | sum=>unfold j1 c1 pairE uW;dsimp only;lia
   | guess=>
    have b:=kC k m l ((i:Int) - 1);have c:=kC k m l (i:Int);unfold j1 c1 c8;dsimp only;lia
   | half=>unfold j1 c1 pairE;dsimp only;lia
   | lean=>unfold j1 c1 pairE;dsimp only;lia
  .rw[(ou R r q).2,(ou R (S:=n) (Df:=o) (by lia) (by lia)).2,(zD R (S:=A) (Df:=B) (by lia) (by lia)).2];have a:=p i;have b:=k i;have g:=E_ R p k t s l q;cases R with
   | sum=>unfold j2 c2 pairE uW;dsimp only;lia
   | guess=>
    have f:=Lg p k t s m l;have c:=f i;have d:=kC f ((aK _ _).trans (t.trans (aK _ _).symm)) ((aK _ _).trans (s.trans (aK _ _).symm)) ((i:Int) + 1);unfold j2 c2;dsimp only;lia
   | half=>unfold j2 c2 pairE;dsimp only;lia
   | lean=>unfold j2 c2 pairE;dsimp only;lia
  .rw[xK R v,<- m,xK R (S:=n) (Df:=o) (by lia),m,<- l,Ft R (S:=A) (Df:=B) (by lia),l];have a:=p Df.length;cases R with
   | guess=>
    have b:=kC k m l (((Df.length:Nat):Int) - 1);have c:=kC k m l ((Df.length:Nat):Int);unfold j3 c3 c8;dsimp only;lia
   | _=>unfold j3 c3 j9;dsimp only;lia
 .have z:∀ X:Li0,X.length=S.length + Df.length->X.getD j 0=0:=λX e=>by rw[hP,ox (by lia)];rfl
  rw[z _ (sP R S Df r u),z _ ((sP R n o (by lia) (by lia)).trans (by lia)),z _ ((Bh R A B (by lia) (by lia)).trans (by lia))];lia
variable {J:Jv}
def Bp (B:Int)(X:Li0):Prop:=∀ j,-B<=X.getD j 0/\X.getD j 0<=B
theorem gY{B:Int}{X:Li0}(h:Bp B X)(k:Int):-B<=nrF X k/\nrF X k<=B:=h _
theorem fe{X:Li0}(e:X.length=n)(h:¬j < n):X.getD j 0=0:=by rw[hP,ox (by lia)];rfl
theorem J8{B:Int}{f:Nat->Int}(a:0<=B)(h:∀ j,-B<=f j/\f j<=B):Bp B (rg f n):=λj=>by
 by_cases lt:j < n
 .rw[dj _ lt];exact h j
 .rw[fe (aK _ _) lt];lia
theorem NY(R:Rl){S Df:Li0}{c e:Int}(v:4<=c)(u:4<=e)(k:Df.length<=S.length)(m:S.length<=Df.length + 1)(d:Bp c S)(g:Bp e Df):Bp (2 * c + 2 * e) (rF R S Df):=λj=>by
 by_cases h:j < S.length + Df.length
 .rcases CS k m h with ⟨i,l,rfl⟩ | ⟨i,l,rfl⟩ | ⟨r,rfl⟩
  .rw[(ou R k l).1];have a:=d i;have b:=g i;have o:=gY g ((i:Int) - 1);have n:=gY g (i:Int);have q:=gY d ((i:Int) - 1);have p:=gY d ((i:Int) + 1);cases R <;> (unfold j1;try unfold BV;try unfold c8;try unfold gm) <;> dsimp only <;> lia
  .rw[(ou R k l).2];have a:=d i;have b:=g i;have q:=gY d ((i:Int) - 1);have p:=gY d ((i:Int) + 1);cases R with
   | guess=>
    have f:Bp (c + (2 * e + 2) / 4 + 1) (rK S Df):=J8 (by lia) λj=>by
     have a:=d j;have o:=gY g ((j:Int) - 1);have n:=gY g (j:Int);unfold c8;lia
    have t:=f i;have s:=gY f ((i:Int) + 1);unfold j2;dsimp only;lia
   | _=>(unfold j2;try unfold BV;try unfold gm);dsimp only;lia
  .rw[xK R r];have a:=d Df.length;have o:=gY g ((Df.length:Int) - 1);have n:=gY g (Df.length:Int);cases R <;> (unfold j3;try unfold c8) <;> dsimp only <;> lia
 .rw[fe (sP R S Df k m) h];lia
theorem Sn(R:Rl){S Df:Li0}{c e:Int}(x:4<=c)(w:4<=e)(l:Df.length<=S.length)(n:S.length<=Df.length + 1)(k:Bp c S)(d:Bp e Df):Bp (2 * c + 2 * e) (BY R S Df):=λj=>by
 have o:∀ i,-(e + (2 * c + 3) / 4 + 1)<=(uW R S Df).getD i 0/\(uW R S Df).getD i 0<=e + (2 * c + 3) / 4 + 1:=λi=>by
  have b:=d i;cases R with
  | lean=>
   exact J8 (by lia) (λj=>by
    have b:=d j;have t:=gY k ((j:Int) - 1);have s:=gY k ((j:Int) + 1);lia) i
  | _=>show _<=Df.getD i 0/\Df.getD i 0<=_;lia
 by_cases h:j < S.length + Df.length
 .rcases CS l n h with ⟨i,m,rfl⟩ | ⟨i,m,rfl⟩ | ⟨r,rfl⟩
  .rw[(zD R l m).1];have a:=k i;have b:=d i;have g:=o i;have q:=gY d ((i:Int) - 1);have p:=gY d (i:Int);cases R with
   | sum=>unfold c1 pairE uW;dsimp only;lia
   | guess=>unfold c1;dsimp only;lia
   | _=>unfold c1 pairE;dsimp only;lia
  .rw[(zD R l m).2];have a:=k i;have b:=d i;have g:=o i;cases R with
   | sum=>unfold c2 pairE uW;dsimp only;lia
   | guess=>
    have f:Bp (c + (2 * e + 3) / 4 + 1) (j4 S Df):=J8 (by lia) λj=>by
     have a:=k j;have q:=gY d ((j:Int) - 1);have p:=gY d (j:Int);lia
    have v:=f i;have u:=gY f ((i:Int) + 1);unfold c2;dsimp only;lia
   | _=>unfold c2 pairE;dsimp only;lia
  .rw[Ft R r];have a:=k Df.length;have q:=gY d ((Df.length:Int) - 1);have p:=gY d (Df.length:Int);cases R with
   | guess=>unfold c3;dsimp only;lia
   | _=>unfold c3 j9;dsimp only;lia
 .rw[fe (Bh R S Df l n) h];lia
noncomputable def nJ (a:Ad):Jv:=⟨rF,sP,Rl.ob a,λn=>-1000000000000000 < n/\n < 1000000000000000⟩
noncomputable def eJ (a:Ad):Jv:=⟨BY,Bh,Rl.co a,λn=>0<=n/\n < 1000000000000000⟩
theorem wO{R:Rl}{H W h y x:Nat}{a:LL0}(s:Sz H W a)(g:m<=W)(f:y < H):en 0 (dg J R a h m) y x=if y < h/\x < m then (J.g R ((a.getD y []).take ((m + 1) / 2)) (((a.getD y []).drop ((m + 1) / 2)).take (m - (m + 1) / 2))).getD x 0 else en 0 a y x:=by
 obtain⟨e,l⟩:=s.row f;have i:=s.hh;unfold en;by_cases b:y < h
 .have d:(dg J R a h m).getD y []=E6 J R (a.getD y []) m:=by
   unfold dg;rw[hP,ef (by rw[lM0,gs];lia),cm,UV b,e];rfl
  rw[d]
  clear d e
  generalize a.getD y []=r at l ⊢;have gl:=J.gl R (r.take ((m + 1) / 2)) ((r.drop ((m + 1) / 2)).take (m - (m + 1) / 2)) (by rw[gs,gs,lr];lia) (by rw[gs,gs,lr];lia);rw[gs,gs,lr] at gl;unfold E6;rw[hP];by_cases c:x < m
  .rw[if_pos ⟨b,c⟩,ef (by lia)];rfl
  .rw[if_neg (λq=>c q.2),ic (by lia),gl,MP,show m + (x - (min ((m + 1) / 2) r.length + min (m - (m + 1) / 2) (r.length - (m + 1) / 2)))=x by lia];rfl
 .rw[if_neg (λq=>b q.1)]
  congr 1
  unfold dg;rw[hP,ic (by rw[lM0,gs];lia),lM0,gs,MP,show h + (y - min h a.length)=y by lia];rfl
theorem ve{r:Li0}(a:j < m):(r.take m).getD j 0=r.getD j 0:=by
 rw[hP,UV a];rfl
theorem Dy{r:Li0}(a:j < k):((r.drop m).take k).getD j 0=r.getD (m + j) 0:=by
 rw[ve a,hP,MP];rfl
theorem vC{r:Li0}{W:Nat}(l:r.length=W)(a:m<=W):(r.take ((m + 1) / 2)).length=(m + 1) / 2/\((r.drop ((m + 1) / 2)).take (m - (m + 1) / 2)).length=m - (m + 1) / 2:=by
 rw[gs,gs,lr];lia
def oR (H W:Nat)(X Z E:LL0):Prop:=∀ y x,y < H->x < W->en 0 X y x - en 0 Z y x<=en 0 E y x/\en 0 Z y x - en 0 X y x<=en 0 E y x
theorem Cm{H W:Nat}{X Z E:LL0}(d:Sz H W X)(c:Sz H W Z)(e:Sz H W E)(n:oR H W X Z E):oR W H (bp 0 W X) (bp 0 W Z) (bp 0 W E):=λx y b a=>by
 rw[kI d b a,kI c b a,kI e b a];exact n y x a b
theorem pO{R:Rl}{H W h:Nat}{X Z E:LL0}(k:Sz H W X)(i:Sz H W Z)(l:Sz H W E)(e:m<=W)(n:oR H W X Z E):oR H W (dg (nJ a) R X h m) (dg (nJ a) R Z h m) (dg (eJ a) R E h m):=λy x d s=>by
 rw[wO k e d,wO i e d,wO l e d];by_cases c:y < h/\x < m
 .rw[if_pos c,if_pos c,if_pos c];obtain⟨g,f⟩:=vC (k.row d).2 e;obtain⟨r,q⟩:=vC (i.row d).2 e;obtain⟨p,o⟩:=vC (l.row d).2 e;refine J4 R (λj=>?_) (λj=>?_) (r.trans g.symm) (p.trans g.symm) (q.trans f.symm) (o.trans f.symm) (by lia) (by lia) x
  .by_cases b:j < (m + 1) / 2
   .rw[ve b,ve b,ve b];exact n y j d (by lia)
   .rw[fe g b,fe r b,fe p b];lia
  .by_cases b:j < m - (m + 1) / 2
   .rw[Dy b,Dy b,Dy b];exact n y _ d (by lia)
   .rw[fe f b,fe q b,fe o b];lia
 .rw[if_neg c,if_neg c,if_neg c];exact n y x d s
theorem FJ{R:Rl}{H W:Nat}{l:Lt}{h w:Nat}{X Z E:LL0}(e:Sz H W X)(d:Sz H W Z)(f:Sz H W E)(c:h<=H)(g:w<=W)(n:oR H W X Z E):oR H W (vg (nJ a) R H W l h w X) (vg (nJ a) R H W l h w Z) (vg (eJ a) R H W l h w E):=by
 have p:oR H W (bp 0 H (dg (nJ a) R (bp 0 W X) w h)) (bp 0 H (dg (nJ a) R (bp 0 W Z) w h)) (bp 0 H (dg (eJ a) R (bp 0 W E) w h)):=
  Cm (dZ (bc e) c) (dZ (bc d) c) (dZ (bc f) c) (pO (bc e) (bc d) (bc f) c (Cm e d f n))
 cases l with
 | r=>exact pO e d f g n
 | p=>exact p
 | b=>exact pO (bc (dZ (bc e) c)) (bc (dZ (bc d) c)) (bc (dZ (bc f) c)) g p
theorem Eh {R:Rl}{h w:Int}{ls:List Lt}{X Z E:LL0}(p:Pl h w ls)(c:Sz h.toNat w.toNat X)(b:Sz h.toNat w.toNat Z)(d:Sz h.toNat w.toNat E)(n:oR h.toNat w.toNat X Z E):∀ i,oR h.toNat w.toNat (stB (nJ a) R h w ls X i) (stB (nJ a) R h w ls Z i) (stB (eJ a) R h w ls E i)
 | 0=>n
 | i + 1=>by
  obtain⟨_,c1,c2,_,_⟩:=p.cn (k:=ls.length - 1 - i) (by lia);exact FJ (uB p c i) (uB p b i) (uB p d i) c1 c2 (Eh p c b d n i)
variable {J:Jv}
structure JB (J:Jv) (z:Int->Prop):Prop where
 bd:∀ (R:Rl) (S Df:Li0) (c e:Int),4<=c->4<=e->Df.length<=S.length->S.length<=Df.length + 1->Bp c S->Bp e Df->Bp (2 * c + 2 * e) (J.g R S Df)
 kz:∀ (R:Rl) (H W h m:Nat) (X:LL0),Sz H W X->m<=W->(∀ y x,y < H->x < W->z (en 0 X y x))->∀ y x,y < H->x < W->z (en 0 (dg J R X h m) y x)
 pz:∀ n,-100000000000000<=n->n<=100000000000000->z n->J.p n
theorem Rv(a:Ad):JB (nJ a) λ_=>True:=⟨λR _ _ _ _=>NY R,λ_ _ _ _ _ _ _ _ _ _ _ _ _=>trivial,λn c b _=>⟨by lia,by lia⟩⟩
theorem Uu(a:Ad):JB (eJ a) λn=>0<=n:=⟨λR _ _ _ _=>Sn R,λR H W h m X s d z y x b c=>by
 have:=pO (a:=a) (R:=R) (h:=h) s s s d (λy x b c=>by have:=z y x b c;lia) y x b c;lia,λn g f e=>⟨e,by lia⟩⟩
theorem AI{z:Int->Prop}(B:JB J z){R:Rl}{H W h:Nat}{X:LL0}(s:Sz H W X)(k:m<=W){p q:Nat->Int}{F:Nat->Nat->Int}(i:∀ y,4<=p y)(g:∀ y,4<=q y)(d:∀ y x,y < H->x < W->-F y x<=en 0 X y x/\en 0 X y x<=F y x)(e:∀ y x,y < h->x < m->F y x=if x < (m + 1) / 2 then p y else q y) :
  ∀ y x,y < H->x < W->-(if y < h/\x < m then 2 * p y + 2 * q y else F y x)<=en 0 (dg J R X h m) y x/\en 0 (dg J R X h m) y x<=if y < h/\x < m then 2 * p y + 2 * q y else F y x:=by
 intro y x b o;rw[wO s k b];by_cases c:y < h/\x < m
 .rw[if_pos c,if_pos c];obtain⟨n,l⟩:=vC (s.row b).2 k;have:=i y;have:=g y;refine B.bd R _ _ _ _ (i y) (g y) (by lia) (by lia) (λj=>?_) (λj=>?_) x
  .by_cases a:j < (m + 1) / 2
   .have f:=d y j b (by lia);rw[e y j c.1 (by lia),if_pos a] at f;rw[ve a];exact f
   .rw[fe n a];lia
  .by_cases a:j < m - (m + 1) / 2
   .have f:=d y ((m + 1) / 2 + j) b (by lia);rw[e y _ c.1 (by lia),if_neg (by lia)] at f;rw[Dy a];exact f
   .rw[fe l a];lia
 .rw[if_neg c,if_neg c];exact d y x b o
noncomputable def bz (h w:Nat)(c:Int)(y x:Nat):Int:=if y < h/\x < w then c else 2000000000
def Bz (H W h w:Nat)(c:Int)(X:LL0):Prop:=∀ y x,y < H->x < W->-bz h w c y x<=en 0 X y x/\en 0 X y x<=bz h w c y x
theorem DW{H W h w:Nat}{c:Int}{X:LL0}(s:Sz H W X)(b:Bz H W h w c X):Bz W H w h c (bp 0 W X):=λx y d a=>by
 rw[kI s d a,show bz w h c x y=bz h w c y x by unfold bz;simp only[And.comm]];exact b y x a d
theorem Mc{H W:Nat}{X:LL0}{q:Int->Prop}(s:Sz H W X)(b:∀ y x,y < H->x < W->q (en 0 X y x)):∀ r∈X,∀ n∈r,q n:=λr a n e=>by
 obtain⟨y,c,rfl⟩:=Re a;obtain⟨x,d,rfl⟩:=Re e;have:=b y x (by have:=s.hh;lia) (by have:=s.ww _ a;lia);simpa [en,vk,c,d] using this
theorem Dw{z:Int->Prop}(B:JB J z){H W:Nat}{X:LL0}(s:Sz H W X)(b:∀ y x,y < H->x < W->-100000000000000<=en 0 X y x/\en 0 X y x<=100000000000000)(hz:∀ y x,y < H->x < W->z (en 0 X y x)):okQ J X:=Mc s λy x a c=>B.pz _ (b y x a c).1 (b y x a c).2 (hz y x a c)
theorem LY{h w y x:Nat}{c:Int}(a:c<=100000000000000):bz h w c y x<=100000000000000:=by unfold bz;split <;> lia
theorem Ss{H W h w:Nat}{c:Int}{X:LL0}(b:Bz H W h w c X)(e:c<=100000000000000):∀ y x,y < H->x < W->-100000000000000<=en 0 X y x/\en 0 X y x<=100000000000000:=λy x a d=>by
 have:=b y x a d;have:=LY (h:=h) (w:=w) (y:=y) (x:=x) e;lia
theorem FC{z:Int->Prop}{H W:Nat}{X:LL0}(s:Sz H W X)(h:∀ y x,y < H->x < W->z (en 0 X y x)):∀ x y,x < W->y < H->z (en 0 (bp 0 W X) x y):=λx y b a=>by rw[kI s b a];exact h y x a b
theorem J5{z:Int->Prop}(B:JB J z){R:Rl}{H W h w:Nat}{c:Int}{X:LL0}(s:Sz H W X)(f:w<=W)(c1:4<=c)(b:Bz H W h ((w + 1) / 2) c X):Bz H W h w (2 * c + 4000000000) (dg J R X h w):=λy x d e=>by
 have:=AI B (R:=R) (h:=h) s f (p:=λ_=>c) (q:=λ_=>2000000000) (F:=bz h ((w + 1) / 2) c) (λ_=>c1) (λ_=>by decide) b (λy x a g=>by unfold bz;by_cases k:x < (w + 1) / 2 <;> simp [a,k]) y x d e;unfold bz at this ⊢;by_cases k:y < h/\x < w
 .rw[if_pos k] at this ⊢;lia
 .rw[if_neg k,if_neg (λz=>k ⟨z.1,by lia⟩)] at this;rw[if_neg k];lia
theorem Mu{z:Int->Prop}(B:JB J z){R:Rl}{H W h w:Nat}{l:Lt}{c:Int}{X:LL0}(s:Sz H W X)(i:h<=H)(m:w<=W)(G:Can l h w)(c1:4<=c)(c3:c<=41000000000000)(b:Bz H W (nhN l h) (nwN l w) c X)(hz:∀ y x,y < H->x < W->z (en 0 X y x)) :
  Bz H W h w (if l=.b then 4 * c + 24000000000 else 2 * c + 4000000000) (vg J R H W l h w X)/\(∀ y x,y < H->x < W->z (en 0 (vg J R H W l h w X) y x))/\Ny J R H W l h w X:=by
 have a:=bc (z:=0) s;have j:=FC s hz;have E:=Dw B s (Ss b (by lia)) hz;cases l with
 | r=>exact⟨J5 B s m c1 b,B.kz R H W h w X s m hz,E⟩
 | p=>
  have bT:=DW s b;have d:=dZ (J:=J) (R:=R) (h:=w) a i;exact⟨DW d (J5 B (R:=R) a i c1 bT),FC d (B.kz R W H w h _ a i j),Dw B a (Ss bT (by lia)) j⟩
 | b=>
  have bT:=DW s b;have d:=dZ (J:=J) (R:=R) (h:=w) a i;have n:=bc (z:=0) d;have u:=FC d (B.kz R W H w h _ a i j);have C:=AI B (R:=R) (h:=w) a i (p:=λx=>if x < (w + 1) / 2 then c else 2000000000) (q:=λ_=>2000000000) (F:=bz ((w + 1) / 2) ((h + 1) / 2) c) (λx=>by split <;> lia) (λ_=>by decide) bT λx y A v=>by
   unfold bz;by_cases D:x < (w + 1) / 2 <;> by_cases o:y < (h + 1) / 2 <;> simp [D,o]
  have b2:=AI B (R:=R) (h:=h) n m (p:=λ_=>2 * c + 4000000000) (q:=λ_=>8000000000) (F:=λy x=>if x < w/\y < h then (if x < (w + 1) / 2 then 2 * c + 4000000000 else 8000000000) else 2000000000) (λ_=>by lia) (λ_=>by decide) (λy x f g=>by
   rw[kI d f g];have:=C x y g f;by_cases k:x < w/\y < h
   .rw[if_pos k] at this ⊢;split at this <;> split <;> lia
   .rw[if_neg k] at this ⊢;have e:bz ((w + 1) / 2) ((h + 1) / 2) c x y=2000000000:=by unfold bz;rw[if_neg (λz=>k ⟨by lia,by lia⟩)]
    rw[e] at this;exact this) λy x A v=>by simp [A,v]
  have o:okQ J (bp 0 H (dg J R (bp 0 W X) w h)):=Dw B n (λy x f g=>by
   rw[kI d f g];have t:=C x y g f;have:=LY (h:=(w + 1) / 2) (w:=(h + 1) / 2) (y:=x) (x:=y) (c:=c) (by lia);split at t <;> (try split at t) <;> lia) u
  refine⟨λy x f g=>?_,B.kz R H W h w _ n m u,Dw B a (Ss bT (by lia)) j,o⟩;have:=b2 y x f g;show -bz h w (4 * c + 24000000000) y x<=en 0 (dg J R (bp 0 H (dg J R (bp 0 W X) w h)) h w) y x/\en 0 (dg J R (bp 0 H (dg J R (bp 0 W X) w h)) h w) y x<=bz h w (4 * c + 24000000000) y x;unfold bz;by_cases k:y < h/\x < w
  .rw[if_pos k] at this ⊢;lia
  .rw[if_neg k,if_neg (λz=>k ⟨z.2,z.1⟩)] at this;rw[if_neg k];lia
theorem Ee {z:Int->Prop}(B:JB J z){R:Rl}{h w:Int}{ls:List Lt}{X:LL0}(p:Pl h w ls)(s:Sz h.toNat w.toNat X)(b:∀ y x,y < h.toNat->x < w.toNat->-2000000000<=en 0 X y x/\en 0 X y x<=2000000000)(hz:∀ y x,y < h.toNat->x < w.toNat->z (en 0 X y x)):∀ i,i<=ls.length->∃ c:Nat,4<=c/\c + 8000000000<=10000000000 * (pw (cN h w ls (ls.length - i)).1 * pw (cN h w ls (ls.length - i)).2)/\
  Bz h.toNat w.toNat (cN h w ls (ls.length - i)).1 (cN h w ls (ls.length - i)).2 c (stB J R h w ls X i)/\(∀ y x,y < h.toNat->x < w.toNat->z (en 0 (stB J R h w ls X i) y x))/\∀ j,j < i->∀ l,ls[ls.length - 1 - j]?=some l->Ny J R h.toNat w.toNat l (cN h w ls (ls.length - 1 - j)).1 (cN h w ls (ls.length - 1 - j)).2 (stB J R h w ls X j)
 | 0,_=>by
  refine⟨2000000000,by decide,?_,λy x K L=>?_,hz,λj D=>absurd D (Yi _)⟩
  .have:=HT (yU (cN h w ls (ls.length - 0)).1).1 (yU (cN h w ls (ls.length - 0)).2).1;lia
  .have:=b y x K L;unfold bz;show -_<=en 0 X y x/\en 0 X y x<=_;split <;> lia
 | i + 1,U=>by
  obtain⟨c,V,f,o,A,H⟩:=Ee B (R:=R) p s b hz i (by lia);have M:ls.length - 1 - i < ls.length:=by lia
  obtain⟨l,q⟩:∃ l,ls[ls.length - 1 - i]?=some l:=⟨_,gE0 M⟩;obtain⟨e,v,u,F,E⟩:=p.cn (k:=ls.length - 1 - i) (by lia);have g:=wc p.good q;have O:=p.sz.h2;have G:=p.sz.w2;have C:=uB (J:=J) (R:=R) p s i;rw[e] at g;rw[show ls.length - i=ls.length - 1 - i + 1 by lia,p.cs q] at f o;rw[OW q,show ls.length - (i + 1)=ls.length - 1 - i by lia];generalize hX:stB J R h w ls X i=Y at o A C ⊢;generalize N:cN h w ls (ls.length - 1 - i)=Q at f o g v u F E ⊢;obtain⟨d,a⟩:=Q;dsimp only at f o g v u F E ⊢;have I:c<=41000000000000:=by
   have:=HT (yU (nhN l d)).2.1 (yU (nwN l a)).2.1;have:=VV 10000000000 this;lia
  obtain⟨T,b2,S⟩:=Mu B (R:=R) C v u g (by lia) (by lia) o A;refine⟨if l=.b then 4 * c + 24000000000 else 2 * c + 4000000000,by split <;> lia,?_,by cases l <;> exact T,b2,λj D m t=>?_⟩
  .cases l with
   | r=>
    have e:=my (n:=a) (by have:=g.1 (by decide);lia) (by lia);show 2 * c + 4000000000 + 8000000000<=10000000000 * (pw d * pw a);have f:c + 8000000000<=10000000000 * (pw d * pw ((a + 1) / 2)):=f;rw[<- e,show pw d * (2 * pw ((a + 1) / 2))=2 * (pw d * pw ((a + 1) / 2)) by grind];omega
   | p=>
    have e:=my (n:=d) (by have:=g.2 (by decide);lia) (by lia);show 2 * c + 4000000000 + 8000000000<=10000000000 * (pw d * pw a);have f:c + 8000000000<=10000000000 * (pw ((d + 1) / 2) * pw a):=f;rw[<- e,show 2 * pw ((d + 1) / 2) * pw a=2 * (pw ((d + 1) / 2) * pw a) by grind];omega
   | b=>
    have e:=my (n:=a) (by have:=g.1 (by decide);lia) (by lia);have P:=my (n:=d) (by have:=g.2 (by decide);lia) (by lia);show 4 * c + 24000000000 + 8000000000<=10000000000 * (pw d * pw a);have f:c + 8000000000<=10000000000 * (pw ((d + 1) / 2) * pw ((a + 1) / 2)):=f;rw[<- e,<- P,show 2 * pw ((d + 1) / 2) * (2 * pw ((a + 1) / 2))=4 * (pw ((d + 1) / 2) * pw ((a + 1) / 2)) by grind];omega
  .by_cases k:j < i
   .exact H j k m t
   .obtain rfl:j=i:=by lia
    rw[q] at t;cases t;rw[hX,N];exact S
def Ji (a:Ad):S3:=λΓ Q=>∃ (R:Rl) (S b:Li0),Γ=[some (.fz (R.co a)),some (.fz (il S)),some (.fz (il b))]/\(∀ n∈S,0<=n/\n < 1000000000000000)/\(∀ n∈b,0<=n/\n < 1000000000000000)/\1<=b.length/\b.length<=S.length/\S.length<=b.length + 1/\S.length + b.length<=64/\Q (.fr (il (BY R S b))) Γ
theorem da(T:Txt K mg a):aB P w K mg base CX0 5 a.bQ a.iP ["self","sums","differences"] (sp3 K 3 (Ji a)):=by
 refine ok3 T.cH.F qo (hbody:=λp A j s H E c=>⟨_,_,(aj (bg (P3W.pt (uO (bV (bU (ak (by rfl) (tV T) c.dn (by rfl) T.er.m T.er.F.kp T.er.b (aa (P3.opd (p3v 1)) (aa (P3.opd (p3v 2)) ab))))) (pC (aX Fv (P3.opd (av (Sq rfl) (by rfl) T.z_min (by decide +kernel) (aa (P3.opd (aJ (bv 1) (bv 2))) ab))) (P3.opd ag) (a9 _))))) (ai dr) aV)
   (ai (aq (P3.or (aC (by rfl) (bv 0) T.eU T.oo (dY T) c.dn T.cS.b (aa (P3.opd (p3v 1)) (aa (P3.opd (p3v 2)) ab))) (P3.or (aC (by rfl) (bv 0) T.ee T.nN (dY T) c.dn T.cS.b (aa (P3.opd (p3v 1)) (aa (P3.opd (p3v 2)) ab))) (P3.or (aC (by rfl) (bv 0) T.j6 T.l_ (l7 T) c.dn T.gx.b (aa (P3.opd (p3v 1)) (aa (P3.opd (p3v 2)) ab))) (aC (by rfl) (bv 0) T.ed T.nM (dY T) c.dn T.cS.b (aa (P3.opd (p3v 1)) (aa (P3.opd (p3v 2)) ab))))))))),λo Q h t=>?_⟩)
 obtain⟨R,S,b,rfl,l,k,i,g,f,e,q⟩:=h;walk_at "w";refine⟨S,b,rfl,λn d=>by have:=l n d;lia,λn d=>by have:=k n d;lia,i,g,f,e,?_⟩;walk_at "w";refine⟨by rw[lM0,lM0,hG];lia,S++b,by rw[gp],by rw[bS];lia,λn d=>?_⟩;have r:0<=n:=by
  rcases mm.mp d with m | m
  .exact(l n m).1
  .exact(k n m).1
 walk_at "w";rw[show GS n 0=false from decide_eq_false (by lia)];walk_at "w";cases R with
 | sum=>exact .inl ⟨rfl,.sum,S,b,rfl,by simp,i,g,f,e,q⟩
 | half=>exact .inr (.inl ⟨rfl,.half,S,b,rfl,by simp,i,g,f,e,q⟩)
 | guess=>exact .inr (.inr (.inl ⟨rfl,.guess,S,b,rfl,rfl,i,g,f,e,q⟩))
 | lean=>exact .inr (.inr (.inr ⟨rfl,.lean,S,b,rfl,by simp,i,g,f,e,q⟩))
theorem uQ(T:Txt K mg a):aB P w K mg base CX0 1 a.iE a.lK ["self"] (sp3 K 1 (fu "sum")):=by
 refine ok3 T.mn.F uD (hbody:=λe A b s H E f=>⟨_,_,(ai (aq eA)),λc Q h g=>?_⟩);obtain⟨d,rfl,q⟩:=h;walk_at "w";exact q
theorem tm(T:Txt K mg a):aB P w K mg base CX0 1 a.gT a.kc ["self"] (sp3 K 1 (fu "half")):=by
 refine ok3 T.kQ.F sW (hbody:=λe A b s H E f=>⟨_,_,(ai (aq eA)),λc Q h g=>?_⟩);obtain⟨d,rfl,q⟩:=h;walk_at "w";exact q
theorem rA(T:Txt K mg a):aB P w K mg base CX0 1 a.gq a.jF ["self"] (sp3 K 1 (fu "guess")):=by
 refine ok3 T.j8.F qN (hbody:=λe A b s H E f=>⟨_,_,(ai (aq eA)),λc Q h g=>?_⟩);obtain⟨d,rfl,q⟩:=h;walk_at "w";exact q
theorem tj(T:Txt K mg a):aB P w K mg base CX0 1 a.gS a.kb ["self"] (sp3 K 1 (fu "lean")):=by
 refine ok3 T.kP.F sV (hbody:=λe A b s H E f=>⟨_,_,(ai (aq eA)),λc Q h g=>?_⟩);obtain⟨d,rfl,q⟩:=h;walk_at "w";exact q
def Sm (a:Ad):S3:=λΓ Q=>∃ (R:Rl),Γ=[some (.fz (.str R.word))]/\Q (.fz (R.co a)) Γ
theorem BM(T:Txt K mg a):aB P w K mg base CX0 2 a.wI a.t7 ["word"] (sp3 K 1 (Sm a)):=by
 refine ok3 T.kf.F tS (hbody:=λm A j s H E f=>⟨_,_,(aj (k_ wh rfl (eX (by rfl) (cY (af (gX T.mk_SumCarrier (by rfl) T.BS) (af (gX T.mk_HalfCarrier (by rfl) T.AG) (af (gX T.mk_GuessCarrier (by rfl) T.y9) (af (gX T.mk_LeanCarrier (by rfl) T.AF) au)))))) (aY (i:=1) tS.nd rfl (hE rfl))
   (ai (bg (aX (gr (by rfl) f) (P3.opd (P3.or (aM (by rfl) (bv 1) T.eU T.uS (uQ T) f.dn T.mn.b) (P3.or (aM (by rfl) (bv 1) T.ee T.tF (tm T) f.dn T.kQ.b) (P3.or (aM (by rfl) (bv 1) T.j6 T.rE (rA T) f.dn T.j8.b) (aM (by rfl) (bv 1) T.ed T.tE (tj T) f.dn T.kP.b))))) (bv 0) (a9 _)) (ai (aq (qt 1))) aV)))
   (ai dr)),λl Q h n=>?_⟩)
 obtain⟨R,rfl,q⟩:=h;walk_at "w";refine⟨z4,?_⟩;refine fH (λk g=>k<=R.num/\∃ s,g=[some (.fz (.str R.word)),fo s]) ⟨Do _,none,rfl⟩ ?_ ?_
 .rintro k d g b ⟨c,s,rfl⟩
  match k,b with
  | 0,b=>
   cases b;walk_at "w";refine .inl (show fu _ _ _ from ⟨_,rfl,?_⟩);walk_at "w";refine iT (λe=>?_) (λe=>?_)
   .have hR:R=.sum:=by cases R <;> first | rfl | exact absurd e (by decide +kernel)
    subst hR;walk_at "w";exact q
   .walk_at "w";exact⟨by cases R <;> first | decide | exact absurd c (by decide) | exact absurd e (by decide +kernel),some _,rfl⟩
  | 1,b=>
   cases b;walk_at "w";refine .inr (.inl (show fu _ _ _ from ⟨_,rfl,?_⟩));walk_at "w";refine iT (λe=>?_) (λe=>?_)
   .have hR:R=.half:=by cases R <;> first | rfl | exact absurd e (by decide +kernel)
    subst hR;walk_at "w";exact q
   .walk_at "w";exact⟨by cases R <;> first | decide | exact absurd c (by decide) | exact absurd e (by decide +kernel),some _,rfl⟩
  | 2,b=>
   cases b;walk_at "w";refine .inr (.inr (.inl (show fu _ _ _ from ⟨_,rfl,?_⟩)));walk_at "w";refine iT (λe=>?_) (λe=>?_)
   .have hR:R=.guess:=by cases R <;> first | rfl | exact absurd e (by decide +kernel)
    subst hR;walk_at "w";exact q
   .walk_at "w";exact⟨by cases R <;> first | decide | exact absurd c (by decide) | exact absurd e (by decide +kernel),some _,rfl⟩
  | 3,b=>
   cases b;walk_at "w";refine .inr (.inr (.inr (show fu _ _ _ from ⟨_,rfl,?_⟩)));walk_at "w";refine iT (λe=>?_) (λe=>?_)
   .have hR:R=.lean:=by cases R <;> first | rfl | exact absurd e (by decide +kernel)
    subst hR;walk_at "w";exact q
   .walk_at "w";exact⟨by cases R <;> first | decide | exact absurd c (by decide) | exact absurd e (by decide +kernel),some _,rfl⟩
 .rintro g ⟨c,_⟩;cases R <;> exact absurd (show 4<=_ from c) (by decide)
noncomputable def Ro:Arguments×Expr×Scope:=(gf (.Pass ⟨0,0,0,0⟩),.Constant .none 0 ⟨0,0,0,0⟩,ae (.Pass ⟨0,0,0,0⟩))
noncomputable def NV:Arguments×Expr×Scope:=match (c5 fA).getD 2 (.Pass ⟨0,0,0,0⟩) with
 | .Return (some (.Call _ [.Call _ [_,.Lambda ps b sc _,_] _ _] _ _)) _=>(ps,b,sc)
 | _=>Ro
noncomputable def NW:Arguments×Expr×Scope:=match (c5 eD).getD 3 (.Pass ⟨0,0,0,0⟩) with
 | .Assign _ (.Call _ [_,.Lambda ps b sc _,_,_] _ _) _=>(ps,b,sc)
 | _=>Ro
noncomputable def NU:Arguments×Expr×Scope:=match (c5 hZ).getD 3 (.Pass ⟨0,0,0,0⟩) with
 | .Return (some (.Call _ [.Call _ [_,.Lambda ps b sc _,_,_] _ _] _ _)) _=>(ps,b,sc)
 | _=>Ro
noncomputable abbrev qH:Str:=mu "halved.<locals>.<lambda>"
noncomputable abbrev qC:Str:=mu "coarse.<locals>.<lambda>"
noncomputable abbrev qW:Str:=mu "worst.<locals>.<lambda>"
theorem ME:sv ["row"] "rule" NV.2.2:=⟨rfl,rfl,rfl,by decide +kernel,by decide +kernel,by decide +kernel,by decide +kernel,by decide +kernel⟩
theorem MF:sv ["sums","differences"] "rule" NW.2.2:=⟨rfl,rfl,rfl,by decide +kernel,by decide +kernel,by decide +kernel,by decide +kernel,by decide +kernel⟩
theorem MD:sv ["sums","differences"] "carrier" NU.2.2:=⟨rfl,rfl,rfl,by decide +kernel,by decide +kernel,by decide +kernel,by decide +kernel,by decide +kernel⟩
variable {o:Unit->Obj}{v:V}
theorem GC(T:Txt K mg a)(L:yM base qH NV.1 NV.2.1 NV.2.2 "rule" (o ()) f v):sx P w K mg base ["row"] 1 (nH a).lam o f v:=by
 refine okL (ps:=["row"]) L ME (λc d A l s H g=>⟨_,_,lq (P3.or (aC (by rfl) (bv 1) T.gI T.AA (iw T) g.dn T.gv.b (aa (P3.opd (p3v 0)) ab)) (P3.or (aC (by rfl) (bv 1) T.dq T.xD (iw T) g.dn T.gv.b (aa (P3.opd (p3v 0)) ab)) (P3.or (aC (by rfl) (bv 1) T.jf T.v7 (iw T) g.dn T.gv.b (aa (P3.opd (p3v 0)) ab)) (aC (by rfl) (bv 1) T.cL T.vV (iw T) g.dn T.gv.b (aa (P3.opd (p3v 0)) ab))))),λn Q m h=>?_⟩) (λ_ _ _ _ p m=>by obtain⟨_,rfl⟩:=ln1 m;rfl);obtain⟨R,b,e,⟨i,j⟩,k,q⟩:=h;obtain rfl:n=[some (.fz (il b)),some (.fz (R.ob a))]:=e;walk_at "w";cases R with
 | sum=>
  refine .inl ?_;walk_at "w";exact⟨rfl,.sum,b,rfl,i,j,k,q⟩
 | half=>
  refine .inr (.inl ?_);walk_at "w";exact⟨rfl,.half,b,rfl,i,j,k,q⟩
 | guess=>
  refine .inr (.inr (.inl ?_));walk_at "w";exact⟨rfl,.guess,b,rfl,i,j,k,q⟩
 | lean=>
  refine .inr (.inr (.inr ?_));walk_at "w";exact⟨rfl,.lean,b,rfl,i,j,k,q⟩
theorem GD(T:Txt K mg a)(L:yM base qC NW.1 NW.2.1 NW.2.2 "rule" (o ()) f v):sx P w K mg base ["sums","differences"] 2 (nJ a).lam o f v:=by
 refine okL (ps:=["sums","differences"]) L MF (λc d A p s H g=>⟨_,_,(P3.or (aC (by rfl) (bv 2) T.gI T.Dz (kx T) g.dn T.jB.b (aa (P3.opd (p3v 0)) (aa (P3.opd (p3v 1)) ab))) (P3.or (aC (by rfl) (bv 2) T.dq T.AD (kx T) g.dn T.jB.b (aa (P3.opd (p3v 0)) (aa (P3.opd (p3v 1)) ab))) (P3.or (aC (by rfl) (bv 2) T.jf T.y7 (kx T) g.dn T.jB.b (aa (P3.opd (p3v 0)) (aa (P3.opd (p3v 1)) ab))) (aC (by rfl) (bv 2) T.cL T.y6 (kx T) g.dn T.jB.b (aa (P3.opd (p3v 0)) (aa (P3.opd (p3v 1)) ab)))))),λt Q r h=>?_⟩) (λ_ _ _ _ u r=>by obtain⟨_,_,rfl⟩:=ln2 r;rfl);obtain⟨R,S,b,e,n,m,l,k,j,i,q⟩:=h;obtain rfl:t=[some (.fz (il S)),some (.fz (il b)),some (.fz (R.ob a))]:=e;walk_at "w";cases R with
 | sum=>
  refine .inl ?_;walk_at "w";exact⟨rfl,.sum,S,b,rfl,n,m,l,k,j,i,q⟩
 | half=>
  refine .inr (.inl ?_);walk_at "w";exact⟨rfl,.half,S,b,rfl,n,m,l,k,j,i,q⟩
 | guess=>
  refine .inr (.inr (.inl ?_));walk_at "w";exact⟨rfl,.guess,S,b,rfl,n,m,l,k,j,i,q⟩
 | lean=>
  refine .inr (.inr (.inr ?_));walk_at "w";exact⟨rfl,.lean,S,b,rfl,n,m,l,k,j,i,q⟩
theorem IU(T:Txt K mg a)(L:yM base qW NU.1 NU.2.1 NU.2.2 "carrier" (o ()) f v):sx P w K mg base ["sums","differences"] 2 (eJ a).lam o f v:=by
 refine okL (ps:=["sums","differences"]) L MD (λc d A p s H g=>⟨_,_,(P3.or (aC (by rfl) (bv 2) T.eU T.qu (da T) g.dn T.cH.b (aa (P3.opd (p3v 0)) (aa (P3.opd (p3v 1)) ab))) (P3.or (aC (by rfl) (bv 2) T.ee T.pM (da T) g.dn T.cH.b (aa (P3.opd (p3v 0)) (aa (P3.opd (p3v 1)) ab))) (P3.or (aC (by rfl) (bv 2) T.j6 T.oq (da T) g.dn T.cH.b (aa (P3.opd (p3v 0)) (aa (P3.opd (p3v 1)) ab))) (aC (by rfl) (bv 2) T.ed T.pK (da T) g.dn T.cH.b (aa (P3.opd (p3v 0)) (aa (P3.opd (p3v 1)) ab)))))),λt Q r h=>?_⟩) (λ_ _ _ _ u r=>by obtain⟨_,_,rfl⟩:=ln2 r;rfl);obtain⟨R,S,b,e,n,m,l,k,j,i,q⟩:=h;obtain rfl:t=[some (.fz (il S)),some (.fz (il b)),some (.fz (R.co a))]:=e;walk_at "w";cases R with
 | sum=>
  refine .inl ?_;walk_at "w";exact⟨rfl,.sum,S,b,rfl,n,m,l,k,j,i,q⟩
 | half=>
  refine .inr (.inl ?_);walk_at "w";exact⟨rfl,.half,S,b,rfl,n,m,l,k,j,i,q⟩
 | guess=>
  refine .inr (.inr (.inl ?_));walk_at "w";exact⟨rfl,.guess,S,b,rfl,n,m,l,k,j,i,q⟩
 | lean=>
  refine .inr (.inr (.inr ?_));walk_at "w";exact⟨rfl,.lean,S,b,rfl,n,m,l,k,j,i,q⟩
theorem wb{u:Nat}{G:LL0}(g:GR u G):Sz (G.length:Int).toNat (u:Int).toNat G:=⟨rfl,g.len⟩
structure Pic (a:Ad) (R:Rl) (u:Nat) (ls:List Lt) (G:LL0):Prop where
 g:GR u G
 p:Pl G.length u ls
 b:∀ r∈G,∀ n∈r,-100000<=n/\n<=100000
noncomputable def nums (a:Ad)(R:Rl)(u:Nat)(ls:List Lt)(G:LL0):LL0:=JQ (nH a) R G.length u ls G
theorem Pic.all{R:Rl}{u:Nat}{ls:List Lt}{G:LL0}(c:Pic a R u ls G):okK (nH a) R G.length u ls G/\GR u (nums a R u ls G)/\(nums a R u ls G).length=G.length/\∀ r∈nums a R u ls G,∀ n∈r,-1000000000<=n/\n<=1000000000:=by
 obtain⟨m,m1,t,q,f⟩:=Ef (a:=a) (R:=R) c.p (wb c.g) c.b ls.length (ek _);have d:Sz G.length u (nums a R u ls G):=CU (Y:=nH a) (R:=R) c.p (wb c.g) (ek _);have b:=d.hh;have g:=HT (yU (cN (G.length:Int) u ls ls.length).1).1 (yU (cN (G.length:Int) u ls ls.length).2).1;have s:=VV m g;have e:=Lm d λy x i j=>by have:=q y x i j;have:=PD (h:=(cN (G.length:Int) u ls ls.length).1) (w:=(cN (G.length:Int) u ls ls.length).2) (y:=y) (x:=x) (c:=m) (by lia);exact(⟨by lia,by lia⟩:-1000000000<=en 0 (stK (nH a) R G.length u ls G ls.length) y x/\en 0 (stK (nH a) R G.length u ls G ls.length) y x<=1000000000)
 exact⟨λk l b=>f k (pN b) l b,⟨by rw[b];exact c.g.h1,by rw[b];exact c.g.h2,c.g.w1,c.g.w2,by rw[b];exact c.g.all,d.ww,λr o n p=>by have:=e r o n p;lia⟩,b,e⟩
def K_ (a:Ad):S3:=λΓ Q=>∃ (R:Rl) (ls:List Lt) (u:Nat) (G:LL0),Γ=[some (.fz (plD a R G.length u ls)),some (.fz (fD a G))]/\Pic a R u ls G/\Q (.fr (fD a (nums a R u ls G))) Γ
theorem IB(T:Txt K mg a)(M:pT base a.fQ qH):aB P w K mg base CX0 11 a.Fg a.xO ["plan","picture"] (sp3 K 2 (K_ a)):=by
 refine okM T.vb.F Ca (hbody:=λm A e s H E k b=>?_);have l:m=.ref a.iz:=k.trans T.Jg;refine⟨_,_,(aj (dJ (ak (by rfl) (xv T) b.dn (by rfl) T.gE.m T.gE.F.kp T.gE.b (aa (P3.opd (p3v 0)) (aa (P3.opd (p3v 1)) ab))))
   (aj (aP (i:=2) Ca.nd rfl (SF rfl) (aM (by rfl) (bv 0) T.bJ T.f_ (fZ T) b.dn T.fj.b))
   (ai (aq (mD T.mk_Field (cp T) b.dn (by rfl) T.jD T.bL.b (af (Ai (i:=2) (j:=1) (nm:="rule") (λbase o f v L=>Ak T (GC T L)) b.dn (by rfl) T.jj.m T.jj.F.kp T.jj.b (by rfl) (by rfl) (by rfl) rfl (aa (P3.opd (p3v 0)) (aa (P3.opd (Gi l (λh X=>So X T.I9) M rfl)) (aa (P3.opd (aM (by rfl) (bv 1) T.bw T.jy (jw T) b.dn T.g7.b)) ab)))) au)))))),λn Q h x=>?_⟩
 obtain⟨R,g,u,G,rfl,c,q⟩:=h;have d:=c.p.len;obtain⟨p,t,_,_⟩:=c.all;walk_at "w";refine⟨R,g,u,G,rfl,d,c.g,c.b,?_⟩;walk_at "w";refine⟨by decide +kernel,R,_,_,g,rfl,d,?_⟩;unfold Bi;walk_at "w";unfold K1;intro o f r;walk_at "w";refine⟨by decide +kernel,u,G,rfl,c.g,?_⟩;walk_at "w";refine⟨o,f,rfl,r,_,rfl,λv=>?_⟩;refine⟨R,R,_,_,g,G,rfl,c.p,wb c.g,p,?_⟩;walk_at "w";refine⟨u,_,rfl,t,?_⟩;walk_at "w";exact q
structure Nm (u:Nat) (ls:List Lt) (lo hi:Int) (G:LL0):Prop where
 g:GR u G
 p:Pl G.length u ls
 b:∀ r∈G,∀ n∈r,lo<=n/\n<=hi
noncomputable def bkF (J:Jv)(R:Rl)(u:Nat)(ls:List Lt)(G:LL0):LL0:=stB J R G.length u ls G ls.length
theorem HL{H W:Nat}{X:LL0}{q:Int->Prop}(s:Sz H W X)(b:∀ r∈X,∀ n∈r,q n):∀ y x,y < H->x < W->q (en 0 X y x):=λy x a c=>by
 obtain⟨m,l⟩:=s.row a;exact b _ (hW m) _ (hW (Cv 0 (by lia)))
theorem Nm.all{z:Int->Prop}{J:Jv}(B:JB J z)(R:Rl){u:Nat}{ls:List Lt}{lo e:Int}{G:LL0}(c:Nm u ls lo e G)(C:-2000000000<=lo)(A:e<=2000000000)(hz:∀ n,lo<=n->z n):T_ J R G.length u ls G/\GR u (bkF J R u ls G)/\(bkF J R u ls G).length=G.length:=by
 have s:=wb c.g;obtain⟨m,v,r,k,_,g⟩:=Ee B (R:=R) c.p s (λy x b d=>by have:=HL s c.b y x b d;lia) (λy x b d=>hz _ (HL s c.b y x b d).1) ls.length (ek _);have f:Sz G.length u (bkF J R u ls G):=uB (J:=J) (R:=R) c.p s ls.length;have a:=f.hh;have j:=HT (yU (cN (G.length:Int) u ls (ls.length - ls.length)).1).2.1 (yU (cN (G.length:Int) u ls (ls.length - ls.length)).2).2.1;have p:=VV 10000000000 j;have o:=Mc (q:=λn=>-1000000000000000 < n/\n < 1000000000000000) f λy x b d=>by
  have t:-bz _ _ _ y x<=en 0 (bkF J R u ls G) y x/\en 0 (bkF J R u ls G) y x<=bz _ _ _ y x:=k y x b d;have:=LY (h:=(cN (G.length:Int) u ls (ls.length - ls.length)).1) (w:=(cN (G.length:Int) u ls (ls.length - ls.length)).2) (y:=y) (x:=x) (c:=m) (by lia);exact⟨by lia,by lia⟩
 exact⟨λi l e a=>g i e l a,⟨by rw[a];exact c.g.h1,by rw[a];exact c.g.h2,c.g.w1,c.g.w2,by rw[a];exact c.g.all,f.ww,o⟩,a⟩
def LK (a:Ad):S3:=λΓ Q=>∃ (R:Rl) (ls:List Lt) (u:Nat) (G:LL0),Γ=[some (.fz (plD a R G.length u ls)),some (.fz (fD a G)),some (.fz (.int 0))]/\Nm u ls (-1000000000) 1000000000 G/\Q (.fr (fD a (bkF (nJ a) R u ls G))) Γ
theorem IC(T:Txt K mg a)(M:pT base a.eN qC):aB P w K mg base CX0 11 a.Fh a.xP ["plan","numbers","step"] (sp3 K 3 (LK a)):=by
 refine okM T.vc.F n_ (hbody:=λB A x s H E y b=>?_);have z:B=.ref a.iA:=y.trans T.Jh;refine⟨_,_,(aj (dJ (ak (by rfl) (xw T) b.dn (by rfl) T.gF.m T.gF.F.kp T.gF.b (aa (P3.opd (p3v 0)) (aa (P3.opd (p3v 1)) ab))))
   (aj (pB (is:=[3,4]) (by rfl) (aC (by rfl) (bv 0) T.bJ T.lF (lC T) b.dn T.jo.b (aa (P3.opd (p3v 2)) ab)) (aD (aL (i:=3) n_.nd rfl (hE rfl)) (aD (aL (i:=4) n_.nd rfl (SF rfl)) cj)) rfl)
   (aj (aP (i:=5) n_.nd rfl (SF rfl) (aM (by rfl) (bv 0) T.bJ T.f_ (fZ T) b.dn T.fj.b))
   (aj (aP (i:=6) n_.nd rfl (hE rfl) (lq (Ai (i:=5) (j:=1) (nm:="rule") (λbase o f v L=>tT T (GD T L)) b.dn (by rfl) T.eh.m T.eh.F.kp T.eh.b (by rfl) (by rfl) (by rfl) rfl (aa (P3.opd (p3v 0)) (aa (P3.opd (Gi z (λh X=>So X T.I_) M rfl)) (aa (P3.opd (aM (by rfl) (bv 1) T.bw T.jy (jw T) b.dn T.g7.b)) (aa (P3.opd (p3v 2)) ab)))))))
   (ai (aq (mD T.mk_Field (cp T) b.dn (by rfl) T.jD T.bL.b (af (bW rfl (eX (by rfl) (dX (by rfl) (bv 6) cI (bh (bv 3)))) wZ (λ_ _ _ _ _=>(aY (i:=0) wZ.nd rfl (hE rfl))) (λ_ _ _ _ _=>(dX (by rfl) (bv 0) cI (bh (bv 1))))) au)))))))),λC Q h S=>?_⟩
 obtain⟨R,e,u,G,rfl,c,q⟩:=h;have l:=c.p.len;obtain⟨D,p,m⟩:=c.all (Rv a) R (by decide) (by decide) λ_ _=>trivial;have U:=c.g.h2;have V:=c.p.sz.h1;walk_at "w";refine⟨R,e,u,_,rfl,l,c.g,c.b,?_⟩;walk_at "w";refine⟨by decide +kernel,R,_,_,e,0,rfl,l,Do _,?_⟩;rw[yG];unfold cD;walk_at "w";refine⟨by decide +kernel,R,_,_,e,rfl,l,?_⟩;unfold Bi;walk_at "w";unfold K1;intro o f I;walk_at "w";refine⟨by decide +kernel,u,_,rfl,c.g,?_⟩;walk_at "w";refine⟨o,f,rfl,I,_,rfl,λv=>?_⟩;refine⟨R,R,_,_,e,G,rfl,c.p,wb c.g,D,?_⟩;rw[show stB (nJ a) R G.length u e G e.length=bkF (nJ a) R u e G from rfl];generalize bkF (nJ a) R u e G=F at p m q ⊢;walk_at "w";rw[xS (F:=F) (n:=G.length) (by lia),show F.take G.length=F by rw[<- m,YU]];refine⟨small (by rw[lM0];have:=p.h2;lia),aQ (λk t g=>t=(F.take k).map il/\∃ s,g=[fo s,some (.fz (.int u))]) ⟨rfl,none,rfl⟩ ?_ ?_⟩
 .rintro k d t g N J ⟨rfl,s,rfl⟩;obtain⟨r,b,rfl⟩:=jh N;have O:=p.len r (hW b);walk_at "w";rw[xS (F:=r) (n:=u) (by lia),ng (show r.length<=u by lia)];exact⟨by rw[take_snoc b,gp];rfl,some _,rfl⟩
 .rintro t g J ⟨rfl,s,rfl⟩;rw[ng (by rw[lM0];exact ek _)];walk_at "w";refine⟨u,F,rfl,p,?_⟩;walk_at "w";exact q
def GZ (a:Ad):S3:=λΓ Q=>∃ (R:Rl) (ls:List Lt) (u:Nat) (G:LL0),Γ=[some (.fz (plD a R G.length u ls)),some (.fz (fD a G))]/\Nm u ls (-1000000000) 1000000000 G/\Q (.fr (fD a (bkF (nJ a) R u ls G))) Γ
theorem x9(T:Txt K mg a)(M:pT base a.eN qC):aB P w K mg base CX0 12 a.A0 a.yi ["plan","numbers"] (sp3 K 2 (GZ a)):=by
 refine ok3 T.gJ.F Eo (hbody:=λg A b s H E f=>⟨_,_,(ai (aq (ak (by rfl) (IC T M) f.dn (by rfl) T.vc.m T.vc.F.kp T.vc.b (aa (P3.opd (p3v 0)) (aa (P3.opd (p3v 1)) (aa (P3.opd ag) ab)))))),λd Q h i=>?_⟩);obtain⟨R,e,u,G,rfl,c,q⟩:=h;walk_at "w";refine⟨R,e,u,G,rfl,c,?_⟩;walk_at "w";exact q
def Rl.sel (R:Rl)(d c b a:S3):S3:=match R with
 | .sum=>d | .half=>c | .guess=>b | .lean=>a
def or4 (a:Ad)(m:Str)(n:Nat)(g f e d:S3)(c:TB3)(b:fP)(Γ:G)(Q:RV->G->Prop)(_:Tag (m,n,g,f,e,d))(_:Tag (c,b,Q)):Prop:=om a.a8 m n g c b Γ Q\/om a.aN m n f c b Γ Q\/om a.aG m n e c b Γ Q\/om a.aF m n d c b Γ Q
theorem T5{m:Str}{g f e d:S3}{c:TB3}{b:fP}{Γ:G}{Q:RV->G->Prop}:(om a.a8 m n g c b Γ Q\/om a.aN m n f c b Γ Q\/om a.aG m n e c b Γ Q\/om a.aF m n d c b Γ Q)=or4 a m n g f e d c b Γ Q ⟨⟩ ⟨⟩:=rfl
theorem QW{m:Str}{x1 x2 x3 b:S3}{c:TB3}{t3:fP}{Γ:G}{Q:RV->G->Prop}{s:Tag (m,n,x1,x2,x3,b)}{t:Tag (c,t3,Q)}(R:Rl)(h:om (R.cls a) m n (R.sel x1 x2 x3 b) c t3 Γ Q):or4 a m n x1 x2 x3 b c t3 Γ Q s t:=by
 cases R
 .exact .inl h
 .exact .inr (.inl h)
 .exact .inr (.inr (.inl h))
 .exact .inr (.inr (.inr h))
def Mj (a:Ad):S3:=λΓ Q=>∃ (R:Rl) (ls:List Lt) (u:Nat) (G:LL0),Γ=[some (.fz (plD a R G.length u ls)),some (.fz (fD a G))]/\Nm u ls 0 1073741824 G/\Q (.fr (fD a (bkF (eJ a) R u ls G))) Γ
theorem KP(T:Txt K mg a)(M:pT base a.iG qW):aB P w K mg base CX0 11 a.HJ a.AR ["plan","errors"] (sp3 K 2 (Mj a)):=by
 refine okM T.zl.F Em (hbody:=λm A e s H E k b=>?_);have l:m=.ref a.kF:=k.trans T.LL;refine⟨_,_,(aj (dJ (ak (by rfl) (nF T) b.dn (by rfl) T.cA.m T.cA.F.kp T.cA.b (aa (P3.opd (p3v 0)) (aa (P3.opd (p3v 1)) ab))))
   (aj (dJ (ak (by rfl) (jS T) b.dn (by rfl) T.bB.m T.bB.F.kp T.bB.b (aa (P3.opd (p3v 1)) (aa (P3.opd ag) (aa (P3.opd (gG (i:=1073741824) (by rfl) T.DU)) ab)))))
   (aj (aP (i:=2) Em.nd rfl (SF rfl) (lq (ak (by rfl) (BM T) b.dn (by rfl) T.kf.m T.kf.F.kp T.kf.b (aa (P3.opd (P3.or (aM (by rfl) (P3.opd (aM (by rfl) (bv 0) T.bJ T.f_ (fZ T) b.dn T.fj.b)) T.gI T.vR (vI T) b.dn T.qG.b) (P3.or (aM (by rfl) (P3.opd (aM (by rfl) (bv 0) T.bJ T.f_ (fZ T) b.dn T.fj.b)) T.dq T.rC (rz T) b.dn T.mZ.b) (P3.or (aM (by rfl) (P3.opd (aM (by rfl) (bv 0) T.bJ T.f_ (fZ T) b.dn T.fj.b)) T.jf T.p7 (p5 T) b.dn T.kR.b) (aM (by rfl) (P3.opd (aM (by rfl) (bv 0) T.bJ T.f_ (fZ T) b.dn T.fj.b)) T.cL T.p6 (p4 T) b.dn T.kO.b))))) ab))))
   (ai (aq (mD T.mk_Field (cp T) b.dn (by rfl) T.jD T.bL.b (af (Ai (i:=2) (j:=1) (nm:="carrier") (λbase o f v L=>tT T (IU T L)) b.dn (by rfl) T.eh.m T.eh.F.kp T.eh.b (by rfl) (by rfl) (by rfl) rfl (aa (P3.opd (p3v 0)) (aa (P3.opd (Gi l (λh X=>So X T.K8) M rfl)) (aa (P3.opd (aM (by rfl) (bv 1) T.bw T.jy (jw T) b.dn T.g7.b)) (aa (P3.opd ag) ab))))) au))))))),λn Q h x=>?_⟩
 obtain⟨R,g,u,G,rfl,c,q⟩:=h;have d:=c.p.len;obtain⟨p,t,_⟩:=c.all (Uu a) R (by decide) (by decide) λ_ h=>h;walk_at "w";refine⟨R,g,u,G,rfl,d,c.g,?_⟩;walk_at "w";refine⟨u,G,_,_,rfl,c.g,c.b,?_⟩;simp -dsimp only[i4,tx,Yg,XX,Nat.reduceSub,fC,XU,Xk,↓Pn,↓La,↓Pm,↓T5];walk_at "w";refine QW R ?_;rw[show R.sel (fu (mu "sum")) (fu (mu "half")) (fu (mu "guess")) (fu (mu "lean"))=fu R.word by cases R <;> rfl];walk_at "w";refine⟨by decide +kernel,R,_,_,g,rfl,d,?_⟩;walk_at "w";refine⟨_,rfl,?_⟩;walk_at "w";refine⟨R,rfl,?_⟩;walk_at "w";unfold Bi;walk_at "w";unfold K1;intro o f r;walk_at "w";refine⟨by decide +kernel,u,G,rfl,c.g,?_⟩;walk_at "w";refine⟨o,f,rfl,r,_,rfl,λv=>?_⟩;refine⟨R,R,_,_,g,G,rfl,c.p,wb c.g,p,?_⟩;walk_at "w";refine⟨u,_,rfl,t,?_⟩;walk_at "w";exact q
def Sk:S3:=λΓ Q=>∃ (ns:Li0) (k:Int),Γ=[some (.fz (.scr ns)),some (.fz (.int k))]/\0<=k/\∀ r,Q (.fz (.int r)) Γ
theorem Dv(T:Txt K mg a):aB P w K mg base CX0 1 a.yD a.wx ["_law_script","_law_k"] (sp3 K 2 Sk):=by
 refine ok3 T.ml.F C5 (hbody:=λe A b s H E g=>⟨_,_,(aj (bg (aX Fv (bv 1) (P3.opd (av (cR (by rfl)) (by rfl) T.z_len (by decide +kernel) (aa (bv 0) ab))) (a9 _)) (ai (aq (ba (by rfl) (bv 0) (bv 1) (λ_ _=>rfl)))) aV)
   (ai (aq (aJ (P3.opd (ir (P3.opd ag) (bv 1))) (P3.opd ag))))),λc Q h i=>?_⟩)
 obtain⟨f,k,rfl,d,q⟩:=h;walk_at "w";refine iT (λh=>?_) (λh=>?_)
 .walk_at "w";exact⟨_,Ox d (of_decide_eq_true h),q _⟩
 .walk_at "w";exact⟨.inl ⟨by decide,by decide⟩,q _⟩
def Box (c:Int)(d:D):Prop:=∃ x m k:Int,d=.lst [.int x,.int m,.int k]/\0<=x/\0<=m/\m < 2147483647/\0<=k/\k<=c
def VB:S3:=λΓ Q=>∃ (x:Int),Γ=[some (.fz (.int x))]/\∀ d,Box 0 d->Q (.fr d) Γ
theorem ET(T:Txt K mg a):aB P w K mg base CX0 1 a.A8 a.yp ["_law_cell_here"] (sp3 K 1 VB):=by
 refine ok3 T.oZ.F Es (hbody:=λd A b s H E e=>⟨_,_,(ai (aq (cY (af (av (HU rfl) (by rfl) T.z_max (by decide +kernel) (aa (P3.opd ag) (aa (P3.opd (dk (bv 0) (P3.opd (jR (v:=1000000000000000000) (by decide +kernel) ⟨by decide,by decide,by decide⟩)))) ab))) (af (pE (bv 0) (P3.opd ag)) (af ag au)))))),λc Q h f=>?_⟩);obtain⟨x,rfl,q⟩:=h;walk_at "w";exact⟨by decide,by rw[hG];lia,q _ ⟨_,_,_,rfl,by unfold fmax;split <;> lia,PQ _ (by decide),by have:=Fl x (show (0:Int) < 2147483629 by decide);lia,by decide,by decide⟩⟩
def PZ:S3:=λΓ Q=>∃ (d:D) (c n:Int),Γ=[some (.ln d),some (.fz (.int n))]/\Box c d/\c<=1000000/\0 < n/\n<=1000000000/\∀ r d',0<=r->r < n->Box (c + 1) d'->Q (.fz (.int r)) [some (.ln d'),some (.fz (.int n))]
theorem aE(T:Txt K mg a):aB P w K mg base CX0 1 a.yB a.wt ["_law_box_here","_law_many"] (sp3 K 2 PZ):=by
 refine ok3 T.ah.F g_ (hbody:=λC A f s H E F=>⟨_,_,(aj (bg (aX wV (P3.opd (ba (by rfl) (bv 0) (P3.opd ag) (λ_ _=>rfl))) (P3.opd ag) (a9 _)) (aj (aP (i:=2) g_.nd rfl (hE rfl) (pE (P3.opd (ba (by rfl) (bv 0) (P3.opd ag) (λ_ _=>rfl))) (bv 1)))
   (aj (Ew 0 (bv 0) (P3.opd ag) (cJ (P3.opd (ba (by rfl) (bv 0) (P3.opd ag) (λ_ _=>rfl))) (bv 1)))
   (ai (aq (qt 2))))) aV)
   (aj (Ew 0 (bv 0) (P3.opd ag) (aJ (P3.opd (ba (by rfl) (bv 0) (P3.opd ag) (λ_ _=>rfl))) (P3.opd ag)))
   (aj (aP (i:=3) g_.nd rfl (hE rfl) (ba (by rfl) (bv 0) (P3.opd ag) (λ_ _=>rfl)))
   (aj (aP (i:=4) g_.nd rfl (hE rfl) (pE (P3.opd (aJ (P3.opd (aJ (P3.opd (ba (by rfl) (bv 0) (P3.opd ag) (λ_ _=>rfl))) (P3.opd (ir (P3.opd (ir (P3.opd ag) (bv 3))) (bv 3))))) (P3.opd (ir (P3.opd ag) (bv 3))))) (P3.opd ag)))
   (aj (aP (i:=4) g_.nd rfl (hE rfl) (pE (P3.opd (Np (bv 4) (P3.opd ag))) (P3.opd ag)))
   (ai (aq (pE (P3.opd (cJ (P3.opd (pE (P3.opd (aJ (P3.opd (ir (bv 4) (bv 4))) (P3.opd (ir (P3.opd ag) (bv 3))))) (P3.opd ag))) (P3.opd ag))) (bv 1))))))))),λt Q h G=>?_⟩)
 obtain⟨_,c,n,rfl,⟨x,m,k,rfl,p,r,d,B,v⟩,I,b,u,q⟩:=h;walk_at "w";refine iT (λe=>?_) (λe=>?_)
 .walk_at "w";exact⟨b,⟨b,by lia⟩,q _ _ (PQ _ (by lia)) (Fl _ b) ⟨_,_,_,rfl,Int.ediv_nonneg p (by lia),r,d,B,by lia⟩⟩
 .walk_at "w";have g:(m + 7919 * (k + 1) * (k + 1) + 104729 * (k + 1)) % 2147483647 < 2147483647:=Fl _ (by decide);have j:0<=(m + 7919 * (k + 1) * (k + 1) + 104729 * (k + 1)) % 2147483647:=PQ _ (by decide);generalize (m + 7919 * (k + 1) * (k + 1) + 104729 * (k + 1)) % 2147483647=z at j g ⊢;have l:z ^ Ys 5 % 2147483647 < 2147483647:=Fl _ (by decide);have o:0<=z ^ Ys 5 % 2147483647:=PQ _ (by decide);generalize D:z ^ Ys 5 % 2147483647=y at o l ⊢;exact⟨.inl ⟨by decide,by decide⟩,.inl ⟨by lia,by lia⟩,.inl ⟨by decide,by decide⟩,by decide,⟨by decide,by decide,by lia⟩,by decide,.inl ⟨by lia,by lia⟩,.inl ⟨by decide,by decide⟩,by decide,⟨by decide,by decide⟩,b,q _ _ (PQ _ (by lia)) (Fl _ b) ⟨_,_,_,rfl,p,r,d,by lia,by lia⟩⟩
theorem pick{p:D->Prop}{xs:List D}{r:Int}{k:D->Prop}{t:Tag k}(f:0<=r)(e:r < (xs.length:Int))(a:∀ x∈xs,p x)(q:∀ v,p v->k v):m1 (atI xs r) k t:=by
 obtain⟨d,c,b⟩:=Oz f e;exact de.mpr ⟨d,c,q d (a d b)⟩
theorem Box.up{c a:Int}{d:D}(b:Box c d)(h:c<=a):Box a d:=by
 obtain⟨x,m,k,e,l,j,i,g,f⟩:=b;exact⟨x,m,k,e,l,j,i,g,ab2 f h⟩
def Vg:S3:=λΓ Q=>∃ (d:D) (c m:Int),Γ=[some (.ln d),some (.fz (.int m))]/\Box c d/\c<=900000/\0<=m/\m<=1000000000/\∀ r d',-m<=r->r<=m->Box (c + 2) d'->Q (.fz (.int r)) [some (.ln d'),some (.fz (.int m))]
theorem rj(T:Txt K mg a):aB P w K mg base CX0 2 a.A7 a.yo ["_law_box_here","_law_most"] (sp3 K 2 Vg):=by
 refine ok3 T.dC.F x6 (hbody:=λn A e s H E j=>⟨_,_,(aj (aP (i:=2) x6.nd rfl (hE rfl) (aJ (P3.opd (ir (P3.opd (ak (by rfl) (aE T) j.dn (by rfl) T.ah.m T.ah.F.kp T.ah.b (aa (bv 0) (aa (P3.opd ag) ab)))) (P3.opd ag))) (P3.opd (ak (by rfl) (aE T) j.dn (by rfl) T.ah.m T.ah.F.kp T.ah.b (aa (bv 0) (aa (P3.opd ag) ab))))))
   (ai (aq (dk (P3.opd (pE (bv 2) (P3.opd (aJ (P3.opd (ir (P3.opd ag) (bv 1))) (P3.opd ag))))) (bv 1))))),λk Q h B=>?_⟩)
 obtain⟨d,c,m,rfl,l,C,x,m1,q⟩:=h;walk_at "w";refine⟨_,_,40009,rfl,l,by lia,by decide,by decide,λg F z t o=>?_⟩;walk_at "w";refine⟨.inr ⟨by decide,by decide⟩,_,_,60013,rfl,o,by lia,by decide,by decide,λf D y r b2=>?_⟩;walk_at "w";have p:0 < 2 * m + 1:=by lia
 have v:=PQ (g * 60013 + f) (b:=2 * m + 1) (by lia);have u:=Fl (g * 60013 + f) p;exact⟨.inl ⟨by decide,by decide⟩,p,q _ _ (by lia) (by lia) (b2.up (by lia))⟩
theorem Mh{ls:List Lt}{i:Int}{l:Lt}{k:Lt->Prop}{t:Tag k}(z:(wy ls).length<=sizeLine)(h:atI ls i=some l)(q:k l):PM ls i k t:=⟨z,l,h,q⟩
theorem Ks{ls:List Lt}{r:Int}{k:Lt->Prop}{t:Tag k}(a:0<=r)(b:r < (ls.length:Int))(z:ls.length<=sizeLine)(q:∀ l,l∈ls->k l):PM ls r k t:=by
 exact Mh (l:=ls[r.toNat]) (by rw[cz];exact z) (dA a (gE0 (by lia))) (q _ (FB _))
theorem km(ls:List Lt)(l:Lt):wy ls++l.s=wy (ls++[l]):=by
 show (⟨(wy ls).cps++l.s.cps⟩:Str)=_;unfold wy
 congr 1
 rw[gp];cases l <;> simp [Lt.s,sgn]
theorem Ct:∀ {ls:List Lt} {h w:Int} {l:Lt},Good h w ls->Can l (cat h w ls ls.length).1 (cat h w ls ls.length).2->Good h w (ls++[l])/\cat h w (ls++[l]) (ls++[l]).length=(nh l (cat h w ls ls.length).1,nw l (cat h w ls ls.length).2)
 | [],h,w,l,_,c=>⟨⟨c,trivial⟩,rfl⟩
 | m::ls,h,w,l,g,c=>by
  obtain⟨a,i2⟩:=Ct (ls:=ls) (h:=nh m h) (w:=nw m w) (l:=l) g.2 c;exact⟨⟨g.1,a⟩,i2⟩
def S1:S3:=λΓ Q=>∃ (d:D) (a h w:Int),Γ=[some (.ln d),some (.fz (.int h)),some (.fz (.int w))]/\D8 h w/\Box a d/\a<=1000/\∀ ls d',Pl h w ls->Box (a + 12) d'->Q (.fz (.str (wy ls))) [some (.ln d'),some (.fz (.int h)),some (.fz (.int w))]
theorem ES(T:Txt K mg a):aB P w K mg base CX0 2 a.A6 a.yn ["_law_box_here","_law_height","_law_width"] (sp3 K 3 S1):=by
 refine ok3 T.oY.F eg (hbody:=λa4 A R s H E v=>⟨_,_,(aj (aP (i:=3) eg.nd rfl (hE rfl) eA)
   (aj (aP (i:=4) eg.nd rfl (hE rfl) (ba (by rfl) (P3.opd (cY (af (ak (by rfl) (aE T) v.dn (by rfl) T.ah.m T.ah.F.kp T.ah.b (aa (bv 0) (aa (P3.opd ag) ab))) (af ag au)))) (P3.opd (fY Fu (by rfl) T.z_int (by decide +kernel) (aa (P3.opd (i9 (gr (by rfl) v) (P3.opd (ak (by rfl) (aE T) v.dn (by rfl) T.ah.m T.ah.F.kp T.ah.b (aa (bv 0) (aa (P3.opd ag) ab)))) (P3.opd ag) (a9 _))) ab))) (λ_ _=>rfl)))
   (aj (J2 wh (aX Fv (P3.opd (av (cR (by rfl)) (by rfl) T.z_len (by decide +kernel) (aa (bv 3) ab))) (bv 4) (a9 _))
   (aj (aP (i:=5) eg.nd rfl (hE rfl) (aJ (P3.opd (aJ (P3.opd (Dm (P3.opd eA) (P3.opd (fY Fu (by rfl) T.z_int (by decide +kernel) (aa (P3.opd (i9 wV (bv 2) (P3.opd ag) (a9 _))) ab))))) (P3.opd (Dm (P3.opd eA) (P3.opd (fY Fu (by rfl) T.z_int (by decide +kernel) (aa (P3.opd (i9 wV (bv 1) (P3.opd ag) (a9 _))) ab))))))) (P3.opd (Dm (P3.opd eA) (P3.opd (fY Fu (by rfl) T.z_int (by decide +kernel) (aa (P3.opd (Dn (i9 wV (bv 2) (P3.opd ag) (a9 _)) (Ah (i9 wV (bv 1) (P3.opd ag) (a9 _))))) ab)))))))
   (aj (bg (aX (gr (by rfl) v) (bv 5) (P3.opd eA) (a9 _)) (ai (aq (qt 3))) aV)
   (aj (aP (i:=6) eg.nd rfl (hE rfl) (ba (by rfl) (bv 5) (P3.opd (ak (by rfl) (aE T) v.dn (by rfl) T.ah.m T.ah.F.kp T.ah.b (aa (bv 0) (aa (P3.opd (av (cR (by rfl)) (by rfl) T.z_len (by decide +kernel) (aa (bv 5) ab))) ab)))) (λ_ _=>rfl)))
   (aj (aP (i:=3) eg.nd rfl (hE rfl) (aJ (bv 3) (bv 6)))
   (aj (bg (aX (DV (by rfl) v) (bv 6) (P3.opd eA) (a9 _)) (ai (aP (i:=2) eg.nd rfl (hE rfl) (cJ (P3.opd (aJ (bv 2) (P3.opd ag))) (P3.opd ag)))) aV)
   (ai (bg (aX (DV (by rfl) v) (bv 6) (P3.opd eA) (a9 _)) (ai (aP (i:=1) eg.nd rfl (hE rfl) (cJ (P3.opd (aJ (bv 1) (P3.opd ag))) (P3.opd ag)))) aV))))))))
   (ai (aq (qt 3)))))),λa1 Q h S=>?_⟩)
 obtain⟨d,cc,h,w,rfl,G,x,a2,q⟩:=h;walk_at "w";refine⟨_,_,4,rfl,x,by lia,by decide,by decide,λr1 d1 l1 u1 b1=>?_⟩;walk_at "w";refine⟨z2,_,_,3,rfl,b1,by lia,by decide,by decide,λr2 d2 l2 u2 b2=>?_⟩;walk_at "w";obtain⟨M,hM,m0,m1⟩:∃ M:Int,M=(if (r2 == 0)=true then 10 else r1)/\0<=M/\M<=10:=⟨_,rfl,by split <;> lia,by split <;> lia⟩;rw[show (if (r2 == 0)=true then D.int 10 else D.int r1)=D.int M by rw[hM];split <;> rfl,show mu ""=wy [] by decide +kernel]
 clear hM
 refine H9 (t:=⟨⟩) (λm V=>∃ b d Y X,m=10 - b.length/\b.length<=10/\Good h w b/\Box (cc + 2 + b.length) d/\V=[some (.ln d),some (.fz (.int (cat h w b b.length).1)),some (.fz (.int (cat h w b b.length).2)),some (.fz (.str (wy b))),some (.fz (.int M)),fo Y,fo X]) ⟨[],d2,none,none,rfl,by decide,trivial,b2.up (by simp only[Yg];lia),rfl⟩ ?_;rintro m V ⟨b,d,Y,X,rfl,S,g,x,rfl⟩;obtain⟨p1,p2,_,_⟩:=DO (k:=b.length) g G.h1 G.w1 (ek _);have e:∀ l,Can l (cat h w b b.length).1 (cat h w b b.length).2->Good h w (b++[l])/\cat h w (b++[l]) (b++[l]).length=(nh l (cat h w b b.length).1,nw l (cat h w b b.length).2):=λl c=>Ct g c;generalize hc:cat h w b b.length=c at p1 p2 e ⊢;obtain⟨H,W⟩:=c;dsimp only at p1 p2 e ⊢;walk_at "w";have O:(wy b).length<=sizeLine:=by rw[cz,hG];lia
 refine⟨O,?_⟩;cases eM:GS ((wy b).length:Int) M
 .walk_at "w";exact q _ _ ⟨G,g,S⟩ (x.up (by lia))
 have lt:b.length < 10:=by have:=of_decide_eq_true eM;rw[cz] at this;lia
 clear eM
 have I:(mu "r").length=1:=by decide +kernel
 have J:(mu "p").length=1:=by decide +kernel
 have N:(mu "b").length=1:=by decide +kernel
 have L:sk.length=0:=rfl;by_cases y:1 < W
 .have U:zb W 1=true:=decide_eq_true y;rw[U];by_cases F:1 < H
  .dsimp only;simp -dsimp only[y,F,if_true,if_false,Zj,I,J,N,L,or_true,true_or,true_and,XX];refine⟨z1,z1,z2,z1,by rw[show (mu "r"++mu "p").length=2 by decide +kernel];exact z3,?_⟩;rw[show mu "r"++mu "p"++mu "b"=wy [.r,.p,.b] by decide +kernel,show (wy [.r,.p,.b] == wy [])=false by decide +kernel];have C:∀ l∈[.r,.p,.b],Can l H W:=λl _=>⟨λ_=>by lia,λ_=>by lia⟩;walk_at "w";refine⟨by first | exact z3 | (rw[cz];exact z1),_,_,_,rfl,x,by lia,by rw[cz];decide,by rw[cz];decide,λZ o z u r=>?_⟩;rw[cz] at u;walk_at "w";refine Ks z u (by first | exact z3 | exact z1) (λl B=>?_);have p:=C l B;cases l
   .walk_at "w";obtain⟨j,c2⟩:=e .r p;have f:(b++[Lt.r]).length=b.length + 1:=by rw[bS];rfl
    exact⟨by rw[cz,show Lt.r.s.length=1 by decide +kernel,hG];lia,⟨by decide,by decide⟩,10 - (b.length + 1),by lia,b++[.r],by rw[f],by lia,j,o,r.up (by lia),rfl,by rw[c2];rfl,by rw[c2];rfl,by rw[km],⟨some _,rfl⟩,⟨some _,rfl⟩⟩
   .walk_at "w";obtain⟨j,c2⟩:=e .p p;have f:(b++[Lt.p]).length=b.length + 1:=by rw[bS];rfl
    exact⟨by rw[cz,show Lt.p.s.length=1 by decide +kernel,hG];lia,⟨by decide,by decide⟩,10 - (b.length + 1),by lia,b++[.p],by rw[f],by lia,j,o,r.up (by lia),rfl,by rw[c2];rfl,by rw[c2];rfl,by rw[km],⟨some _,rfl⟩,⟨some _,rfl⟩⟩
   .walk_at "w";obtain⟨j,c2⟩:=e .b p;have f:(b++[Lt.b]).length=b.length + 1:=by rw[bS];rfl
    exact⟨by rw[cz,show Lt.b.s.length=1 by decide +kernel,hG];lia,⟨by decide,by decide⟩,⟨by decide,by decide⟩,10 - (b.length + 1),by lia,b++[.b],by rw[f],by lia,j,o,r.up (by lia),rfl,by rw[c2];rfl,by rw[c2];rfl,by rw[km],⟨some _,rfl⟩,⟨some _,rfl⟩⟩
  .dsimp only;simp -dsimp only[y,F,if_true,if_false,Zj,I,J,N,L,or_true,true_or,true_and,XX];refine⟨z1,z1,z1,z1,by rw[show (mu "r"++sk).length=1 by decide +kernel];exact z1,?_⟩;rw[show mu "r"++sk++sk=wy [.r] by decide +kernel,show (wy [.r] == wy [])=false by decide +kernel];have C:∀ l∈[.r],Can l H W:=λl h=>by rw[pL.mp h];exact⟨λ_=>by lia,λn=>absurd rfl n⟩
   walk_at "w";refine⟨by first | exact z3 | (rw[cz];exact z1),_,_,_,rfl,x,by lia,by rw[cz];decide,by rw[cz];decide,λZ o z u r=>?_⟩;rw[cz] at u;walk_at "w";refine Ks z u (by first | exact z3 | exact z1) (λl B=>?_);have p:=C l B;cases l
   .walk_at "w";obtain⟨j,c2⟩:=e .r p;have f:(b++[Lt.r]).length=b.length + 1:=by rw[bS];rfl
    exact⟨by rw[cz,show Lt.r.s.length=1 by decide +kernel,hG];lia,⟨by decide,by decide⟩,10 - (b.length + 1),by lia,b++[.r],by rw[f],by lia,j,o,r.up (by lia),rfl,by rw[c2];rfl,by rw[c2];rfl,by rw[km],⟨some _,rfl⟩,⟨some _,rfl⟩⟩
   .walk_at "w";obtain⟨j,c2⟩:=e .p p;have f:(b++[Lt.p]).length=b.length + 1:=by rw[bS];rfl
    exact⟨by rw[cz,show Lt.p.s.length=1 by decide +kernel,hG];lia,⟨by decide,by decide⟩,10 - (b.length + 1),by lia,b++[.p],by rw[f],by lia,j,o,r.up (by lia),rfl,by rw[c2];rfl,by rw[c2];rfl,by rw[km],⟨some _,rfl⟩,⟨some _,rfl⟩⟩
   .walk_at "w";obtain⟨j,c2⟩:=e .b p;have f:(b++[Lt.b]).length=b.length + 1:=by rw[bS];rfl
    exact⟨by rw[cz,show Lt.b.s.length=1 by decide +kernel,hG];lia,⟨by decide,by decide⟩,⟨by decide,by decide⟩,10 - (b.length + 1),by lia,b++[.b],by rw[f],by lia,j,o,r.up (by lia),rfl,by rw[c2];rfl,by rw[c2];rfl,by rw[km],⟨some _,rfl⟩,⟨some _,rfl⟩⟩
 .have U:zb W 1=false:=decide_eq_false y;rw[U];by_cases F:1 < H
  .dsimp only;simp -dsimp only[y,F,if_true,if_false,Zj,I,J,N,L,or_true,true_or,true_and,XX];refine⟨z1,z1,z1,z1,by rw[show (sk++mu "p").length=1 by decide +kernel];exact z1,?_⟩;rw[show sk++mu "p"++sk=wy [.p] by decide +kernel,show (wy [.p] == wy [])=false by decide +kernel];have C:∀ l∈[.p],Can l H W:=λl h=>by rw[pL.mp h];exact⟨λn=>absurd rfl n,λ_=>by lia⟩
   walk_at "w";refine⟨by first | exact z3 | (rw[cz];exact z1),_,_,_,rfl,x,by lia,by rw[cz];decide,by rw[cz];decide,λZ o z u r=>?_⟩;rw[cz] at u;walk_at "w";refine Ks z u (by first | exact z3 | exact z1) (λl B=>?_);have p:=C l B;cases l
   .walk_at "w";obtain⟨j,c2⟩:=e .r p;have f:(b++[Lt.r]).length=b.length + 1:=by rw[bS];rfl
    exact⟨by rw[cz,show Lt.r.s.length=1 by decide +kernel,hG];lia,⟨by decide,by decide⟩,10 - (b.length + 1),by lia,b++[.r],by rw[f],by lia,j,o,r.up (by lia),rfl,by rw[c2];rfl,by rw[c2];rfl,by rw[km],⟨some _,rfl⟩,⟨some _,rfl⟩⟩
   .walk_at "w";obtain⟨j,c2⟩:=e .p p;have f:(b++[Lt.p]).length=b.length + 1:=by rw[bS];rfl
    exact⟨by rw[cz,show Lt.p.s.length=1 by decide +kernel,hG];lia,⟨by decide,by decide⟩,10 - (b.length + 1),by lia,b++[.p],by rw[f],by lia,j,o,r.up (by lia),rfl,by rw[c2];rfl,by rw[c2];rfl,by rw[km],⟨some _,rfl⟩,⟨some _,rfl⟩⟩
   .walk_at "w";obtain⟨j,c2⟩:=e .b p;have f:(b++[Lt.b]).length=b.length + 1:=by rw[bS];rfl
    exact⟨by rw[cz,show Lt.b.s.length=1 by decide +kernel,hG];lia,⟨by decide,by decide⟩,⟨by decide,by decide⟩,10 - (b.length + 1),by lia,b++[.b],by rw[f],by lia,j,o,r.up (by lia),rfl,by rw[c2];rfl,by rw[c2];rfl,by rw[km],⟨some _,rfl⟩,⟨some _,rfl⟩⟩
  .dsimp only;simp -dsimp only[y,F,if_true,if_false,Zj,I,J,N,L,or_true,true_or,true_and,XX];refine⟨z1,z1,z0,z1,by rw[show (sk++sk).length=0 by decide +kernel];exact z0,?_⟩;rw[show (sk++sk++sk == wy [])=true by decide +kernel];walk_at "w";exact q _ _ ⟨G,g,S⟩ (x.up (by lia))
def Mx:S3:=λΓ Q=>∃ (d:D),Γ=[some (.ln d),some (.fz (.int 10))]/\Box 0 d/\∀ (R:Rl) (h w:Int) ls d',Pl h w ls->Box 30 d'->Q (.fz (.tup [.int h,.int w,.str R.word,.str (wy ls)])) [some (.ln d'),some (.fz (.int 10))]
theorem Vm{v:D}(h:v∈[D.tup [.int 64,.int 8],.tup [.int 8,.int 64],.tup [.int 1,.int 64],.tup [.int 64,.int 1],.tup [.int 22,.int 23],.tup [.int 17,.int 30],.tup [.int 33,.int 15],.tup [.int 1,.int 1]]):∃ h w,v=pD h w/\D8 h w:=by
 simp only[fg,lh,or_false] at h;rcases h with rfl | rfl | rfl | rfl | rfl | rfl | rfl | rfl <;> exact⟨_,_,rfl,by decide,by decide,by decide,by decide,by decide⟩
theorem Qb{x y:Int}(d:0<=x)(c:x < 10)(b:0<=y)(a:y < 10):D8 (1 + x) (1 + y):=by
 have e:(1 + x) * (1 + y)<=10 * 10:=Int.mul_le_mul (by lia) (by lia) (by lia) (by lia);exact⟨by lia,by lia,by lia,by lia,by lia⟩
theorem BO(T:Txt K mg a):aB P w K mg base CX0 3 a.wL a.t_ ["_law_box_here","_law_side"] (sp3 K 2 Mx):=by
 refine ok3 T.kh.F dD (hbody:=λD A f s H E b=>⟨_,_,(aj (aP (i:=2) dD.nd rfl (hE rfl) (ba (by rfl) (P3.opd (cY (af eA (af eA (af eA (af eA au)))))) (P3.opd (ak (by rfl) (aE T) b.dn (by rfl) T.ah.m T.ah.F.kp T.ah.b (aa (bv 0) (aa (P3.opd ag) ab)))) (λ_ _=>rfl)))
   (aj (aP (i:=3) dD.nd rfl (hE rfl) (aJ (P3.opd ag) (P3.opd (ak (by rfl) (aE T) b.dn (by rfl) T.ah.m T.ah.F.kp T.ah.b (aa (bv 0) (aa (P3.opd (p3v 1)) ab))))))
   (aj (aP (i:=4) dD.nd rfl (hE rfl) (aJ (P3.opd ag) (P3.opd (ak (by rfl) (aE T) b.dn (by rfl) T.ah.m T.ah.F.kp T.ah.b (aa (bv 0) (aa (P3.opd (p3v 1)) ab))))))
   (aj (bg (aX (gr (by rfl) b) (P3.opd (ak (by rfl) (aE T) b.dn (by rfl) T.ah.m T.ah.F.kp T.ah.b (aa (bv 0) (aa (P3.opd ag) ab)))) (P3.opd ag) (a9 _)) (aj (aP (i:=5) dD.nd rfl (hE rfl) (cY (af (i8 (af ag (af ag au))) (af (i8 (af ag (af ag au))) (af (i8 (af ag (af ag au))) (af (i8 (af ag (af ag au))) (af (i8 (af ag (af ag au))) (af (i8 (af ag (af ag au))) (af (i8 (af ag (af ag au))) (af (i8 (af ag (af ag au))) au))))))))))
   (ai (pB (is:=[3,4]) (by rfl) (ba (by rfl) (bv 5) (P3.opd (ak (by rfl) (aE T) b.dn (by rfl) T.ah.m T.ah.F.kp T.ah.b (aa (bv 0) (aa (P3.opd ag) ab)))) (λ_ _=>rfl)) (aD (aL (i:=3) dD.nd rfl (hE rfl)) (aD (aL (i:=4) dD.nd rfl (hE rfl)) cj)) rfl))) aV)
   (ai (aq (i8 (af (p3v 3) (af (p3v 4) (af (p3v 2) (af (ak (by rfl) (ES T) b.dn (by rfl) T.oY.m T.oY.F.kp T.oY.b (aa (bv 0) (aa (P3.opd (p3v 3)) (aa (P3.opd (p3v 4)) ab)))) au))))))))))),λl Q h V=>?_⟩)
 obtain⟨d,rfl,C,q⟩:=h;walk_at "w";refine⟨z4,_,_,4,rfl,C,by lia,by decide,by decide,λS Z B r I=>?_⟩;walk_at "w";refine pick (p:=λv=>∃ R:Rl,v=.str R.word) B r (λv c=>?_) ?_
 .simp only[fg,lh,or_false] at c;rcases c with rfl | rfl | rfl | rfl
  .exact⟨.sum,rfl⟩
  .exact⟨.half,rfl⟩
  .exact⟨.guess,rfl⟩
  .exact⟨.lean,rfl⟩
 rintro _ ⟨R,rfl⟩;walk_at "w";refine⟨_,_,10,rfl,I,by lia,by decide,by decide,λO Y z o b2=>?_⟩;walk_at "w";refine⟨_,_,10,rfl,b2,by lia,by decide,by decide,λN X y n G=>?_⟩;walk_at "w";refine⟨_,_,8,rfl,G,by lia,by decide,by decide,λM W U J k=>?_⟩;walk_at "w";refine iT (λe=>?_) (λe=>?_)
 .walk_at "w";refine⟨z2,z2,z2,z2,z2,z2,z2,z2,by rw[hG];decide,_,_,8,rfl,k,by lia,by decide,by decide,λL j x m g=>?_⟩;walk_at "w";refine pick x m (λv c=>Vm c) (λv c=>?_);obtain⟨h,w,rfl,t⟩:=c;walk_at "w";refine⟨_,_,_,_,rfl,t,g,by decide,λu j p F=>?_⟩;walk_at "w";exact⟨z4,q _ _ _ _ _ p (F.up (by decide))⟩
 .walk_at "w";refine⟨_,_,_,_,rfl,Qb z o y n,k,by decide,λu j p g=>?_⟩;walk_at "w";exact⟨z4,q _ _ _ _ _ p (g.up (by decide))⟩
def JD (lo a:Int):S3:=λΓ Q=>∃ (d:D) (c s:Int),Γ=[some (.ln d),some (.fz (.int s))]/\Box c d/\c<=800000/\0<=s/\s < 4/\∀ r d',lo<=r->r<=a->Box (c + 3) d'->Q (.fz (.int r)) [some (.ln d'),some (.fz (.int s))]
theorem BN(T:Txt K mg a):aB P w K mg base CX0 3 a.wK a.t9 ["_law_box_here","_law_style"] (sp3 K 2 (JD (-100000) 100000)):=by
 refine ok3 T.kg.F BB (hbody:=λC A l s H E b=>⟨_,_,(aj (bg (aX (gr (by rfl) b) (bv 1) (P3.opd ag) (a9 _)) (ai (aq (dk (P3.opd (ak (by rfl) (aE T) b.dn (by rfl) T.ah.m T.ah.F.kp T.ah.b (aa (bv 0) (aa (P3.opd ag) ab)))) (P3.opd ag)))) aV)
   (aj (bg (aX (gr (by rfl) b) (bv 1) (P3.opd ag) (a9 _)) (ai (aq (ak (by rfl) (rj T) b.dn (by rfl) T.dC.m T.dC.F.kp T.dC.b (aa (bv 0) (aa (P3.opd ag) ab))))) aV)
   (aj (bg (P3W.pt (Dl (aX (gr (by rfl) b) (bv 1) (P3.opd ag) (a9 _)) (Ag (aX wV (P3.opd (ak (by rfl) (aE T) b.dn (by rfl) T.ah.m T.ah.F.kp T.ah.b (aa (bv 0) (aa (P3.opd ag) ab)))) (P3.opd ag) (a9 _))))) (ai (aq (ba (by rfl) (P3.opd (cY (af (jR (v:=100000) (by decide +kernel) ⟨by decide,by decide,by decide⟩) (af (gQ (P3.opd (jR (v:=100000) (by decide +kernel) ⟨by decide,by decide,by decide⟩))) au)))) (P3.opd (ak (by rfl) (aE T) b.dn (by rfl) T.ah.m T.ah.F.kp T.ah.b (aa (bv 0) (aa (P3.opd ag) ab)))) (λ_ _=>rfl)))) aV)
   (ai (aq (ak (by rfl) (rj T) b.dn (by rfl) T.dC.m T.dC.F.kp T.dC.b (aa (bv 0) (aa (P3.opd (jR (v:=100000) (by decide +kernel) ⟨by decide,by decide,by decide⟩)) ab)))))))),λy Q h G=>?_⟩)
 obtain⟨d,c,s,rfl,k,I,F,D,q⟩:=h;walk_at "w";refine iT (λe=>?_) (λe=>?_)
 .walk_at "w";refine⟨_,_,7,rfl,k,by lia,by decide,by decide,λo x r m f=>?_⟩;walk_at "w";exact q _ _ (by lia) (by lia) (f.up (by lia))
 walk_at "w";refine iT (λe=>?_) (λe=>?_)
 .walk_at "w";refine⟨_,_,100,rfl,k,by lia,by decide,by decide,λo x r m f=>?_⟩;walk_at "w";exact q _ _ (by lia) (by lia) (f.up (by lia))
 walk_at "w";refine VE (λe=>?_) (λe=>?_)
 .walk_at "w";refine⟨_,_,3,rfl,k,by lia,by decide,by decide,λo x r m f=>?_⟩;walk_at "w";refine iT (λe=>?_) (λe=>?_)
  .walk_at "w";refine⟨z2,_,_,2,rfl,f,by lia,by decide,by decide,λn u j g b2=>?_⟩;walk_at "w";refine pick (p:=λv=>∃ i:Int,v=.int i/\-100000<=i/\i<=100000) j g (λv t=>?_) ?_
   .simp only[fg,lh,or_false] at t;rcases t with rfl | rfl <;> exact⟨_,rfl,by decide,by decide⟩
   rintro _ ⟨i,rfl,B,z⟩;walk_at "w";exact q _ _ B z (b2.up (by lia))
  .walk_at "w";refine⟨_,_,100000,rfl,f,by lia,by decide,by decide,λn u j g b2=>?_⟩;walk_at "w";exact q _ _ j g (b2.up (by lia))
 .walk_at "w";refine⟨_,_,100000,rfl,k,by lia,by decide,by decide,λn u j g b2=>?_⟩;walk_at "w";exact q _ _ j g (b2.up (by lia))
def NO:S3:=λΓ Q=>∃ (d:D) (c h w:Int),Γ=[some (.ln d),some (.fz (.int h)),some (.fz (.int w))]/\D8 h w/\Box c d/\c<=100000/\∀ G d',Sz h.toNat w.toNat G->(∀ r∈G,∀ n∈r,-100000<=n/\n<=100000)->Box (c + 20000) d'->Q (.fr (rD G)) [some (.ln d'),some (.fz (.int h)),some (.fz (.int w))]
theorem Du(T:Txt K mg a):aB P w K mg base CX0 4 a.yC a.wu ["_law_box_here","_law_height","_law_width"] (sp3 K 3 NO):=by
 refine ok3 T.mj.F vi (hbody:=λY A v s H E F=>⟨_,_,(aj (aP (i:=3) vi.nd rfl (SF rfl) (ak (by rfl) (aE T) F.dn (by rfl) T.ah.m T.ah.F.kp T.ah.b (aa (bv 0) (aa (P3.opd ag) ab))))
   (ai (aq (bW rfl (bM (by rfl) T.z_range (af (p3v 1) au)) qk (λ_ _ _ _ _=>(aY (i:=0) qk.nd rfl (hE rfl))) (λ_ _ _ _ _=>(bW rfl (bM (by rfl) T.z_range (af (p3v 3) au)) qj (λ_ _ _ _ _=>(aY (i:=0) qj.nd rfl (hE rfl))) (λ_ _ _ _ _=>(ak (by rfl) (BN T) F.dn (by rfl) T.kg.m T.kg.F.kp T.kg.b (aa (bv 1) (aa (P3.opd (p3v 2)) ab)))))))))),λJ Q h hl=>?_⟩)
 obtain⟨d,c,h,w,rfl,l,V,hc,q⟩:=h;obtain⟨h1,w1,h2,w2,_⟩:=l;walk_at "w";refine⟨_,_,4,rfl,V,by lia,by decide,by decide,λs X M L b1=>?_⟩;walk_at "w";refine⟨by lia,by lia,small (by rw[bI];lia),aQ (λk g b=>∃ G f,Sz k w.toNat G/\g=G.map il/\(∀ r∈G,∀ n∈r,-100000<=n/\n<=100000)/\Box (c + 1 + 192 * (k:Int)) f/\∃ o,b=[fo o,some (.ln f),some (.fz (.int s)),some (.fz (.int w))]) ⟨[],X,⟨rfl,λ_ h=>nomatch h⟩,rfl,(λ_ h=>nomatch h),b1.up (by lia),none,rfl⟩ ?_ ?_⟩
 .rintro k x g b U R ⟨G,f,l,rfl,C,t,o,rfl⟩;obtain⟨lk,rfl⟩:=dW U;walk_at "w";refine⟨by lia,by lia,small (by rw[bI];lia),aQ (λj g b=>∃ (r:Li0) (f:D),g=r.map .int/\r.length=j/\(∀ n∈r,-100000<=n/\n<=100000)/\Box (c + 1 + 192 * (k:Int) + 3 * (j:Int)) f/\∃ o,b=[fo o,some (.ln f),some (.fz (.int s))]) ⟨[],f,rfl,rfl,(λ_ h=>nomatch h),t.up (by lia),none,rfl⟩ ?_ ?_⟩
  .rintro j y g b B S ⟨r,I,rfl,e,z,u,o,rfl⟩;obtain⟨lj,rfl⟩:=dW B;walk_at "w";refine⟨_,_,_,rfl,u,by lia,M,L,λn W O N Z=>?_⟩;walk_at "w";exact⟨r++[n],W,by rw[gp];rfl,by simp [e],λx p=>by
    rcases mm.mp p with m | m
    .exact z x m
    .rw[pL.mp m];exact⟨O,N⟩,Z.up (by lia),some _,rfl⟩
  .rintro g b S ⟨r,I,rfl,e,z,u,o,rfl⟩;rw[bI] at e u;walk_at "w";exact⟨G++[r],I,⟨by rw[bS,l.hh];rfl,λx p=>by
    rcases mm.mp p with m | m
    .exact l.ww x m
    .rw[pL.mp m];exact e⟩,by rw[gp];rfl,λx p=>by
    rcases mm.mp p with m | m
    .exact C x m
    .rw[pL.mp m];exact z,u.up (by lia),some _,rfl⟩
 .rintro g b R ⟨G,f,l,rfl,C,t,o,rfl⟩;rw[bI] at l t;walk_at "w";exact q G _ l C (t.up (by lia))
theorem tW(T:Txt K mg a):aB P w K mg base CX0 2 a.wN a.ub ["_law_box_here","_law_style"] (sp3 K 2 (JD 0 1000000000)):=by
 refine ok3 T.eu.F BC (hbody:=λF A l s H E g=>⟨_,_,(aj (bg (aX (gr (by rfl) g) (bv 1) (P3.opd ag) (a9 _)) (ai (aq (ak (by rfl) (aE T) g.dn (by rfl) T.ah.m T.ah.F.kp T.ah.b (aa (bv 0) (aa (P3.opd ag) ab))))) aV)
   (aj (bg (aX (gr (by rfl) g) (bv 1) (P3.opd ag) (a9 _)) (ai (aq (ba (by rfl) (P3.opd (cY (af ag (af (jR (v:=1000000000) (by decide +kernel) ⟨by decide,by decide,by decide⟩) (af ag au))))) (P3.opd (ak (by rfl) (aE T) g.dn (by rfl) T.ah.m T.ah.F.kp T.ah.b (aa (bv 0) (aa (P3.opd ag) ab)))) (λ_ _=>rfl)))) aV)
   (ai (aq (pE (P3.opd (ir (P3.opd (ak (by rfl) (aE T) g.dn (by rfl) T.ah.m T.ah.F.kp T.ah.b (aa (bv 0) (aa (P3.opd ag) ab)))) (P3.opd ag))) (P3.opd (ba (by rfl) (P3.opd (cY (af ag (af (aJ (P3.opd (jR (v:=1000000000) (by decide +kernel) ⟨by decide,by decide,by decide⟩)) (P3.opd ag)) au)))) (P3.opd (dk (bv 1) (P3.opd ag))) (λ_ _=>rfl)))))))),λr Q h L=>?_⟩)
 obtain⟨d,c,s,rfl,m,M,I,G,q⟩:=h;walk_at "w";refine iT (λe=>?_) (λC=>?_)
 .walk_at "w";refine⟨_,_,4,rfl,m,by lia,by decide,by decide,λk D B u n=>?_⟩;walk_at "w";exact q _ _ (by lia) (by lia) (n.up (by lia))
 walk_at "w";refine iT (λe=>?_) (λe=>?_)
 .walk_at "w";refine⟨z3,_,_,3,rfl,m,by lia,by decide,by decide,λJ R z t b2=>?_⟩;walk_at "w";refine pick (p:=λv=>∃ i:Int,v=.int i/\0<=i/\i<=1000000000) z t (λv f=>?_) ?_
  .simp only[fg,lh,or_false] at f;rcases f with rfl | rfl | rfl <;> exact⟨_,rfl,by decide,by decide⟩
  rintro _ ⟨i,rfl,j,o⟩;walk_at "w";exact q _ _ j o (b2.up (by lia))
 walk_at "w";have x:2<=s:=by
  have O:s≠0:=by simpa using C
  have N:s≠1:=by simpa using e
  lia
 refine⟨_,_,40009,rfl,m,by lia,by decide,by decide,λk D B u n=>?_⟩;walk_at "w";refine⟨.inr ⟨by decide,by decide⟩,z2,?_⟩;refine pick (p:=λv=>∃ i:Int,v=.int i/\0 < i/\i<=1000000001) ?_ ?_ (λv f=>?_) ?_
 .lia
 .show s - 2 < 2;lia
 .simp only[fg,lh,or_false] at f;rcases f with rfl | rfl <;> exact⟨_,rfl,by decide,by decide⟩
 rintro _ ⟨i,rfl,j,o⟩;walk_at "w";have y:=PQ (k * 60013) (b:=i) (by lia);have x:=Fl (k * 60013) j;exact⟨j,q _ _ y (by lia) (n.up (by lia))⟩
def Lr:S3:=λΓ Q=>∃ (d:D) (c h w:Int),Γ=[some (.ln d),some (.fz (.int h)),some (.fz (.int w))]/\D8 h w/\Box c d/\c<=100000/\∀ G d',Sz h.toNat w.toNat G->(∀ r∈G,∀ n∈r,0<=n/\n<=1000000000)->Box (c + 20000) d'->Q (.fr (rD G)) [some (.ln d'),some (.fz (.int h)),some (.fz (.int w))]
theorem Ar(T:Txt K mg a):aB P w K mg base CX0 3 a.um a.rQ ["_law_box_here","_law_height","_law_width"] (sp3 K 3 Lr):=by
 refine ok3 T.jm.F qM (hbody:=λY A v s H E F=>⟨_,_,(aj (aP (i:=3) qM.nd rfl (SF rfl) (ak (by rfl) (aE T) F.dn (by rfl) T.ah.m T.ah.F.kp T.ah.b (aa (bv 0) (aa (P3.opd ag) ab))))
   (ai (aq (bW rfl (bM (by rfl) T.z_range (af (p3v 1) au)) mW (λ_ _ _ _ _=>(aY (i:=0) mW.nd rfl (hE rfl))) (λ_ _ _ _ _=>(bW rfl (bM (by rfl) T.z_range (af (p3v 3) au)) mV (λ_ _ _ _ _=>(aY (i:=0) mV.nd rfl (hE rfl))) (λ_ _ _ _ _=>(ak (by rfl) (tW T) F.dn (by rfl) T.eu.m T.eu.F.kp T.eu.b (aa (bv 1) (aa (P3.opd (p3v 2)) ab)))))))))),λJ Q h hl=>?_⟩)
 obtain⟨d,c,h,w,rfl,l,V,hc,q⟩:=h;obtain⟨h1,w1,h2,w2,_⟩:=l;walk_at "w";refine⟨_,_,4,rfl,V,by lia,by decide,by decide,λs X M L b1=>?_⟩;walk_at "w";refine⟨by lia,by lia,small (by rw[bI];lia),aQ (λk g b=>∃ G f,Sz k w.toNat G/\g=G.map il/\(∀ r∈G,∀ n∈r,0<=n/\n<=1000000000)/\Box (c + 1 + 192 * (k:Int)) f/\∃ o,b=[fo o,some (.ln f),some (.fz (.int s)),some (.fz (.int w))]) ⟨[],X,⟨rfl,λ_ h=>nomatch h⟩,rfl,(λ_ h=>nomatch h),b1.up (by lia),none,rfl⟩ ?_ ?_⟩
 .rintro k x g b U R ⟨G,f,l,rfl,C,t,o,rfl⟩;obtain⟨lk,rfl⟩:=dW U;walk_at "w";refine⟨by lia,by lia,small (by rw[bI];lia),aQ (λj g b=>∃ (r:Li0) (f:D),g=r.map .int/\r.length=j/\(∀ n∈r,0<=n/\n<=1000000000)/\Box (c + 1 + 192 * (k:Int) + 3 * (j:Int)) f/\∃ o,b=[fo o,some (.ln f),some (.fz (.int s))]) ⟨[],f,rfl,rfl,(λ_ h=>nomatch h),t.up (by lia),none,rfl⟩ ?_ ?_⟩
  .rintro j y g b B S ⟨r,I,rfl,e,z,u,o,rfl⟩;obtain⟨lj,rfl⟩:=dW B;walk_at "w";refine⟨_,_,_,rfl,u,by lia,M,L,λn W O N Z=>?_⟩;walk_at "w";exact⟨r++[n],W,by rw[gp];rfl,by simp [e],λx p=>by
    rcases mm.mp p with m | m
    .exact z x m
    .rw[pL.mp m];exact⟨O,N⟩,Z.up (by lia),some _,rfl⟩
  .rintro g b S ⟨r,I,rfl,e,z,u,o,rfl⟩;rw[bI] at e u;walk_at "w";exact⟨G++[r],I,⟨by rw[bS,l.hh];rfl,λx p=>by
    rcases mm.mp p with m | m
    .exact l.ww x m
    .rw[pL.mp m];exact e⟩,by rw[gp];rfl,λx p=>by
    rcases mm.mp p with m | m
    .exact C x m
    .rw[pL.mp m];exact z,u.up (by lia),some _,rfl⟩
 .rintro g b R ⟨G,f,l,rfl,C,t,o,rfl⟩;rw[bI] at l t;walk_at "w";exact q G _ l C (t.up (by lia))
theorem Aq(T:Txt K mg a):aB P w K mg base CX0 3 a.uk a.rP ["_law_box_here","_law_style"] (sp3 K 2 (JD (-1000000000) 1000000000)):=by
 refine ok3 T.jl.F zS (hbody:=λx A g s H E f=>⟨_,_,(aj (bg (aX (gr (by rfl) f) (bv 1) (P3.opd ag) (a9 _)) (ai (aq (dk (P3.opd (ak (by rfl) (aE T) f.dn (by rfl) T.ah.m T.ah.F.kp T.ah.b (aa (bv 0) (aa (P3.opd ag) ab)))) (P3.opd ag)))) aV)
   (aj (bg (aX (gr (by rfl) f) (bv 1) (P3.opd ag) (a9 _)) (ai (aq (ba (by rfl) (P3.opd (cY (af (jR (v:=1000000000) (by decide +kernel) ⟨by decide,by decide,by decide⟩) (af (gQ (P3.opd (jR (v:=1000000000) (by decide +kernel) ⟨by decide,by decide,by decide⟩))) (af ag (af (gQ (P3.opd ag)) (af ag au))))))) (P3.opd (ak (by rfl) (aE T) f.dn (by rfl) T.ah.m T.ah.F.kp T.ah.b (aa (bv 0) (aa (P3.opd ag) ab)))) (λ_ _=>rfl)))) aV)
   (ai (aq (ak (by rfl) (rj T) f.dn (by rfl) T.dC.m T.dC.F.kp T.dC.b (aa (bv 0) (aa (P3.opd (ba (by rfl) (P3.opd (cY (af ag (af (jR (v:=1000000000) (by decide +kernel) ⟨by decide,by decide,by decide⟩) au)))) (P3.opd (dk (bv 1) (P3.opd ag))) (λ_ _=>rfl))) ab))))))),λo Q h I=>?_⟩)
 obtain⟨d,c,s,rfl,l,J,D,B,q⟩:=h;walk_at "w";refine iT (λe=>?_) (λt=>?_)
 .walk_at "w";refine⟨_,_,9,rfl,l,by lia,by decide,by decide,λF N G z y=>?_⟩;walk_at "w";exact q _ _ (by lia) (by lia) (y.up (by lia))
 walk_at "w";refine iT (λe=>?_) (λe=>?_)
 .walk_at "w";refine⟨z5,_,_,5,rfl,l,by lia,by decide,by decide,λr u n m b2=>?_⟩;walk_at "w";refine pick (p:=λv=>∃ i:Int,v=.int i/\-1000000000<=i/\i<=1000000000) n m (λv b=>?_) ?_
  .simp only[fg,lh,or_false] at b;rcases b with rfl | rfl | rfl | rfl | rfl <;> exact⟨_,rfl,by decide,by decide⟩
  rintro _ ⟨i,rfl,k,j⟩;walk_at "w";exact q _ _ k j (b2.up (by lia))
 walk_at "w";have C:2<=s:=by
  have M:s≠0:=by simpa using t
  have L:s≠1:=by simpa using e
  lia
 refine⟨z2,?_⟩;refine pick (p:=λv=>∃ i:Int,v=.int i/\0<=i/\i<=1000000000) ?_ ?_ (λv b=>?_) ?_
 .lia
 .show s - 2 < 2;lia
 .simp only[fg,lh,or_false] at b;rcases b with rfl | rfl <;> exact⟨_,rfl,by decide,by decide⟩
 rintro _ ⟨i,rfl,k,j⟩;walk_at "w";refine⟨_,_,i,rfl,l,by lia,k,j,λr u n m b2=>?_⟩;walk_at "w";exact q _ _ (by lia) (by lia) (b2.up (by lia))
def ID:S3:=λΓ Q=>∃ (d:D) (c h w:Int),Γ=[some (.ln d),some (.fz (.int h)),some (.fz (.int w))]/\D8 h w/\Box c d/\c<=100000/\∀ G d',Sz h.toNat w.toNat G->(∀ r∈G,∀ n∈r,-1000000000<=n/\n<=1000000000)->Box (c + 20000) d'->Q (.fr (rD G)) [some (.ln d'),some (.fz (.int h)),some (.fz (.int w))]
theorem yV(T:Txt K mg a):aB P w K mg base CX0 4 a.r9 a.p9 ["_law_box_here","_law_height","_law_width"] (sp3 K 3 ID):=by
 refine ok3 T.g5.F pX (hbody:=λY A v s H E F=>⟨_,_,(aj (aP (i:=3) pX.nd rfl (SF rfl) (ak (by rfl) (aE T) F.dn (by rfl) T.ah.m T.ah.F.kp T.ah.b (aa (bv 0) (aa (P3.opd ag) ab))))
   (ai (aq (bW rfl (bM (by rfl) T.z_range (af (p3v 1) au)) lT (λ_ _ _ _ _=>(aY (i:=0) lT.nd rfl (hE rfl))) (λ_ _ _ _ _=>(bW rfl (bM (by rfl) T.z_range (af (p3v 3) au)) lS (λ_ _ _ _ _=>(aY (i:=0) lS.nd rfl (hE rfl))) (λ_ _ _ _ _=>(ak (by rfl) (Aq T) F.dn (by rfl) T.jl.m T.jl.F.kp T.jl.b (aa (bv 1) (aa (P3.opd (p3v 2)) ab)))))))))),λJ Q h hl=>?_⟩)
 obtain⟨d,c,h,w,rfl,l,V,hc,q⟩:=h;obtain⟨h1,w1,h2,w2,_⟩:=l;walk_at "w";refine⟨_,_,4,rfl,V,by lia,by decide,by decide,λs X M L b1=>?_⟩;walk_at "w";refine⟨by lia,by lia,small (by rw[bI];lia),aQ (λk g b=>∃ G f,Sz k w.toNat G/\g=G.map il/\(∀ r∈G,∀ n∈r,-1000000000<=n/\n<=1000000000)/\Box (c + 1 + 192 * (k:Int)) f/\∃ o,b=[fo o,some (.ln f),some (.fz (.int s)),some (.fz (.int w))]) ⟨[],X,⟨rfl,λ_ h=>nomatch h⟩,rfl,(λ_ h=>nomatch h),b1.up (by lia),none,rfl⟩ ?_ ?_⟩
 .rintro k x g b U R ⟨G,f,l,rfl,C,t,o,rfl⟩;obtain⟨lk,rfl⟩:=dW U;walk_at "w";refine⟨by lia,by lia,small (by rw[bI];lia),aQ (λj g b=>∃ (r:Li0) (f:D),g=r.map .int/\r.length=j/\(∀ n∈r,-1000000000<=n/\n<=1000000000)/\Box (c + 1 + 192 * (k:Int) + 3 * (j:Int)) f/\∃ o,b=[fo o,some (.ln f),some (.fz (.int s))]) ⟨[],f,rfl,rfl,(λ_ h=>nomatch h),t.up (by lia),none,rfl⟩ ?_ ?_⟩
  .rintro j y g b B S ⟨r,I,rfl,e,z,u,o,rfl⟩;obtain⟨lj,rfl⟩:=dW B;walk_at "w";refine⟨_,_,_,rfl,u,by lia,M,L,λn W O N Z=>?_⟩;walk_at "w";exact⟨r++[n],W,by rw[gp];rfl,by simp [e],λx p=>by
    rcases mm.mp p with m | m
    .exact z x m
    .rw[pL.mp m];exact⟨O,N⟩,Z.up (by lia),some _,rfl⟩
  .rintro g b S ⟨r,I,rfl,e,z,u,o,rfl⟩;rw[bI] at e u;walk_at "w";exact⟨G++[r],I,⟨by rw[bS,l.hh];rfl,λx p=>by
    rcases mm.mp p with m | m
    .exact l.ww x m
    .rw[pL.mp m];exact e⟩,by rw[gp];rfl,λx p=>by
    rcases mm.mp p with m | m
    .exact C x m
    .rw[pL.mp m];exact z,u.up (by lia),some _,rfl⟩
 .rintro g b R ⟨G,f,l,rfl,C,t,o,rfl⟩;rw[bI] at l t;walk_at "w";exact q G _ l C (t.up (by lia))
theorem D9(N E:LL0):(iI (N.map il) (E.map il)).length=min N.length E.length:=by unfold iI;simp
theorem Jx{N E:LL0}{d:D}(h:(iI (N.map il) (E.map il))[k]?=some d):k < N.length/\k < E.length/\d=.tup [il (N.getD k []),il (E.getD k [])]:=by
 have l:=pN h;rw[D9] at l;have b:k < N.length:=by lia
 have a:k < E.length:=by lia
 refine⟨b,a,?_⟩;unfold iI at h;rw[cm,gE0 (by simp;lia)] at h;cases h;simp [vk,b,a]
def KN:S3:=λΓ Q=>∃ (d:D) (c:Int) (H W:Nat) (N E:LL0),Γ=[some (.ln d),some (.fz (rD N)),some (.fz (rD E))]/\Sz H W N/\Sz H W E/\H<=64/\W<=64/\(∀ r∈N,∀ n∈r,-1000000000<=n/\n<=1000000000)/\(∀ r∈E,∀ n∈r,0<=n/\n<=1073741824)/\Box c d/\c<=200000/\
 ∀ Z d',Sz H W Z->(∀ r∈Z,∀ n∈r,-1000000000<=n/\n<=1000000000)->oR H W N Z E->Box (c + 10000) d'->Q (.fr (rD Z)) [some (.ln d'),some (.fz (rD N)),some (.fz (rD E))]
theorem lA(T:Txt K mg a):aB P w K mg base CX0 2 a.uj a.rO ["_law_box_here","_law_rows_here","_law_errors_here"] (sp3 K 3 KN):=by
 refine ok3 T.cf.F bC (hbody:=λa6 A Y s H E O=>⟨_,_,(aj (aP (i:=3) bC.nd rfl (hE rfl) (ak (by rfl) (aE T) O.dn (by rfl) T.ah.m T.ah.F.kp T.ah.b (aa (bv 0) (aa (P3.opd ag) ab))))
   (aj (aP (i:=4) bC.nd rfl (hE rfl) (cY au))
   (aj (k_ wh rfl (lH (by rfl) T.z_zip (af (p3v 1) (af (p3v 2) au))) (gn (is:=[5,6]) (by rfl) (aD (aL (i:=5) bC.nd rfl (hE rfl)) (aD (aL (i:=6) bC.nd rfl (hE rfl)) cj)) rfl)
   (aj (aP (i:=7) bC.nd rfl (hE rfl) (cY au))
   (aj (k_ wh rfl (lH (by rfl) T.z_zip (af (p3v 5) (af (p3v 6) au))) (gn (is:=[8,9]) (by rfl) (aD (aL (i:=8) bC.nd rfl (hE rfl)) (aD (aL (i:=9) bC.nd rfl (hE rfl)) cj)) rfl)
   (aj (aP (i:=10) bC.nd rfl (hE rfl) (ba (by rfl) (P3.opd (cY (af ag (af (gQ (P3.opd ag)) (af (ba (by rfl) (P3.opd (cY (af ag (af (gQ (P3.opd ag)) au)))) (P3.opd (ak (by rfl) (aE T) O.dn (by rfl) T.ah.m T.ah.F.kp T.ah.b (aa (bv 0) (aa (P3.opd ag) ab)))) (λ_ _=>rfl)) (af ag au)))))) (bv 3) (λ_ _=>rfl)))
   (aj (aP (i:=11) bC.nd rfl (hE rfl) (dk (bv 9) (P3.opd (ir (P3.opd (ak (by rfl) (aE T) O.dn (by rfl) T.ah.m T.ah.F.kp T.ah.b (aa (bv 0) (aa (P3.opd (aJ (P3.opd ag) (P3.opd (av (HS rfl) (by rfl) T.z_min (by decide +kernel) (aa (bv 9) (aa (P3.opd ag) ab)))))) ab)))) (P3.opd (fY Fu (by rfl) T.z_int (by decide +kernel) (aa (P3.opd (i9 (gr (by rfl) O) (bv 3) (P3.opd ag) (a9 _))) ab)))))))
   (ai (dJ (oh 7 (by rfl) (bv 7) (av (HU rfl) (by rfl) T.z_max (by decide +kernel) (aa (P3.opd (gQ (P3.opd (jR (v:=1000000000) (by decide +kernel) ⟨by decide,by decide,by decide⟩)))) (aa (P3.opd (av (HS rfl) (by rfl) T.z_min (by decide +kernel) (aa (P3.opd (jR (v:=1000000000) (by decide +kernel) ⟨by decide,by decide,by decide⟩)) (aa (P3.opd (aJ (bv 8) (P3.opd (ir (bv 10) (bv 11))))) ab)))) ab)))))))))
   (ai (dJ (oh 4 (by rfl) (bv 4) (p3v 7)))))))
   (ai (aq (qt 4)))))),λa2 Q h I=>?_⟩)
 obtain⟨d,c,H,W,N,E,rfl,J,R,a5,a4,bN,bE,hb,hc,q⟩:=h;walk_at "w";refine⟨_,_,4,rfl,hb,by lia,by decide,by decide,λwy d1 w0 w4 b1=>?_⟩;walk_at "w";refine⟨z0,fH (λk F=>∃ Z g V U S u o f b,Sz k W Z/\(∀ r∈Z,∀ n∈r,-1000000000<=n/\n<=1000000000)/\oR k W N Z E/\Box (c + 1 + 128 * (k:Int)) g/\F=[some (.ln g),some (.fz (rD N)),some (.fz (rD E)),some (.fz (.int wy)),some (.ow (rD Z)),fo V,fo U,fo S,fo u,fo o,fo f,fo b])
  ⟨[],d1,none,none,none,none,none,none,none,⟨rfl,λ_ h=>nomatch h⟩,(λ_ h=>nomatch h),(λ_ _ h=>absurd h (Yi _)),b1.up (by lia),rfl⟩ ?_ ?_⟩
 .rintro k dd F hd ⟨Z,g,V,U,S,u,o,f,b,G,bZ,M,C,rfl⟩;obtain⟨k1,k2,rfl⟩:=Jx hd;have kH:=J.hh;walk_at "w";have lN:=(J.row (y:=k) (by lia)).2;have lE:=(R.row (y:=k) (by lia)).2;have vN:∀ j,j < W->-1000000000<=en 0 N k j/\en 0 N k j<=1000000000:=λj hj=>HL J bN k j (by lia) hj;have vE:∀ j,j < W->0<=en 0 E k j/\en 0 E k j<=1073741824:=λj hj=>HL R bE k j (by lia) hj;refine⟨z0,fH (λj F=>∃ r g u o f b,r.length=j/\(∀ n∈r,-1000000000<=n/\n<=1000000000)/\(∀ x,x < j->en 0 N k x - r.getD x 0<=en 0 E k x/\r.getD x 0 - en 0 N k x<=en 0 E k x)/\Box (c + 1 + 128 * (k:Int) + 2 * (j:Int)) g/\F=[some (.ln g),some (.fz (rD N)),some (.fz (rD E)),some (.fz (.int wy)),some (.ow (rD Z)),some (.fz (il (N.getD k []))),some (.fz (il (E.getD k []))),some (.ow (il r)),fo u,fo o,fo f,fo b])
   ⟨[],g,u,o,f,b,rfl,(λ_ h=>nomatch h),(λ_ h=>absurd h (Yi _)),C.up (by lia),rfl⟩ ?_ ?_⟩
  .rintro j dd F a1 ⟨r,g,u,o,f,b,I,br,L,C,rfl⟩;obtain⟨j1,j2,rfl⟩:=zip_get a1;rw[lN] at j1;obtain⟨n,hn,n1,n2⟩:∃ n,n=(N.getD k []).getD j 0/\-1000000000<=n/\n<=1000000000:=⟨_,rfl,vN j j1⟩;obtain⟨e,he,e1,e2⟩:∃ e,e=(E.getD k []).getD j 0/\0<=e/\e<=1073741824:=⟨_,rfl,vE j j1⟩;rw[<- hn,<- he];walk_at "w";refine⟨z2,_,_,2,rfl,C,by lia,by decide,by decide,λr1 d1 l1 u1 b1=>?_⟩;walk_at "w";refine pick (p:=λv=>∃ i:Int,v=.int i/\(i=1\/i=-1)) l1 u1 (λv l=>?_) ?_
   .simp only[fg,lh,or_false] at l;rcases l with rfl | rfl <;> exact⟨_,rfl,by decide⟩
   rintro _ ⟨i,rfl,hi⟩;walk_at "w";refine⟨z4,?_⟩;refine pick (p:=λv=>∃ i:Int,v=.int i/\(i=1\/i=-1)) w0 w4 (λv l=>?_) ?_
   .simp only[fg,lh,or_false] at l;rcases l with rfl | rfl | rfl | rfl <;> first | exact⟨_,rfl,hi⟩ | exact⟨_,rfl,by decide⟩
   rintro _ ⟨t,rfl,ht⟩;walk_at "w";have f9:0<=fmin e 9/\fmin e 9<=e/\fmin e 9<=9:=by unfold fmin;split <;> lia
   refine⟨_,_,_,rfl,b1,by lia,by lia,by lia,λX d2 l2 u2 b2=>?_⟩;walk_at "w";have hm:0<=e - X * (if (wy == 3)=true then 1 else 0)/\e - X * (if (wy == 3)=true then 1 else 0)<=e:=by split <;> lia
   refine⟨.inl ⟨by lia,by lia⟩,?_⟩;generalize e - X * (if (wy == 3)=true then 1 else 0)=m at hm ⊢;have l:-1000000000<=fmax (-1000000000) (fmin 1000000000 (n + t * m))/\fmax (-1000000000) (fmin 1000000000 (n + t * m))<=1000000000/\n - fmax (-1000000000) (fmin 1000000000 (n + t * m))<=e/\fmax (-1000000000) (fmin 1000000000 (n + t * m)) - n<=e:=by
    unfold fmax fmin;rcases ht with rfl | rfl <;> (repeat' split) <;> lia
   generalize fmax (-1000000000) (fmin 1000000000 (n + t * m))=z at l ⊢;refine⟨.inl ⟨by lia,by lia⟩,small (by rw[lM0];lia),r++[z],d2,some _,some _,some _,some _,by rw[bS,I];rfl,λx B=>?_,λx B=>?_,b2.up (by lia),by rw[show il (r++[z])=D.lst (Wq D.int r++[D.int z]) from congrArg D.lst gp];rfl⟩
   .rcases mm.mp B with m | m
    .exact br x m
    .rw[pL.mp m];exact⟨l.1,l.2.1⟩
   .by_cases c:x < j
    .rw[show (r++[z]).getD x 0=r.getD x 0 by rw[hP,ef (by lia)];rfl];exact L x c
    .obtain rfl:x=j:=by lia
     rw[show (r++[z]).getD x 0=z by rw[hP,ic (by lia),I,SD];rfl,show en 0 N k x=n from hn.symm,show en 0 E k x=e from he.symm];exact l.2.2
  .rintro F ⟨r,g,u,o,f,b,I,br,L,C,rfl⟩;rw[fR,lN,lE,Zg] at I C L;walk_at "w";refine⟨small (by rw[lM0,G.hh];lia),Z++[r],g,some _,some _,some _,u,o,f,b,⟨by rw[bS,G.hh];rfl,λx B=>?_⟩,λx B=>?_,λy x hy B=>?_,C.up (by lia),by rw[show rD (Z++[r])=D.lst (Z.map il++[il r]) from congrArg D.lst gp];rfl⟩
   .rcases mm.mp B with m | m
    .exact G.ww x m
    .rw[pL.mp m];exact I
   .rcases mm.mp B with m | m
    .exact bZ x m
    .rw[pL.mp m];exact br
   .have lZ:=G.hh;unfold en;by_cases c:y < k
    .rw[show (Z++[r]).getD y []=Z.getD y [] by rw[hP,ef (by lia)];rfl];exact M y x c B
    .obtain rfl:y=k:=by lia
     rw[show (Z++[r]).getD y []=r by rw[hP,ic (by lia),lZ,SD];rfl];exact L x B
 .rintro F ⟨Z,g,V,U,S,u,o,f,b,G,bZ,M,C,rfl⟩;rw[D9,J.hh,R.hh,Zg] at G M C;walk_at "w";exact q Z _ G bZ M (C.up (by lia))
structure MK (base:Heap) (a:Ad):Prop where
 w:pT base a.iG qW
 c:pT base a.eN qC
 h:pT base a.fQ qH
theorem G1{xs ys:Li0}{u:Nat}(l:xs.length=u)(k:Nat):(xs++ys).getD k 0=if k < u then xs.getD k 0 else ys.getD (k - u) 0:=by
 rw[hP];split
 .rw[ef (by lia)];rfl
 .rw[ic (by lia),l];rfl
theorem Cy {u:Nat}:∀ {H:Nat} {X Z E:LL0},Sz H u X->Sz H u Z->Sz H u E->oR H u X Z E->X.flatten.length=H * u/\Z.flatten.length=H * u/\E.flatten.length=H * u/\∀ k,X.flatten.getD k 0 - Z.flatten.getD k 0<=E.flatten.getD k 0/\Z.flatten.getD k 0 - X.flatten.getD k 0<=E.flatten.getD k 0
 | 0,X,Z,E,c,b,a,_=>by
  rw[Pv c.hh,Pv b.hh,Pv a.hh];exact⟨by simp,by simp,by simp,λk=>by simp⟩
 | H + 1,x::X,z::Z,e::E,c,b,a,n=>by
  have f:=c.ww x (lU ..);have d:=b.ww z (lU ..);have g:=a.ww e (lU ..);have t:∀ {r:Li0} {R:LL0},Sz (H + 1) u (r::R)->Sz H u R:=λs=>⟨by have:=s.hh;simp only[tx] at this;lia,λr o=>s.ww r (hY _ o)⟩;obtain⟨j,i,h,l⟩:=Cy (t c) (t b) (t a) λy x p m=>n (y + 1) x (by lia) m;refine⟨by rw[rr,bS,j,f];grind,by rw[rr,bS,i,d];grind,by rw[rr,bS,h,g];grind,λk=>?_⟩;rw[rr,rr,rr,G1 f,G1 d,G1 g];split
  .exact n 0 k (by lia) ‹_›
  .exact l _
def SX (a:Ad):S3:=λΓ Q=>∃ (R:Rl) (ls:List Lt) (u:Nat) (N Z E:LL0),Γ=[some (.fz (plD a R N.length u ls)),some (.fz (rD N)),some (.fz (rD Z)),some (.fz (rD E))]/\Nm u ls (-1000000000) 1000000000 N/\Nm u ls (-1000000000) 1000000000 Z/\Nm u ls 0 1073741824 E/\Z.length=N.length/\E.length=N.length/\oR N.length u N Z E/\Q (.fz (.bl true)) Γ
theorem lu(T:Txt K mg a)(M:MK base a):aB P w K mg base CX0 13 a.ui a.rN ["_law_plan","_law_rows_here","_law_others_here","_law_errors_here"] (sp3 K 4 (SX a)):=by
 refine ok3 T.cb.F g9 (hbody:=λO A o s H E c=>⟨_,_,(aj (aP (i:=4) g9.nd rfl (SF rfl) (lq (aM (by rfl) (P3.opd (ak (by rfl) (x9 T M.c) c.dn (by rfl) T.gJ.m T.gJ.F.kp T.gJ.b (aa (P3.opd (p3v 0)) (aa (P3.opd (mD T.mk_Field (cp T) c.dn (by rfl) T.jD T.bL.b (af (p3v 1) au))) ab)))) T.bw T.nO (nI T) c.dn T.kl.b)))
   (aj (aP (i:=5) g9.nd rfl (SF rfl) (lq (aM (by rfl) (P3.opd (ak (by rfl) (x9 T M.c) c.dn (by rfl) T.gJ.m T.gJ.F.kp T.gJ.b (aa (P3.opd (p3v 0)) (aa (P3.opd (mD T.mk_Field (cp T) c.dn (by rfl) T.jD T.bL.b (af (p3v 2) au))) ab)))) T.bw T.nO (nI T) c.dn T.kl.b)))
   (aj (aP (i:=6) g9.nd rfl (SF rfl) (lq (aM (by rfl) (P3.opd (ak (by rfl) (KP T M.w) c.dn (by rfl) T.zl.m T.zl.F.kp T.zl.b (aa (P3.opd (p3v 0)) (aa (P3.opd (mD T.mk_Field (cp T) c.dn (by rfl) T.jD T.bL.b (af (p3v 3) au))) ab)))) T.bw T.nO (nI T) c.dn T.kl.b)))
   (ai (aq (i9 (gr (by rfl) c) (P3.opd (KH rfl (bM (by rfl) T.z_range (af (av (cR (by rfl)) (by rfl) T.z_len (by decide +kernel) (aa (bv 6) ab)) au)) mU (λ_ _ _ _ _=>(aY (i:=0) mU.nd rfl (hE rfl))) (λ_ _ _ _ _=>(aX wV (P3.opd (av VA (by rfl) T.z_abs (by decide +kernel) (aa (P3.opd (dk (P3.opd (ba (by rfl) (bv 2) (bv 0) (λ_ _=>rfl))) (P3.opd (ba (by rfl) (bv 3) (bv 0) (λ_ _=>rfl))))) ab))) (P3.opd (ba (by rfl) (bv 1) (bv 0) (λ_ _=>rfl))) (a9 _))) (λ_ _ _ _ _=>(p3v 0)))) (P3.opd (cY au)) (a9 _))))))),λG Q h W=>?_⟩)
 obtain⟨R,f,u,N,Z,E,rfl,b,m,cE,r,p,I,q⟩:=h;obtain⟨_,x,J⟩:=b.all (Rv a) R (by decide) (by decide) λ_ _=>trivial;obtain⟨_,v,V⟩:=m.all (Rv a) R (by decide) (by decide) λ_ _=>trivial;obtain⟨_,t,U⟩:=cE.all (Uu a) R (by decide) (by decide) λ_ h=>h;walk_at "w";refine⟨u,N,rfl,b.g,?_⟩;walk_at "w";refine⟨R,f,u,N,rfl,b,?_⟩;walk_at "w";refine⟨by decide +kernel,u,_,rfl,x,?_⟩;walk_at "w";refine⟨u,Z,rfl,m.g,?_⟩;walk_at "w";refine⟨R,f,u,Z,by rw[r],m,?_⟩;walk_at "w";refine⟨by decide +kernel,u,_,rfl,v,?_⟩;walk_at "w";refine⟨u,E,rfl,cE.g,?_⟩;walk_at "w";refine⟨R,f,u,E,by rw[p],cE,?_⟩;walk_at "w";refine⟨by decide +kernel,u,_,rfl,t,?_⟩;walk_at "w";obtain⟨F,z,y,j⟩:=Cy (u:=u) (H:=N.length) (⟨J,x.len⟩:Sz _ _ _) (⟨by lia,v.len⟩:Sz _ _ _) (⟨by lia,t.len⟩:Sz _ _ _) (by unfold bkF;rw[r,p];exact Eh (a:=a) (R:=R) b.p (wb b.g) (by have:=wb m.g;rw[r] at this;exact this) (by have:=wb cE.g;rw[p] at this;exact this) I f.length);generalize (bkF (nJ a) R u f N).flatten=A at F j ⊢;generalize (bkF (nJ a) R u f Z).flatten=B at z j ⊢;generalize (bkF (eJ a) R u f E).flatten=C at y j ⊢;have S:=b.g.all;rw[lM0];refine⟨by lia,by lia,xU (λk n e=>n=[]/\∃ s,e=[fo s,some (.fz (il C)),some (.fz (il A)),some (.fz (il B))]) ⟨rfl,none,rfl⟩ ?_ ?_⟩
 .rintro k d n e L ⟨rfl,s,rfl⟩;obtain⟨lk,rfl⟩:=dW L;have g:∀ X:Li0,X.length=N.length * u->atI (X.map D.int) (0 + (k:Int))=some (.int (X.getD k 0)):=λX l=>by
   rw[Int.zero_add];exact dA (Int.natCast_nonneg k) (by rw[cm,ky,Cv 0 (by lia)];rfl)
  walk_at "w";refine de.mpr ⟨_,g A F,?_⟩;walk_at "w";refine de.mpr ⟨_,g B z,?_⟩;walk_at "w";refine de.mpr ⟨_,g C y,?_⟩;walk_at "w";rw[show zb (if A.getD k 0 - B.getD k 0 < 0 then -(A.getD k 0 - B.getD k 0) else A.getD k 0 - B.getD k 0) (C.getD k 0)=false from decide_eq_false (by have:=j k;split <;> lia)];exact⟨rfl,some _,rfl⟩
 .rintro n e ⟨rfl,s,rfl⟩;walk_at "w";exact⟨by rw[hG];decide,z0,q⟩
theorem vP{h u:Nat}{ls:List Lt}{lo a:Int}{G:LL0}(p:Pl h u ls)(s:Sz h u G)(b:∀ r∈G,∀ n∈r,lo<=n/\n<=a)(j:-1000000000000000 < lo)(i:a < 1000000000000000):Nm u ls lo a G:=by
 have e:=s.hh;subst e;obtain⟨l,g,k,f,m⟩:=p.sz;exact⟨⟨by lia,by lia,by lia,by lia,by exact_mod_cast m,s.ww,λr c n d=>by have:=b r c n d;lia⟩,p,b⟩
noncomputable abbrev iR (R:LL0):List (List D):=R.map λr=>r.map D.int
theorem RF{R:LL0}{r:Li0}{y x:Nat}{n:Int}:(iR R).set y ((r.map D.int).set x (.int n))=iR (R.set y (r.set x n)):=by
 rw[iR,iR,List.map_set,List.map_set]
theorem RG{X:LL0}:(iR X).map D.lst=X.map il:=by rw[iR,nr];rfl
def MO:S3:=λΓ Q=>∃ (d:D),Γ=[some (.ln d)]/\Box 0 d/\∀ d',Box 200000 d'->Q (.fz (.bl true)) [some (.ln d')]
theorem BP(T:Txt K mg a)(M:MK base a):aB P w K mg base CX0 14 a.wM a.ua ["_law_box_here"] (sp3 K 1 MO):=by
 refine ok3 T.ki.F cC (hbody:=λe2 A a1 s H E f=>⟨_,_,(aj (aP (i:=1) cC.nd rfl (hE rfl) (lq (ak (by rfl) (BO T) f.dn (by rfl) T.kh.m T.kh.F.kp T.kh.b (aa (bv 0) (aa (P3.opd ag) ab)))))
   (aj (pB (is:=[2,3]) (by rfl) (Iy (by rfl) (bv 1) cI (bh (P3.opd ag))) (aD (aL (i:=2) cC.nd rfl (hE rfl)) (aD (aL (i:=3) cC.nd rfl (SF rfl)) cj)) rfl)
   (aj (aP (i:=4) cC.nd rfl (hE rfl) (lq (mD T.mk_Plan (xx T) f.dn (by rfl) T.NM T.pU.b (af (p3v 2) (af (p3v 3) (af (ba (by rfl) (bv 1) (P3.opd ag) (λ_ _=>rfl)) (af (ba (by rfl) (bv 1) (P3.opd ag) (λ_ _=>rfl)) au)))))))
   (aj (aP (i:=5) cC.nd rfl (hE rfl) (lq (ak (by rfl) (yV T) f.dn (by rfl) T.g5.m T.g5.F.kp T.g5.b (aa (bv 0) (aa (P3.opd (p3v 2)) (aa (P3.opd (p3v 3)) ab))))))
   (aj (aP (i:=6) cC.nd rfl (hE rfl) (lq (ak (by rfl) (Ar T) f.dn (by rfl) T.jm.m T.jm.F.kp T.jm.b (aa (bv 0) (aa (P3.opd (p3v 2)) (aa (P3.opd (p3v 3)) ab))))))
   (aj (bg (bV (bU (ak (by rfl) (lu T M) f.dn (by rfl) T.cb.m T.cb.F.kp T.cb.b (aa (P3.opd (p3v 4)) (aa (P3.opd (p3v 5)) (aa (P3.opd (ak (by rfl) (lA T) f.dn (by rfl) T.cf.m T.cf.F.kp T.cf.b (aa (bv 0) (aa (P3.opd (p3v 5)) (aa (P3.opd (p3v 6)) ab))))) (aa (P3.opd (p3v 6)) ab))))))) (ai (aq og)) aV)
   (aj (aP (i:=7) cC.nd rfl (hE rfl) (lq (aM (by rfl) (P3.opd (ak (by rfl) (IB T M.h) f.dn (by rfl) T.vb.m T.vb.F.kp T.vb.b (aa (P3.opd (p3v 4)) (aa (P3.opd (mD T.mk_Field (cp T) f.dn (by rfl) T.jD T.bL.b (af (ak (by rfl) (Du T) f.dn (by rfl) T.mj.m T.mj.F.kp T.mj.b (aa (bv 0) (aa (P3.opd (p3v 2)) (aa (P3.opd (p3v 3)) ab)))) au))) ab)))) T.bw T.jy (jw T) f.dn T.g7.b)))
   (aj (bg (bV (bU (ak (by rfl) (lu T M) f.dn (by rfl) T.cb.m T.cb.F.kp T.cb.b (aa (P3.opd (p3v 4)) (aa (P3.opd (p3v 7)) (aa (P3.opd (ak (by rfl) (lA T) f.dn (by rfl) T.cf.m T.cf.F.kp T.cf.b (aa (bv 0) (aa (P3.opd (p3v 7)) (aa (P3.opd (p3v 6)) ab))))) (aa (P3.opd (p3v 6)) ab))))))) (ai (aq og)) aV)
   (MY 9 9 8 (by decide) (by decide) (Nf rfl BJ) (ey (i:=8) cC.nd rfl rfl rfl (bM (by rfl) T.z_range (af (p3v 2) au)) gg (λ_ _ _ _ _=>(aY (i:=0) gg.nd rfl (hE rfl))) (λ_ _ _ _ _=>(Hl (P3.opd (cY (af ag au))) (bv 1)))) (KG rfl (bM (by rfl) T.z_range (af (p3v 2) au)) gg (λ_ _ _ _ _=>(aY (i:=0) gg.nd rfl (hE rfl))) (λ_ _ _ _ _=>(Hl (P3.opd (cY (af ag au))) (bv 1))))
   (aj (MH (bA (ba (by rfl) (bA (p3v 8)) (P3.opd (ak (by rfl) (aE T) f.dn (by rfl) T.ah.m T.ah.F.kp T.ah.b (aa (bv 0) (aa (P3.opd (p3v 2)) ab)))) (λ_ _=>rfl))) (P3.opd (ak (by rfl) (aE T) f.dn (by rfl) T.ah.m T.ah.F.kp T.ah.b (aa (bv 0) (aa (P3.opd (p3v 3)) ab)))) (aJ (P3.opd ag) (P3.opd (pE (P3.opd (ak (by rfl) (tW T) f.dn (by rfl) T.eu.m T.eu.F.kp T.eu.b (aa (bv 0) (aa (P3.opd (ak (by rfl) (aE T) f.dn (by rfl) T.ah.m T.ah.F.kp T.ah.b (aa (bv 0) (aa (P3.opd ag) ab)))) ab)))) (P3.opd (jR (v:=1000000000) (by decide +kernel) ⟨by decide,by decide,by decide⟩))))))
   (Tx (ai (aq (ak (by rfl) (lu T M) f.dn (by rfl) T.cb.m T.cb.F.kp T.cb.b (aa (P3.opd (p3v 4)) (aa (P3.opd (p3v 7)) (aa (P3.opd (ak (by rfl) (lA T) f.dn (by rfl) T.cf.m T.cf.F.kp T.cf.b (aa (bv 0) (aa (P3.opd (p3v 7)) (aa (P3.opd (p3v 8)) ab))))) (aa (P3.opd (p3v 8)) ab)))))))))))))))))),λb' Q h hl=>?_⟩)
 obtain⟨d,rfl,hb,q⟩:=h;rw[Bu];walk_at "w";refine⟨_,rfl,hb,λR h w l d1 p b1=>?_⟩;walk_at "w";obtain⟨g,rfl⟩:=YV (show 0<=h by have:=p.sz.h1;lia);obtain⟨c,rfl⟩:=YV (show 0<=w by have:=p.sz.w1;lia);have C:g<=64:=by have:=p.sz.h2;lia
 have t:c<=64:=by have:=p.sz.w2;lia
 refine⟨by decide,rfl,R,g,c,l,rfl,p.sz,p.good,p.len,?_⟩;walk_at "w";refine⟨_,_,_,_,rfl,p.sz,b1,by decide,λN d2 u bN b2=>?_⟩;rw[ky,ky] at u;walk_at "w";refine⟨_,_,_,_,rfl,p.sz,b2,by decide,λE d3 I bE b3=>?_⟩;rw[ky,ky] at I;have F:∀ r∈E,∀ n∈r,0<=n/\n<=1073741824:=λr f n g=>by have:=bE r f n g;lia
 have cN:=vP p u bN (by decide) (by decide);have cE:=vP p I F (by decide) (by decide);walk_at "w";refine⟨_,_,g,c,N,E,rfl,u,I,C,t,bN,F,b3,by decide,λZ d4 sZ bZ nZ b4=>?_⟩;have cZ:=vP p sZ bZ (by decide) (by decide);walk_at "w";refine⟨R,l,c,N,Z,E,by rw[u.hh],cN,cZ,cE,by rw[sZ.hh,u.hh],by rw[I.hh,u.hh],by rw[u.hh];exact nZ,?_⟩;walk_at "w";refine⟨_,_,_,_,rfl,p.sz,b4,by decide,λG d5 Y bG b5=>?_⟩;rw[ky,ky] at Y;have cG:=vP p Y bG (by decide) (by decide);have U:Pic a R c l G:=⟨cG.g,cG.p,cG.b⟩;obtain⟨_,gO,lO,bO⟩:=U.all;have j:Sz g c (nums a R c l G):=⟨by rw[lO,Y.hh],gO.len⟩;have cO:=vP p j bO (by decide) (by decide);walk_at "w";refine⟨c,G,rfl,cG.g,?_⟩;walk_at "w";refine⟨R,l,c,G,by rw[Y.hh],U,?_⟩;generalize nums a R c l G=O at gO lO bO j cO ⊢;walk_at "w";refine⟨by decide +kernel,c,O,rfl,gO,?_⟩;walk_at "w";refine⟨_,_,g,c,O,E,rfl,j,I,C,t,bO,F,b5,by decide,λZ2 d6 S a0 a4 b6=>?_⟩;have a7:=vP p S a0 (by decide) (by decide);walk_at "w";refine⟨R,l,c,O,Z2,E,by rw[j.hh],cO,a7,cE,by rw[S.hh,j.hh],by rw[I.hh,j.hh],by rw[j.hh];exact a4,?_⟩;walk_at "w";have c9:=p.sz.h1;have c4:=p.sz.w1;refine⟨by lia,by lia,small (by rw[bI];lia),Jf (λk ys o=>ys=iR (fC k (fC c 0))/\∃ s,o=[fo s,some (.fz (.int c))]) ⟨rfl,none,rfl⟩ ?_ ?_⟩
 .rintro k dd ys o hd hk ⟨rfl,s,rfl⟩;obtain⟨lk,rfl⟩:=dW hd;walk_at "w";refine⟨z1,by lia,by lia,by rw[hG];lia,?_,some _,rfl⟩;rw[List.replicate_succ',show (fC (c:Int).toNat [D.int 0]).flatten=(fC c (0:Int)).map D.int by rw[ky,List.map_replicate];simp];simp only[iR,gp,qq,List.map_nil]
 rintro ys o hk ⟨rfl,s,rfl⟩;rw[bI,ky];walk_at "w";refine M0 (pre:=[_,_,_,_,_,_,_,_,_]) (T:=tlE) (m:=65) rfl rfl (by decide) trivial (by rw[lM0,rk];lia) λpa qs hl=>?_;rw[lM0,rk] at hl;walk_at "w";refine⟨_,_,2,rfl,b6,by decide,by decide,by decide,λr1 d7 l1 u1 b7=>?_⟩;walk_at "w";refine⟨_,_,r1,rfl,b7,by decide,l1,by lia,λe d8 e0 e1 b8=>?_⟩;walk_at "w";have v0:=PQ e (b:=1000000000) (by decide);have v1:=Fl e (b:=1000000000) (by decide);obtain⟨v,hv,v2,v3⟩:∃ v:Int,v=1 + e % 1000000000/\0<=v/\v<=1000000000:=⟨_,rfl,by lia,by lia⟩;rw[<- hv];refine⟨by decide,Ma (pre:=[_,_,_,_,_,_,_,_,_]) rfl rfl (.inl rfl) ?_⟩;walk_at "w";refine⟨_,_,_,rfl,b8,by decide,by lia,by lia,λy d9 ly uy b9=>?_⟩;obtain⟨q0,B⟩:∃ q0,qs[y.toNat]?=some q0:=⟨_,gE0 (by lia)⟩;walk_at "w";refine de.mpr ⟨.adr q0,dA ly (by rw[cm,B];rfl),?_⟩;walk_at "w";have a5:(fC g (fC c (0:Int)))[y.toNat]?=some (fC c 0):=by rw[Xq,if_pos (by lia)]
 have V:(iR (fC g (fC c 0)))[y.toNat]?=some ((fC c (0:Int)).map D.int):=by rw[iR,cm,a5];rfl
 refine Mb (pre:=[_,_,_,_,_,_,_,_,_]) rfl rfl (.inl rfl) B V ?_;walk_at "w";refine⟨_,_,_,rfl,b9,by decide,by lia,by lia,λx c' lx ux b0=>?_⟩;walk_at "w";have e7:ixN ((fC c (0:Int)).map D.int).length x=some x.toNat:=by
  have:=N0 (n:=((fC c (0:Int)).map D.int).length) (k:=x.toNat) (by rw[lM0,rk];lia)
  rwa [Ym lx] at this
 refine L_ (pre:=[_,_,_,_,_,_,_,_,_]) rfl rfl (.inl rfl) B V rfl e7 ?_;rw[RF];have W:Sz g c ((fC g (fC c (0:Int))).set y.toNat ((fC c 0).set x.toNat v)):=⟨by rw[tr,rk],λr f=>by
  rcases Xe f with m | rfl
  .rw[(Wo.mp m).2,rk]
  .rw[tr,rk]⟩
 have bX:∀ r∈(fC g (fC c (0:Int))).set y.toNat ((fC c 0).set x.toNat v),∀ n∈r,0<=n/\n<=1073741824:=λr f n g=>by
  have z:n∈fC c (0:Int)->0<=n/\n<=1073741824:=λm=>by rw[(Wo.mp m).2];decide
  rcases Xe f with m | rfl
  .rw[(Wo.mp m).2] at g;exact z g
  .rcases Xe g with m | rfl
   .exact z m
   .lia
 have lX:qs.length=(iR ((fC g (fC c (0:Int))).set y.toNat ((fC c 0).set x.toNat v))).length:=by rw[lM0,tr,rk];exact hl
 generalize (fC g (fC c (0:Int))).set y.toNat ((fC c 0).set x.toNat v)=X at W bX lX ⊢;have cX:=vP p W bX (by decide) (by decide);walk_at "w";refine SY (wkR (i:=8) (L:=9) (pre:=[_,_,_,_,_,_,_,_,_]) rfl (by decide) rfl lX) ?_;rw[RG];walk_at "w";refine⟨_,_,g,c,O,X,rfl,j,W,C,t,bO,bX,b0,by decide,λZ3 c0 J a8 a2 a'=>?_⟩;have a6:=vP p J a8 (by decide) (by decide);walk_at "w";refine⟨R,l,c,O,Z3,X,by rw[j.hh],cO,a6,cX,by rw[J.hh,j.hh],by rw[W.hh,j.hh],by rw[j.hh];exact a2,?_⟩;walk_at "w";exact q _ (a'.up (by decide))
theorem Nx(T:Txt K mg a)(M:MK base a):aB P w K mg base CX0 15 a.Lo a.GQ ["_law_script"] (sp3 K 1 (Pa 63)):=by
 refine ok3 T.SW.F JZ (hbody:=λn A f s H E g=>⟨_,_,(aj (k_ wh rfl (bM (by rfl) T.z_range (af (av (HU rfl) (by rfl) T.z_max (by decide +kernel) (aa (P3.opd ag) (aa (P3.opd (av (HS rfl) (by rfl) T.z_min (by decide +kernel) (aa (P3.opd ag) (aa (P3.opd (av (cR (by rfl)) (by rfl) T.z_len (by decide +kernel) (aa (bv 0) ab))) ab)))) ab))) au)) (aY (i:=1) JZ.nd rfl (hE rfl))
   (ai (bg (bV (bU (Iz (by rfl) (BP T M) g.dn (by rfl) T.ki.m T.ki.F.kp T.ki.b (ak (by rfl) (ET T) g.dn (by rfl) T.oZ.m T.oZ.F.kp T.oZ.b (aa (P3.opd (ak (by rfl) (Dv T) g.dn (by rfl) T.ml.m T.ml.F.kp T.ml.b (aa (P3.opd (p3v 0)) (aa (P3.opd (p3v 1)) ab)))) ab))))) (ai (aq og)) aV)))
   (ai (aq og))),λj Q h p=>?_⟩)
 obtain⟨b,rfl,t,q⟩:=h;walk_at "w";have u:fmax 2 (fmin 6 (b.length:Int))<=6/\2<=fmax 2 (fmin 6 (b.length:Int)):=by unfold fmax fmin;split <;> split <;> lia
 refine⟨by lia,by lia,fH (λk c=>∃ e,c=[some (.fz (.scr b)),fo e]) ⟨none,rfl⟩ ?_ ?_⟩
 .rintro k d c l ⟨e,rfl⟩;obtain⟨lt,rfl⟩:=dW l;walk_at "w";refine⟨b,_,rfl,by lia,λr=>?_⟩;walk_at "w";refine⟨r,rfl,λm o=>?_⟩;walk_at "w";refine⟨m,rfl,o,λv b2=>?_⟩;walk_at "w";exact⟨some _,rfl⟩
 .rintro c ⟨e,rfl⟩;walk_at "w";exact q _
def CV (K:Fg0):Sp:=λvs H Q _=>∃ (p:Addr) (ns:Li0),vs=[.ref p]/\SqL K H p (ns.map V.int)/\ns.length<=63/\∀ H',Q (.bl true) H'
theorem Q8(T:Txt K mg a)(M:MK base a):aB P w K mg base CX0 15 a.Lo a.GQ ["_law_script"] (CV K):=Rm (Nx T M)
set_option bootstrap.genMatcherCode true in
local macro_rules | `(tactic| walk_at "bn")=>`(tactic| (intro _ _ _ _ _ _ us hl;first | (have h:=ln0 hl;subst h;rfl) | (obtain⟨_,h⟩:=ln1 hl;subst h;rfl) | (obtain⟨_,_,h⟩:=ln2 hl;subst h;rfl) | (obtain⟨_,_,_,h⟩:=ln3 hl;subst h;rfl) | (obtain⟨_,_,_,_,h⟩:=ln4 hl;subst h;rfl) | (obtain⟨_,_,_,_,_,h⟩:=ln5 hl;subst h;rfl) | (obtain⟨_,_,_,_,_,_,h⟩:=ln6 hl;subst h;rfl)))
theorem all_mk{l:XY}{mg:SV0}{fa:Addr}(X:K.In h)(G:h.Ns mainGlobals mg)(hfa:mg "law"=some (.ref fa)){O:Addr}{aw:Addr}{aG:Addr}{az:Addr}{aN:Addr}{ay:Addr}{aF:Addr}{a_:Addr}{aH:Addr}{a8:Addr}{bj:Addr}{H:Option Addr}{I:Nat}{E:Array (Option Value)}{x:Tok}{u:Tok}{cB:Addr}{g8:Option Addr}{g0:Nat}{e':Array (Option Value)}{R:Tok}{Q:Tok}{f0 f1 f2 f3 f4 f5 f6 f7 f8 f9 u6 I3 I2 u5 u4 I1 H7 H6 H5 f19 H4 H3 G' G6 f24 f25 f26 f27 f28 f29 f30 f31 f32 f33 f34 f35 f36 f37 u2 v7 v6 E' E1 f43 D' D7 f46 f47 f48 f49 f50 f51 f52 f53 f54 f55 f56 f57 f58 f59 f60 f61 f62 f63 f64 f65 f66 f67 f68 f69 f70 Z' Z0 Z9 Z8 Z7 Z6 Z5 Z4 Z3 Z2 Z1 Y' Y0 v5 Y9 v4 v3 Y8 Y7 Y6 Y5 Y4 Y3 Y2 Y1 X' X0 X9 X8 y6 y5 y4 f103:Addr}{d0 d1 d2 d3 d4 d5 d6 d7 d8 d9 d10 d11 d12 d13 d14 d15 d16 d17 d18 d19 d20 d21 d22 d23 d24 d25 d26 d27 d28 d29 d30 d31 d32 d33 d34 d35 d36 d37 d38 d39 d40 d41 d42 d43 d44 d45 d46 d47 d48 d49 d50 d51 d52 d53 d54 d55 d56 d57 d58 d59 d60 d61 d62 d63 d64 d65 d66 d67 d68 d69 d70 d71 d72 d73 d74 d75 d76 d77 d78 d79 d80 d81 d82 d83 d85 d88 d89 d90 d91 d92 d93 d94 d95 d96 d97 d98 d99 z6 y' y0 d103:ec}{W8 A6:Option Addr}{W2:Array (Option Value)}{X1 y3 y9 x' A2:Value}{iz fQ:Addr}{W7 A5:Option Addr}{W1:Array (Option Value)}{W' y2 y8 x0 A1:Value}{iA eN:Addr}{W6 A4:Option Addr}{V':Array (Option Value)}{W9 y1 y7 x7 z':Value}{kF iG:Addr}{k5:Tok}{e0:Tok}{e9:Tok}{e8:Tok}{m2:Tok}{k4:Tok}(s1:lp K mainGlobals "Field"=some (some (.ref O)))(l9:rp K O sk=true)(l0:rq K O=true)(l8:sG K O=true)(l5:ck K (.ref O) "__setattr__"=some (some (.builtin "object.__setattr__")))(r0:se K O=true)(r':mC K (.ref O)=true)(a6:lp K mainGlobals "GuessCarrier"=some (some (.ref aw)))(W:rp K aw sk=true)(a2:rq K aw=true)(V:sG K aw=true)(S:ck K (.ref aw) "__setattr__"=some (some (.builtin "object.__setattr__")))(Y:se K aw=true)(Z:mC K (.ref aw)=true)(a1:ck K (.ref aw) "__init__"=some (some (.builtin "object.__init__")))(q2:lp K mainGlobals "Guessed"=some (some (.ref aG)))(o4:rp K aG sk=true)(p':rq K aG=true)(o1:sG K aG=true)(n0:ck K (.ref aG) "__setattr__"=some (some (.builtin "object.__setattr__")))(p1:se K aG=true)(p6:mC K (.ref aG)=true)(p8:ck K (.ref aG) "__init__"=some (some (.builtin "object.__init__")))(e7:lp K mainGlobals "HalfCarrier"=some (some (.ref az)))(b5:rp K az sk=true)(c':rq K az=true)(b1:sG K az=true)(a0:ck K (.ref az) "__setattr__"=some (some (.builtin "object.__setattr__")))(b9:se K az=true)(b':mC K (.ref az)=true)(c9:ck K (.ref az) "__init__"=some (some (.builtin "object.__init__")))(r5:lp K mainGlobals "Halves"=some (some (.ref aN)))(q':rp K aN sk=true)(r4:rq K aN=true)(q0:sG K aN=true)(q7:ck K (.ref aN) "__setattr__"=some (some (.builtin "object.__setattr__")))(r1:se K aN=true)(r2:mC K (.ref aN)=true)(r3:ck K (.ref aN) "__init__"=some (some (.builtin "object.__init__")))(e6:lp K mainGlobals "LeanCarrier"=some (some (.ref ay)))(b4:rp K ay sk=true)(c0:rq K ay=true)(a':sG K ay=true)(a7:ck K (.ref ay) "__setattr__"=some (some (.builtin "object.__setattr__")))(b8:se K ay=true)(b0:mC K (.ref ay)=true)(c4:ck K (.ref ay) "__init__"=some (some (.builtin "object.__init__")))(q1:lp K mainGlobals "Leaning"=some (some (.ref aF)))(o2:rp K aF sk=true)(p9:rq K aF=true)(n':sG K aF=true)(n9:ck K (.ref aF) "__setattr__"=some (some (.builtin "object.__setattr__")))(o0:se K aF=true)(p3:mC K (.ref aF)=true)(p7:ck K (.ref aF) "__init__"=some (some (.builtin "object.__init__")))(u0:lp K mainGlobals "Plan"=some (some (.ref a_)))(t4:rp K a_ sk=true)(u1:rq K a_=true)(t1:sG K a_=true)(s9:ck K (.ref a_) "__setattr__"=some (some (.builtin "object.__setattr__")))(t6:se K a_=true)(t8:mC K (.ref a_)=true)(j0:lp K mainGlobals "SumCarrier"=some (some (.ref aH)))(g7:rp K aH sk=true)(h0:rq K aH=true)(g6:sG K aH=true)(f':ck K (.ref aH) "__setattr__"=some (some (.builtin "object.__setattr__")))(h5:se K aH=true)(h7:mC K (.ref aH)=true)(h8:ck K (.ref aH) "__init__"=some (some (.builtin "object.__init__")))(u8:lp K mainGlobals "Sums"=some (some (.ref a8)))(t2:rp K a8 sk=true)(t0:rq K a8=true)(s0:sG K a8=true)(s8:ck K (.ref a8) "__setattr__"=some (some (.builtin "object.__setattr__")))(t5:se K a8=true)(t7:mC K (.ref a8)=true)(t9:ck K (.ref a8) "__init__"=some (some (.builtin "object.__init__")))(l4:ck K (.ref O) "grid"=some none)(h4:ck K (.ref a_) "chosen"=some none)(b7:ck K (.ref a_) "corners"=some none)(b6:ck K (.ref a_) "letters"=some none)(U:lp K mainGlobals "ALONG_PILLARS"=some (some (.ref bj)))(J:K.lookup bj=some ⟨.type "tuple",H,.seq #[.str (mu "p") x,.str (mu "b") u] I,E⟩)(k':lp K mainGlobals "ALONG_ROWS"=some (some (.ref cB)))(h6:K.lookup cB=some ⟨.type "tuple",g8,.seq #[.str (mu "r") R,.str (mu "b") Q] g0,e'⟩)(U6:bq K (.type "bool") (.type "str")=some false)(P':bq K (.type "int") (.type "str")=some false)(L2:bq K (.type "NoneType") (.type "str")=some false)(J0:bq K (.type "str") (.type "str")=some true)(M2:bq K (.type "list") (.type "str")=some false)(I7:bq K (.type "tuple") (.type "str")=some false)(S6:bq K (.type "dict") (.type "str")=some false)(F0:FN K "is_whole" "is_whole" uH f0 d0)(F1:FN K "is_number" "is_number" qQ f1 d1)(F2:FN K "is_row" "is_row" vp f2 d2)(F3:FN K "are_halves" "are_halves" pb f3 d3)(F4:FN K "is_size" "is_size" xr f4 d4)(F5:FN K "is_place_within" "is_place_within" h9 f5 d5)(F6:FN K "pairs_of" "pairs_of" uF f6 d6)(F7:FN K "gaps_of" "gaps_of" sD f7 d7)(F8:FM K a8 "word" "Sums.word" qX f8 d8)(F9:FM K aG "halves" "Sums.halves" nA f9 d9)(q6:FM K aG "back" "Sums.back" qY u6 d10)(x4:FM K aN "parted" "Sums.parted" ny I3 d11)(x3:FM K aN "joined" "Sums.joined" nz I2 d12)(q5:FM K aG "sums_of" "Sums.sums_of" ij u5 d13)(q4:FM K aG "row_of" "Sums.row_of" nv u4 d14)(x2:FM K aG "sum_of_pair" "Sums.sum_of_pair" gL I1 d15)(x1:FM K aG "sum_of_lone" "Sums.sum_of_lone" gM H7 d16)(w':FM K aG "pair_of" "Sums.pair_of" kY H6 d17)(w0:FM K aG "lone_of" "Sums.lone_of" kZ H5 d18)(F19:FM K aN "word" "Halves.word" nD f19 d19)(w7:FM K aN "sum_of_pair" "Halves.sum_of_pair" fE H4 d20)(w4:FM K aN "sum_of_lone" "Halves.sum_of_lone" fF H3 d21)(w3:FM K aN "pair_of" "Halves.pair_of" i5 G' d22)(w2:FM K aN "lone_of" "Halves.lone_of" i6 G6 d23)(F24:FN K "near" "near" FU f24 d24)(F25:FN K "woven" "woven" C9 f25 d25)(F26:FN K "guesses" "guesses" sC f26 d26)(F27:FN K "lifts" "lifts" zu f27 d27)(F28:FN K "leans" "leans" zv f28 d28)(F29:FM K aG "word" "Guessed.word" k8 f29 d29)(F30:FM K aG "parted" "Guessed.parted" dR f30 d30)(F31:FM K aG "joined" "Guessed.joined" dU f31 d31)(F32:FM K aF "word" "Leaning.word" k7 f32 d32)(F33:FM K aF "parted" "Leaning.parted" fV f33 d33)(F34:FM K aF "joined" "Leaning.joined" fW f34 d34)(F35:FN K "all_rules" "all_rules" qT f35 d35)(F36:FN K "rule_of" "rule_of" xq f36 d36)(F37:FM K aH "word" "SumCarrier.word" ik f37 d37)(q3:FM K aw "carried" "SumCarrier.carried" fB u2 d38)(s5:FM K az "errors_of" "SumCarrier.errors_of" cg v7 d39)(s4:FM K aw "gap_errors" "SumCarrier.gap_errors" dQ v6 d40)(w1:FM K aw "error_of_pair" "SumCarrier.error_of_pair" c6 E' d41)(v':FM K aw "error_of_lone" "SumCarrier.error_of_lone" c7 E1 d42)(F43:FM K az "word" "HalfCarrier.word" gP f43 d43)(v0:FM K az "error_of_pair" "HalfCarrier.error_of_pair" cV D' d44)(v8:FM K az "error_of_lone" "HalfCarrier.error_of_lone" cW D7 d45)(F46:FM K aw "word" "GuessCarrier.word" gk f46 d46)(F47:FM K aw "errors_of" "GuessCarrier.errors_of" bF f47 d47)(F48:FM K ay "word" "LeanCarrier.word" gN f48 d48)(F49:FM K ay "gap_errors" "LeanCarrier.gap_errors" cF f49 d49)(F50:FN K "carrier_of" "carrier_of" o_ f50 d50)(F51:FN K "are_rows" "are_rows" kX f51 d51)(I5:FM K O "__init__" "Field.__init__" fX f52 d52)(F53:FM K O "height" "Field.height" k9 f53 d53)(F54:FM K O "width" "Field.width" nE f54 d54)(F55:FM K O "rows" "Field.rows" kr f55 d55)(F56:FM K O "flat" "Field.flat" ku f56 d56)(F57:FM K O "places" "Field.places" ip f57 d57)(F58:FM K O "is_place" "Field.is_place" i7 f58 d58)(F59:FM K O "at" "Field.at" uM f59 d59)(F60:FN K "size_of" "size_of" xp f60 d60)(F61:FN K "check_field" "check_field" m_ f61 d61)(F62:FN K "check_size" "check_size" o9 f62 d62)(F63:FN K "check_bounds" "check_bounds" kW f63 d63)(F64:FN K "check_picture" "check_picture" jN f64 d64)(F65:FN K "check_numbers" "check_numbers" jO f65 d65)(F66:FN K "can_halve" "can_halve" qS f66 d66)(F67:FN K "corners_of" "corners_of" o8 f67 d67)(I4:FM K a_ "__init__" "Plan.__init__" jP f68 d68)(F69:FM K a_ "height" "Plan.height" nB f69 d69)(F70:FM K a_ "width" "Plan.width" pv f70 d70)(F71:FM K a_ "rule" "Plan.rule" qZ Z' d71)(F72:FM K a_ "way" "Plan.way" uL Z0 d72)(F73:FM K a_ "steps" "Plan.steps" pA Z9 d73)(F74:FM K a_ "corner" "Plan.corner" nC Z8 d74)(F75:FN K "turned" "turned" vo Z7 d75)(F76:FN K "halve_row" "halve_row" qR Z6 d76)(F77:FN K "join_row" "join_row" uG Z5 d77)(F78:FN K "halve_rows" "halve_rows" kq Z4 d78)(F79:FN K "join_rows" "join_rows" mw Z3 d79)(F80:FN K "step_forth" "step_forth" o7 Z2 d80)(F81:FN K "steps_forth" "steps_forth" m9 Z1 d81)(F82:FN K "step_back" "step_back" qP Y' d82)(F83:FN K "steps_back" "steps_back" o6 Y0 d83)(a84:lp K mainGlobals "halved"=some (some (.ref v5)))(X4:K.lookup v5=some ⟨X1,W8,.func (AC "halved" "halved" (gf fA) (c5 fA) (ae fA) .none y3 y9 x' A6 (.ref iz) A2),W2⟩)(c84:WV K (.ref iz) "halved"=true)(X7:mC K (.ref v5)=true)(k_hd_halved:VX K iz fQ=true)(k_kp_halved:K.lookup fQ=none)(F85:FN K "put_back" "put_back" uE Y9 d85)(a86:lp K mainGlobals "coarse"=some (some (.ref v4)))(X3:K.lookup v4=some ⟨W',W7,.func (AC "coarse" "coarse" (gf eD) (c5 eD) (ae eD) .none y2 y8 x0 A5 (.ref iA) A1),W1⟩)(c86:WV K (.ref iA) "coarse"=true)(X6:mC K (.ref v4)=true)(k_hd_coarse:VX K iA eN=true)(k_kp_coarse:K.lookup eN=none)(a87:lp K mainGlobals "worst"=some (some (.ref v3)))(X2:K.lookup v3=some ⟨W9,W6,.func (AC "worst" "worst" (gf hZ) (c5 hZ) (ae hZ) .none y1 y7 x7 A4 (.ref kF) z'),V'⟩)(c87:WV K (.ref kF) "worst"=true)(X5:mC K (.ref v3)=true)(k_hd_worst:VX K kF iG=true)(k_kp_worst:K.lookup iG=none)(F88:FN K "_law_cell" "_law_cell" qV Y8 d88)(F89:FN K "_law_box" "_law_box" uK Y7 d89)(F90:FN K "_law_take" "_law_take" qU Y6 d90)(F91:FN K "_law_far" "_law_far" uJ Y5 d91)(F92:FN K "_law_way" "_law_way" uI Y4 d92)(F93:FN K "_law_shape" "_law_shape" pj Y3 d93)(F94:FN K "_law_value" "_law_value" ph Y2 d94)(F95:FN K "_law_rows" "_law_rows" mx Y1 d95)(F96:FN K "_law_error" "_law_error" pq X' d96)(F97:FN K "_law_errors" "_law_errors" jt X0 d97)(F98:FN K "_law_number" "_law_number" nu X9 d98)(F99:FN K "_law_numbers" "_law_numbers" ig X8 d99)(F100:FN K "_law_others" "_law_others" nk y6 z6)(F101:FN K "_law_within" "_law_within" jr y5 y')(F102:FN K "_law_right" "_law_right" h_ y4 y0)(u':FN K "law" "law" J1 f103 d103)(r:ck K (.ref az) "carried"=some (some (.ref u2)))(g:ck K (.ref az) "gap_errors"=some (some (.ref v6)))(a5:ck K (.ref aN) "halves"=some (some (.ref f9)))(j8:ck K (.ref aN) "back"=some (some (.ref u6)))(N:ck K (.ref aN) "sums_of"=some (some (.ref u5)))(a4:ck K (.ref aN) "row_of"=some (some (.ref u4)))(a:ck K (.ref ay) "error_of_pair"=some (some (.ref D')))(b:ck K (.ref ay) "error_of_lone"=some (some (.ref D7)))(o:ck K (.ref ay) "carried"=some (some (.ref u2)))(j:ck K (.ref ay) "errors_of"=some (some (.ref v7)))(m:ck K (.ref aF) "sum_of_pair"=some (some (.ref H4)))(n:ck K (.ref aF) "sum_of_lone"=some (some (.ref H3)))(C:ck K (.ref aF) "pair_of"=some (some (.ref G')))(D:ck K (.ref aF) "lone_of"=some (some (.ref G6)))(M:ck K (.ref aF) "halves"=some (some (.ref f9)))(e5:ck K (.ref aF) "back"=some (some (.ref u6)))(B:ck K (.ref aF) "sums_of"=some (some (.ref u5)))(L:ck K (.ref aF) "row_of"=some (some (.ref u4)))(t:ck K (.ref aH) "carried"=some (some (.ref u2)))(k:ck K (.ref aH) "errors_of"=some (some (.ref v7)))(i:ck K (.ref aH) "gap_errors"=some (some (.ref v6)))(d:ck K (.ref aH) "error_of_pair"=some (some (.ref E')))(f:ck K (.ref aH) "error_of_lone"=some (some (.ref E1)))(j6:ck K (.ref a8) "halves"=some (some (.ref f9)))(m5:ck K (.ref a8) "back"=some (some (.ref u6)))(i':ck K (.ref a8) "parted"=some (some (.ref I3)))(j5:ck K (.ref a8) "joined"=some (some (.ref I2)))(e1:ck K (.ref a8) "sums_of"=some (some (.ref u5)))(i0:ck K (.ref a8) "row_of"=some (some (.ref u4)))(y:ck K (.ref a8) "sum_of_pair"=some (some (.ref I1)))(A:ck K (.ref a8) "sum_of_lone"=some (some (.ref H7)))(e2:ck K (.ref a8) "pair_of"=some (some (.ref H6)))(e4:ck K (.ref a8) "lone_of"=some (some (.ref H5)))(k0:lp K mainGlobals "MOST_ERROR"=some (some (.int 1073741824 k5)))(g5:lp K mainGlobals "MOST_HALVED"=some (some (.int 1000000000 e0)))(g2:lp K mainGlobals "MOST_NUMBER"=some (some (.int 999999999999999 e9)))(g1:lp K mainGlobals "MOST_PLACES"=some (some (.int 512 e8)))(m4:lp K mainGlobals "MOST_SIDE"=some (some (.int 64 m2)))(k6:lp K mainGlobals "MOST_VALUE"=some (some (.int 100000 k4)))(r8:ck K (.ref O) "__class__"=some (some (.builtin "object.__class__")))(r7:YD K (.builtin "object.__class__") "__get__"=some (some (.builtin "getset_descriptor.__get__")))(r6:Zl K (.builtin "object.__class__")=some true)(r9:ZN K O (.type "object")=some true)(n2:bq K (.ref O) (.ref O)=some true)(n8:bq K (.type "bool") (.ref O)=some false)(n6:bq K (.type "int") (.ref O)=some false)(n4:bq K (.type "NoneType") (.ref O)=some false)(n1:bq K (.type "str") (.ref O)=some false)(n5:bq K (.type "list") (.ref O)=some false)(m':bq K (.type "tuple") (.ref O)=some false)(n7:bq K (.type "dict") (.ref O)=some false)(D3:lp K mainGlobals "abs"=some none)(C':lp K mainGlobals "all"=some none)(v2:lp K mainGlobals "bool"=some none)(l':lp K mainGlobals "enumerate"=some none)(B':lp K mainGlobals "int"=some none)(j':lp K mainGlobals "isinstance"=some none)(B0:lp K mainGlobals "len"=some none)(v1:lp K mainGlobals "list"=some none)(A':lp K mainGlobals "max"=some none)(A0:lp K mainGlobals "min"=some none)(s7:lp K mainGlobals "range"=some none)(m0:lp K mainGlobals "reversed"=some none)(A8:lp K mainGlobals "str"=some none)(s6:lp K mainGlobals "tuple"=some none)(A7:lp K mainGlobals "zip"=some none)(V8:bq K (.type "bool") (.type "bool")=some true)(V7:bq K (.type "bool") (.type "int")=some true)(U':bq K (.type "bool") (.type "list")=some false)(U5:bq K (.type "bool") (.type "tuple")=some false)(R5:bq K (.type "int") (.type "bool")=some false)(Q':bq K (.type "int") (.type "int")=some true)(Q3:bq K (.type "int") (.type "list")=some false)(O':bq K (.type "int") (.type "tuple")=some false)(L0:bq K (.type "NoneType") (.type "bool")=some false)(L6:bq K (.type "NoneType") (.type "int")=some false)(L3:bq K (.type "NoneType") (.type "list")=some false)(K':bq K (.type "NoneType") (.type "tuple")=some false)(K8:bq K (.type "str") (.type "bool")=some false)(K5:bq K (.type "str") (.type "int")=some false)(J':bq K (.type "str") (.type "list")=some false)(I':bq K (.type "str") (.type "tuple")=some false)(N':bq K (.type "list") (.type "bool")=some false)(N8:bq K (.type "list") (.type "int")=some false)(M':bq K (.type "list") (.type "list")=some true)(L':bq K (.type "list") (.type "tuple")=some false)(I0:bq K (.type "tuple") (.type "bool")=some false)(I9:bq K (.type "tuple") (.type "int")=some false)(I8:bq K (.type "tuple") (.type "list")=some false)(I6:bq K (.type "tuple") (.type "tuple")=some true)(U3:bq K (.type "dict") (.type "bool")=some false)(S':bq K (.type "dict") (.type "int")=some false)(S7:bq K (.type "dict") (.type "list")=some false)(R':bq K (.type "dict") (.type "tuple")=some false)(k_ne_coarse_worst:(eN == iG)=false)(k_ne_halved_worst:(fQ == iG)=false)(k_ne_halved_coarse:(fQ == eN)=false) :
  ∃ (fd:ec) (tabs:List (Addr×Str)),(∀ (s:Shared) (v:Value),aa8 s fd ⟨[v],[]⟩ [("_law_script",v)])/\(∀ p∈tabs,p.1∈([iG,eN,fQ]:La0)/\K.lookup p.1=none/\∃ c,XB h c p.1)/\∀ base:Heap,K.In base->base.Ns mainGlobals mg->(∀ P q,tabs.lookup P=some q->pT base P q)->aB l.prog w K mg base CX0 15 fa fd ["_law_script"] (CV K):=by
 have e:=hfa.symm.trans (nS X G u'.n);cases e;obtain⟨oc,od,kV,dc,pm,an,cd,ct,sl,rfl,lk,hc⟩:=u'.F.ex;have T:Txt K mg ⟨bj,cB,O,aw,aG,az,aN,ay,aF,a_,aH,a8,f0,d0,f1,d1,f2,d2,f3,d3,f4,d4,f5,d5,f6,d6,f7,d7,f8,d8,f9,d9,u6,d10,I3,d11,I2,d12,u5,d13,u4,d14,I1,d15,H7,d16,H6,d17,H5,d18,f19,d19,H4,d20,H3,d21,G',d22,G6,d23,f24,d24,f25,d25,f26,d26,f27,d27,f28,d28,f29,d29,f30,d30,f31,d31,f32,d32,f33,d33,f34,d34,f35,d35,f36,d36,f37,d37,u2,d38,v7,d39,v6,d40,E',d41,E1,d42,f43,d43,D',d44,D7,d45,f46,d46,f47,d47,f48,d48,f49,d49,f50,d50,f51,d51,f52,d52,f53,d53,f54,d54,f55,d55,f56,d56,f57,d57,f58,d58,f59,d59,f60,d60,f61,d61,f62,d62,f63,d63,f64,d64,f65,d65,f66,d66,f67,d67,f68,d68,f69,d69,f70,d70,Z',d71,Z0,d72,Z9,d73,Z8,d74,Z7,d75,Z6,d76,Z5,d77,Z4,d78,Z3,d79,Z2,d80,Z1,d81,Y',d82,Y0,d83,v5,AC "halved" "halved" (gf fA) (c5 fA) (ae fA) .none y3 y9 x' A6 (.ref iz) A2,Y9,d85,v4,AC "coarse" "coarse" (gf eD) (c5 eD) (ae eD) .none y2 y8 x0 A5 (.ref iA) A1,v3,AC "worst" "worst" (gf hZ) (c5 hZ) (ae hZ) .none y1 y7 x7 A4 (.ref kF) z',Y8,d88,Y7,d89,Y6,d90,Y5,d91,Y4,d92,Y3,d93,Y2,d94,Y1,d95,X',d96,X0,d97,X9,d98,X8,d99,y6,z6,y5,y',y4,y0,fa,_,kF,iG,iA,eN,iz,fQ⟩:=⟨⟨l9,l0,l8,l5⟩,
  nS X G s1,
  ⟨W,a2,V,S⟩,
  nS X G a6,
  ⟨Y,a1,Z⟩,
  ⟨o4,p',o1,n0⟩,
  nS X G q2,
  ⟨p1,p8,p6⟩,
  ⟨b5,c',b1,a0⟩,
  nS X G e7,
  ⟨b9,c9,b'⟩,
  ⟨q',r4,q0,q7⟩,
  nS X G r5,
  ⟨r1,r3,r2⟩,
  ⟨b4,c0,a',a7⟩,
  nS X G e6,
  ⟨b8,c4,b0⟩,
  ⟨o2,p9,n',n9⟩,
  nS X G q1,
  ⟨o0,p7,p3⟩,
  ⟨t4,u1,t1,s9⟩,
  nS X G u0,
  ⟨g7,h0,g6,f'⟩,
  nS X G j0,
  ⟨h5,h8,h7⟩,
  ⟨t2,t0,s0,s8⟩,
  nS X G u8,
  ⟨t5,t9,t7⟩,
  l4,
  h4,
  b7,
  b6,
  ⟨nS X G U,λF=>.inr ⟨_,_,_,J,rfl,rfl,z2,.cons ⟨_,rfl⟩ (.cons ⟨_,rfl⟩ (.nil))⟩⟩,
  ⟨nS X G k',λF=>.inr ⟨_,_,_,h6,rfl,rfl,z2,.cons ⟨_,rfl⟩ (.cons ⟨_,rfl⟩ (.nil))⟩⟩,
  ⟨U6,P',L2,J0,M2,I7,S6⟩,
  fx X G F0 (by walk_at "bn"),
  fx X G F1 (by walk_at "bn"),
  fx X G F2 (by walk_at "bn"),
  fx X G F3 (by walk_at "bn"),
  fx X G F4 (by walk_at "bn"),
  fx X G F5 (by walk_at "bn"),
  fx X G F6 (by walk_at "bn"),
  fx X G F7 (by walk_at "bn"),
  fy F8 (by walk_at "bn"),
  fy F9 (by walk_at "bn"),
  fy q6 (by walk_at "bn"),
  fy x4 (by walk_at "bn"),
  fy x3 (by walk_at "bn"),
  fy q5 (by walk_at "bn"),
  fy q4 (by walk_at "bn"),
  fy x2 (by walk_at "bn"),
  fy x1 (by walk_at "bn"),
  fy w' (by walk_at "bn"),
  fy w0 (by walk_at "bn"),
  fy F19 (by walk_at "bn"),
  fy w7 (by walk_at "bn"),
  fy w4 (by walk_at "bn"),
  fy w3 (by walk_at "bn"),
  fy w2 (by walk_at "bn"),
  fx X G F24 (by walk_at "bn"),
  fx X G F25 (by walk_at "bn"),
  fx X G F26 (by walk_at "bn"),
  fx X G F27 (by walk_at "bn"),
  fx X G F28 (by walk_at "bn"),
  fy F29 (by walk_at "bn"),
  fy F30 (by walk_at "bn"),
  fy F31 (by walk_at "bn"),
  fy F32 (by walk_at "bn"),
  fy F33 (by walk_at "bn"),
  fy F34 (by walk_at "bn"),
  fx X G F35 (by walk_at "bn"),
  fx X G F36 (by walk_at "bn"),
  fy F37 (by walk_at "bn"),
  fy q3 (by walk_at "bn"),
  fy s5 (by walk_at "bn"),
  fy s4 (by walk_at "bn"),
  fy w1 (by walk_at "bn"),
  fy v' (by walk_at "bn"),
  fy F43 (by walk_at "bn"),
  fy v0 (by walk_at "bn"),
  fy v8 (by walk_at "bn"),
  fy F46 (by walk_at "bn"),
  fy F47 (by walk_at "bn"),
  fy F48 (by walk_at "bn"),
  fy F49 (by walk_at "bn"),
  fx X G F50 (by walk_at "bn"),
  fx X G F51 (by walk_at "bn"),
  fy I5 (by walk_at "bn"),
  fy F53 (by walk_at "bn"),
  fy F54 (by walk_at "bn"),
  fy F55 (by walk_at "bn"),
  fy F56 (by walk_at "bn"),
  fy F57 (by walk_at "bn"),
  fy F58 (by walk_at "bn"),
  fy F59 (by walk_at "bn"),
  fx X G F60 (by walk_at "bn"),
  fx X G F61 (by walk_at "bn"),
  fx X G F62 (by walk_at "bn"),
  fx X G F63 (by walk_at "bn"),
  fx X G F64 (by walk_at "bn"),
  fx X G F65 (by walk_at "bn"),
  fx X G F66 (by walk_at "bn"),
  fx X G F67 (by walk_at "bn"),
  fy I4 (by walk_at "bn"),
  fy F69 (by walk_at "bn"),
  fy F70 (by walk_at "bn"),
  fy F71 (by walk_at "bn"),
  fy F72 (by walk_at "bn"),
  fy F73 (by walk_at "bn"),
  fy F74 (by walk_at "bn"),
  fx X G F75 (by walk_at "bn"),
  fx X G F76 (by walk_at "bn"),
  fx X G F77 (by walk_at "bn"),
  fx X G F78 (by walk_at "bn"),
  fx X G F79 (by walk_at "bn"),
  fx X G F80 (by walk_at "bn"),
  fx X G F81 (by walk_at "bn"),
  fx X G F82 (by walk_at "bn"),
  fx X G F83 (by walk_at "bn"),
  ⟨(rJ (st:=fA) X4 c84 X7),(rJ (st:=fA) X4 c84 X7).binds (by walk_at "bn"),nS X G a84⟩,
  rfl,
  k_hd_halved,
  fx X G F85 (by walk_at "bn"),
  ⟨(rJ (st:=eD) X3 c86 X6),(rJ (st:=eD) X3 c86 X6).binds (by walk_at "bn"),nS X G a86⟩,
  rfl,
  k_hd_coarse,
  ⟨(rJ (st:=hZ) X2 c87 X5),(rJ (st:=hZ) X2 c87 X5).binds (by walk_at "bn"),nS X G a87⟩,
  rfl,
  k_hd_worst,
  fx X G F88 (by walk_at "bn"),
  fx X G F89 (by walk_at "bn"),
  fx X G F90 (by walk_at "bn"),
  fx X G F91 (by walk_at "bn"),
  fx X G F92 (by walk_at "bn"),
  fx X G F93 (by walk_at "bn"),
  fx X G F94 (by walk_at "bn"),
  fx X G F95 (by walk_at "bn"),
  fx X G F96 (by walk_at "bn"),
  fx X G F97 (by walk_at "bn"),
  fx X G F98 (by walk_at "bn"),
  fx X G F99 (by walk_at "bn"),
  fx X G F100 (by walk_at "bn"),
  fx X G F101 (by walk_at "bn"),
  fx X G F102 (by walk_at "bn"),
  fx X G u' (by walk_at "bn"),
  ⟨r0,I5.m,I5.i,r'⟩,
  ⟨t6,I4.m,I4.i,t8⟩,
  F53.me,
  F54.me,
  F55.me,
  F56.me,
  F57.me,
  F58.me,
  F59.me,
  F46.me,
  F47.me,
  q3.me,
  s4.me,
  w1.me,
  v'.me,
  F29.me,
  F30.me,
  F31.me,
  F9.me,
  q6.me,
  q5.me,
  q4.me,
  x2.me,
  x1.me,
  w'.me,
  w0.me,
  F43.me,
  v0.me,
  v8.me,
  ⟨r,q3.i,q3.F.kp⟩,
  s5.me,
  ⟨g,s4.i,s4.F.kp⟩,
  F19.me,
  w7.me,
  w4.me,
  w3.me,
  w2.me,
  ⟨a5,F9.i,F9.F.kp⟩,
  ⟨j8,q6.i,q6.F.kp⟩,
  x4.me,
  x3.me,
  ⟨N,q5.i,q5.F.kp⟩,
  ⟨a4,q4.i,q4.F.kp⟩,
  F48.me,
  F49.me,
  ⟨a,v0.i,v0.F.kp⟩,
  ⟨b,v8.i,v8.F.kp⟩,
  ⟨o,q3.i,q3.F.kp⟩,
  ⟨j,s5.i,s5.F.kp⟩,
  F32.me,
  F33.me,
  F34.me,
  ⟨m,w7.i,w7.F.kp⟩,
  ⟨n,w4.i,w4.F.kp⟩,
  ⟨C,w3.i,w3.F.kp⟩,
  ⟨D,w2.i,w2.F.kp⟩,
  ⟨M,F9.i,F9.F.kp⟩,
  ⟨e5,q6.i,q6.F.kp⟩,
  ⟨B,q5.i,q5.F.kp⟩,
  ⟨L,q4.i,q4.F.kp⟩,
  F69.me,
  F70.me,
  F71.me,
  F72.me,
  F73.me,
  F74.me,
  F37.me,
  ⟨t,q3.i,q3.F.kp⟩,
  ⟨k,s5.i,s5.F.kp⟩,
  ⟨i,s4.i,s4.F.kp⟩,
  ⟨d,w1.i,w1.F.kp⟩,
  ⟨f,v'.i,v'.F.kp⟩,
  F8.me,
  ⟨j6,F9.i,F9.F.kp⟩,
  ⟨m5,q6.i,q6.F.kp⟩,
  ⟨i',x4.i,x4.F.kp⟩,
  ⟨j5,x3.i,x3.F.kp⟩,
  ⟨e1,q5.i,q5.F.kp⟩,
  ⟨i0,q4.i,q4.F.kp⟩,
  ⟨y,x2.i,x2.F.kp⟩,
  ⟨A,x1.i,x1.F.kp⟩,
  ⟨e2,w'.i,w'.F.kp⟩,
  ⟨e4,w0.i,w0.F.kp⟩,
  ⟨_,nS X G k0⟩,
  ⟨_,nS X G g5⟩,
  ⟨_,nS X G g2⟩,
  ⟨_,nS X G g1⟩,
  ⟨_,nS X G m4⟩,
  ⟨_,nS X G k6⟩,
  ⟨⟨l9,l0,l8,l5⟩,r8,r7,r6,r9,n2,n8,n6,n4,n1,n5,m',n7⟩,
  oD X G D3,
  oD X G C',
  oD X G v2,
  oD X G l',
  oD X G B',
  oD X G j',
  oD X G B0,
  oD X G v1,
  oD X G A',
  oD X G A0,
  oD X G s7,
  oD X G m0,
  oD X G A8,
  oD X G s6,
  oD X G A7,
  ⟨V8,V7,U',U5,R5,Q',Q3,O',L0,L6,L3,K',K8,K5,J',I',N',N8,M',L',I0,I9,I8,I6,U3,S',S7,R'⟩⟩
 exact⟨_,[(iG,mu "worst.<locals>.<lambda>"),(eN,mu "coarse.<locals>.<lambda>"),(fQ,mu "halved.<locals>.<lambda>")],λs v=>.of_eq rfl,λp hp=>(by cases hp with | head=>exact⟨.head _,k_kp_worst,_,So X k_hd_worst⟩ | tail _ z=>exact(by cases z with | head=>exact⟨.tail _ (.head _),k_kp_coarse,_,So X k_hd_coarse⟩ | tail _ z=>exact(by cases z with | head=>exact⟨.tail _ (.tail _ (.head _)),k_kp_halved,_,So X k_hd_halved⟩ | tail _ z=>exact nomatch z))),λbase _ _ hM=>Q8 T ⟨hM _ _ (by rw[fw,beq_self_eq_true]),hM _ _ (by rw[fw,k_ne_coarse_worst,fw,beq_self_eq_true]),hM _ _ (by rw[fw,k_ne_halved_worst,fw,k_ne_halved_coarse,fw,beq_self_eq_true])⟩⟩
theorem walk{l:XY}{q:Qk}{b:Ls0}{XP:(SV0)->Heap->Prop}{j:World->Heap->Prop}{d:DefRec}{K:Params->Fg0}{g:La0}(o:l.most=some 63)(e:d.params.defaults=[])(t:∀ (w:World) (h:Heap),j w h->(K w.params).In h/\∀ P∈g,h.get? P=some (ad8 #[]))(F:∀ (w:World) (mg:SV0) (i:Addr) (h:Heap),(K w.params).In h->h.Ns mainGlobals mg->mg d.name=some (.ref i)->
   ∃ (fd:ec) (tabs:List (Addr×Str)),(∀ (s:Shared) (u:Value),aa8 s fd ⟨[u],[]⟩ [("_law_script",u)])/\(∀ p∈tabs,p.1∈g/\(K w.params).lookup p.1=none/\∃ c,XB h c p.1)/\
    ∀ base:Heap,(K w.params).In base->base.Ns mainGlobals mg->(∀ P q,tabs.lookup P=some q->pT base P q)->aB l.prog w (K w.params) mg base CX0 15 i fd ["_law_script"] (CV (K w.params))) :
  ae1 q b XP j l.row.toRowW d [] (λf vs=>ad4 f vs):=
 _2.JC (n:=63) (k:=15) (x:="_law_script") (CX:=λ_=>CX0) (sp:=CV) o (by decide) e ⟨rfl,by decide,by decide,rfl⟩ t F (λ_ _ a m r _ v=>⟨a,m,rfl,v,r,λ_=>rfl⟩) λ_ _ _ _ _ z=>z
end
end _k
set_option bootstrap.genMatcherCode true in
local macro_rules | `(tactic| walk_at "fk")=>`(tactic| first | (refine' _2.FN.mk ?k1 ?k2;(case k1=>k_is);(case k2=>refine' _2.rJ ?k3 ?k4 ?k5;(case k3=>k_is);(case k4=>k_is);(case k5=>k_is))) | (refine' _2.FM.mk ?k1 ?k6 ?k2;(case k1=>k_is);(case k6=>k_is);(case k2=>refine' _2.rJ ?k3 ?k4 ?k5;(case k3=>k_is);(case k4=>k_is);(case k5=>k_is))))
open PySem PySem.W PyProof.Rows
set_option maxRecDepth 100000 in
set_option maxHeartbeats 0 in
theorem PySem.Challenge.cw_halvedpictures_k53_whole_never_beyond_th_holds : PySem.Challenge.rw_halvedpictures_k53_whole_never_beyond_th.Holds := by
 refine E53.ew53.2 ⟨?_⟩
 dsimp only [E53.ew53]
 k_fill
 refine _k.walk (l:=PySem.Challenge.rw_halvedpictures_k53_whole_never_beyond_th) rfl rfl (fun w h Y=>⟨PySem.W.km_in_of Y,PySem.W.km_tabs_of Y⟩) ?F
 case F=>
  intro w mg fa h KX G hmg
  refine' _k.all_mk KX G hmg ?aC_Field ?pg_Field ?hd_Field ?po_Field ?sa_Field ?mk_Field ?kc_Field ?aC_GuessCarrier ?pg_GuessCarrier ?hd_GuessCarrier ?po_GuessCarrier ?sa_GuessCarrier ?mk_GuessCarrier ?kc_GuessCarrier ?in_GuessCarrier ?aC_Guessed ?pg_Guessed ?hd_Guessed ?po_Guessed ?sa_Guessed ?mk_Guessed ?kc_Guessed ?in_Guessed ?aC_HalfCarrier ?pg_HalfCarrier ?hd_HalfCarrier ?po_HalfCarrier ?sa_HalfCarrier ?mk_HalfCarrier ?kc_HalfCarrier ?in_HalfCarrier ?aC_Halves ?pg_Halves ?hd_Halves ?po_Halves ?sa_Halves ?mk_Halves ?kc_Halves ?in_Halves ?aC_LeanCarrier ?pg_LeanCarrier ?hd_LeanCarrier ?po_LeanCarrier ?sa_LeanCarrier ?mk_LeanCarrier ?kc_LeanCarrier ?in_LeanCarrier ?aC_Leaning ?pg_Leaning ?hd_Leaning ?po_Leaning ?sa_Leaning ?mk_Leaning ?kc_Leaning ?in_Leaning ?aC_Plan ?pg_Plan ?hd_Plan ?po_Plan ?sa_Plan ?mk_Plan ?kc_Plan ?aC_SumCarrier ?pg_SumCarrier ?hd_SumCarrier ?po_SumCarrier ?sa_SumCarrier ?mk_SumCarrier ?kc_SumCarrier ?in_SumCarrier ?aC_Sums ?pg_Sums ?hd_Sums ?po_Sums ?sa_Sums ?mk_Sums ?kc_Sums ?in_Sums ?n_Field_grid ?n_Plan_chosen ?n_Plan_corners ?n_Plan_letters ?q_ALONG_PILLARS ?lk_ALONG_PILLARS ?q_ALONG_ROWS ?lk_ALONG_ROWS ?y_bs ?y_is ?y_ns ?y_ss ?y_ls ?y_ts ?y_ds ?F0 ?F1 ?F2 ?F3 ?F4 ?F5 ?F6 ?F7 ?F8 ?F9 ?F10 ?F11 ?F12 ?F13 ?F14 ?F15 ?F16 ?F17 ?F18 ?F19 ?F20 ?F21 ?F22 ?F23 ?F24 ?F25 ?F26 ?F27 ?F28 ?F29 ?F30 ?F31 ?F32 ?F33 ?F34 ?F35 ?F36 ?F37 ?F38 ?F39 ?F40 ?F41 ?F42 ?F43 ?F44 ?F45 ?F46 ?F47 ?F48 ?F49 ?F50 ?F51 ?F52 ?F53 ?F54 ?F55 ?F56 ?F57 ?F58 ?F59 ?F60 ?F61 ?F62 ?F63 ?F64 ?F65 ?F66 ?F67 ?F68 ?F69 ?F70 ?F71 ?F72 ?F73 ?F74 ?F75 ?F76 ?F77 ?F78 ?F79 ?F80 ?F81 ?F82 ?F83 ?a84 ?l84 ?c84 ?k84 ?k_hd_halved ?k_kp_halved ?F85 ?a86 ?l86 ?c86 ?k86 ?k_hd_coarse ?k_kp_coarse ?a87 ?l87 ?c87 ?k87 ?k_hd_worst ?k_kp_worst ?F88 ?F89 ?F90 ?F91 ?F92 ?F93 ?F94 ?F95 ?F96 ?F97 ?F98 ?F99 ?F100 ?F101 ?F102 ?F103 ?e_HalfCarrier_carried ?e_HalfCarrier_gap_errors ?e_Halves_halves ?e_Halves_back ?e_Halves_sums_of ?e_Halves_row_of ?e_LeanCarrier_error_of_pair ?e_LeanCarrier_error_of_lone ?e_LeanCarrier_carried ?e_LeanCarrier_errors_of ?e_Leaning_sum_of_pair ?e_Leaning_sum_of_lone ?e_Leaning_pair_of ?e_Leaning_lone_of ?e_Leaning_halves ?e_Leaning_back ?e_Leaning_sums_of ?e_Leaning_row_of ?e_SumCarrier_carried ?e_SumCarrier_errors_of ?e_SumCarrier_gap_errors ?e_SumCarrier_error_of_pair ?e_SumCarrier_error_of_lone ?e_Sums_halves ?e_Sums_back ?e_Sums_parted ?e_Sums_joined ?e_Sums_sums_of ?e_Sums_row_of ?e_Sums_sum_of_pair ?e_Sums_sum_of_lone ?e_Sums_pair_of ?e_Sums_lone_of ?q_MOST_ERROR ?q_MOST_HALVED ?q_MOST_NUMBER ?q_MOST_PLACES ?q_MOST_SIDE ?q_MOST_VALUE ?oc_Field ?og_Field ?ot_Field ?ob_Field ?y_oo_Field ?y_ob_Field ?y_oi_Field ?y_on_Field ?y_os_Field ?y_ol_Field ?y_ot_Field ?y_od_Field ?z_abs ?z_all ?z_bool ?z_enumerate ?z_int ?z_isinstance ?z_len ?z_list ?z_max ?z_min ?z_range ?z_reversed ?z_str ?z_tuple ?z_zip ?y_bb ?y_bi ?y_bl ?y_bt ?y_ib ?y_ii ?y_il ?y_it ?y_nb ?y_ni ?y_nl ?y_nt ?y_sb ?y_si ?y_sl ?y_st ?y_lb ?y_li ?y_ll ?y_lt ?y_tb ?y_ti ?y_tl ?y_tt ?y_db ?y_di ?y_dl ?y_dt ?k_ne_coarse_worst ?k_ne_halved_worst ?k_ne_halved_coarse
  (case aC_Field | pg_Field | hd_Field | po_Field | sa_Field | mk_Field | kc_Field | aC_GuessCarrier | pg_GuessCarrier | hd_GuessCarrier | po_GuessCarrier | sa_GuessCarrier=>k_is)
  (case mk_GuessCarrier | kc_GuessCarrier | in_GuessCarrier | aC_Guessed | pg_Guessed | hd_Guessed | po_Guessed | sa_Guessed | mk_Guessed | kc_Guessed | in_Guessed | aC_HalfCarrier=>k_is)
  (case pg_HalfCarrier | hd_HalfCarrier | po_HalfCarrier | sa_HalfCarrier | mk_HalfCarrier | kc_HalfCarrier | in_HalfCarrier | aC_Halves | pg_Halves | hd_Halves | po_Halves | sa_Halves=>k_is)
  (case mk_Halves | kc_Halves | in_Halves | aC_LeanCarrier | pg_LeanCarrier | hd_LeanCarrier | po_LeanCarrier | sa_LeanCarrier | mk_LeanCarrier | kc_LeanCarrier | in_LeanCarrier | aC_Leaning=>k_is)
  (case pg_Leaning | hd_Leaning | po_Leaning | sa_Leaning | mk_Leaning | kc_Leaning | in_Leaning | aC_Plan | pg_Plan | hd_Plan | po_Plan | sa_Plan=>k_is)
  (case mk_Plan | kc_Plan | aC_SumCarrier | pg_SumCarrier | hd_SumCarrier | po_SumCarrier | sa_SumCarrier | mk_SumCarrier | kc_SumCarrier | in_SumCarrier | aC_Sums | pg_Sums=>k_is)
  (case hd_Sums | po_Sums | sa_Sums | mk_Sums | kc_Sums | in_Sums | n_Field_grid | n_Plan_chosen | n_Plan_corners | n_Plan_letters | q_ALONG_PILLARS | lk_ALONG_PILLARS=>k_is)
  (case q_ALONG_ROWS | lk_ALONG_ROWS=>k_is)
  (case y_bs | y_is | y_ns | y_ss | y_ls | y_ts | y_ds=>kit_is)
  (case F0 | F1 | F2 | F3 | F4 | F5 | F6 | F7 | F8 | F9 | F10 | F11=>walk_at "fk")
  (case F12 | F13 | F14 | F15 | F16 | F17 | F18 | F19 | F20 | F21 | F22 | F23=>walk_at "fk")
  (case F24 | F25 | F26 | F27 | F28 | F29 | F30 | F31 | F32 | F33 | F34 | F35=>walk_at "fk")
  (case F36 | F37 | F38 | F39 | F40 | F41 | F42 | F43 | F44 | F45 | F46 | F47=>walk_at "fk")
  (case F48 | F49 | F50 | F51 | F52 | F53 | F54 | F55 | F56 | F57 | F58 | F59=>walk_at "fk")
  (case F60 | F61 | F62 | F63 | F64 | F65 | F66 | F67 | F68 | F69 | F70 | F71=>walk_at "fk")
  (case F72 | F73 | F74 | F75 | F76 | F77 | F78 | F79 | F80 | F81 | F82 | F83=>walk_at "fk")
  (case a84 | l84 | c84 | k84=>k_is)
  (case k_hd_halved | k_kp_halved=>first | k_is | kernel_rfl)
  (case F85=>walk_at "fk")
  (case a86 | l86 | c86 | k86=>k_is)
  (case k_hd_coarse | k_kp_coarse=>first | k_is | kernel_rfl)
  (case a87 | l87 | c87 | k87=>k_is)
  (case k_hd_worst | k_kp_worst=>first | k_is | kernel_rfl)
  (case F88 | F89 | F90 | F91 | F92 | F93 | F94 | F95 | F96 | F97 | F98 | F99=>walk_at "fk")
  (case F100 | F101 | F102 | F103=>walk_at "fk")
  (case e_HalfCarrier_carried | e_HalfCarrier_gap_errors | e_Halves_halves | e_Halves_back | e_Halves_sums_of | e_Halves_row_of | e_LeanCarrier_error_of_pair | e_LeanCarrier_error_of_lone | e_LeanCarrier_carried | e_LeanCarrier_errors_of | e_Leaning_sum_of_pair | e_Leaning_sum_of_lone=>k_is)
  (case e_Leaning_pair_of | e_Leaning_lone_of | e_Leaning_halves | e_Leaning_back | e_Leaning_sums_of | e_Leaning_row_of | e_SumCarrier_carried | e_SumCarrier_errors_of | e_SumCarrier_gap_errors | e_SumCarrier_error_of_pair | e_SumCarrier_error_of_lone | e_Sums_halves=>k_is)
  (case e_Sums_back | e_Sums_parted | e_Sums_joined | e_Sums_sums_of | e_Sums_row_of | e_Sums_sum_of_pair | e_Sums_sum_of_lone | e_Sums_pair_of | e_Sums_lone_of | q_MOST_ERROR | q_MOST_HALVED | q_MOST_NUMBER=>k_is)
  (case q_MOST_PLACES | q_MOST_SIDE | q_MOST_VALUE | oc_Field | og_Field | ot_Field | ob_Field=>k_is)
  (case y_oo_Field | y_ob_Field | y_oi_Field | y_on_Field | y_os_Field | y_ol_Field | y_ot_Field | y_od_Field=>kit_is)
  (case z_abs | z_all | z_bool | z_enumerate | z_int | z_isinstance | z_len | z_list | z_max | z_min | z_range | z_reversed=>k_is)
  (case z_str | z_tuple | z_zip=>k_is)
  (case y_bb | y_bi | y_bl | y_bt | y_ib | y_ii | y_il | y_it | y_nb | y_ni | y_nl | y_nt=>kit_is)
  (case y_sb | y_si | y_sl | y_st | y_lb | y_li | y_ll | y_lt | y_tb | y_ti | y_tl | y_tt=>kit_is)
  (case y_db | y_di | y_dl | y_dt=>kit_is)
  (case k_ne_coarse_worst | k_ne_halved_worst | k_ne_halved_coarse=>first | k_is | kernel_rfl)
