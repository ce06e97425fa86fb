import PyProof.Rows.All
import Wide.All
import OpenK.AllK
import Wide.FinOn
import Lean
import KE.KRevIter
import KE.KPairComp
import KE.KIntText
import PyProof.NsDelKeeps
import PyProof.NeKinds
import KE.KNestM
import KE.KLam
import OpenK.KTop
import PyProof.FactsAll.dict_1
import PyProof.FactsAll.subtypes_4
import PyProof.Rows.SetFrom
import PyProof.SetNew
import PyProof.SetRoads
import PyProof.Rows.SortRuns
import PyProof.Rows.SortIns
import PyProof.Rows.SortShell
import PyProof.Rows.SortWalk
import KE.KSortTup
import KE.KDictOf
import PyProof.AttrMissHeap
import KE.KRevIter
import PyProof.SeqI3
import PyProof.SliceList
import PyProof.ListIndex
import PyProof.SeqWrite
import PyProof.InstEq
import PyProof.TupleKey
import PyProof.IsRules
import PyProof.EqAt
import PyProof.EqKinds
import PyProof.TupleCall
import PySem.Challenge.RW_halvedpictures_k75_whole_noughts_of_risi
set_option Elab.async false
set_option linter.all false
set_option maxRecDepth 100000
open Array renaming length_toList→Ue,getElem?_eq_some_iff→Vy,toList_append→WS,size_ofFn→Ye,toList→YM
open Bool renaming and_eq_true→ng,false_ne_true→ri,false_eq_true→PF,and_false→WG,or_eq_true→Yh,false_and→Ym,or_false→YA
open False renaming elim→sr
open ForInStep renaming yield→Qi
open Int renaming toNat_natCast→ey,mul_le_mul_of_nonneg_right→tT,toNat_of_nonneg→FS,eq_ofNat_of_zero_le→SL,zero_add→Tj,natCast_mul→Ux,emod_lt_of_pos→UD,le_refl→UH,mul_le_mul_of_nonneg_left→Vh,emod_nonneg→Vn,ofNat→Vw,toNat→Vx,le_trans→XF,natCast_add→Yg,ediv_one→YN
open List renaming range→ck,getElem?_map→dV,lookup_cons→ek,length_append→el,mem_of_getElem?→fC,mem_cons→hF,size_toArray→hL,replicate→hP,mem_cons_of_mem→ic,map_append→ih,getElem?_append_left→iv,mem_append_right→ks,length_take→kv,getD_eq_getElem?_getD→lj,not_mem_nil→lp,mem_cons_self→ly,getElem?_append_right→mm,map_map→oj,take_of_length_le→oD,getElem?_eq_none→pa,mem_range→rk,length_cons→ro,getD→rp,length_range→rq,mem_map→ry,map_cons→sS,filterMap_cons→td,append_nil→tq,getElem?_replicate→tx,length_drop→wh,replicate_succ→yv,getElem?_range→yM,length_replicate→zz,mem_append_left→Bk,mem_append→Bl,getElem_of_mem→FB,nodup_cons→IR,getElem_mem→Jt,flatten_cons→KM,getElem?_zip_eq_some→Nn,length_filter_le→Np,mem_of_mem_take→Os,range_succ→OS,map_congr_left→Pg,length_set→Qh,lookup→Qx,append_assoc→Re,filter_append→To,map→Tu,length_nil→Tw,ext_getElem?→Tz,mem_flatten→TX,take_length→Ub,getElem?_eq_none_iff→Uc,flatten_append→Ui,getElem?_take_of_lt→Uu,forIn_cons→Uw,mem_filter→Uy,mem_filterMap→Uz,set_cons_succ→UC,length_singleton→UR,cons_append→Vd,all_cons→Ve,of_mem_zip→Vi,nil_append→Vj,filterMap_map→VE,getElem?_set→VO,map_drop→VT,filter_cons→Wc,getElem?_set_self→Wg,take_left'→Ws,drop_left'→Wt,take_append_drop→WA,getElem?_set_ne→WB,forIn_toArray→Xj,zip_cons_cons→Xk,mem_replicate→Xl,map_filterMap→Xo,getElem?_drop→Xp,getElem_take→XG,all_eq_true→XU,length_zip→Yd,foldl→Yq,forIn_nil→Ys,filterMap→Yt,nodup_nil→Yu,take_succ→Yx,any_cons→YB,map_take→YE,map_nil→YO,length→Zc
open List.Nodup renaming sublist→Xn
open List.Pairwise renaming nil→Zi,imp→Zj
open List.cons renaming injEq→Wr
open Nat renaming le_refl→ec,lt_of_lt_of_le→kl,ne_of_lt→ov,lt_irrefl→sk,zero_le→xt,le_trans→Ht,mul_le_mul→Lc,lt_succ_self→Py,le_of_lt→SY,min_eq_left→Tv,le_of_eq→UJ,le_of_succ_le→UN,le_of_not_lt→Vb,mul_le_mul_left→Vq,sub_self→Vs,mod_two_eq_zero_or_one→VG,lt_succ_of_lt→VN,ne_of_gt→Wh,le_succ→XY,reduceAdd→YF,reduceSub→YG,lt_or_ge→YQ,zero_add→YT
open Ne renaming symm→vk
open Option renaming isSome_iff_exists→Rw,map_id→WX,getD_none→XQ,getD_some→XR,none→Ze
open Option.some renaming inj→nS
open Or renaming inl→gs,inr→Ny
open Prod renaming ext→Zd
open PyProof.Rows renaming callWith_type1→mC,slot_tuple_getitem→OY,assignInOrder_cons→VA,AllBare→VI,subscriptTail→VP,subscriptTail_builtinR→Wk,boot_range→Xd,Subscript_→Xg,assignInOrder_nil→Xs,IntsAre→Yi
open PyProof.Rows.IsTup renaming new→YJ
open PySem renaming wpAny_bind→cc,starEach→eh,FuncData→ej,sizeLine_eq→gp,wpAny_pure→hE,sliceBounds→rx,foldedSetIterable→vl,wpAny_Call_Name_kw→vB,bootBuiltins→AC,Comprehension→Do,mem_of_lookup→Fl,wpAny_truthy_bool→Gc,wpAny_newObj_type→Jv,NameKind→KF,cellsFrom→Ln,Value→Lq,letOwnedTupleGo→MP,wpAny_holding→Nv,wpAny_field→NR,Program→OT,codeAny→Pv,compareOp→Px,wpAny_mono→Pz,assignEach→PD,wpAny_of_eq→SW,Shared→SX,standAt→SZ,wpAny_pyIter_rangeiter→Th,Addr→TC,binaryOp→TN,wpAny_standAt→Up,swapsWithSole→Uq,swappedStores→Ur,behindInMarks→Us,attributeBase→Ut,wpAny_passesOwn→Uv,keywordEach→UF,wpAny_callSpecial?_slot→UG,codeAny_mono→UL,wpAny_nextOf_list_item→UO,Str→UU,builtinsNs→UW,Expr→UX,swapsWith→UY,wpAny_call_entry→Va,sliceRange→Vc,wpAny_specialOf→Vk,wpAny_updateSeq→Vm,codeAmong→Vu,newFunctionEnv→VF,IsRangeIter→VJ,slot_list_getitem→VM,wpAny_getItem_list_slice→VQ,wpAny_comprehension_free→VU,getMethod→VV,backToKw→VX,ZipApart→VY,wpAny_pyIter_zip→VZ,compTurn→Wa,Within→Wf,wpAny_pyNext_range_end→Wi,closureFor→Wl,wpAny_execs_nil→Wn,codeAny_builtin→Wq,wpAny_pyNext_zip_item→Wx,wpAny_nextOf_list_end→Wy,builtinLookup_eq_fast→Wz,bindArgs→WD,wpAny_pyNext_zip_end→WH,wpAny_seqItems→WI,getItem→WM,slicePick→WO,callerA→WQ,assignInOrder→WT,plainId_quiet→WW,Heap→WY,wpAny_rule→Xc,wpAny_call→Xe,typeLookup→Xf,call_meets→Xi,Result→Xq,wpAny_assign_Name→Xr,wpAny_pyIter_list→Xt,BindsTo→Xz,seqIndex_neg→XA,Keyword→XB,wpAny_pyIter_enum→XC,Pos→XI,wpAny_execs_cons→XJ,lastMarks→XM,updateSeq→XT,seqIndex_of→XZ,loadIfAlive→Ya,Stmt→Yj,wpAny_Name→Yk,bindName→Yl,callWith→Yn,typeIs_int→Yp,call→Yr,TriplesOk→YH,Env→YI,compStart→YK,Builtin→YP,CmpOp→YW,Scope→YX
open PySem.Around renaming under_plainId→Vg,under→Vr,frames_deeper→WE
open PySem.Builtin renaming bitAnd→VB
open PySem.Builtin.List renaming listTooLong→SB,listExtendWith→Tx,listSameRef→VR,listItems→Wm
open PySem.Builtin.Range renaming rangeFitsLong→sT,rangeSize→UE,rangeFields→Yz
open PySem.Builtin.Slice renaming slicePlaces→PP,sliceAdjust→Ud,sliceApplied→VD,slicePartIndex→Yb,sliceFields→Yy
open PySem.Builtin.SmallTypes renaming ownedTupleIsFree→GW,nextOf→PV
open PySem.Builtin.Tuple renaming tupleExact→RM,tupleItemsOf→Yo
open PySem.Calls renaming spliced_cons→UA,spliced_nil→UK,Name_function_global→Vz
open PySem.Challenge renaming pw_halvedpictures_k75_whole_noughts_of_risi→UT
open PySem.Code renaming isGuard→Xx,isFrame→Xy,frames→Za,guards→Zb
open PySem.Data renaming fields→YY
open PySem.F renaming plain_extend_loop→Ug,slot_range_reversed→US,slot_zip_next→Vl,plainAttrs_list→Wb,slot_list_append→Wv,slot_list_extend→Ww,plain_reversed_new→WJ,entry_extend_loop→WR,args_zip_next_1→XE,entry_zip_next→XS,slot_int_rmul→Yc
open PySem.Heap renaming get?_push_of_some→cm,lt_size→hH,get?_push_size→hY,size_push→NB,get?_update_other→Pw,get?_update_self→PL,SameBut→UI,get?→YL
open PySem.Heap.IsSliceOf renaming new→Xh
open PySem.IsRange renaming new→XX
open PySem.NameKind renaming free→nr,cell→vr
open PySem.Obj renaming mapSeq→IW
open PySem.PassesOwn renaming never→tr
open PySem.PyData renaming shown→YR
open PySem.SeqAt renaming EqAt→Zg
open PySem.SeqAt.EqAt renaming same→Wd,int_str→Xa,str_int→Xb
open PySem.Str renaming ofString→lh,empty→Vv
open PySem.Value renaming ref→qq,none→TF,type→UV,str→Vt,bool→We,int→XH,float→XW,builtin→YC,bytes→YV
open PySem.W renaming kitOne→bq,findIn→ew,nsIn→jM,keepIn→ox,mg_none_of→pF,mg_of→pL,emptyDict→rd,instObj→rr,kia_one→Df,plainGet→DM,fnOf→Fk,hasDictIn→GM,makesIn→HT,plainOver→KB,codeHd_of_K→Pj,codeHdIn→SC,codeIn→TV,callWith_K→UB,cellsFrom_some→UM,CodeHd→UP,envX→UQ,OpenLaw→Vf,plainGet_of→Vo,callWith_K0→Vp,lookIn→VC,methodObj→VH,specialIn→VL,makes_of→VW,isFn→Wj,takerIn→Wo,takesIn→Wp,methodCall_KW→Wu,looks_findIn→WC,Looks→WU,mroIn→WV,callWith_F→Xm,make_core→Xu,kitx_list→Xv,kitx_dict→Xw,handedIn→XN,InitBack→XO,KeysLit→Yf,kla_fn→Yv,tabObj→Yw,WalkO→YD,FnAt→YS
open PySem.W.Looks renaming of_pure→YU,here→Zf,ld→Zk
open PySem.W.WShape renaming has→Zh
open PySem.Walks renaming range→YZ
open Sum renaming inl→WK,inr→WL
open True renaming intro→UZ
set_option bootstrap.genMatcherCode false
set_option compiler.extract_closed false
theorem wEX (h:True:=by rfl):True:=h
def wE:=wEX._auto_1
theorem wPX (h:True:=by decide):True:=h
def wP:=wPX._auto_1
theorem wTX (h:True:=by intro _;rfl):True:=h
def wT:=wTX._auto_1
theorem wq0X (h:True:=by first | exact .inl rfl | exact .inr rfl | assumption):True:=h
def wq0:=wq0X._auto_1
theorem wq1X (h:True:=by with_unfolding_all rfl):True:=h
def wq1:=wq1X._auto_1
theorem wq2X (h:True:=by first | exact gs rfl | exact Ny (gs rfl) | exact Ny (Ny rfl)):True:=h
def wq2:=wq2X._auto_1
abbrev Fg0:=PySem.W.Frag
noncomputable abbrev Pn0:=List (TC×PySem.Obj)
abbrev VS:=Lq->SX->Prop
abbrev On:=List (Option Nat)
noncomputable abbrev SV0:=UU->Option Lq
noncomputable abbrev LL0:=List (List Int)
noncomputable abbrev Li0:=List Int
abbrev La0:=List TC
noncomputable abbrev Lv0:=List Lq
noncomputable abbrev Ls0:=List UU
theorem lM0 {a c:Type}{b:List a}(f:a->c):(b.map f).length=b.length:=List.length_map f
theorem gE0 {a:Type}{l:List a}{i:Nat}(h:i<l.length):l[i]?=some l[i]:=List.getElem?_eq_getElem h
theorem gS0 {b:Type}{l:List b}{i:Nat}{a:b}(h:l[i]?=some a):∃h:i<l.length,l[i]=a:=List.getElem?_eq_some_iff.mp h
set_option genSizeOf false
variable {u:Lq}{a:TC}{P:OT}{w:PySem.World}{h h':WY}{x:UU}{g':Array PySem.GenState}{t' i:Nat}{d':PySem.Drawn}{ch:La0}{M:PySem.Model}{A:PySem.Around}{E:VS}
namespace _2
open PySem PySem.Spec PyProof.Rows
abbrev Key:=Sum Int Str
noncomputable def Ml:Key->Value->Bool
 | .inl k,v=>Value.isInt k v
 | .inr x,v=>Value.isStrOf x v
noncomputable def Tt (w:World):Key->Int
 | .inl k=>hashInt k
 | .inr x=>hashStr w x
theorem cB:∀ {k:Key} {v:Value},Ml k v=true->(∃ i t,k=WK i/\v=XH i t)\/(∃ x t,k=WL x/\v=Vt x t)
 | .inl i,v,h=>by
  obtain⟨t,e⟩:=Value.isInt_shape (k:=i) (v:=v) h;exact .inl ⟨i,t,rfl,e⟩
 | .inr x,v,h=>by
  obtain⟨t,e⟩:=Value.isStrOf_shape (x:=x) (v:=v) h;exact .inr ⟨x,t,rfl,e⟩
theorem OB(a b:Int):decide ((WK a:Key)=WK b)=(a == b):=by
 by_cases e:a=b
 .subst e;simp
 .have h:¬ (WK a:Key)=WK b:=λq=>e (Sum.inl.inj q);rw[decide_eq_false h];exact(beq_eq_false_iff_ne.mpr e).symm
theorem Oy(a b:Str):decide ((WL a:Key)=WL b)=decide (a=b):=by
 by_cases e:a=b
 .subst e;simp
 .have h:¬ (WL a:Key)=WL b:=λq=>e (Sum.inr.inj q);rw[decide_eq_false h,decide_eq_false e]
theorem OA(a:Int)(b:Str):decide ((WK a:Key)=WL b)=false:=decide_eq_false (λq=>nomatch q)
theorem Oz(a:Str)(b:Int):decide ((WL a:Key)=WK b)=false:=decide_eq_false (λq=>nomatch q)
noncomputable def Er (prog:OT)(w:World):PySem.KeyKind prog w Key where
 is:=Ml
 hash:=Tt w
 inj:=λv a b l f=>by
  rcases cB l with ⟨i,t,rfl,rfl⟩ | ⟨x,t,rfl,rfl⟩
  .rcases cB f with ⟨j,u,rfl,e⟩ | ⟨y,u,rfl,e⟩
   .injection e with c _;rw[c]
   .exact nomatch e
  .rcases cB f with ⟨j,u,rfl,e⟩ | ⟨y,u,rfl,e⟩
   .exact nomatch e
   .injection e with c _;rw[c]
 byValue:=λk v h=>by
  rcases cB h with ⟨i,t,rfl,rfl⟩ | ⟨x,t,rfl,rfl⟩ <;> rfl
 pyHash:=λd h=>by
  rcases cB d with ⟨i,t,rfl,rfl⟩ | ⟨x,t,rfl,rfl⟩
  .exact wpAny_pyHash_int h
  .exact wpAny_pyHash_str h
 eqBool:=λg d h=>by
  rcases cB g with ⟨i,t,rfl,rfl⟩ | ⟨x,t,rfl,rfl⟩
  .rcases cB d with ⟨j,u,rfl,rfl⟩ | ⟨y,u,rfl,rfl⟩
   .rw[OB] at h;exact wpAny_eqBool_int h
   .rw[OA] at h;exact Xa i t y u _ _ _ _ h
  .rcases cB d with ⟨j,u,rfl,rfl⟩ | ⟨y,u,rfl,rfl⟩
   .rw[Oz] at h;exact Xb x t j u _ _ _ _ h
   .rw[Oy] at h;exact wpAny_eqBool_str h
 «strs»:=λk x t v h=>by
  rcases cB h with ⟨i,u,rfl,e⟩ | ⟨y,u,rfl,e⟩
  .exact nomatch e
  .injection e with c _
   subst c;cases v <;> rfl
inductive V where
 | non | bl (b:Bool) | int (i:Int) | str (x:Str) | byt (b:Array UInt8) | flt (b:UInt64) | ref (a:Addr) | ty (n:String)
 deriving DecidableEq
noncomputable def RelV:V->Value->Prop
 | .non,u=>u=TF
 | .bl b,u=>u=We b
 | .int i,u=>∃ t,u=XH i t
 | .str x,u=>∃ t,u=Vt x t
 | .byt b,u=>∃ t,u=YV b t
 | .flt b,u=>∃ t,u=XW b t
 | .ref a,u=>u=qq a
 | .ty n,u=>u=UV n
noncomputable abbrev Vals:List V->Lv0->Prop:=Paired RelV
theorem Vals.length{xs:List V}{us:Lv0}(r:Vals xs us):xs.length=us.length:=Paired.length r
theorem Vals.get:∀ {xs:List V} {us:Lv0} {i:Nat} {x:V},Vals xs us->xs[i]?=some x->∃ u,us[i]?=some u/\RelV x u
 | _,_,_,_,.nil,e=>by simp at e
 | _,_,0,_,.cons r _,e=>by simp at e;subst e;exact⟨_,rfl,r⟩
 | _,_,i + 1,x,.cons _ t,e=>by
  obtain⟨u,b,a⟩:=Vals.get (i:=i) (x:=x) t (by simpa using e);exact⟨u,by simpa using b,a⟩
theorem Vals.set{x:V}(r:RelV x u):∀ {xs:List V} {us:Lv0} (i:Nat),Vals xs us->Vals (xs.set i x) (us.set i u)
 | _,_,_,.nil=>.nil
 | _,_,0,.cons _ t=>.cons r t
 | _,_,i + 1,.cons q t=>.cons q (Vals.set r i t)
theorem Vals.append:∀ {xs ys:List V} {us a:Lv0},Vals xs us->Vals ys a->Vals (xs++ys) (us++a)
 | _,_,_,_,.nil,s=>s
 | _,_,_,_,.cons r t,s=>.cons r (Vals.append t s)
theorem Vals.take:∀ {xs:List V} {us:Lv0} (n:Nat),Vals xs us->Vals (xs.take n) (us.take n)
 | _,_,0,_=>.nil
 | _,_,_ + 1,.nil=>.nil
 | _,_,n + 1,.cons r t=>.cons r (Vals.take n t)
theorem Vals.drop:∀ {xs:List V} {us:Lv0} (n:Nat),Vals xs us->Vals (xs.drop n) (us.drop n)
 | _,_,0,r=>r
 | _,_,_ + 1,.nil=>.nil
 | _,_,n + 1,.cons _ t=>Vals.drop n t
theorem Vals.none_of:∀ {xs:List V} {us:Lv0} {i:Nat},Vals xs us->xs[i]?=none->us[i]?=none:=λ{xs us i} r e=>by
 have b:=r.length;have a:xs.length<=i:=Uc.mp e;exact Uc.mpr (by lia)
noncomputable def yN:Option V->Option Value->Prop
 | some v,some u=>RelV v u
 | none,none=>True
 | _,_=>False
noncomputable def KV {a:Type}:List (a×V)->List (a×Value)->Prop:=Paired λ(p:a×V) (q:a×Value)=>p.1=q.1/\RelV p.2 q.2
noncomputable def kV:Key->V
 | .inl i=>.int i
 | .inr x=>.str x
set_option genInjectivity false in
inductive HO where
 | lst (xs:List V)
 | tup (xs:List V)
 | dK (kvs:List (Key×V)) | dT (kvs:List (List Key×V))
 | set (S:Int->Bool) (n:Nat)
 | ins (C dx:Addr) (fs:List (Str×V))
 | own (x:Addr)
 | xd (fs:List (Str×V))
 | met (f x:Addr)
 | rng (lo hi:Int)
 | frz (o:Obj) (u:HO)
 | tbl (ps:Array Value)
 | ext (φ:Heap->Prop)
 | cod (c:Addr) (q:Str)
abbrev Hp:=Addr->Option HO
def v_ (H:Hp)(v:Value)(q:Str):Prop:=∃ c a vs t b,v=.ref c/\H c=some (.frz a (.ext b))/\a.data=.fields vs/\vs[1]?=some (.str q t)
theorem v_.mono{H f:Hp}{v:Value}{q:Str}(x:v_ H v q)(i:∀ b o e,H b=some (.frz o (.ext e))->f b=some (.frz o (.ext e))):v_ f v q:=
 let ⟨c,h,g,t,e,a,b,d⟩:=x;⟨c,h,g,t,e,a,i _ _ _ b,d⟩
noncomputable def upd (H:Hp)(a:Addr)(o:HO):Hp:=λb=>if b=a then some o else H b
theorem az{H:Hp}{o:HO}:upd H a o a=some o:=by unfold upd;rw[if_pos rfl]
theorem au{H:Hp}{b:Addr}{o:HO}(h:b≠a):upd H a o b=H b:=by unfold upd;rw[if_neg h]
theorem aM{H:Hp}{b:Addr}{o:HO}(h:H a=some o)(h':H b=none):a≠b:=by
 intro e;subst e;rw[h] at h';cases h'
section
variable (P:OT)(w:World)
noncomputable def e7 (H:Hp)(h:Heap)(a:Addr):HO->Prop
 | .lst xs=>xs.length<=sizeLine/\∃ (its:Lv0) (n:Nat),Vals xs its/\h.get? a=some { cls:=.type "list",data:=.seq its.toArray n }
 | .tup xs=>xs.length<=sizeLine/\∃ its:Lv0,Vals xs its/\IsTup h a its.toArray
 | .dK kvs=>kvs.length<=sizeLine/\(a == sysModules)=false/\∃ vs,KV kvs vs/\h.DictOf (Er P w) a vs
 | .dT kvs=>kvs.length<=sizeLine/\(a == sysModules)=false/\∃ xs:List (List Key×Addr×Value),
   Paired (λ(p:List Key×V) (q:List Key×Addr×Value)=>p.1=q.1/\H q.2.1=some (.tup (p.1.map kV))/\RelV p.2 q.2.2) kvs xs/\
   ∃ o es d,h.get? a=some o/\o.ExactDict/\o.data=.dict es d/\es.toList=xs.map (entryOfKey (tupleKind (Er P w)))/\(xs.map (·.1)).Nodup
 | .set S n=>h.SetOf (intKind P w) a S n
 | .ins C dx fs=>H dx=some (.own a)/\fs.length<=1000/\dx≠a/\h.get? a=some (rr C dx)/\
   ∃ mA,h.Ns1 dx mA/\(∀ f,yN (fs.lookup f) (mA f))/\Wf mA (fs.map (·.1))
 | .own _=>∃ o,h.get? a=some o
 | .xd fs=>∃ mA,h.Ns1 a mA/\∀ f,yN (fs.lookup f) (mA f)
 | .rng lo hi=>∃ t u v,h.get? a=some { cls:=.type "range",data:=.fields #[.int lo t,.int hi u,.int 1 v] }
 | .frz o u=>h.get? a=some o/\e7 H h a u
 | .tbl ps=>∃ q t qs,ps[0]?=some (Vt q t)/\h.get? a=some { cls:=.none,data:=.fields qs }/\YH qs.toList/\∀ pos v,Vu pos qs.toList=some v->v_ H v q
 | .cod c q=>(∃ o,h.get? a=some o)/\v_ H (.ref c) q
 | .met f x=>h.get? a=some (VH (.ref f) (.ref x))
 | .ext b=>b h/\(∃ o,h.get? a=some o)/\∀ h1 h2:Heap,b h1->(∀ o,h1.get? a=some o->h2.get? a=some o)->b h2
def HOk (H:Hp)(h:Heap):Prop:=∀ a o,H a=some o->e7 P w H h a o
end
section
variable {H H':Hp}{o:HO}
theorem e7.lt(x:e7 P w H h a o):a < h.objs.size:=by
 cases o with
 | lst d=>obtain⟨_,_,_,_,e⟩:=x;exact hH e
 | tup d=>obtain⟨_,_,_,p⟩:=x;exact p.lt
 | dK b=>obtain⟨_,_,_,_,o,_,_,e,_⟩:=x;exact hH e
 | dT b=>obtain⟨_,_,_,_,o,_,_,e,_⟩:=x;exact hH e
 | set S n=>obtain⟨o,_,_,_,e,_⟩:=x;exact hH e
 | ins C m g=>obtain⟨_,_,_,e,_⟩:=x;exact hH e
 | own y=>obtain⟨_,e⟩:=x;exact hH e
 | xd g=>obtain⟨_,⟨_,_,_,e,_⟩,_⟩:=x;exact hH e
 | rng lo l=>obtain⟨_,_,_,e⟩:=x;exact hH e
 | frz k u=>obtain⟨e,_⟩:=x;exact hH e
 | tbl j=>obtain⟨_,_,_,_,e,_⟩:=x;exact hH e
 | cod c q=>obtain⟨⟨_,e⟩,_⟩:=x;exact hH e
 | met f y=>exact hH (show h.get? a=some _ from x)
 | ext i=>obtain⟨_,⟨_,e⟩,_⟩:=x;exact hH e
theorem Paired.Q_{g e:Type}{F G:g->e->Prop}:∀ {d:List g} {c:List e},Paired F d c->(∀ a b,F a b->G a b)->Paired G d c
 | _,_,.nil,_=>.nil
 | _,_,.cons r t,f=>.cons (f _ _ r) (Paired.Q_ t f)
theorem e7.Am(x:e7 P w H h a o)(k:∀ b u,(b=a\/H b=some (.own a))->h.get? b=some u->h'.get? b=some u)(L:∀ b,H b=some (.own a)->H' b=some (.own a))(K:∀ b xs,H b=some (.tup xs)->H' b=some (.tup xs))(E:∀ b o m,H b=some (.frz o (.ext m))->H' b=some (.frz o (.ext m)):=by first | exact λ_ _ _ q=>q | (intro c o u q;rw[_root_._2.au (_root_._2.aM q (by assumption))];exact q)):e7 P w H' h' a o:=by
 induction o with
 | lst xs=>obtain⟨z,l,n,r,e⟩:=x;exact⟨z,l,n,r,k _ _ (.inl rfl) e⟩
 | tup xs=>obtain⟨z,l,r,g,e,c⟩:=x;exact⟨z,l,r,g,k _ _ (.inl rfl) e,c⟩
 | dK B=>obtain⟨z,y,F,r,g,i,j,e,c⟩:=x;exact⟨z,y,F,r,g,i,j,k _ _ (.inl rfl) e,c⟩
 | dT B=>
  obtain⟨z,y,xs,r,g,i,j,e,c⟩:=x;exact⟨z,y,xs,Paired.Q_ r λp q z=>⟨z.1,K _ _ z.2.1,z.2.2⟩,g,i,j,k _ _ (.inl rfl) e,c⟩
 | set S n=>obtain⟨g,i,j,t,e,c⟩:=x;exact⟨g,i,j,t,k _ _ (.inl rfl) e,c⟩
 | ins C U M=>
  obtain⟨d,z,I,e,A,⟨s,i,j,D,c⟩,r⟩:=x;exact⟨L _ d,z,I,k _ _ (.inl rfl) e,A,⟨s,i,j,k _ _ (.inr d) D,c⟩,r⟩
 | own y=>obtain⟨g,e⟩:=x;exact⟨g,k _ _ (.inl rfl) e⟩
 | xd M=>obtain⟨A,⟨s,i,j,e,c⟩,r⟩:=x;exact⟨A,⟨s,i,j,k _ _ (.inl rfl) e,c⟩,r⟩
 | rng lo T=>obtain⟨t,u,v,e⟩:=x;exact⟨t,u,v,k _ _ (.inl rfl) e⟩
 | frz g u J=>obtain⟨e,q⟩:=x;exact⟨k _ _ (.inl rfl) e,J q⟩
 | tbl R=>obtain⟨q,t,G,Q,D,O,N⟩:=x;exact⟨q,t,G,Q,k a _ (.inl rfl) D,O,λp v r=>(N p v r).mono E⟩
 | cod c q=>obtain⟨⟨u,e⟩,y⟩:=x;exact⟨⟨u,k a _ (.inl rfl) e⟩,y.mono E⟩
 | met f y=>
  have e:h.get? a=some (VH (.ref f) (.ref y)):=x;show h'.get? a=some (VH (.ref f) (.ref y));exact k a _ (.inl rfl) e
 | ext m=>obtain⟨p,⟨o,e⟩,st⟩:=x;exact⟨st _ _ p λo q=>k _ _ (.inl rfl) q,⟨o,k _ _ (.inl rfl) e⟩,st⟩
theorem HOk.lt(x:HOk P w H h)(e:H a=some o):a < h.objs.size:=(x a o e).lt
theorem HOk.fresh(x:HOk P w H h)(e:h.objs.size<=a):H a=none:=by
 cases q:H a with
 | none=>rfl
 | some u=>exact absurd (kl (x.lt q) e) (sk _)
theorem HOk.kept(x:HOk P w H h)(k:∀ b u,h.get? b=some u->h'.get? b=some u):HOk P w H h':=λa o e=>
 (x a o e).Am (λb u _ q=>k b u q) (λ_ q=>q) λ_ _ q=>q
theorem HOk.laid(x:HOk P w H h)(k:∀ b u,h.get? b=some u->h'.get? b=some u)(i:h.objs.size<=a)(d:e7 P w (upd H a o) h' a o):HOk P w (upd H a o) h':=λb u e=>by
 have f:=x.fresh i;by_cases g:b=a
 .subst g;rw[az] at e;cases e;exact d
 .rw[au g] at e;exact(x b u e).Am (λc v _ q=>k c v q) (λc q=>by rw[au (aM q f)];exact q) λc j q=>by rw[au (aM q f)];exact q
end
def Rd (H:Hp)(a:Addr)(u:HO):Prop:=H a=some u\/∃ o,H a=some (.frz o u)
theorem Rd.ok{H:Hp}{u:HO}(r:Rd H a u)(x:HOk P w H h):e7 P w H h a u:=by
 rcases r with r | ⟨o,r⟩
 .exact x a u r
 .obtain⟨_,q⟩:=x a _ r;exact q
noncomputable def Mut:Option HO->Prop
 | some (.lst _)=>True
 | some (.dK _)=>True
 | some (.dT _)=>True
 | some (.set _ _)=>True
 | some (.ins _ _ _)=>True
 | some (.ext _)=>True
 | _=>False
section
variable {H:Hp}{x e:Addr}{o':HO}
theorem HOk.write(ok:HOk P w H h)(f:Mut (H x))(p:e=x\/H e=some (.own x))(k:∀ b u,b≠e->h.get? b=some u->h'.get? b=some u)(m:∃ u,h'.get? e=some u)(l:e7 P w (upd H x o') h' x o'):HOk P w (upd H x o') h':=λb u q=>by
 have d:∀ c y,H c=some (.own y)->c≠x:=λc y r z=>by subst z;rw[r] at f;exact f
 have g:∀ c i,H c=some (.tup i)->c≠x:=λc i r z=>by subst z;rw[r] at f;exact f
 by_cases j:b=x
 .subst j;rw[az] at q;cases q;exact l
 .rw[au j] at q;by_cases a:b=e
  .have n:H b=some (.own x):=by
    rcases p with z | z
    .exact absurd (a.trans z) j
    .rw[a];exact z
   rw[q] at n;cases n;obtain⟨v,s⟩:=m;exact⟨v,by rw[a];exact s⟩
  .refine(ok b u q).Am (λc v hc r=>k c v ?_ r) (λc r=>by rw[au (d c b r)];exact r) (λc i r=>by rw[au (g c i r)];exact r) λc o t r=>by rw[au (λz=>by subst z;rw[r] at f;exact f)];exact r
   rcases hc with rfl | hc
   .exact a
   .rintro rfl;rcases p with z | z
    .exact d c b hc z
    .rw[hc] at z;cases z;exact j rfl
end
structure Un (fs ex:La0) (H H':Hp) (h h':Heap):Prop where
 keep:∀ b o,h.get? b=some o->H b=none->b∉fs->b∉ex->h'.get? b=some o
 slot:∀ b o,h.get? b=some o->H b=none->b∈fs->b∉ex->∃ sl,h'.get? b=some { o with slots:=sl }
 free:∀ b o,h.get? b=some o->H b=none->b∉ex->H' b=none
 there:∀ b o,h.get? b=some o->b∉ex->∃ o',h'.get? b=some o'
 tups:∀ b xs,H b=some (.tup xs)->H' b=some (.tup xs)
 frzs:∀ b o u,H b=some (.frz o u)->H' b=some (.frz o u)
 tbls:∀ b ps,H b=some (.tbl ps)->∃ more,H' b=some (.tbl (ps++more))
section
variable {fs fs' ex ex':La0}{H H1 H2:Hp}{h1 h2:Heap}{x e:Addr}{o:HO}
theorem Un.any(u:Un fs ex H H1 h h1){b:Addr}{a:Obj}(q:h.get? b=some a)(n:H b=none)(c:b∉ex):∃ e,h1.get? b=some { a with slots:=e }:=by
 by_cases d:b∈fs
 .exact u.slot b a q n d c
 .exact⟨a.slots,u.keep b a q n d c⟩
theorem Un.kept(k:∀ b u,h.get? b=some u->h'.get? b=some u):Un fs ex H H h h':=
 ⟨λb a q _ _ _=>k b a q,λb a q _ _ _=>⟨a.slots,k b a q⟩,λ_ _ _ n _=>n,λb a q _=>⟨a,k b a q⟩,λ_ _ q=>q,λ_ _ _ q=>q,λ_ c q=>⟨#[],by rw[q];simp⟩⟩
theorem Un.refl:Un fs ex H H h h:=Un.kept λ_ _ q=>q
theorem Un.laid(k:∀ b u,h.get? b=some u->h'.get? b=some u)(e:h.objs.size<=a)(c:H a=none):Un fs ex H (upd H a o) h h' where
 keep:=λb u q _ _ _=>k b u q
 slot:=λb u q _ _ _=>⟨u.slots,k b u q⟩
 free:=λb u q n _=>by rw[au (ov (kl (hH q) e))];exact n
 there:=λb u q _=>⟨u,k b u q⟩
 tups:=λb d q=>by rw[au (aM q c)];exact q
 frzs:=λb u d q=>by rw[au (aM q c)];exact q
 tbls:=λb f q=>⟨#[],by rw[au (aM q c),q];simp⟩
theorem Un.write(c:Mut (H x))(m:e=x\/H e=some (.own x))(k:∀ b u,b≠e->h.get? b=some u->h'.get? b=some u)(f:∃ u,h'.get? e=some u):Un fs ex H (upd H x o) h h':=by
 have g:∀ b,H b=none->b≠x:=λb n z=>by subst z;rw[n] at c;exact c
 have i:∀ b,H b=none->b≠e:=λb n z=>by
  subst z;rcases m with r | r
  .exact g b n r
  .rw[n] at r;cases r
 have d:∀ b u,H b=some u->¬ Mut (some u)->b≠x:=λb u q l z=>by subst z;rw[q] at c;exact l c
 refine⟨λb u q n _ _=>k b u (i b n) q,λb u q n _ _=>⟨u.slots,k b u (i b n) q⟩,λb u q n _=>by rw[au (g b n)];exact n,λb u q _=>?_,
  λb j q=>by rw[au (d b _ q λz=>z)];exact q,λb u j q=>by rw[au (d b _ q λz=>z)];exact q,λb p q=>⟨#[],by rw[au (d b _ q λz=>z),q];simp⟩⟩
 by_cases a:b=e
 .subst a;exact f
 .exact⟨u,k b u a q⟩
end
structure Mod (K:Fg0) (mg:SV0) (base:Heap):Prop where
 kin:K.In base
 glob:base.Ns mainGlobals mg
 blt:∃ mb,base.Ns UW mb/\∀ x:Str,x≠"__name__"->mb x=AC x
 nolimit:base.NoLimit
 bm:∃ bm ob,mg "__builtins__"=some (.ref bm)/\bm≠UW/\base.get? bm=some ob/\ob.cls=.type "module"/\ob.dict=some UW/\ob.data=.plain
set_option genInjectivity false in
structure Cx where
 prog:OT
 w:World
 K:Fg0
 mg:Str->Option Value
 base:Heap
 A:Around
 N:Ls0
 s₀:Shared
 H₀:Hp
 env:Env
 outer:List Env
 stack:List Env
 ex:La0
 fn:Str->Bool
 calm:Bool
 pn:Pn0
 xe:Value->Shared->Prop
noncomputable def frs (l:List Env):La0:=l.filterMap (·.frame)
noncomputable abbrev Cx.fs (X:Cx):La0:=frs X.outer
def Vis (a:Scope)(x:Str):Prop:=a.names.lookup x=some .local\/a.names.lookup x=some .cell\/a.names.lookup x=some .free
def Loc (a:Scope)(x:Str):Prop:=a.names.lookup x=some .local\/a.names.lookup x=some .cell
def Look (a:Env)(h:Heap)(m:SV0)(x:Str)(u:Value):Prop:=
 (a.kindOf x=some .local/\m x=some u)\/((a.kindOf x=some .cell\/a.kindOf x=some .free)/\∃ c,a.cells.lookup x=some c/\h.IsCell c (some u))
def Kpt (H:Hp)(b:Addr)(o:Obj):Prop:=H b=none\/((∃ u,H b=some (.frz o u))/\∀ v,o.data≠.cell v)
def mQ (base:Heap)(P:Addr)(q:Str):Prop:=base.objs[P]?=some { cls:=.str q 0,data:=.freed }
def TabsAt (base:Heap)(H:Hp):Prop:=∀ P q,mQ base P q->∃ ps t,H P=some (.tbl ps)/\ps[0]?=some (.str q t)
structure Cx.Ok (X:Cx):Prop where
 mod:Mod X.K X.mg X.base
 kind:X.env.scope.kind=.function
 glob:X.env.globals=mainGlobals
 blt:X.env.builtins=UW
 above:X.s₀.heap.objs.size<=X.env.locals
 inj:∀ x y c,X.env.cells.lookup x=some c->X.env.cells.lookup y=some c->x=y
 has:∀ x,(X.env.kindOf x=some .cell\/X.env.kindOf x=some .free)->∃ c,X.env.cells.lookup x=some c
 cab:∀ x c,X.fn x=true->X.env.cells.lookup x=some c->X.s₀.heap.objs.size<=c
 hd:X.calm=true->X.A.handled=none
 frames:X.A.frames=some X.stack
 stk:X.stack=X.outer\/(X.stack=X.env::X.outer/\X.env.frame=some X.env.locals)
 exf:∀ b∈X.ex,b≠X.env.locals/\∀ x c,X.env.cells.lookup x=some c->c≠b
 bs:∀ b o,X.base.get? b=some o->X.s₀.heap.get? b=some o/\Kpt X.H₀ b o
 bsz:X.base.objs.size<=X.s₀.heap.objs.size
 noex:∀ b o,X.base.get? b=some o->b∉X.ex
 exfs:∀ b∈X.ex,b∉X.fs
 rM:X.s₀.heap.FunFrames X.base X.outer
 frf:∀ b∈X.fs,X.H₀ b=none
 tb:TabsAt X.base X.H₀
structure Inv (X:Cx) (pins:Pn0) (σ:List (Option V)) (H:Hp) (s:Shared):Prop where
 ok:X.Ok
 os:s.os=X.s₀.os
 bare:VI s.gens
 base:Un X.fs X.ex X.H₀ H X.s₀.heap s.heap
 loc:∃ m,s.heap.Ns X.env.locals m/\∀ (i:Nat) (x:Str) (v:V),X.N[i]?=some x->σ[i]?=some (some v)->Vis X.env.scope x->∃ u,RelV v u/\Look X.env s.heap m x u
 cell:∀ x c,X.env.cells.lookup x=some c->∃ v,s.heap.IsCell c v
 free:H X.env.locals=none
 freeC:∀ x c,X.env.cells.lookup x=some c->H c=none
 pin:∀ p∈X.pn++pins,s.heap.get? p.1=some p.2/\H p.1=none/\p.1≠X.env.locals/\p.1∉X.fs/\∀ v,p.2.data≠.cell v
 hok:HOk X.prog X.w H s.heap
 len:σ.length=X.N.length
section
variable {X:Cx}{pins:Pn0}{σ:List (Option V)}{H H':Hp}{s:Shared}
theorem Cx.Ok.Tc(ok:X.Ok){b:Addr}{o:Obj}(e:X.base.get? b=some o):b∉X.fs:=λa=>by
 have:=(ok.rM.mem a).1;rw[e] at this;cases this
theorem Inv.bs(I:Inv X pins σ H s):∀ b o,X.base.get? b=some o->s.heap.get? b=some o/\Kpt H b o:=λb o e=>by
 obtain⟨c,a | ⟨⟨u,a⟩,d⟩⟩:=I.ok.bs b o e
 .exact⟨I.base.keep b o c a (I.ok.Tc e) (I.ok.noex b o e),.inl (I.base.free b o c a (I.ok.noex b o e))⟩
 .have q:=I.base.frzs b o u a;obtain⟨z,_⟩:=I.hok b _ q;exact⟨z,.inr ⟨⟨u,q⟩,d⟩⟩
theorem TabsAt.un{base:Heap}{c d:La0}{H H':Hp}(x:TabsAt base H)(u:Un c d H H' h h'):TabsAt base H':=λP q r=>by
 obtain⟨b,t,f,a⟩:=x P q r;obtain⟨m,e⟩:=u.tbls P b f;exact⟨_,t,e,by rw[Array.getElem?_append_left (by obtain⟨z,_⟩:=Vy.mp a;exact z)];exact a⟩
theorem Inv.tb(I:Inv X pins σ H s):TabsAt X.base H:=I.ok.tb.un I.base
theorem Inv.bk(I:Inv X pins σ H s):∀ b o,X.base.get? b=some o->s.heap.get? b=some o:=λb o e=>(I.bs b o e).1
theorem Inv.mod(I:Inv X pins σ H s):Mod X.K X.mg X.base:=I.ok.mod
theorem Inv.kIn(I:Inv X pins σ H s):X.K.In s.heap:=I.ok.mod.kin.keeps I.bk
theorem Inv.lt(I:Inv X pins σ H s):X.env.locals < s.heap.objs.size:=let ⟨_,a,_⟩:=I.loc;a.lt
theorem Inv.sz(I:Inv X pins σ H s):X.s₀.heap.objs.size<=s.heap.objs.size:=Ht I.ok.above (SY I.lt)
theorem Inv.Tb(I:Inv X pins σ H s)(h:s.heap.objs.size<=a):a∉X.fs:=λc=>by
 obtain⟨_,o,b,_⟩:=I.ok.rM.mem c;exact absurd (kl (hH b) (Ht I.sz h)) (sk _)
theorem Inv.cne(I:Inv X pins σ H s):∀ x c,X.env.cells.lookup x=some c->c≠X.env.locals:=λx c e z=>by
 obtain⟨v,o,d,f⟩:=I.cell x c e;obtain⟨m,⟨g,h,i,a,b,_⟩,_⟩:=I.loc;rw[z,a] at d;cases d;rw[b] at f;cases f
theorem Inv.rM(I:Inv X pins σ H s):s.heap.FunFrames X.base X.outer:=by
 have all:∀ (l:List Env),(∀ b∈frs l,b∈X.fs)->X.s₀.heap.FunFrames X.base l->s.heap.FunFrames X.base l:=by
  intro l
  induction l with
  | nil=>intro _ _;trivial
  | cons p r g=>
   intro f k;obtain⟨m,⟨L,o,a,j,i,n⟩,h⟩:=k;have d:L∈X.fs:=f L (by unfold frs;rw[td,a];exact ly);obtain⟨q,e⟩:=I.base.slot L o i (I.ok.frf L d) d λz=>I.ok.exfs L z d;exact⟨m,⟨L,_,a,j,e,n⟩,g (λb c=>f b (by unfold frs;rw[td,a];exact ic _ c)) h⟩
 exact all X.outer (λ_ c=>c) I.ok.rM
theorem Inv.stack(I:Inv X pins σ H s):s.heap.FunFrames X.base X.stack:=by
 rcases I.ok.stk with e | ⟨e,b⟩
 .rw[e];exact I.rM
 .rw[e];obtain⟨m,a,_⟩:=I.loc;refine .cons (by rw[I.ok.kind];decide) b a ?_ I.rM;exact Heap.get?_none_of_le (Ht I.ok.bsz I.ok.above)
theorem Inv.xh(I:Inv X pins σ H s):∀ b∈frs X.stack,b∈X.env.locals::X.fs:=λb a=>by
 rcases I.ok.stk with e | ⟨e,c⟩
 .rw[e] at a;exact ic _ a
 .rw[e] at a;unfold frs at a;rw[td,c] at a;exact a
theorem Inv.wQ(I:Inv X pins σ H s):∀ b∈frs X.stack,H b=none:=λb hb=>by
 rcases hF.mp (I.xh b hb) with e | hb
 .rw[e];exact I.free
 .obtain⟨_,o,a,_⟩:=I.ok.rM.mem hb;exact I.base.free b o a (I.ok.frf b hb) λz=>I.ok.exfs b z hb
theorem Inv.step(I:Inv X pins σ H s)(j:∀ b∈ch,(b∈X.ex\/X.s₀.heap.objs.size<=b)/\b≠X.env.locals/\(∀ x c,X.env.cells.lookup x=some c->c≠b)/\∀ p∈X.pn++pins,p.1≠b)(h:∀ b o,b≠X.env.locals->b∉X.fs->b∉ch->s.heap.get? b=some o->H b=none->h'.get? b=some o)(A:∀ b o,b≠X.env.locals->b∈X.fs->b∉ch->s.heap.get? b=some o->H b=none->∃ M,h'.get? b=some { o with slots:=M })(f:∀ b o,b∉ch->s.heap.get? b=some o->H b=none->H' b=none)(B:∀ b o,b∉ch->s.heap.get? b=some o->∃ o',h'.get? b=some o')(E:∀ b xs,H b=some (.tup xs)->H' b=some (.tup xs))(J:∀ b o u,H b=some (.frz o u)->H' b=some (.frz o u))(F:∀ b ps,H b=some (.tbl ps)->∃ more,H' b=some (.tbl (ps++more)))(T:∀ m,s.heap.Ns X.env.locals m->h'.Ns X.env.locals m)(N:HOk X.prog X.w H' h')(Y:VI g') :
  Inv X pins σ H' { s with heap:=h',gens:=g',drawn:=d',toks:=t' }:=by
 have G:∀ b o,X.s₀.heap.get? b=some o->b≠X.env.locals:=λb o e=>ov (kl (hH e) I.ok.above);have w:∀ b o,X.s₀.heap.get? b=some o->b∉X.ex->b∉ch:=λb o e a C=>by
  rcases(j b C).1 with z | z
  .exact a z
  .exact absurd (kl (hH e) z) (sk _)
 have t:∀ x c,X.env.cells.lookup x=some c->∀ v,s.heap.IsCell c v->h'.IsCell c v:=λx c e v Z=>by
  obtain⟨o,D,O⟩:=Z;have g:c∉ch:=λz=>(j c z).2.2.1 x c e rfl;by_cases S:c∈X.fs
  .obtain⟨M,q⟩:=A c o (I.cne x c e) S g D (I.freeC x c e);exact⟨_,q,O⟩
  .exact⟨o,h c o (I.cne x c e) S g D (I.freeC x c e),O⟩
 refine⟨I.ok,I.os,Y,⟨λb o e n C a=>?_,λb o e n C a=>?_,λb o e n a=>?_,λb o e a=>?_,λb xs e=>E b xs (I.base.tups b xs e),λb o xs e=>J b o xs (I.base.frzs b o xs e),λb ps e=>?_⟩,?_,λx c e=>?_,?_,λx c e=>?_,λp R=>?_,N,I.len⟩
 .exact h b o (G b o e) C (w b o e a) (I.base.keep b o e n C a) (I.base.free b o e n a)
 .obtain⟨M,y⟩:=I.base.slot b o e n C a;obtain⟨L,K⟩:=A b _ (G b o e) C (w b o e a) y (I.base.free b o e n a);exact⟨L,K⟩
 .obtain⟨o',y⟩:=I.base.there b o e a;exact f b o' (w b o e a) y (I.base.free b o e n a)
 .obtain⟨o',y⟩:=I.base.there b o e a;exact B b o' (w b o e a) y
 .obtain⟨m1,y⟩:=I.base.tbls b ps e;obtain⟨U,K⟩:=F b _ y;exact⟨m1++U,by rw[K,Array.append_assoc]⟩
 .obtain⟨m,V,W⟩:=I.loc;refine⟨m,T m V,λi x v y K e3=>?_⟩;obtain⟨u,r,l⟩:=W i x v y K e3;refine⟨u,r,?_⟩;rcases l with l | ⟨k,c,e,z⟩
  .exact .inl l
  .exact .inr ⟨k,c,e,t x c e _ z⟩
 .obtain⟨v,z⟩:=I.cell x c e;exact⟨v,t x c e v z⟩
 .obtain⟨m,⟨o,_,_,D,_⟩,_⟩:=I.loc;exact f _ o (λz=>(j _ z).2.1 rfl) D I.free
 .obtain⟨v,o,D,O⟩:=I.cell x c e;exact f c o (λz=>(j c z).2.2.1 x c e rfl) D (I.freeC x c e)
 .obtain⟨e,n,Q,P,d⟩:=I.pin p R;have g:p.1∉ch:=λz=>(j p.1 z).2.2.2 p R rfl;exact⟨h p.1 p.2 Q P g e n,f p.1 p.2 g e n,Q,P,d⟩
theorem Inv.un(I:Inv X pins σ H s)(u:Un X.fs [] H H' s.heap h')(c:HOk X.prog X.w H' h'):Inv X pins σ H' { s with heap:=h',toks:=t' }:=by
 obtain⟨m,⟨o,t,v,h,r⟩,_⟩:=id I.loc;obtain⟨l,k⟩:=u.any h I.free (by simp);exact I.step (g':=s.gens) (d':=s.drawn) (ch:=[]) (λ_ z=>nomatch z) (λb o _ d _ e n=>u.keep b o e n d (by simp)) (λb o _ d _ e n=>u.slot b o e n d (by simp)) (λb o _ e n=>u.free b o e n (by simp)) (λb o _ e=>u.there b o e (by simp)) u.tups u.frzs u.tbls (λq j=>by
  obtain⟨p,f,g,a,i⟩:=j;rw[h] at a;cases a;exact⟨_,f,g,k,i⟩) c I.bare
theorem Inv.call(I:Inv X pins σ H s)(u:Un (frs X.stack) ch H H' s.heap h')(g:HOk X.prog X.w H' h')(t:VI g')(f:∀ b∈ch,(b∈X.ex\/X.s₀.heap.objs.size<=b)/\b≠X.env.locals/\(∀ x c,X.env.cells.lookup x=some c->c≠b)/\∀ p∈X.pn++pins,p.1≠b) :
  Inv X pins σ H' { s with heap:=h',gens:=g',drawn:=d',toks:=t' }:=by
 obtain⟨m,⟨o,B,C,k,r⟩,_⟩:=id I.loc;obtain⟨w,h⟩:=u.any k I.free λz=>(f _ z).2.1 rfl;exact I.step (ch:=ch) f (λb o h v a e n=>u.keep b o e n (λz=>(hF.mp (I.xh b z)).elim h v) a) (λb o _ _ a e n=>u.any e n a) (λb o a e n=>u.free b o e n a) (λb o a e=>u.there b o e a) u.tups u.frzs u.tbls (λA q=>by
  obtain⟨y,i,j,d,l⟩:=q;rw[k] at d;cases d;exact⟨_,i,j,h,l⟩) g t
theorem Inv.turned{it:Addr}(I:Inv X pins σ H s)(k:∀ b o,b≠it->s.heap.get? b=some o->h'.get? b=some o)(h:H it=none)(f:it≠X.env.locals)(w:it∈X.ex\/X.s₀.heap.objs.size<=it)(t:∀ x c,X.env.cells.lookup x=some c->c≠it)(l:∀ p∈X.pn++pins,p.1≠it):Inv X pins σ H { s with heap:=h',toks:=t' }:=by
 have d:∀ b u,H b=some u->b≠it:=λb u e z=>by rw[z,h] at e;cases e
 refine I.step (g':=s.gens) (d':=s.drawn) (ch:=[it]) (λb j=>?_) (λb o _ _ a e _=>k b o (λz=>a (by simp [z])) e) (λb o _ _ a e _=>⟨o.slots,k b o (λz=>a (by simp [z])) e⟩) (λ_ _ _ _ n=>n)
  (λb o a e=>⟨o,k b o (λz=>a (by simp [z])) e⟩) (λ_ _ e=>e) (λ_ _ _ e=>e) (λb B e=>⟨#[],by rw[e];simp⟩) (λm i=>?_) (λb u e=>?_) I.bare
 .have e:b=it:=by simpa using j
  subst e;exact⟨w,f,t,l⟩
 .obtain⟨o,y,A,g,r⟩:=i;exact⟨o,y,A,k _ o (vk f) g,r⟩
 .refine(I.hok b u e).Am (λc v a q=>k c v ?_ q) (λ_ q=>q) λ_ _ q=>q;rcases a with z | z
  .rw[z];exact d b u e
  .exact d c _ z
theorem Inv.tok(I:Inv X pins σ H s)(t:Nat):Inv X pins σ H { s with toks:=t }:=I.un (h':=s.heap) (t':=t) Un.refl I.hok
theorem Inv.kept(I:Inv X pins σ H s)(k:∀ b u,s.heap.get? b=some u->h'.get? b=some u):Inv X pins σ H { s with heap:=h',toks:=t' }:=I.un (Un.kept k) (I.hok.kept k)
theorem Inv.laid{o:HO}(I:Inv X pins σ H s)(k:∀ b u,s.heap.get? b=some u->h'.get? b=some u)(d:s.heap.objs.size<=a)(c:e7 X.prog X.w (upd H a o) h' a o) :
  Inv X pins σ (upd H a o) { s with heap:=h',toks:=t' }:=I.un (Un.laid k d (I.hok.fresh d)) (I.hok.laid k d c)
theorem Inv.write{x e:Addr}{o:HO}(I:Inv X pins σ H s)(d:Mut (H x))(f:e=x\/H e=some (.own x))(k:∀ b u,b≠e->s.heap.get? b=some u->h'.get? b=some u)(a:∃ u,h'.get? e=some u)(c:e7 X.prog X.w (upd H x o) h' x o):Inv X pins σ (upd H x o) { s with heap:=h',toks:=t' }:=I.un (Un.write d f k a) (I.hok.write d f k a c)
theorem Inv.sv{a:Pn0}(I:Inv X pins σ H s)(h:∀ p∈a,s.heap.get? p.1=some p.2/\H p.1=none/\p.1≠X.env.locals/\p.1∉X.fs/\∀ v,p.2.data≠.cell v):Inv X a σ H s:=
 ⟨I.ok,I.os,I.bare,I.base,I.loc,I.cell,I.free,I.freeC,λp b=>(Bl.mp b).elim (λz=>I.pin p (Bk _ z)) (h p),I.hok,I.len⟩
theorem B8{N:Ls0}(c:N.Nodup){j:Nat}(a:N[i]?=some x)(b:N[j]?=some x):i=j:=by
 obtain⟨g,e⟩:=gS0 a;obtain⟨f,d⟩:=gS0 b;exact(List.getElem_inj c).mp (e.trans d.symm)
theorem zr{v:V}{Q:Unit->Shared->Prop}(I:Inv X pins σ H s)(hN:X.N.Nodup)(N:X.N[i]?=some x)(t:Loc X.env.scope x)(r:RelV v u)(h:∀ s',Inv X pins (σ.set i (some v)) H s'->(∃ a,UI a s.heap s'.heap/\(a=X.env.locals\/X.env.cells.lookup x=some a))->Q () s')(hf:autoParam (X.fn x=true\/X.env.scope.names.lookup x=some .local) wq0):wpAny M A (storeName X.env x u) Q E s:=by
 obtain⟨m,hn,hl⟩:=id I.loc;have O:(X.env.scope.kind == .class || (X.env.scope.kind == .module && X.env.locals != X.env.globals))=false:=by rw[I.ok.kind];rfl
 have C:i < σ.length:=by rw[I.len];exact(gS0 N).1
 have J:=I.cne;have g:∀ {a:Addr} {h':Heap},(∃ o,s.heap.get? a=some o/\H a=none)->UI a s.heap h'->HOk X.prog X.w H h':=λ{a h'} ha f b ob e=>by
  obtain⟨_,_,w⟩:=ha;refine(I.hok b ob e).Am (λc S hc q=>(f.2 c ?_).trans q) (λ_ q=>q) λ_ _ q=>q;rintro rfl;rcases hc with rfl | hc
  .rw[w] at e;cases e
  .rw[w] at hc;cases hc
 rcases t with hk | hk
 .refine wpAny_storeName_local hk hn (λh' a2 f=>?_) O;obtain⟨oL,_,_,a1,_⟩:=id hn;refine h _ ⟨I.ok,I.os,I.bare,⟨λb o e n G t=>?_,λb o e n G t=>?_,I.base.free,λb o e t=>?_,I.base.tups,I.base.frzs,I.base.tbls⟩,⟨_,a2,λj y W l B e3=>?_⟩,λy c e=>?_,I.free,I.freeC,λp hp=>?_,g ⟨oL,a1,I.free⟩ f,by simpa using I.len⟩ ⟨_,f,.inl rfl⟩
  .exact(f.2 b (ov (kl (hH e) I.ok.above))).trans (I.base.keep b o e n G t)
  .obtain⟨Z,l⟩:=I.base.slot b o e n G t;exact⟨Z,(f.2 b (ov (kl (hH e) I.ok.above))).trans l⟩
  .obtain⟨o',l⟩:=I.base.there b o e t;exact⟨o',(f.2 b (ov (kl (hH e) I.ok.above))).trans l⟩
  .by_cases D:j=i
   .subst D;rw[N] at l;cases l;rw[Wg C] at B;cases B;exact⟨u,r,.inl ⟨hk,by simp⟩⟩
   .rw[WB (vk D)] at B;obtain⟨Y,r',q⟩:=hl j y W l B e3;refine⟨Y,r',?_⟩;rcases q with ⟨k,e⟩ | ⟨k,c,e,z⟩
    .refine .inl ⟨k,?_⟩;have:y≠x:=λe=>D (B8 hN l (e ▸ N));simp [this,e]
    .exact .inr ⟨k,c,e,z.sameBut f (J y c e)⟩
  .obtain⟨S,z⟩:=I.cell y c e;exact⟨S,z.sameBut f (J y c e)⟩
  .obtain⟨e,n,T,nf,d⟩:=I.pin p hp;exact⟨(f.2 p.1 T).trans e,n,T,nf,d⟩
 .have F:X.fn x=true:=by
   rcases hf with z | z
   .exact z
   .rw[z] at hk;cases hk
  obtain⟨c,hc⟩:=I.ok.has x (.inl hk);obtain⟨S,z⟩:=I.cell x c hc;refine wpAny_storeName_cell I.ok.kind hk hc z (λh' R f=>?_);obtain⟨oc,L,K⟩:=id z;refine h { s with heap:=h' } ⟨I.ok,I.os,I.bare,⟨λb o e n G t=>?_,λb o e n G t=>?_,I.base.free,λb o e t=>?_,I.base.tups,I.base.frzs,I.base.tbls⟩,⟨m,hn.sameBut f (vk (J x c hc)),λj y W l B e3=>?_⟩,λy U e=>?_,I.free,I.freeC,λp hp=>?_,g ⟨oc,L,I.freeC x c hc⟩ f,by simpa using I.len⟩ ⟨c,f,.inr hc⟩
  .exact(f.2 b (ov (kl (hH e) (I.ok.cab x c F hc)))).trans (I.base.keep b o e n G t)
  .obtain⟨Z,l⟩:=I.base.slot b o e n G t;exact⟨Z,(f.2 b (ov (kl (hH e) (I.ok.cab x c F hc)))).trans l⟩
  .obtain⟨o',l⟩:=I.base.there b o e t;exact⟨o',(f.2 b (ov (kl (hH e) (I.ok.cab x c F hc)))).trans l⟩
  .by_cases D:j=i
   .subst D;rw[N] at l;cases l;rw[Wg C] at B;cases B;exact⟨u,r,.inr ⟨.inl hk,c,hc,R⟩⟩
   .rw[WB (vk D)] at B;obtain⟨Y,r',q⟩:=hl j y W l B e3;refine⟨Y,r',?_⟩;rcases q with q | ⟨k,U,e,z'⟩
    .exact .inl q
    .refine .inr ⟨k,U,e,z'.sameBut f ?_⟩;rintro rfl;exact D (B8 hN l (I.ok.inj _ _ _ e hc ▸ N))
  .by_cases P:U=c
   .subst P;exact⟨_,R⟩
   .obtain⟨w2,z2⟩:=I.cell y U e;exact⟨w2,z2.sameBut f P⟩
  .obtain⟨e,n,T,nf,d⟩:=I.pin p hp;refine⟨(f.2 p.1 ?_).trans e,n,T,nf,d⟩;intro q;rw[q,L] at e;have q':oc=p.2:=nS e;exact d S (by rw[<- q'];exact K)
theorem rY{v:V}{Q:Unit->Shared->Prop}(I:Inv X pins σ H s)(d:X.N.Nodup)(b:X.N[i]?=some x)(a:Loc X.env.scope x)(r:RelV v u)(h:∀ s',Inv X pins (σ.set i (some v)) H s'->Q () s')(c:autoParam (X.fn x=true\/X.env.scope.names.lookup x=some .local) wq0):wpAny M A (storeName X.env x u) Q E s:=
 zr I d b a r (λs' e _=>h s' e) c
theorem Inv.Ss{s':Shared}(I:Inv X pins σ H s)(g:s'.os=s.os)(u:Un (frs X.stack) ch H H' s.heap s'.heap)(a:HOk X.prog X.w H' s'.heap)(h:VI s'.gens)(d:∀ b∈ch,(b∈X.ex\/X.s₀.heap.objs.size<=b)/\b≠X.env.locals/\(∀ x c,X.env.cells.lookup x=some c->c≠b)/\∀ p∈X.pn++pins,p.1≠b):Inv X pins σ H' s':=by
 obtain⟨i,g',d',t',f⟩:=s';have e:f=s.os:=g;subst e;exact I.call (g':=g') (t':=t') (d':=d') u a h d
end
abbrev XK:=Value->Option Addr->Hp->Prop
abbrev St:=List (Option V)
abbrev VK:=V->Hp->Prop
abbrev TE:=St->Hp->VK->Prop
abbrev TT:=St->Hp->(Bool->Hp->Prop)->Prop
abbrev TA:=St->Hp->(List V->Hp->Prop)->Prop
set_option genInjectivity false in
structure Ends where
 nx:St->Hp->Prop
 rt:VK
 bk:St->Hp->Prop:=λ_ _=>False
 ct:St->Hp->Prop:=λ_ _=>False
abbrev TS:=Ends->St->Hp->Prop
variable {X:_2.Cx}{e a tg l:UX}{t:_2.TA}{pos p:XI}{σ:_2.St}{H:_2.Hp}{Q:Lq×Lv0->SX->Prop}{v y:_2.V}{ta te:_2.TE}{K:Fg0}{s':SX}{es:List UX}{k n:Nat}{o:Option Lq}{vs:List _2.V}{fp:La0}{body:List Yj}{R:Xq->SX->Prop}{op:YW}{r:List _2.V->_2.Hp->_2.VK->Prop}{C dx f:TC}{g:Int->Int->Int}{us:Lv0}{prog:OT}{name m qual:UU}{kw:List (UU×Lq)}{base:WY}{fd:ej}{ps:Ls0}{outer:List YI}{gV:List _2.V->List _2.V->List _2.V}{scope:YX}{osl:Array (Option Lq)}
def EP (X:Cx)(a:Pn0)(σ:St)(Q:VK)(u:Value)(b:Shared):Prop:=∃ v H',Inv X a σ H' b/\RelV v u/\Q v H'
def TP (X:Cx)(a:Pn0)(σ:St)(Q:Bool->Hp->Prop)(b:Bool)(c:Shared):Prop:=∃ H',Inv X a σ H' c/\Q b H'
def AP (X:Cx)(a:Pn0)(σ:St)(Q:List V->Hp->Prop)(us:Lv0)(b:Shared):Prop:=∃ vs H',Inv X a σ H' b/\Vals vs us/\Q vs H'
def SP (X:Cx)(a:Pn0)(D:Ends)(f:Flow)(b:Shared):Prop:=
 match f with
 | .next=>∃ σ' H',Inv X a σ' H' b/\D.nx σ' H'
 | .brk=>∃ σ' H',Inv X a σ' H' b/\D.bk σ' H'
 | .cont=>∃ σ' H',Inv X a σ' H' b/\D.ct σ' H'
 | .ret u=>∃ v σ' H',Inv X a σ' H' b/\RelV v u/\D.rt v H'
def PE (X:Cx)(e:Expr)(t:TE):Prop:=
 ∀ (pins:Pn0) (s:Shared) (σ:St) (H:Hp) (Q:VK),Inv X pins σ H s->t σ H Q->wpAny (model X.prog X.w) X.A (eval e X.env) (EP X pins σ Q) X.xe s
def PT (X:Cx)(e:Expr)(t:TT):Prop:=
 ∀ (pins:Pn0) (s:Shared) (σ:St) (H:Hp) (Q:Bool->Hp->Prop),Inv X pins σ H s->t σ H Q->wpAny (model X.prog X.w) X.A (isTrue e X.env (eval e X.env)) (TP X pins σ Q) X.xe s
def PW (X:Cx)(e:Expr)(t:TT):Prop:=
 ∀ (a:Sem Value) (pins:Pn0) (s:Shared) (σ:St) (H:Hp) (Q:Bool->Hp->Prop),Inv X pins σ H s->t σ H Q->wpAny (model X.prog X.w) X.A (isTrue e X.env a) (TP X pins σ Q) X.xe s
theorem PW.pt{t:TT}(h:PW X e t):PT X e t:=h _
def PA (X:Cx)(a:List Expr)(t:TA):Prop:=
 ∀ (pos:Pos) (pins:Pn0) (s:Shared) (σ:St) (H:Hp) (Q:List V->Hp->Prop),Inv X pins σ H s->t σ H Q->wpAny (model X.prog X.w) X.A (spliced (backTo pos (eh a X.env))) (AP X pins σ Q) X.xe s
def PS (X:Cx)(st:Stmt)(t:TS):Prop:=
 ∀ (pins:Pn0) (s:Shared) (σ:St) (H:Hp) (D:Ends),Inv X pins σ H s->t D σ H->wpAny (model X.prog X.w) X.A (exec st X.env) (SP X pins D) X.xe s
def PSs (X:Cx)(st:List Stmt)(t:TS):Prop:=
 ∀ (pins:Pn0) (s:Shared) (σ:St) (H:Hp) (D:Ends),Inv X pins σ H s->t D σ H->wpAny (model X.prog X.w) X.A (execs st X.env) (SP X pins D) X.xe s
theorem thn{b:Type}{t:Sem b}{Q c:b->Shared->Prop}{s:Shared}(h:wpAny M A t Q E s)(d:∀ a s,Q a s->c a s):wpAny M A t c E s:=Pz h d λ_ _ x=>x
section
def jj (i:Nat):TE:=λσ H Q=>∃ v,σ[i]?=some (some v)/\Q v H
def tC (v:V):TE:=λ_ H Q=>Q v H
theorem xH(q:X.N[i]?=some x)(k:Vis X.env.scope x)(d:autoParam ((x == ("__debug__":Str))=false) wP)(f:autoParam ((x == ("__classdict__":Str))=false) wP):PE X (.Name x pos) (jj i):=by
 intro b s j H Q I h;obtain⟨v,e,h⟩:=h;obtain⟨m,n,p⟩:=I.loc;obtain⟨u,r,l⟩:=p i x v q e k;have fin:EP X b j Q u s:=⟨v,H,I,r,h⟩;rcases l with ⟨hk,o⟩ | ⟨hk,c,g,a⟩
 .exact Yk (wpAny_loadName_local I.ok.kind hk n o fin) d
 .rcases hk with hk | hk
  .exact Yk (wpAny_loadName_cell I.ok.kind hk g a fin) d
  .exact Yk (wpAny_loadName_free I.ok.kind hk g a fin f) d
theorem C_{i j pos}:PE X (.Constant (.int i) j pos) (tC (.int i)):=λ_ _ _ H _ I h=>wpAny_Constant_int ⟨.int i,H,I.tok _,⟨_,rfl⟩,h⟩
theorem QM{b j pos}:PE X (.Constant (.bool b) j pos) (tC (.bl b)):=λ_ _ _ H _ I h=>Constant_bool ⟨.bl b,H,I,rfl,h⟩
theorem NU{x j pos}:PE X (.Constant (.str x) j pos) (tC (.str x)):=λ_ _ _ H _ I h=>Calls.Constant_str ⟨.str x,H,I.tok _,⟨_,rfl⟩,h⟩
def Gl (X:Cx)(x:Str):Prop:=X.env.kindOf x=some .globalImplicit
theorem p8{a:Pn0}{s:Shared}{Q:VS}(I:Inv X a σ H s)(c:Gl X x)(b:X.mg x=some u)(h:Q u s)(d:autoParam ((x == ("__debug__":Str))=false) wP):wpAny (model X.prog X.w) X.A (eval (.Name x pos) X.env) Q E s:=
 Vz I.ok.kind c (Calls.loadGlobal_global (by rw[I.ok.glob];exact I.mod.glob.keeps I.bk) b h) d
theorem gO{a:Pn0}{s:Shared}{Q:VS}(I:Inv X a σ H s)(e:Gl X x)(d:X.mg x=none)(b:AC x=some u)(h:Q u s)(c:autoParam (x≠"__name__") wP)(f:autoParam ((x == ("__debug__":Str))=false) wP):wpAny (model X.prog X.w) X.A (eval (.Name x pos) X.env) Q E s:=by
 obtain⟨j,i,g⟩:=I.mod.blt;exact Vz I.ok.kind e (Calls.loadGlobal_builtin (by rw[I.ok.glob];exact I.mod.glob.keeps I.bk) d (by rw[I.ok.blt];exact i.keeps I.bk) ((g x c).trans b) h) f
theorem wY(b:Gl X x)(a:X.mg x=some u)(r:RelV v u)(c:autoParam ((x == ("__debug__":Str))=false) wP):PE X (.Name x pos) (tC v):=
 λ_ _ _ H _ I h=>p8 I b a ⟨v,H,I,r,h⟩ c
theorem Kr(d:Gl X x)(c:X.mg x=none)(a:AC x=some u)(r:RelV v u)(b:autoParam (x≠"__name__") wP)(e:autoParam ((x == ("__debug__":Str))=false) wP):PE X (.Name x pos) (tC v):=
 λ_ _ _ H _ I h=>gO I d c a ⟨v,H,I,r,h⟩ b e
variable {b:Expr}{tb:TE}
def tB (t:TE):TT:=λσ H Q=>t σ H λx H1=>∃ c,x=.bl c/\Q c H1
theorem NG{t:TE}(h:PE X e t)(j:autoParam (∀ a,isTrue e X.env a=(do let v <- a;SZ e.pos;holding [v] (truthy v))) wT):PT X e (tB t):=by
 intro b s c H Q I i;refine isTrue_plain (thn (h b s c H _ I i) λv m Z=>?_) (j _);obtain⟨x,l,k,f,g⟩:=Z;obtain⟨d,rfl,q⟩:=g;cases f;exact Gc ⟨l,k,q⟩
variable {tA tB':TT}{rest:List Expr}
def M_ (t u:TT):TT:=λσ H Q=>t σ H λc H1=>if c=true then u σ H1 Q else Q false H1
def tOr (t u:TT):TT:=λσ H Q=>t σ H λc H1=>if c=true then Q true H1 else u σ H1 Q
def M8 (t:TT):TT:=λσ H Q=>t σ H λc H1=>Q (!c) H1
theorem J9(f:PT X a tA):PW X (.BoolOp .And [a] pos) tA:=by
 intro g b s d H Q I h;refine isTrue_and (thn (f b s d H Q I h) λc i e=>?_);cases c with
 | true=>exact isTrue_and_nil e
 | false=>exact e
theorem ND(f:PT X a tA):PW X (.BoolOp .Or [a] pos) tA:=by
 intro g b s d H Q I h;refine isTrue_or (thn (f b s d H Q I h) λc i e=>?_);cases c with
 | false=>exact isTrue_or_nil e
 | true=>exact e
theorem NF(m:PT X a tA)(l:PW X (.BoolOp .And (b::rest) pos) tB'):PW X (.BoolOp .And (a::b::rest) pos) (M_ tA tB'):=by
 intro j d s e H Q I h;refine isTrue_and (thn (m d s e H _ I h) λc k Z=>?_);obtain⟨i,g,f⟩:=Z;cases c with
 | true=>exact l j d k e i Q g f
 | false=>exact⟨i,g,f⟩
theorem Qv(m:PT X a tA)(l:PW X (.BoolOp .Or (b::rest) pos) tB'):PW X (.BoolOp .Or (a::b::rest) pos) (tOr tA tB'):=by
 intro j d s e H Q I h;refine isTrue_or (thn (m d s e H _ I h) λc k Z=>?_);obtain⟨i,g,f⟩:=Z;cases c with
 | true=>exact⟨i,g,f⟩
 | false=>exact l j d k e i Q g f
theorem NH(e:PT X a tA):PT X (.UnaryOp .Not a pos) (M8 tA):=by
 intro b s d H Q I h;exact isTrue_not (e b s d H (λc f=>Q (!c) f) I h)
def L6 (ta a:TE):TE:=λσ H Q=>ta σ H λx H1=>∃ c,x=.bl c/\if c=true then a σ H1 Q else Q (.bl false) H1
def P8 (ta a:TE):TE:=λσ H Q=>ta σ H λx H1=>∃ c,x=.bl c/\if c=true then Q (.bl true) H1 else a σ H1 Q
def L1 (ta:TE):TE:=λσ H Q=>ta σ H λx H1=>∃ c,x=.bl c/\Q (.bl (!c)) H1
theorem NV{op}{t:TE}(h:PE X a t):PE X (.BoolOp op [a] pos) t:=λb s c H Q I d=>BoolOp_one (h b s c H Q I d)
theorem N0(m:PE X a ta)(l:PE X (.BoolOp .And (b::rest) pos) tb):PE X (.BoolOp .And (a::b::rest) pos) (L6 ta tb):=by
 intro d s f H Q I h;refine BoolOp_and (thn (m d s f H _ I h) λv j Z=>?_);obtain⟨x,i,g,k,e⟩:=Z;obtain⟨c,rfl,e⟩:=e;cases k;refine Gc ?_;cases c with
 | true=>exact l d j f i Q g e
 | false=>exact⟨.bl false,i,g,rfl,e⟩
theorem QJ(m:PE X a ta)(l:PE X (.BoolOp .Or (b::rest) pos) tb):PE X (.BoolOp .Or (a::b::rest) pos) (P8 ta tb):=by
 intro d s f H Q I h;refine BoolOp_or (thn (m d s f H _ I h) λv j Z=>?_);obtain⟨x,i,g,k,e⟩:=Z;obtain⟨c,rfl,e⟩:=e;cases k;refine Gc ?_;cases c with
 | false=>exact l d j f i Q g e
 | true=>exact⟨.bl true,i,g,rfl,e⟩
theorem NW(g:PE X a ta):PE X (.UnaryOp .Not a pos) (L1 ta):=by
 intro b s e H Q I h;refine UnaryOp_ (thn (g b s e H _ I h) λv k Z=>?_);obtain⟨x,j,i,f,d⟩:=Z;obtain⟨c,rfl,d⟩:=d;cases f;exact not_of (Gc ⟨.bl (!c),j,i,rfl,d⟩)
def tIf (t:TT)(ta a:TE):TE:=λσ H Q=>t σ H λc H1=>if c=true then ta σ H1 Q else a σ H1 Q
theorem HD{c:Expr}(l:PT X c tA)(n:PE X a ta)(m:PE X b tb):PE X (.IfExp c a b pos) (tIf tA ta tb):=by
 intro e s f H Q I h;refine wpAny_IfExp (thn (l e s f H _ I h) λd g Z=>?_);obtain⟨k,j,i⟩:=Z;cases d with
 | true=>exact n e g f k Q j i
 | false=>exact m e g f k Q j i
end
def SqL (K:Fg0)(H:Hp)(a:Addr)(xs:List V):Prop:=
 Rd H a (.lst xs)\/
  ∃ (o:Obj) (its:Array Value) (n:Nat),K.lookup a=some o/\o.cls=.type "list"/\o.dict=none/\o.data=.seq its n/\its.size<=sizeLine/\Vals xs its.toList
def SqT (K:Fg0)(H:Hp)(a:Addr)(xs:List V):Prop:=
 Rd H a (.tup xs)\/
  ∃ (o:Obj) (its:Array Value) (n:Nat),K.lookup a=some o/\o.cls=.type "tuple"/\o.data=.seq its n/\its.size<=sizeLine/\Vals xs its.toList
noncomputable def Uh:Value->Option V
 | .none=>some .non
 | .bool b=>some (.bl b)
 | .int i _=>some (.int i)
 | .str x _=>some (.str x)
 | .bytes b _=>some (.byt b)
 | .float b _=>some (.flt b)
 | .ref a=>some (.ref a)
 | .type n=>some (.ty n)
 | _=>none
theorem RelV.abs{x:V}(r:RelV x u):Uh u=some x:=by
 cases x with
 | non=>cases r;rfl
 | bl _=>cases r;rfl
 | int _=>obtain⟨t,rfl⟩:=r;rfl
 | str _=>obtain⟨t,rfl⟩:=r;rfl
 | byt _=>obtain⟨t,rfl⟩:=r;rfl
 | flt _=>obtain⟨t,rfl⟩:=r;rfl
 | ref _=>cases r;rfl
 | ty _=>cases r;rfl
theorem RelV.inj{x:V}(r:RelV x u)(q:RelV y u):x=y:=nS (r.abs.symm.trans q.abs)
theorem Vals.inj:∀ {xs ys:List V} {us:Lv0},Vals xs us->Vals ys us->xs=ys
 | _,_,_,.nil,.nil=>rfl
 | _,_,_,.cons r t,.cons b a=>by rw[r.inj b,Vals.inj t a]
section
variable {pins:Pn0}{s:Shared}{a:Addr}{xs ys:List V}
theorem SqL.of(h:H a=some (.lst xs)):SqL K H a xs:=.inl (.inl h)
theorem SqT.of(h:H a=some (.tup xs)):SqT K H a xs:=.inl (.inl h)
theorem Inv.list(I:Inv X pins σ H s)(h:SqL X.K H a xs):∃ its:Lv0,Vals xs its/\PlainL s.heap a its.toArray/\xs.length<=sizeLine:=by
 rcases h with h | ⟨o,its,n,c,f,d,b,g,r⟩
 .obtain⟨z,its,n,r,e⟩:=h.ok I.hok;exact⟨its,r,⟨_,n,e,rfl,rfl,rfl⟩,z⟩
 .refine⟨its.toList,r,⟨o,n,I.kIn a o c,f,d,by simpa using b⟩,?_⟩;have e:=r.length;simp only[Ue] at e;lia
theorem Inv.tuple(I:Inv X pins σ H s)(h:SqT X.K H a xs):∃ its:Lv0,Vals xs its/\IsTup s.heap a its.toArray/\xs.length<=sizeLine:=by
 rcases h with h | ⟨o,its,n,c,d,b,f,r⟩
 .obtain⟨z,its,r,p⟩:=h.ok I.hok;exact⟨its,r,p,z⟩
 .refine⟨its.toList,r,⟨o,I.kIn a o c,d,n,by simpa using b⟩,?_⟩;have e:=r.length;simp only[Ue] at e;lia
theorem Inv.Ia(I:Inv X pins σ H s)(h:SqL X.K H a xs)(h':SqL X.K H a ys):xs=ys:=by
 obtain⟨b,r,⟨o,n,e,_,_,d⟩,_⟩:=I.list h;obtain⟨its',g,⟨j,k,c,_,_,f⟩,_⟩:=I.list h';rw[e] at c;cases c;rw[d] at f;injection f with i _
 have:b=its':=by simpa using congrArg YM i
 subst this;exact r.inj g
theorem Inv.Fd(I:Inv X pins σ H s)(h:SqT X.K H a xs)(h':SqT X.K H a ys):xs=ys:=by
 obtain⟨b,r,⟨o,e,_,n,d⟩,_⟩:=I.tuple h;obtain⟨its',g,⟨j,c,_,k,f⟩,_⟩:=I.tuple h';rw[e] at c;cases c;rw[d] at f;injection f with i _
 have:b=its':=by simpa using congrArg YM i
 subst this;exact r.inj g
end
noncomputable abbrev Cx.yR (X:Cx)(E:VS):Cx:={ X with xe:=E }
noncomputable abbrev Cx.nox (X:Cx):Cx:=X.yR λ_ _=>False
theorem Cx.Ok.yR(ok:X.Ok)(E:VS):(X.yR E).Ok:=
 ⟨ok.mod,ok.kind,ok.glob,ok.blt,ok.above,ok.inj,ok.has,ok.cab,ok.hd,ok.frames,ok.stk,ok.exf,ok.bs,ok.bsz,ok.noex,ok.exfs,ok.rM,ok.frf,ok.tb⟩
theorem Cx.Ok.nY(ok:(X.yR E).Ok):X.Ok:=
 ⟨ok.mod,ok.kind,ok.glob,ok.blt,ok.above,ok.inj,ok.has,ok.cab,ok.hd,ok.frames,ok.stk,ok.exf,ok.bs,ok.bsz,ok.noex,ok.exfs,ok.rM,ok.frf,ok.tb⟩
section
variable {pins:Pn0}{s:Shared}
theorem Inv.yR(I:Inv X pins σ H s)(E:VS):Inv (X.yR E) pins σ H s:=⟨I.ok.yR E,I.os,I.bare,I.base,I.loc,I.cell,I.free,I.freeC,I.pin,I.hok,I.len⟩
theorem Inv.nY(I:Inv (X.yR E) pins σ H s):Inv X pins σ H s:=⟨I.ok.nY,I.os,I.bare,I.base,I.loc,I.cell,I.free,I.freeC,I.pin,I.hok,I.len⟩
theorem SP.nY{D:Ends}{f:Flow}(h:SP (X.yR E) pins D f s'):SP X pins D f s':=by
 cases f with
 | next=>obtain⟨a,b,I,q⟩:=h;exact⟨a,b,I.nY,q⟩
 | brk=>obtain⟨a,b,I,q⟩:=h;exact⟨a,b,I.nY,q⟩
 | cont=>obtain⟨a,b,I,q⟩:=h;exact⟨a,b,I.nY,q⟩
 | ret u=>obtain⟨v,a,b,I,r,q⟩:=h;exact⟨v,a,b,I.nY,r,q⟩
theorem PSs.nox{st:List Stmt}{t:TS}(h:PSs X.nox st t):PSs X st t:=λa s b H D I c=>
 Pz (h a s b H D (I.yR _) c) (λ_ _ q=>q.nY) λ_ _ z=>sr z
end
section
variable {st:Stmt}{rest:List Stmt}{t u:TS}
def L4:TS:=λD σ H=>D.nx σ H
def P6 (t u:TS):TS:=λD σ H=>t { D with nx:=u D } σ H
theorem Kd:PSs X [] L4:=λ_ _ a H _ I h=>Wn ⟨a,H,I,h⟩
theorem Hl(g:PS X st t)(e:PSs X rest u):PSs X (st::rest) (P6 t u):=by
 intro a s c H D I h;refine XJ (thn (g a s c H { D with nx:=u D } I h) λf d q=>?_);cases f with
 | next=>
  obtain⟨b,j,i,q⟩:=q;exact e a d b j D i q
 | ret v=>exact q
 | brk=>exact q
 | cont=>exact q
theorem Kc(c:PS X st t):PSs X [st] t:=by
 intro a s b H D I h;refine XJ (thn (c a s b H D I h) λf d q=>?_);cases f with
 | next=>exact Wn q
 | ret v=>exact q
 | brk=>exact q
 | cont=>exact q
theorem Inv.quiet{a:Pn0}{s:Shared}(I:Inv X a σ H s):interactive X.env=false:=by simp [interactive,I.ok.kind]
def L5 (te:TE):TS:=λD σ H=>te σ H λ_ H1=>D.nx σ H1
theorem Ke(f:PE X e te)(d:autoParam (UY e none pos.line X.env=pure false) wE):PS X (.Expr e pos) (L5 te):=by
 intro a s b H D I h;exact wpAny_Expr_any (thn (f a s b H _ I h) λv j ⟨x,i,g,k,c⟩=>⟨b,i,g,c⟩) I.quiet d
def P7 (te:TE):TS:=λD σ H=>te σ H D.rt
theorem NJ(f:PE X e te):PS X (.Return (some e) pos) (P7 te):=by
 intro a s b H D I h;exact wpAny_Return_some (thn (f a s b H _ I h) λv j ⟨x,i,g,c,d⟩=>⟨x,b,i,g,c,d⟩)
def P_ (c:TT)(t u:TS):TS:=λD σ H=>c σ H λb H1=>if b=true then t D σ H1 else u D σ H1
theorem Qy{c:Expr}{a b:List Stmt}{g:TT}(m:PT X c g)(o:PSs X a t)(n:PSs X b u):PS X (.If c a b pos) (P_ g t u):=by
 intro e s f H D I h;refine wpAny_If (thn (m e s f H _ I h) λd i Z=>?_);obtain⟨l,k,j⟩:=Z;cases d with
 | true=>exact o e i f l D k j
 | false=>exact n e i f l D k j
def GL:TS:=λ_ _ _=>False
theorem Hn:PS X st GL:=λ_ _ _ _ _ _ h=>h.elim
end
abbrev TG:=V->St->Hp->(St->Hp->Prop)->Prop
abbrev TGs:=List V->St->Hp->(St->Hp->Prop)->Prop
def PG (X:Cx)(a:Expr)(t:TG):Prop:=
 ∀ (pins:Pn0) (s:Shared) (σ:St) (H:Hp) (v:V) (u:Value) (Q:St->Hp->Prop),Inv X pins σ H s->RelV v u->t v σ H Q->
  wpAny (model X.prog X.w) X.A (assign a X.env u) (λ_ s'=>∃ σ' H',Inv X pins σ' H' s'/\Q σ' H') X.xe s
def PGs (X:Cx)(a:List Expr)(t:TGs):Prop:=
 ∀ (pins:Pn0) (s:Shared) (σ:St) (H:Hp) (vs:List V) (us:Lv0) (Q:St->Hp->Prop),Inv X pins σ H s->Vals vs us->t vs σ H Q->
  wpAny (model X.prog X.w) X.A (WT ((PD a X.env).map (·.2)) us) (λ_ s'=>∃ σ' H',Inv X pins σ' H' s'/\Q σ' H') X.xe s
noncomputable abbrev PH:=V->V->V->Hp->(Hp->Prop)->Prop
def SU (X:Cx)(t:PH):Prop:=
 ∀ (pins:Pn0) (s:Shared) (σ:St) (H:Hp) (o i v:V) (a b u:Value) (Q:Hp->Prop),Inv X pins σ H s->RelV o a->RelV i b->RelV v u->t o i v H Q->
  wpAny (model X.prog X.w) X.A (setItem a b u) (λ_ s'=>∃ H',Inv X pins σ H' s'/\Q H') X.xe s
def tE (i:Nat):TG:=λv σ H Q=>Q (σ.set i (some v)) H
theorem ax(e:X.N.Nodup)(c:X.N[i]?=some x)(b:Loc X.env.scope x)(d:autoParam (X.fn x=true\/X.env.scope.names.lookup x=some .local) wq0):PG X (.Name x pos) (tE i):=by
 intro a s g H v u Q I r h;exact Xr (rY I e c b r (λj f=>⟨_,H,f,h⟩) d)
def R5:TGs:=λvs σ H Q=>vs=[]/\Q σ H
def MD (t:TG)(u:TGs):TGs:=λvs σ H Q=>∃ v r,vs=v::r/\t v σ H λσ' H'=>u r σ' H' Q
theorem bA:PGs X [] R5:=by
 intro a s b H c d Q I r h;obtain⟨e,h⟩:=h;subst e;cases r;exact Xs ⟨b,H,I,h⟩
theorem av{t:TG}{u:TGs}(k:PG X e t)(j:PGs X es u)(i:autoParam ((PD (e::es) X.env).map (·.2)=assign e X.env::(PD es X.env).map (·.2)) wE):PGs X (e::es) (MD t u):=by
 intro a s c H o q Q I r h;obtain⟨v,p,l,h⟩:=h;subst l;cases r with
 | cons r f=>
  rw[i];refine VA (thn (k a s c H _ _ _ I r h) λ_ d Z=>?_);obtain⟨b,n,m,g⟩:=Z;exact j a d b n _ _ Q m f g
def O0 (K:Fg0)(n:Nat)(t:TGs):TG:=λv σ H Q=>∃ a xs,v=.ref a/\SqT K H a xs/\xs.length=n/\t xs σ H Q
theorem HB{t:TGs}(y:X.calm=true)(h:PGs X es t)(w:autoParam ((PD es X.env).length=n) wE)(f:autoParam ((PD es X.env).findIdx? (·.1)=none) wE):PG X (.Tuple es k pos) (O0 X.K n t):=by
 intro c s g H v u Q I r d;obtain⟨a,j,A,q,x,d⟩:=d;subst A;cases r;obtain⟨l,i,p,C⟩:=I.tuple q;refine assign_Tuple_tuple (I.ok.hd y) p (by simp [w,<- x,i.length]) f λz m=>?_;have B:Inv X c g H { s with heap:=z }:=I.kept (t':=s.toks) λb o e=>m b o (ov (hH e)) e;exact h c _ g H j _ Q B (by simpa using i) d
def Lf (a b:TE)(t:PH):TG:=λv σ H Q=>a σ H λo H1=>b σ H1 λi H2=>t o i v H2 λc=>Q σ c
theorem NT{o i:Expr}{c d:TE}{t:PH}(p:PE X o c)(q:PE X i d)(n:SU X t)(w:autoParam (∀ v,assign (.Subscript o i pos) X.env v=(do
   let O <- holding [v] (eval o X.env)
   let U <- holding [v,O] (eval i X.env)
   SZ pos
   holding [v,O,U] (setItem O U v)
   release [v,O,U] [])) wT):PG X (.Subscript o i pos) (Lf c d t):=by
 intro a s b H v u Q I r h;rw[w];refine cc (Nv (thn (p a s b H _ I h) λO f Z=>?_));obtain⟨x,E,B,j,m⟩:=Z;refine cc (Nv (thn (q a f b E _ B m) λU e Z=>?_));obtain⟨y,D,A,g,l⟩:=Z;refine cc (Up (cc (Nv (thn (n a e b D x y v O U u _ A j g r l) λ_ F Z=>?_))));obtain⟨C,z,k⟩:=Z;exact wpAny_release ⟨b,C,z,k⟩
def yS (te:TE)(g:TG):TS:=λD σ H=>te σ H λx H1=>g x σ H1 D.nx
theorem Hr{g:TG}(l:PE X e te)(k:PG X tg g)(j:autoParam (Uq [tg] e pos.line X.env=pure false) wE)(i:autoParam (Ur [tg] e X.env=pure none) wE)(m:autoParam ((PD [tg] X.env).map (·.2)=[assign tg X.env]) wE):PS X (.Assign [tg] e pos) (yS te g):=by
 intro a s b H D I h;refine wpAny_Assign_stores (thn (l a s b H _ I h) λv c Z=>?_) j i;obtain⟨x,o,n,d,f⟩:=Z;rw[m];exact thn (k a c b o x v _ n d f) λ_ p q=>q
theorem NI{a:Pos}(n:X.N.Nodup)(k:X.N[i]?=some x)(g:Loc X.env.scope x)(m:PE X e te)(j:autoParam (UY e (some (.Name x a)) pos.line X.env=pure false) wE)(l:autoParam (X.fn x=true\/X.env.scope.names.lookup x=some .local) wq0) :
  PS X (.Assign [.Name x a] e pos) (yS te (tE i)):=by
 intro b s c H D I h;refine wpAny_Assign_Name (thn (m b s c H _ I h) λv t Z=>?_) j;obtain⟨y,q,p,d,f⟩:=Z;exact rY p n k g d (λr o=>⟨_,q,o,f⟩) l
def M7 (i j:Nat)(ta:TA):TS:=λD σ H=>ta σ H λvs H1=>∃ v w,vs=[v,w]/\D.nx ((σ.set i (some v)).set j (some w)) H1
theorem Hm{j:Nat}{y:Str}{b:Expr}{ta:TA}{m l n:Pos}{kt k2 O}(R:X.calm=true)(B:X.N.Nodup)(Q:X.N[i]?=some x)(P:X.N[j]?=some y)(t:i≠j)(A:X.env.scope.names.lookup x=some .local)(z:X.env.scope.names.lookup y=some .local)(S:PA X [a,b] ta)(M:Ur [.Tuple [.Name x m,.Name y l] kt n] (.Tuple [a,b] k2 O) X.env=pure (some [x,y]))(N:autoParam (Uq [.Tuple [.Name x m,.Name y l] kt n] (.Tuple [a,b] k2 O) pos.line X.env=pure false) wE) :
  PS X (.Assign [.Tuple [.Name x m,.Name y l] kt n] (.Tuple [a,b] k2 O) pos) (M7 i j ta):=by
 intro c s u H D I h;rw[exec_Assign_arm];refine cc (Up ?_);rw[N];refine cc (hE ?_);rw[if_neg (by decide)];refine cc (Tuple_ (thn (S _ c s u H _ I h) λF f Z=>?_));obtain⟨vs,E,Y,J,k⟩:=Z;obtain⟨v,w,T,k⟩:=k;subst T;obtain⟨d,u2,rfl,G,g⟩:∃ d u2,F=[d,u2]/\RelV v d/\RelV w u2:=by
  cases J with
  | cons p q=>
   cases q with
   | cons L K=>
    cases K;exact⟨_,_,rfl,p,L⟩
 refine Jv ?_ (by show 2<=sizeLine;decide);have W:Inv X c u E { f with heap:=f.heap.push { cls:=.type "tuple",data:=.seq [d,u2].toArray } }:=Y.kept (t':=f.toks) λb o e=>cm _ e;rw[M];refine cc (hE ?_);show wpAny (model X.prog X.w) X.A (do rule "assign.swapped-stores";let items <- unpackItems (.ref f.heap.objs.size) 2 none;WT [λv=>Yl X.env y v,λv=>Yl X.env x v] items.reverse;pure Flow.next) _ _ _;refine cc (Xc (cc (unpackItems_tuple (items:=#[d,u2]) (I.ok.hd R) (YJ f.heap _) λh' r=>?_)));have V:=W.kept (h':=h') (t':=f.toks) λb o e=>r b o (ov (hH e)) e;show wpAny _ _ (WT [λv=>Yl X.env y v,λv=>Yl X.env x v] [u2,d] >>= λ_=>pure Flow.next) _ _ _;refine cc (VA (wpAny_bindName (rY V B P (.inl z) g (λs2 U=>?_) (.inr z))));refine VA (wpAny_bindName (rY U B Q (.inl A) G (λs3 C=>Xs (hE ?_)) (.inr A)));rw[List.set_comm _ _ (vk t)] at C;exact⟨_,E,C,k⟩
set_option genInjectivity false in
structure It where
 go:Nat->Hp->Prop
 yld:Nat->Hp->V->Hp->Prop
 stop:Nat->Hp->Prop
def iH (X:Cx)(a:Pn0)(H:Hp)(b:Addr):Prop:=
 H b=none/\b≠X.env.locals/\b∉X.fs/\(b∈X.ex\/X.s₀.heap.objs.size<=b)/\(∀ x c,X.env.cells.lookup x=some c->c≠b)/\∀ p∈X.pn++a,p.1≠b
theorem Inv.uV{a:Pn0}{f:Hp}{s:Shared}{b:Addr}(I:Inv X a σ H s)(d:s.heap.objs.size<=b)(h:f b=none):iH X a f b:=by
 refine⟨h,Wh (kl I.lt d),I.Tb d,.inr (Ht I.sz d),λx c e z=>?_,λp g z=>?_⟩
 .obtain⟨v,q⟩:=I.cell x c e;exact absurd (kl q.lt (by rw[z];exact d)) (sk _)
 .exact absurd (kl (hH (I.pin p g).1) (by rw[z];exact d)) (sk _)
structure Turn (P:OT) (w:World) (K:Fg0) (tg:Expr) (J:It) (fp:La0) (it:Addr) (tn:Nat->Heap->Prop):Prop where
 mem:it∈fp
 obj:∀ i h,tn i h->∀ b∈fp,∃ o,h.get? b=some o/\∀ v,o.data≠.cell v
 keep:∀ i h h',tn i h->(∀ b∈fp,∀ o,h.get? b=some o->h'.get? b=some o)->tn i h'
 item:∀ (X:Cx),X.prog=P->X.w=w->X.K=K->X.calm=true->∀ (i:Nat) (pins:Pn0) (s:Shared) (σ:St) (H:Hp) (E:VS),Inv X pins σ H s->(∀ b∈fp,iH X pins H b)->tn i s.heap->J.go i H->
  wpAny (model P w) X.A (pyNext (.ref it)) (λr s1=>∃ u,r=some u/\
   wpAny (model P w) X.A (MP tg (.ref it) u) (λ_ s2=>∃ x H',Inv X pins σ H' s2/\RelV x u/\J.yld i H x H'/\tn (i + 1) s2.heap/\∀ b∈fp,H' b=none) E s1) E s
 done:∀ (X:Cx),X.prog=P->X.w=w->X.K=K->X.calm=true->∀ (i:Nat) (pins:Pn0) (s:Shared) (σ:St) (H:Hp) (E:VS),Inv X pins σ H s->(∀ b∈fp,iH X pins H b)->tn i s.heap->J.stop i H->
  wpAny (model P w) X.A (pyNext (.ref it)) (λr s1=>r=none/\Inv X pins σ H s1) E s
 self:∀ (A:Around) (i:Nat) (s:Shared) (Q:VS) (E:VS),tn i s.heap->Q (.ref it) s->wpAny (model P w) A (pyIter (.ref it)) Q E s
abbrev TI:=St->Hp->(It->Hp->Prop)->Prop
def PIE (X:Cx)(a:Pn0)(σ:St)(e:Expr)(R:It->Hp->Prop)(c:Value)(d:Shared):Prop:=
 ∃ (it:Addr) (fp:La0) (tn:Nat->Heap->Prop) (J:It) (H':Hp),c=.ref it/\Inv X a σ H' d/\Turn X.prog X.w X.K e J fp it tn/\tn 0 d.heap/\(∀ b∈fp,iH X a H' b)/\R J H'
def PI (X:Cx)(b iter:Expr)(a:TI):Prop:=
 ∀ (pins:Pn0) (s:Shared) (σ:St) (H:Hp) (R:It->Hp->Prop),Inv X pins σ H s->a σ H R->
  wpAny (model X.prog X.w) X.A (eval iter X.env) (λv c=>wpAny (model X.prog X.w) X.A (pyIter v) (PIE X pins σ b R) X.xe c) X.xe s
theorem Cg{s:Shared}{it:Addr}{o:Obj}{n:String}{vs:Array Value}{Q:Unit->Shared->Prop}(b:s.heap.get? it=some o)(e:o.cls=.type n)(d:o.data=.fields vs)(c:["enumerate","zip","dict_itemiterator","dict_reverseitemiterator","odict_iterator","itertools.zip_longest","itertools.pairwise"].contains n=false)(a:Q () s):wpAny M A (MP tg (.ref it) u) Q E s:=by
 unfold MP;cases tg <;> first
  | exact hE a
  | (cases u <;> first
    | exact hE a
    | (refine cc (wpAny_load b ?_);rw[e,d];show wpAny M A (if (["enumerate","zip","dict_itemiterator","dict_reverseitemiterator","odict_iterator","itertools.zip_longest","itertools.pairwise"].contains n && vs[0]? == some (rawInt _))=true then _ else _) Q E s;rw[if_neg (by intro h;rw[c,Ym] at h;cases h)];exact hE a))
noncomputable def Itl (K:Fg0)(a:Addr):It:=
 ⟨λi H=>∃ xs x,SqL K H a xs/\xs[i]?=some x,λi H x H'=>H'=H/\∀ xs,SqL K H a xs->xs[i]?=some x,λi H=>∃ xs,SqL K H a xs/\xs.length<=i⟩
noncomputable def Itt (K:Fg0)(a:Addr):It:=
 ⟨λi H=>∃ xs x,SqT K H a xs/\xs[i]?=some x,λi H x H'=>H'=H/\∀ xs,SqT K H a xs->xs[i]?=some x,λi H=>∃ xs,SqT K H a xs/\xs.length<=i⟩
noncomputable def Itr (lo:Int)(n:Nat):It:=⟨λi _=>i < n,λi H x H'=>H'=H/\x=.int (lo + i),λi _=>n<=i⟩
theorem Fb(a it:Addr):Turn P w K tg (Itl K a) [it] it (λi h=>h.IsListIter it a i) where
 mem:=by simp
 obj:=λi h st b g=>by
  have e:b=it:=by simpa using g
  subst e;obtain⟨o,e,c,d⟩:=st;exact⟨o,e,λv z=>by rw[d] at z;cases z⟩
 keep:=λi h n st k=>st.at λo e=>k it (by simp) o e
 item:=by
  intro X B y C N i f s M H E I m st A;subst B y C;obtain⟨O,x,l,t⟩:=A;obtain⟨r,q,p,S⟩:=I.list l;obtain⟨u,U,R⟩:=q.get t;obtain⟨L,J,V,G,F,D⟩:=m it (by simp);refine wpAny_pyNext_list_item st p.isList (x:=u) (by simpa using U) λn j Q=>?_;have Y:Inv X f M H { s with heap:=n }:=I.turned (t':=s.toks) (λb o g e=>(Q.2 b g).trans e) L J G F D;obtain⟨o,e,c,d⟩:=id j;exact⟨u,rfl,Cg (s:={ s with heap:=n }) e c d (by decide) ⟨x,H,Y,R,⟨rfl,λZ T=>by rw[I.Ia T l];exact t⟩,j,λb g=>(m b g).1⟩⟩
 done:=by
  intro X B y C N i f s M H E I m st A;subst B y C;obtain⟨O,l,t⟩:=A;obtain⟨r,q,p,S⟩:=I.list l;obtain⟨L,J,V,G,F,D⟩:=m it (by simp);have hl:=q.length;exact wpAny_pyNext_list_end (I.ok.hd N) st p.isList (by simp;lia) λn W=>⟨rfl,I.turned (t':=s.toks) (λb o g e=>W b o g e) L J G F D⟩
 self:=λ_ _ _ _ _ st h=>wpAny_pyIter_listiter st h
theorem CO(a it:Addr):Turn P w K tg (Itt K a) [it] it (λi h=>h.IsTupleIter it a i) where
 mem:=by simp
 obj:=λi h st b j=>by
  have e:b=it:=by simpa using j
  subst e;obtain⟨o,e,c,d⟩:=st;exact⟨o,e,λv z=>by rw[d] at z;cases z⟩
 keep:=λi h q st k=>st.at λo e=>k it (by simp) o e
 item:=by
  intro X B y C N i f s M H E I n st A;subst B y C;obtain⟨O,x,m,t⟩:=A;obtain⟨g,r,p,S⟩:=I.tuple m;obtain⟨u,U,R⟩:=r.get t;obtain⟨L,J,V,G,F,D⟩:=n it (by simp);refine wpAny_pyNext_tuple_item st (show s.heap.IsTuple a g.toArray from p) (x:=u) (by simpa using U) λq l Q=>?_;have Y:Inv X f M H { s with heap:=q }:=I.turned (t':=s.toks) (λb o j e=>(Q.2 b j).trans e) L J G F D;obtain⟨o,e,c,d⟩:=id l;exact⟨u,rfl,Cg (s:={ s with heap:=q }) e c d (by decide) ⟨x,H,Y,R,⟨rfl,λZ T=>by rw[I.Fd T m];exact t⟩,l,λb j=>(n b j).1⟩⟩
 done:=by
  intro X B y C N i f s M H E I n st A;subst B y C;obtain⟨O,m,t⟩:=A;obtain⟨g,r,p,S⟩:=I.tuple m;obtain⟨L,J,V,G,F,D⟩:=n it (by simp);have hl:=r.length;exact wpAny_pyNext_tuple_end (I.ok.hd N) st (show s.heap.IsTuple a g.toArray from p) (by simp;lia) λq W=>⟨rfl,I.turned (t':=s.toks) (λb o j e=>W b o j e) L J G F D⟩
 self:=λ_ _ _ _ _ st h=>wpAny_pyIter_tupleiter st h
theorem CP(it:Addr)(lo:Int)(n:Nat):Turn P w K tg (Itr lo n) [it] it (λi h=>VJ h it (lo + (i:Nat) * 1) ((n:Int) - (i:Nat)) 1) where
 mem:=by simp
 obj:=λi h st b c=>by
  have e:b=it:=by simpa using c
  subst e;exact⟨_,st,λv z=>by
   have D:YY _=Data.cell v:=z;cases D⟩
 keep:=λi h g st k=>k it (by simp) _ st
 item:=by
  intro X p j q m i a s B H E I f st l;subst p j q;obtain⟨A,y,J,x,u,r⟩:=f it (by simp);have W:=YZ (prog:=X.prog) (w:=X.w) (I.ok.hd m) it lo 1 n;refine W.item i s _ _ l st λv g C G d F=>?_;obtain⟨t,rfl⟩:=G;have M:Inv X a B H { s with heap:=g,toks:=C }:=I.turned (λb o c e=>F b o (by simpa using c) e) A y x u r;refine⟨_,rfl,Cg (s:={ s with heap:=g,toks:=C }) (n:="range_iterator") d rfl rfl (by decide) ⟨.int (lo + i),H,M,⟨t,?_⟩,⟨rfl,rfl⟩,d,λb c=>(f b c).1⟩⟩;rw[Int.mul_one]
 done:=by
  intro X p j q m i a s B H E I f st l;subst p j q;obtain⟨A,y,J,x,u,r⟩:=f it (by simp);exact Wi (I.ok.hd m) st (by have:n<=i:=l;lia) λg L=>⟨rfl,I.turned (t':=s.toks) (λb o c e=>L b o c e) A y x u r⟩
 self:=λ_ _ _ _ _ st h=>Th st h
def Mr (K:Fg0)(tl:TE):TI:=λσ H R=>tl σ H λx H1=>∃ a,x=.ref a/\(∃ xs,SqL K H1 a xs)/\R (Itl K a) H1
def RF (K:Fg0)(tl:TE):TI:=λσ H R=>tl σ H λx H1=>∃ a,x=.ref a/\(∃ xs,SqT K H1 a xs)/\R (Itt K a) H1
theorem Kj{tl:TE}(n:PE X l tl):PI X tg l (Mr X.K tl):=by
 intro c s g H R I h;refine thn (n c s g H _ I h) λv d Z=>?_;obtain⟨x,t,f,i,j⟩:=Z;obtain⟨a,e,⟨u,m⟩,q⟩:=j;subst e;cases i;obtain⟨k,w,p,y⟩:=f.list m;refine Xt p.isList ?_;refine⟨d.heap.objs.size,[d.heap.objs.size],_,_,t,rfl,f.kept (t':=d.toks) λb o e=>cm _ e,Fb a _,⟨_,hY _ rfl,rfl,rfl⟩,λb r=>?_,q⟩;have e:b=d.heap.objs.size:=by simpa using r
 subst e;exact f.uV (ec _) (f.hok.fresh (ec _))
theorem NP{tl:TE}(n:PE X l tl):PI X tg l (RF X.K tl):=by
 intro d s i H R I h;refine thn (n d s i H _ I h) λv c Z=>?_;obtain⟨x,t,f,j,k⟩:=Z;obtain⟨a,e,⟨u,m⟩,q⟩:=k;subst e;cases j;obtain⟨g,w,p,y⟩:=f.tuple m;refine wpAny_pyIter_tuple (show c.heap.IsTuple a g.toArray from p) ?_;refine⟨c.heap.objs.size,[c.heap.objs.size],_,_,t,rfl,f.kept (t':=c.toks) λb o e=>cm _ e,CO a _,⟨_,hY _ rfl,rfl,rfl⟩,λb r=>?_,q⟩;have e:b=c.heap.objs.size:=by simpa using r
 subst e;exact f.uV (ec _) (f.hok.fresh (ec _))
theorem BL{c:Pn0}{s:Shared}{R:It->Hp->Prop}{lo a:Int}{t u v:Tok}{d:Nat}(I:Inv X c σ H s)(k:-(2 ^ 62)<=lo)(j:lo < 2 ^ 62)(i:-(2 ^ 62)<=a)(h:a < 2 ^ 62)(q:R (Itr lo (a - lo).toNat) H):wpAny (model X.prog X.w) X.A (pyIter (.ref s.heap.objs.size)) (PIE X c σ tg R) E { s with heap:=s.heap.push { cls:=.type "range",data:=.fields #[.int lo t,.int a u,.int 1 v] },toks:=d }:=by
 refine wpAny_pyIter_range (XX ..) (small_one k j i h) ?_;have f:Inv X c σ H { s with heap:=s.heap.push { cls:=.type "range",data:=.fields #[.int lo t,.int a u,.int 1 v] },toks:=d }:=I.kept λb o e=>cm _ e;refine⟨(s.heap.push { cls:=.type "range",data:=.fields #[.int lo t,.int a u,.int 1 v] }).objs.size,[(s.heap.push { cls:=.type "range",data:=.fields #[.int lo t,.int a u,.int 1 v] }).objs.size],_,_,H,rfl,
  f.kept (t':=d) λb o e=>cm _ e,CP _ lo (a - lo).toNat,?_,λb g=>?_,q⟩
 .have m:lo + ((0:Nat):Int) * 1=lo:=by simp
  have l:(((a - lo).toNat:Nat):Int) - ((0:Nat):Int)=UE lo a 1:=by rw[rangeSize_one];split <;> lia
  show VJ _ _ (lo + ((0:Nat):Int) * 1) ((((a - lo).toNat:Nat):Int) - ((0:Nat):Int)) 1;rw[m,l];exact hY _ rfl
 .have e:b=(s.heap.push { cls:=.type "range",data:=.fields #[.int lo t,.int a u,.int 1 v] }).objs.size:=by simpa using g
  subst e;exact f.uV (ec _) (f.hok.fresh (ec _))
def Mp (ta:TA):TI:=λσ H R=>ta σ H λvs H1=>∃ j:Int,vs=[.int j]/\-(2 ^ 62)<=j/\j < 2 ^ 62/\R (Itr 0 j.toNat) H1
def Mo (ta:TA):TI:=λσ H R=>ta σ H λvs H1=>∃ i j:Int,vs=[.int i,.int j]/\(-(2 ^ 62)<=i/\i < 2 ^ 62/\-(2 ^ 62)<=j/\j < 2 ^ 62)/\R (Itr i (j - i).toNat) H1
theorem Fw{ta:TA}(m:Gl X "range")(l:X.mg "range"=none)(n:PA X [a] ta)(k:autoParam (eh [a] X.env=[(false,eval a X.env)]) wE):PI X tg (.Call (.Name "range" p) [a] [] pos) (Mp ta):=by
 intro b s d H R I h;refine Call_ (gO I m l Xd (mC (thn (n pos b s d H _ I h) λv w Z=>?_) k rfl));obtain⟨u,x,o,g,c⟩:=Z;obtain⟨j,e,c,i,q⟩:=c;subst e;cases g with
 | cons r f=>
  cases f;obtain⟨t,rfl⟩:=r;exact call_range_1 (BL o (by lia) (by lia) c i (by simpa using q))
theorem Fv{b:Expr}{ta:TA}(x:Gl X "range")(w:X.mg "range"=none)(y:PA X [a,b] ta)(v:autoParam (eh [a,b] X.env=[(false,eval a X.env),(false,eval b X.env)]) wE)(d:autoParam (eh [b] X.env=[(false,eval b X.env)]) wE) :
  PI X tg (.Call (.Name "range" p) [a,b] [] pos) (Mo ta):=by
 intro c s k H R I h;refine Call_ (gO I x w Xd (mC (thn (y pos c s k H _ I h) λB D ⟨A,E,z,l,g⟩=>?_) (by rw[v,d]) (by rw[d];rfl)));obtain⟨i,j,e,⟨g,u,o,n⟩,q⟩:=g;subst e;cases l with
 | cons r f=>
  cases f with
  | cons m f=>
   cases f;obtain⟨t,rfl⟩:=r;obtain⟨C,rfl⟩:=m;exact call_range_2 (BL z g u o n q)
def Qa (c:TI)(g:TG)(d:TS):TS:=λD σ H=>c σ H λJ H1=>∃ W:Nat->Nat->St->Hp->Prop,(∃ m,W 0 m σ H1)/\∀ i m σ H,W i m σ H->
 (J.stop i H/\D.nx σ H)\/(J.go i H/\∃ N:St->Hp->Prop,(∀ σ' H',N σ' H'->∃ b,b < m/\W (i + 1) b σ' H')/\∀ x H',J.yld i H x H'->g x σ H' λa H2=>d { D with nx:=N,ct:=N,bk:=D.nx } a H2)
noncomputable def xG (a:La0)(h:Heap):Pn0:=a.filterMap λb=>(h.get? b).map λo=>(b,o)
theorem mw{b:Addr}{o:Obj}(a:b∈fp)(e:h.get? b=some o):(b,o)∈xG fp h:=Uz.mpr ⟨b,a,by rw[e];rfl⟩
theorem zG{p:Addr×Obj}(a:p∈xG fp h):p.1∈fp/\h.get? p.1=some p.2:=by
 obtain⟨b,c,e⟩:=Uz.mp a;cases q:h.get? b with
 | none=>rw[q] at e;cases e
 | some o=>
  rw[q] at e;have d:(b,o)=p:=nS e;subst d;exact⟨c,q⟩
theorem Inv.pinned{a:Pn0}{s:Shared}(I:Inv X a σ H s)(i:∀ b∈fp,iH X a H b)(h:∀ b∈fp,∃ o,s.heap.get? b=some o/\∀ v,o.data≠.cell v):Inv X (a++xG fp s.heap) σ H s:=
 I.sv λp g=>(Bl.mp g).elim (λz=>I.pin p (ks _ z)) λz=>by
  obtain⟨c,e⟩:=zG z;obtain⟨l,k,j,_⟩:=i p.1 c;obtain⟨o,f,d⟩:=h p.1 c;rw[e] at f;cases f;exact⟨e,l,k,j,d⟩
theorem Inv.xc{a pl:Pn0}{s:Shared}(I:Inv X (a++pl) σ H s):Inv X a σ H s:=I.sv λp b=>I.pin p (ks _ (Bk _ b))
theorem NK{iter:Expr}{S:TI}{g:TG}{V:TS}(C:PassesOwn (model X.prog X.w) X.A X.env X.xe)(hc:X.calm=true)(hi:PI X tg iter S)(hg:PG X tg g)(p:PSs X body V)(hs:autoParam (∀ x,vl iter X.env x=pure x) wT):PS X (.For tg iter body [] pos) (Qa S g V):=by
 intro c s R H D I h;refine wpAny_For (thn (hi c s R H _ I h) λv s1 h1=>thn h1 λa1 s2 h2=>?_) hs;obtain⟨it,F,U,J,H2,e,I2,T,L,f2,W,⟨m0,w0⟩,z⟩:=h2;subst e;have l:∀ {H':Hp},(∀ b∈F,H' b=none)->∀ b∈F,iH X c H' b:=λhn b p=>⟨hn b p,(f2 b p).2⟩;refine codeAny_forLoop_any (λn s'=>∃ i k H',Inv X c k H' s'/\U i s'.heap/\(∀ b∈F,H' b=none)/\W i n k H') ?_ m0 ⟨0,R,H2,I2,L,λb p=>(f2 b p).1,w0⟩;rintro n s3 ⟨i,j,G,I3,A,E,w3⟩;rcases z i n j G w3 with ⟨stop,qn⟩ | ⟨go,N,hN,step⟩
 .refine Uv C (thn (T.done X rfl rfl rfl hc i c s3 j G X.xe I3 (l E) A stop) λr s4 Z=>?_);obtain⟨O,I4⟩:=Z;subst O;exact Wn ⟨j,G,I4,qn⟩
 .refine Uv C (thn (T.item X rfl rfl rfl hc i c s3 j G X.xe I3 (l E) A go) λr s4 Z=>?_);obtain⟨u,O,h4⟩:=Z;subst O;refine Uv C (thn h4 λ_ Y Z=>?_);obtain⟨x,H5,I5,r5,y5,y,P⟩:=Z;have Q:=I5.pinned (l P) (T.obj _ _ y);refine Uv C (thn (hg _ Y j H5 x u _ Q r5 (step x H5 y5)) λ_ s6 Z=>?_);obtain⟨K,H6,I6,q6⟩:=Z;refine Uv C (thn (p _ s6 K H6 _ I6 q6) λf M w=>?_);have again:∀ {a:St} {t:Hp},Inv X (c++xG F Y.heap) a t M->N a t->∃ m,m < n/\∃ i k H',Inv X c k H' M/\U i M.heap/\(∀ b∈F,H' b=none)/\W i m k H':=λ{a t} q B=>by
   obtain⟨m',hm,w7⟩:=hN a t B;refine⟨m',hm,i + 1,a,t,q.xc,T.keep _ _ _ y λb p o e=>(q.pin (b,o) (ks _ (ks _ (mw p e)))).1,λb p=>?_,w7⟩;obtain⟨o,e,d⟩:=T.obj _ _ y b p;exact(q.pin (b,o) (ks _ (ks _ (mw p e)))).2.1
  cases f with
  | next=>obtain⟨a,t,q,B⟩:=w;exact again q B
  | cont=>obtain⟨a,t,q,B⟩:=w;exact again q B
  | brk=>obtain⟨a,t,q,w⟩:=w;exact⟨a,t,q.xc,w⟩
  | ret v=>obtain⟨x7,a,t,q,r7,w⟩:=w;exact⟨x7,a,t,q.xc,r7,w⟩
abbrev R2:=V->V->Hp->VK->Prop
def OpR (X:Cx)(f:Value->Value->Sem Value)(r:R2):Prop:=
 ∀ (pins:Pn0) (s:Shared) (σ:St) (H:Hp) (x y:V) (v u:Value) (Q:VK),Inv X pins σ H s->RelV x v->RelV y u->r x y H Q->
  wpAny (model X.prog X.w) X.A (f v u) (EP X pins σ Q) X.xe s
def UnR (X:Cx)(f:Value->Sem Value)(r:V->Hp->VK->Prop):Prop:=
 ∀ (pins:Pn0) (s:Shared) (σ:St) (H:Hp) (x:V) (v:Value) (Q:VK),Inv X pins σ H s->RelV x v->r x H Q->
  wpAny (model X.prog X.w) X.A (f v) (EP X pins σ Q) X.xe s
def eB (X:Cx)(f:Value)(r:List V->Hp->VK->Prop):Prop:=
 ∀ (pins:Pn0) (s:Shared) (σ:St) (H:Hp) (xs:List V) (us:Lv0) (Q:VK),Inv X pins σ H s->Vals xs us->r xs H Q->
  wpAny (model X.prog X.w) X.A (call f us) (EP X pins σ Q) X.xe s
def tOp (r:R2)(ta a:TE):TE:=λσ H Q=>ta σ H λx H1=>a σ H1 λy H2=>r x y H2 Q
def tUn (r:V->Hp->VK->Prop)(ta:TE):TE:=λσ H Q=>ta σ H λx H1=>r x H1 Q
def rI (C:Int->Int->Prop)(g:Int->Int->V):R2:=λx y H Q=>∃ i j,x=.int i/\y=.int j/\C i j/\Q (g i j) H
def rI0 (g:Int->Int->V):R2:=λx y H Q=>∃ i j,x=.int i/\y=.int j/\Q (g i j) H
noncomputable def rU (g:Int->V):V->Hp->VK->Prop:=λx H Q=>∃ i,x=.int i/\Q (g i) H
section
variable {b c:Expr}{tb tc:TE}
theorem Pn(p:PE X a ta)(o:PE X b tb){c:Pn0}{s:Shared}{R:V->V->Hp->Prop}(I:Inv X c σ H s)(h:ta σ H λx H1=>tb σ H1 λy H2=>R x y H2){Q:VS}{f:Value->Value->Sem Value}(n:∀ v u g x y H2,Inv X c σ H2 g->RelV x v->RelV y u->R x y H2->wpAny (model X.prog X.w) X.A (f v u) Q X.xe g) :
  wpAny (model X.prog X.w) X.A (eval a X.env) (λv e=>wpAny (model X.prog X.w) X.A (eval b X.env) (λu d=>wpAny (model X.prog X.w) X.A (f v u) Q X.xe d) X.xe e) X.xe s:=by
 refine thn (p c s σ H _ I h) λv i Z=>?_;obtain⟨x,H1,r,k,m⟩:=Z;refine thn (o c i σ H1 _ r m) λu g Z=>?_;obtain⟨y,H2,q,j,l⟩:=Z;exact n v u g x y H2 q k j l
theorem sy{d:Operator}{r:R2}(j:OpR X (TN d) r)(l:PE X a ta)(k:PE X b tb):PE X (.BinOp a d b pos) (tOp r ta tb):=by
 intro c s e H Q I h;exact wpAny_BinOp (Pn l k I h λv u f x y n m i g q=>j c f e n x y v u Q m i g q)
theorem QH{d:UnaryOp}{r:V->Hp->VK->Prop}(i:UnR X (unaryOp d) r)(j:PE X a ta):PE X (.UnaryOp d a pos) (tUn r ta):=by
 intro b s c H Q I h;exact UnaryOp_ (thn (j b s c H _ I h) λv e ⟨x,l,k,f,g⟩=>i b e c l x v Q k f g)
theorem opI{f:Value->Value->Sem Value}{C:Int->Int->Prop}(rule:∀ (i j:Int) (t u:Tok) (s:Shared) (Q:VS) (E:VS),C i j->Q (.int (g i j) s.toks) { s with toks:=s.toks + 1 }->wpAny (model X.prog X.w) X.A (f (.int i t) (.int j u)) Q E s) :
  OpR X f (rI C λi j=>.int (g i j)):=by
 intro a s k H x y v u Q I d c h;obtain⟨i,j,rfl,rfl,e,q⟩:=h;obtain⟨t,rfl⟩:=d;obtain⟨b,rfl⟩:=c;exact rule i j t b s _ _ e ⟨.int (g i j),H,I.tok _,⟨_,rfl⟩,q⟩
theorem y6{f:Value->Value->Sem Value}(rule:∀ (i j:Int) (t u:Tok) (s:Shared) (Q:VS) (E:VS),Q (.int (g i j) s.toks) { s with toks:=s.toks + 1 }->wpAny (model X.prog X.w) X.A (f (.int i t) (.int j u)) Q E s) :
  OpR X f (rI0 λi j=>.int (g i j)):=by
 intro a s e H x y v u Q I d c h;obtain⟨i,j,rfl,rfl,q⟩:=h;obtain⟨t,rfl⟩:=d;obtain⟨b,rfl⟩:=c;exact rule i j t b s _ _ ⟨.int (g i j),H,I.tok _,⟨_,rfl⟩,q⟩
theorem KI{f:Value->Value->Sem Value}{g:Int->Int->Bool}(rule:∀ (i j:Int) (t u:Tok) (s:Shared) (Q:VS) (E:VS),Q (.bool (g i j)) s->wpAny (model X.prog X.w) X.A (f (.int i t) (.int j u)) Q E s) :
  OpR X f (rI0 λi j=>.bl (g i j)):=by
 intro a s e H x y v u Q I d c h;obtain⟨i,j,rfl,rfl,q⟩:=h;obtain⟨t,rfl⟩:=d;obtain⟨b,rfl⟩:=c;exact rule i j t b s _ _ ⟨.bl (g i j),H,I,rfl,q⟩
def PU (i j:Int):Prop:=0 < j/\j < 1073741824
def Jy (i j:Int):Prop:=0<=j/\j<=1000000/\i.natAbs < 2 ^ 64
def Jz (i j:Int):Prop:=(-(2 ^ 64) < i/\i < 2 ^ 64)\/(-(2 ^ 64) < j/\j < 2 ^ 64)
theorem Jz.ok{i j:Int}(h:Jz i j):IntMulOk i j:=by
 rcases h with ⟨b,a⟩ | ⟨b,a⟩
 .exact .of_left (intBits_le_64 b a)
 .exact .of_right (intBits_le_64 b a)
theorem Oc:OpR X (TN .Add) (rI0 λi j=>.int (i + j)):=y6 λ_ _ _ _ _ _ _ q=>add_int q
theorem N5:OpR X (TN .Sub) (rI0 λi j=>.int (i - j)):=y6 λ_ _ _ _ _ _ _ q=>sub_int q
theorem N8:OpR X (TN .Mult) (rI Jz λi j=>.int (i * j)):=opI λ_ _ _ _ _ _ _ a q=>mul_int q a.ok
theorem KG:OpR X (TN .FloorDiv) (rI PU λi j=>.int (i / j)):=opI λi j _ _ _ _ _ a q=>by
 have c:(0:Int) < j:=a.1;have b:j < 1073741824:=a.2;exact floordiv_int (by lia) (by rw[Int.fdiv_eq_ediv_of_nonneg i (by lia)];exact q) (.inl (PyProof.noPylong_small (by lia)))
theorem N9:OpR X (TN .Mod) (rI (λ_ j=>0 < j) λi j=>.int (i % j)):=opI λi j _ _ _ _ _ a q=>by
 have b:(0:Int) < j:=a;exact mod_int' (by lia) (by rw[Int.fmod_eq_emod_of_nonneg i (by lia)];exact q)
theorem HR:OpR X (TN .Pow) (rI Jy λi j=>.int (i ^ j.toNat)):=opI λ_ _ _ _ _ _ _ a q=>pow_int_small a.1 a.2.1 a.2.2 q
theorem Ob:OpR X (TN .BitAnd) (rI0 λi j=>.int (VB i j)):=y6 λ_ _ _ _ _ _ _ q=>and_int q
theorem unI{f:Value->Sem Value}{g:Int->Int}(rule:∀ (i:Int) (t:Tok) (s:Shared) (Q:VS) (E:VS),Q (.int (g i) s.toks) { s with toks:=s.toks + 1 }->wpAny (model X.prog X.w) X.A (f (.int i t)) Q E s) :
  UnR X f (rU λi=>.int (g i)):=by
 intro a s c H x v Q I b h;obtain⟨i,rfl,q⟩:=h;obtain⟨t,rfl⟩:=b;exact rule i t s _ _ ⟨.int (g i),H,I.tok _,⟨_,rfl⟩,q⟩
theorem M1:UnR X (unaryOp .USub) (rU λi=>.int (-i)):=unI λ_ _ _ _ _ q=>neg_int q
theorem IC{a:Pn0}{s:Shared}{Q:VK}{k b:Bool}(I:Inv X a σ H s)(q:Q (.bl k) H)(e:k=b):EP X a σ Q (.bool b) s:=by
 subst e;exact⟨.bl k,H,I,rfl,q⟩
theorem Q0:OpR X (Px .Lt) (rI0 λi j=>.bl (decide (i < j))):=KI λ_ _ _ _ _ _ _ q=>lt_int q
theorem Q1:OpR X (Px .LtE) (rI0 λi j=>.bl (decide (i<=j))):=KI λ_ _ _ _ _ _ _ q=>le_int q
theorem Q2:OpR X (Px .Gt) (rI0 λi j=>.bl (decide (j < i))):=KI λ_ _ _ _ _ _ _ q=>gt_int q
theorem Q4:OpR X (Px .GtE) (rI0 λi j=>.bl (decide (j<=i))):=KI λ_ _ _ _ _ _ _ q=>ge_int q
theorem OpR.or{f:Value->Value->Sem Value}{r e:R2}(h:OpR X f r)(h':OpR X f e):OpR X f (λx y H Q=>r x y H Q\/e x y H Q):=by
 intro a s b H x y v u Q I d c q;rcases q with q | q
 .exact h a s b H x y v u Q I d c q
 .exact h' a s b H x y v u Q I d c q
theorem bw(b:Expr)(h:autoParam (op≠.In) wP)(a:autoParam (op≠.NotIn) wP):Us op b=false:=by
 have d:(op == CmpOp.In)=false:=by cases op <;> first | rfl | exact absurd rfl h
 have c:(op == CmpOp.NotIn)=false:=by cases op <;> first | rfl | exact absurd rfl a
 cases b <;> simp [Us,d,c]
theorem Kp{r:R2}(i:OpR X (Px op) r)(l:PE X a ta)(k:PE X b tb)(j:Us op b=false):PE X (.Compare a [op] [b] pos) (tOp r ta tb):=by
 intro c s d H Q I h;exact wpAny_Compare1 (Pn l k I h λv u e x y n m g f q=>i c e d n x y v u Q m g f q) j
def D0 (t:TE):TT:=λσ H Q=>t σ H λx H'=>∃ k,x=.bl k/\Q k H'
theorem J_{r:R2}(q:OpR X (Px op) r)(A:PE X a ta)(w:PE X b tb)(t:Us op b=false):PT X (.Compare a [op] [b] pos) (D0 (tOp r ta tb)):=by
 intro d s f H Q I h;refine wpAny_isTrue_Compare1 (thn (A d s f H _ I h) λv i ⟨x,G,D,m,p⟩=>thn (w d i f G _ D p) λu g ⟨y,F,C,l,o⟩=>
  thn (q d g f F x y v u _ C m l o) λc J ⟨z,E,B,j,k,e,n⟩=>?_) t
 subst e;cases j;exact Gc ⟨E,B,n⟩
def xf (r e:R2)(ta d c:TE):TE:=λσ H Q=>ta σ H λx H1=>d σ H1 λy H2=>r x y H2 λz a=>∃ k,z=.bl k/\
 (if k=true then c σ a λb f=>e y b f Q else Q (.bl false) a)
theorem HE{g:CmpOp}{r m:R2}(L:OpR X (Px op) r)(j:OpR X (Px g) m)(P:PE X a ta)(O:PE X b tb)(N:PE X c tc)(M:autoParam (XM [op,g] [b,c]=false) wq1):PE X (.Compare a [op,g] [b,c] pos) (xf r m ta tb tc):=by
 intro f s i H Q I h;refine Compare_chain (thn (P f s i H _ I h) λv C ⟨x,W,T,F,K⟩=>chain_link (thn (O f C i W _ T K) λu B ⟨y,V,S,l,J⟩=>
  thn (L f B i V x y v u _ S F l J) λd A ⟨z,p,o,E,k,e,n⟩=>?_)) M
 subst e;cases E;refine Gc ?_;cases k with
 | false=>exact ite_ff ⟨.bl false,p,o,rfl,n⟩
 | true=>exact ite_tt (chain_last (thn (N f A i p _ o n) λt w ⟨q,U,R,D,G⟩=>j f w i U y q u t Q R l D G))
theorem Hk{g:CmpOp}{r m:R2}(O:OpR X (Px op) r)(j:OpR X (Px g) m)(T:PE X a ta)(S:PE X b tb)(R:PE X c tc)(P:autoParam (XM [op,g] [b,c]=false) wq1):PT X (.Compare a [op,g] [b,c] pos) (D0 (xf r m ta tb tc)):=by
 intro f s i H Q I h;refine isTrue_chain (thn (T f s i H _ I h) λv C ⟨x,H1,I1,G,M⟩=>test_link (thn (S f C i H1 _ I1 M) λu B ⟨y,H2,I2,l,L⟩=>
  thn (O f B i H2 x y v u _ I2 G l L) λd A ⟨z,p,o,F,k,e,n⟩=>?_)) P
 subst e;cases F;refine Gc ?_;cases k with
 | false=>
  obtain⟨k',V,N⟩:=n;cases V;exact ite_ff ⟨p,o,N⟩
 | true=>
  refine ite_tt (test_last (thn (R f A i p _ o n) λt w ⟨q,H4,Y,E,K⟩=>thn (j f w i H4 y q u t _ Y l E K) λd' s5 Z=>?_));obtain⟨z2,H5,W,D,k2,U,J⟩:=Z;subst U;cases D;exact Gc ⟨H5,W,J⟩
theorem uP:(sizeLine:Nat) < 2 ^ 63:=by rw[gp];decide
theorem Dh:OpR X (TN .Add) (λx y H Q=>∃ i j,x=.str i/\y=.str j/\i.length + j.length<=sizeLine/\Q (.str (i++j)) H):=by
 intro a s f H x y v u Q I d c h;obtain⟨i,j,rfl,rfl,e,q⟩:=h;obtain⟨t,rfl⟩:=d;obtain⟨b,rfl⟩:=c;exact add_str (λb g=>⟨.str (i++j),H,I.tok _,⟨_,rfl⟩,q⟩) e
theorem vals1{x:V}(r:Vals [x] us):∃ u,us=[u]/\RelV x u:=by
 cases r with
 | cons b a=>cases a;exact⟨_,rfl,b⟩
theorem vals2{x:V}(r:Vals [x,y] us):∃ u w',us=[u,w']/\RelV x u/\RelV y w':=by
 cases r with
 | cons d c=>
  cases c with
  | cons b a=>cases a;exact⟨_,_,rfl,d,b⟩
theorem Gr(c:X.calm=true):eB X (.builtin "max") (λxs H Q=>∃ i j,xs=[.int i,.int j]/\Q (.int (if j > i then j else i)) H):=by
 intro b s d H xs f Q I r h;obtain⟨i,j,rfl,q⟩:=h;obtain⟨u,e,rfl,⟨t,rfl⟩,⟨l,rfl⟩⟩:=vals2 r;refine max_two_ints (I.ok.hd c) λm g k=>⟨_,H,I.kept k,?_,q⟩;by_cases a:j > i
 .rw[if_pos a,if_pos a];exact⟨_,rfl⟩
 .rw[if_neg a,if_neg a];exact⟨_,rfl⟩
theorem Gq(c:X.calm=true):eB X (.builtin "min") (λxs H Q=>∃ i j,xs=[.int i,.int j]/\Q (.int (if j < i then j else i)) H):=by
 intro b s d H xs f Q I r h;obtain⟨i,j,rfl,q⟩:=h;obtain⟨u,e,rfl,⟨t,rfl⟩,⟨l,rfl⟩⟩:=vals2 r;refine min_two_ints (I.ok.hd c) λm g k=>⟨_,H,I.kept k,?_,q⟩;by_cases a:j < i
 .rw[if_pos a,if_pos a];exact⟨_,rfl⟩
 .rw[if_neg a,if_neg a];exact⟨_,rfl⟩
theorem Gs:eB X (.type "int") (λxs H Q=>(∃ i,xs=[.int i]/\Q (.int i) H)\/∃ k,xs=[.bl k]/\Q (.int (if k then 1 else 0)) H):=by
 intro a s c H xs d Q I r h;rcases h with ⟨i,rfl,q⟩ | ⟨k,rfl,q⟩
 .obtain⟨u,rfl,t,rfl⟩:=vals1 r;exact call_int_int ⟨.int i,H,I,⟨_,rfl⟩,q⟩
 .obtain⟨u,rfl,b⟩:=vals1 r;cases b;exact call_int_bool ⟨.int (if k then 1 else 0),H,I.tok _,⟨_,rfl⟩,q⟩
end
structure DX (h:Heap) (x dx C:Addr) (mA:SV0):Prop where
 obj:h.get? x=some (rr C dx)
 ns:h.Ns1 dx mA
 ne:dx≠x
theorem FV{d:SV0}(n:h.Ns1 dx d):∃ c,h.get? dx=some c/\∀ name,VC name c=some (d name):=by
 obtain⟨o,f,p,i,l,k,_,j⟩:=n;refine⟨o,i,λname=>?_⟩;have e:=j name;unfold nsFind findBy at e;rw[<- Array.find?_toList] at e;unfold VC;rw[l];dsimp only;split
 .rename_i y q;rw[q] at e;exact congrArg some e
 .rename_i q;rw[q] at e;have a:f.toList.any (·.refKey)=false:=by
   rw[List.any_eq_false];intro y g;obtain⟨z,t,b⟩:=k y (Array.mem_toList_iff.mp g);simp [DictEntry.refKey,b]
  have m:¬ f.toList.any (·.refKey)=true:=by rw[a];exact ri
  rw[if_neg m];exact congrArg some e
theorem DX.look{x:Addr}{b:SV0}(I:DX h x dx C b):∃ a,PySem.W.InstAt h x (rr C dx) C (some a)/\∀ name,VC name a=some (b name):=
 let ⟨a,c,d⟩:=FV I.ns
 ⟨a,⟨I.obj,rfl,rfl,c⟩,d⟩
section
variable {s:Shared}{x:Addr}{mA:SV0}{v:Value}
theorem get_map{a:Bool}{Q:VS}(X:K.In s.heap)(I:DX s.heap x dx C mA)(f:DM K C name=true)(e:GM K C=true)(g:ew K (.ref C) name=some none)(c:mA name=some v)(b:XN v=true)(h:Q v { s with toks:=s.toks + 1 }) :
  wpAny (model prog w) A (getAttr (.ref x) name a) Q E s:=by
 obtain⟨i,J,d⟩:=I.look;exact PySem.W.get_value X J (Vo f).1 (PySem.W.findObj_own e g rfl (by rw[d,c])) b h
theorem Iu{pl:Sem Bool}(X:K.In s.heap)(I:DX s.heap x dx C mA)(a:DM K C name=true)(g:ew K (.ref C) name=some (some (.ref f)))(d:Wj K (.ref f)=true)(c:mA name=none)(h:Q (.ref f,[.ref x]) s) :
  wpAny (model prog w) A (VV (.ref x) name pl) Q E s:=by
 obtain⟨b,J,e⟩:=I.look;exact PySem.W.method_fn X J (Vo a).1 (Vo a).2 g (beq_iff_eq.mp d) (by show (VC name b).map (·.isSome)=some false;rw[e,c];rfl) h
theorem JO{j:Ls0}{Q:Unit->Shared->Prop}(X:K.In s.heap)(I:DX s.heap x dx C mA)(n:ew K (.ref C) "__setattr__"=some (some (.builtin "object.__setattr__")))(o:KB K C=true)(m:Wo K C name=some none)(p:GM K C=true)(l:Wf mA j)(hsz:j.length<=sizeLine)(h:∀ h',DX h' x dx C (λy=>if y=name then some v else mA y)->UI dx s.heap h'->Q () { s with heap:=h',toks:=s.toks + 2 }) :
  wpAny (model prog w) A (setAttr (.ref x) name v) Q E s:=by
 obtain⟨z,J,D⟩:=I.look;refine PySem.W.set_plain X J n (PySem.W.osa_open (s:={ s with toks:=s.toks + 1 }) (r:=none) X J o m λb=>?_);obtain⟨F,q,g⟩:=PySem.W.any_some p;have k:s.heap.get? x=some ⟨.ref C,some dx,.plain,#[]⟩:=I.obj;refine cc (hE (cc (cc (wpAny_loadPart k (cc (Zf (s:={ s with toks:=s.toks + 1 }) (PySem.W.looks_clsIn X q) ?_))))));rw[g];refine hE (a:=some dx) (cc (hE (cc ?_)));refine wpAny_nsSet1 (s:={ s with toks:=s.toks + 1 }) I.ns λh' d c=>?_;obtain⟨B,t,u,e,f,i⟩:=d.count (PySem.Within.cons name v l);refine cc (wpAny_lookBehind e (by rw[f];exact pastItsLine_dict (Ht i (by rw[ro];lia))) ?_);exact hE (h _ ⟨(c.2 _ (vk I.ne)).trans I.obj,d,I.ne⟩ c)
theorem H9{vs:Lv0}(X:K.In s.heap)(b:HT K C=true)(c:ew K (.ref C) "__init__"=some (some (.ref f)))(e:PySem.W.typeIn K (.ref f)=some (.type "function"))(h:Pv (model prog w) (A.under (.builtin "type.__call__" ⟨.ref C::vs,kw⟩)) (.call (.ref f) ⟨.ref (s.heap.objs.size + 1)::vs,kw⟩) (XO (s.heap.objs.size + 1) R)
   { s with heap:=(s.heap.push rd).push (rr C s.heap.objs.size) }) :
  Pv (model prog w) A (.call (.ref C) ⟨vs,kw⟩) R s:=by
 obtain⟨i,g,d,t,os⟩:=s;exact Xu (VW X b) (WC X c) (λa=>PySem.W.bind_fn X a e) (.inl rfl) h
theorem FP(X:K.In s.heap)(b:HT K C=true)(c:ew K (.ref C) "__init__"=some (some (.builtin "object.__init__")))(e:∀ a,WU (model prog w) s.heap (bindSpecial (.builtin "object.__init__") a) (.builtin "object.__init__",[a]))(h:Pv (model prog w) (A.under (.builtin "type.__call__" ⟨[.ref C],[]⟩)) (.call (.builtin "object.__init__") ⟨[.ref (s.heap.objs.size + 1)],[]⟩) (XO (s.heap.objs.size + 1) R)
   { s with heap:=(s.heap.push rd).push (rr C s.heap.objs.size) }) :
  Pv (model prog w) A (.call (.ref C) ⟨[],[]⟩) R s:=by
 obtain⟨f,g,d,t,os⟩:=s;exact Xu (VW X b) (WC X c) e (.inr ⟨rfl,rfl⟩) h
end
noncomputable def oz (f:Str)(v:V):List (Str×V)->List (Str×V)
 | []=>[(f,v)]
 | (g,x)::r=>if g=f then (g,v)::r else (g,x)::oz f v r
theorem vo (f g:Str)(v:V):∀ fs:List (Str×V),(oz f v fs).lookup g=if g=f then some v else fs.lookup g
 | []=>by
  show Qx g [(f,v)]=_;by_cases h:g=f
  .have a:(g == f)=true:=beq_iff_eq.mpr h;simp only[Qx,a,if_pos h]
  .have a:(g == f)=false:=beq_eq_false_iff_ne.mpr h;simp only[Qx,a,if_neg h]
 | (k,x)::r=>by
  have c:=vo f g v r;rw[show oz f v ((k,x)::r)=(if k=f then (k,v)::r else (k,x)::oz f v r) from rfl];by_cases b:k=f
  .rw[if_pos b];by_cases h:g=k
   .have a:(g == k)=true:=beq_iff_eq.mpr h;simp only[Qx,a,if_pos (h.trans b)]
   .have a:(g == k)=false:=beq_eq_false_iff_ne.mpr h;simp only[Qx,a,if_neg (λe:g=f=>h (e.trans b.symm))]
  .rw[if_neg b];by_cases h:g=k
   .have a:(g == k)=true:=beq_iff_eq.mpr h;simp only[Qx,a,if_neg (λe:g=f=>b (h.symm.trans e))]
   .have a:(g == k)=false:=beq_eq_false_iff_ne.mpr h;simp only[Qx,a];exact c
theorem uS (f:Str)(v:V):∀ fs:List (Str×V),f∈(oz f v fs).map (·.1)/\∀ g,g∈fs.map (·.1)->g∈(oz f v fs).map (·.1)
 | []=>⟨by simp [oz],λg h=>by simp at h⟩
 | (k,x)::r=>by
  obtain⟨b,i2⟩:=uS f v r;rw[show oz f v ((k,x)::r)=(if k=f then (k,v)::r else (k,x)::oz f v r) from rfl];by_cases a:k=f
  .rw[if_pos a];subst a;exact⟨by simp,λg h=>by simpa using h⟩
  .rw[if_neg a];refine⟨?_,λg h=>?_⟩
   .rw[sS];exact ic _ b
   .rw[sS] at h ⊢;rcases hF.mp h with e | e
    .exact hF.mpr (.inl e)
    .exact ic _ (i2 g e)
theorem vp (f:Str)(v:V):∀ fs:List (Str×V),(oz f v fs).length<=fs.length + 1
 | []=>by simp [oz]
 | (k,x)::r=>by
  have b:=vp f v r;rw[show oz f v ((k,x)::r)=(if k=f then (k,v)::r else (k,x)::oz f v r) from rfl];by_cases a:k=f
  .rw[if_pos a,ro,ro];lia
  .rw[if_neg a,ro,ro];lia
theorem yN.some_of(r:yN (some v) o):∃ u,o=some u/\RelV v u:=by
 cases o with
 | none=>exact(show False from r).elim
 | some u=>exact⟨u,rfl,r⟩
theorem yN.none_of(r:yN none o):o=none:=by
 cases o with
 | none=>rfl
 | some u=>exact(show False from r).elim
theorem Gf(r:RelV v u):XN u=true:=by
 cases v with
 | non=>cases (show u=TF from r);rfl
 | bl b=>cases (show u=We b from r);rfl
 | int i=>obtain⟨t,e⟩:=(show ∃ t,u=XH i t from r);cases e;rfl
 | str x=>obtain⟨t,e⟩:=(show ∃ t,u=Vt x t from r);cases e;rfl
 | byt b=>obtain⟨t,e⟩:=(show ∃ t,u=YV b t from r);cases e;rfl
 | flt b=>obtain⟨t,e⟩:=(show ∃ t,u=XW b t from r);cases e;rfl
 | ref a=>cases (show u=qq a from r);rfl
 | ty n=>cases (show u=UV n from r);rfl
section
variable {H':Hp}{a:Addr}{fs fs':List (Str×V)}
theorem w_(b:HOk P w H h)(e:H a=some (.ins C dx fs)):∃ mA,DX h a dx C mA/\(∀ f,yN (fs.lookup f) (mA f))/\Wf mA (fs.map (·.1))/\fs.length<=1000/\H dx=some (.own a):=by
 obtain⟨d,z,g,c,mA,n,r,q⟩:=(show e7 P w H h a (.ins C dx fs) from b a _ e);exact⟨mA,⟨c,n,g⟩,r,q,z,d⟩
end
structure Cls (K:Fg0) (C:Addr):Prop where
 pg:DM K C Vv=true
 hd:GM K C=true
 po:KB K C=true
 sa:ew K (.ref C) "__setattr__"=some (some (.builtin "object.__setattr__"))
theorem Cls.get(c:Cls K C)(f:Str):DM K C f=true:=c.pg
def gr (K:Fg0)(C:Addr)(f:Str):Prop:=ew K (.ref C) f=some none
theorem gr.P4{f:Str}(n:gr K C f):Wo K C f=some none:=by
 unfold Wo;rw[show ew K (.ref C) f=some none from n]
 rfl
structure Meth (K:Fg0) (C:Addr) (m:Str) (f:Addr):Prop where
 at_:ew K (.ref C) m=some (some (.ref f))
 fn:Wj K (.ref f)=true
 kp:ox K (.ref f)=true
section
variable {pins:Pn0}{s:Shared}{a:Addr}{fs:List (Str×V)}{f:Str}
theorem DH{b:Bool}{Q:VS}(I:Inv X pins σ H s)(e:H a=some (.ins C dx fs))(c:Cls X.K C)(n:gr X.K C f)(l:fs.lookup f=some v)(h:∀ u s',Inv X pins σ H s'->RelV v u->Q u s'):wpAny (model X.prog X.w) A (getAttr (.ref a) f b) Q E s:=by
 obtain⟨g,O,r,_,_,_⟩:=w_ I.hok e;obtain⟨u,i,d⟩:=yN.some_of (v:=v) (o:=g f) (by rw[<- l];exact r f);exact get_map I.kIn O (c.get f) c.hd n i (Gf d) (h u _ (I.tok _) d)
theorem yd{g:Addr}{pl:Sem Bool}(I:Inv X pins σ H s)(e:H a=some (.ins C dx fs))(c:Cls X.K C)(k:Meth X.K C m g)(l:fs.lookup m=none)(h:Q (.ref g,[.ref a]) s):wpAny (model X.prog X.w) A (VV (.ref a) m pl) Q E s:=by
 obtain⟨b,O,r,_,_,_⟩:=w_ I.hok e;have d:b m=none:=yN.none_of (by rw[<- l];exact r m);exact Iu I.kIn O (c.get m) k.at_ k.fn d h
theorem CT{Q:Unit->Shared->Prop}(I:Inv X pins σ H s)(e:H a=some (.ins C dx fs))(c:Cls X.K C)(n:gr X.K C f)(F:fs.length < 1000)(m:RelV y u)(h:∀ s',Inv X pins σ (upd H a (.ins C dx (oz f y fs))) s'->Q () s'):wpAny (model X.prog X.w) A (setAttr (.ref a) f u) Q E s:=by
 obtain⟨j,O,r,i,_,k⟩:=w_ I.hok e;have p:(fs.map (·.1)).length<=sizeLine:=by rw[lM0,gp];lia
 refine JO I.kIn O c.sa c.po n.P4 c.hd i p λB d l=>h _ ?_;have v:∃ o,B.get? dx=some o:=let ⟨o,_,_,D,_⟩:=d.ns;⟨o,D⟩
 refine I.write (x:=a) (e:=dx) (by rw[e];exact UZ) (.inr k) (λb q w z=>(l.2 b w).trans z) v ?_;refine⟨by rw[au O.ne];exact k,?_,O.ne,d.obj,_,d.ns,λg=>?_,λg t=>?_⟩
 .have:=vp f y fs;lia
 .show yN ((oz f y fs).lookup g) (if g=f then some u else j g);rw[vo];by_cases q:g=f
  .rw[if_pos q,if_pos q];exact m
  .rw[if_neg q,if_neg q];exact r g
 .by_cases q:g=f
  .rw[q];exact(uS f y fs).1
  .refine(uS f y fs).2 g (i g λz=>t ?_);show (if g=f then some u else j g)=none;rw[if_neg q];exact z
theorem Inv.made(I:Inv X pins σ H s):Inv X pins σ (upd (upd H s.heap.objs.size (.own (s.heap.objs.size + 1))) (s.heap.objs.size + 1) (.ins C s.heap.objs.size []))
  { s with heap:=(s.heap.push rd).push (rr C s.heap.objs.size) }:=by
 have d:(s.heap.push rd).get? s.heap.objs.size=some rd:=hY s.heap rfl;have i:((s.heap.push rd).push (rr C s.heap.objs.size)).get? (s.heap.objs.size + 1)=some (rr C s.heap.objs.size):=by
  have:=hY (s.heap.push rd) (o:=rr C s.heap.objs.size) rfl
  rwa [NB] at this
 have h:(s.heap.push rd).Ns s.heap.objs.size (λ_=>none):=⟨rd,#[],_,d,rfl,(λe g=>absurd g (by simp)),λ_=>rfl⟩;have j:=I.laid (a:=s.heap.objs.size) (o:=.own (s.heap.objs.size + 1)) (h':=s.heap.push rd) (t':=s.toks) (λb u q=>cm _ q) (ec _) ⟨_,d⟩;refine j.laid (a:=s.heap.objs.size + 1) (o:=.ins C s.heap.objs.size []) (t':=s.toks) (λb u q=>cm _ q) (UJ (NB _ _)) ?_;have c:s.heap.objs.size≠s.heap.objs.size + 1:=ov (Py _);refine⟨by rw[au c,az],xt _,c,i,λ_=>none,(Heap.Ns1.of_empty h).at λo q=>cm _ q,λ_=>UZ,λy f=>absurd rfl f⟩
theorem LC{a:Env}{f:Str}{s:Shared}{Q:VS}(c:Ut e f a (eval e a)=eval e a)(h:wpAny (model prog w) A (eval e a) (λo b=>wpAny (model prog w) A (getAttr o f true) Q E b) E s):wpAny (model prog w) A (eval (.Attribute e f pos) a) Q E s:=
 Attribute_any_ h (by rw[arm_eval_Attribute,c])
end
def Qb (K:Fg0)(ta:TE)(f:Str):TE:=λσ H Q=>ta σ H λx H1=>∃ a C dx fs v,x=.ref a/\H1 a=some (.ins C dx fs)/\Cls K C/\gr K C f/\fs.lookup f=some v/\Q v H1
def Nj (K:Fg0)(ta b:TE)(f:Str):TS:=λD σ H=>b σ H λy H1=>ta σ H1 λx H2=>∃ a C dx fs,x=.ref a/\H2 a=some (.ins C dx fs)/\Cls K C/\gr K C f/\fs.length < 1000/\
 D.nx σ (upd H2 a (.ins C dx (oz f y fs)))
section
variable {o value:Expr}{f:Str}{pos' tpos:Pos}{tv:TE}
theorem NZ(j:PE X e ta)(k:Ut e f X.env (eval e X.env)=eval e X.env):PE X (.Attribute e f pos) (Qb X.K ta f):=by
 intro b s d H Q I h;refine LC k (thn (j b s d H _ I h) λu z Z=>?_);obtain⟨x,t,r,g,a,C,B,A,v,m,o,c,n,l,q⟩:=Z;subst m;obtain rfl:u=qq a:=g;exact DH r o c n l λw y p i=>⟨v,t,p,i,q⟩
theorem NL(r:PE X o ta)(m:PE X value tv)(p:UY value (some (.Attribute o f pos')) pos.line X.env=pure false):PS X (.Assign [.Attribute o f pos'] value pos) (Nj X.K ta tv f):=by
 intro b s d H D I h;refine plainObj_wpAny_Assign_Attribute (thn (m b s d H _ I h) λu e ⟨y,B,A,g,q⟩=>thn (r b e d B _ A q) λk F Z=>?_) p;obtain⟨x,K,z,i,a,C,J,G,t,v,c,n,l,j⟩:=Z;subst t;obtain rfl:k=qq a:=i;exact CT z v c n l g λE w=>⟨d,_,w,j⟩
end
section
variable {pins:Pn0}{s:Shared}{Q:VS}{c:Value}{b:Bool}
inductive qm (K:Fg0) (H:Hp):V->Value->Prop where
 | non:qm K H .non (.type "NoneType")
 | bl (x:Bool):qm K H (.bl x) (.type "bool")
 | int (i:Int):qm K H (.int i) (.type "int")
 | str (x:Str):qm K H (.str x) (.type "str")
 | flt (x:UInt64):qm K H (.flt x) (.type "float")
 | lst {a:Addr} {xs:List V} (e:H a=some (.lst xs)):qm K H (.ref a) (.type "list")
 | frz {a:Addr} {o:Obj} {xs:List V} (e:H a=some (.frz o (.lst xs))):qm K H (.ref a) (.type "list")
 | tup {a:Addr} {xs:List V} (e:H a=some (.tup xs)):qm K H (.ref a) (.type "tuple")
 | dK {a:Addr} {kvs:List (Key×V)} (e:H a=some (.dK kvs)):qm K H (.ref a) (.type "dict")
 | dT {a:Addr} {kvs:List (List Key×V)} (e:H a=some (.dT kvs)):qm K H (.ref a) (.type "dict")
 | ins {a C dx:Addr} {fs:List (Str×V)} (e:H a=some (.ins C dx fs)) (cl:Cls K C) (ha:ew K (.ref C) "__class__"=some (some (.builtin "object.__class__")))
   (hn:VL K (.builtin "object.__class__") "__get__"=some (some (.builtin "getset_descriptor.__get__"))) (htk:Wp K (.builtin "object.__class__")=some true)
   (hm:WV K C (.type "object")=some true):qm K H (.ref a) (.ref C)
theorem zJ{x:V}{t:Value}(I:Inv X pins σ H s)(d:RelV x u)(v:qm X.K H x t)(e:bq X.K t c=some b)(h:∀ w,Q (.bool b) { s with toks:=w }) :
  wpAny (model X.prog X.w) A (call (.builtin "isinstance") [u,c]) Q E s:=by
 cases v with
 | non=>cases (show u=TF from d);exact Df PySem.W.kitx_none I.kIn UZ e (λz=>nomatch z) h
 | bl y=>cases (show u=We y from d);exact Df PySem.W.kitx_bool I.kIn UZ e (λz=>nomatch z) h
 | int i=>obtain⟨t,q⟩:=(show ∃ t,u=XH i t from d);cases q;exact Df PySem.W.kitx_int I.kIn UZ e (λz=>nomatch z) h
 | str y=>obtain⟨t,q⟩:=(show ∃ t,u=Vt y t from d);cases q;exact Df PySem.W.kitx_str I.kIn UZ e (λz=>nomatch z) h
 | flt y=>obtain⟨t,q⟩:=(show ∃ t,u=XW y t from d);cases q;exact Df PySem.W.kitx_float I.kIn UZ e (λz=>nomatch z) h
 | @lst a k f=>
  cases (show u=qq a from d);obtain⟨_,_,n,_,g⟩:=(show e7 X.prog X.w H s.heap a (.lst k) from I.hok a _ f);exact Df Xv I.kIn ⟨_,g,rfl⟩ e (λz=>nomatch z) h
 | @frz a B k f=>
  cases (show u=qq a from d);obtain⟨_,_,_,n,_,g⟩:=(show e7 X.prog X.w H s.heap a (.frz B (.lst k)) from I.hok a _ f);exact Df Xv I.kIn ⟨_,g,rfl⟩ e (λz=>nomatch z) h
 | @tup a k f=>
  cases (show u=qq a from d);obtain⟨_,_,_,p⟩:=(show e7 X.prog X.w H s.heap a (.tup k) from I.hok a _ f);obtain⟨o,g,l,_⟩:=p;exact Df PySem.W.kitx_tuple I.kIn ⟨o,g,l⟩ e (λz=>nomatch z) h
 | @dK a j f=>
  cases (show u=qq a from d);obtain⟨_,_,M,_,p⟩:=(show e7 X.prog X.w H s.heap a (.dK j) from I.hok a _ f);obtain⟨o,K,L,g,l,_⟩:=p;exact Df Xw I.kIn ⟨o,g,l.1⟩ e (λz=>nomatch z) h
 | @dT a j f=>
  cases (show u=qq a from d);obtain⟨_,_,k,_,o,K,L,g,l,_⟩:=(show e7 X.prog X.w H s.heap a (.dT j) from I.hok a _ f);exact Df Xw I.kIn ⟨o,g,l.1⟩ e (λz=>nomatch z) h
 | @ins a C S R f r G D m F=>
  cases (show u=qq a from d);obtain⟨P,O,_⟩:=w_ I.hok f;obtain⟨N,J,_⟩:=O.look;exact Df (PySem.W.kitx_own (r.get _) r.hd G D m F) I.kIn J e (λz=>nomatch z) h
end
structure cK (k:Nat) (A:Around):Prop where
 hd:A.handled=none
 dp:A.depth + 3 * k + 5 < recursionLimit
 un:A.units + 16 * k + 200 < cLine
 gd:A.guards=some []
theorem cK.mono{j:Nat}(r:cK k A)(h:j<=k):cK j A:=⟨r.hd,by have:=r.dp;lia,by have:=r.un;lia,r.gd⟩
theorem cK.deeper(r:cK (k + 1) A)(a:Env):cK k (A.deeper a):=
 ⟨r.hd,by have:=r.dp;show A.depth + 1 + 3 * k + 5 < _;lia,by have:=r.un;show A.units + 3 + 16 * k + 200 < _;lia,r.gd⟩
theorem Du:(A.under (.builtin "type.__call__" ⟨.ref C::us,kw⟩)).depth=A.depth + 1:=by
 first | rfl | simp [Vr,Code.weight,Code.isCreation,Xx,Code.isCaller,Za,Xy,guardIds]
theorem Dt:(A.under (.builtin "type.__call__" ⟨.ref C::us,kw⟩)).units=A.units + 1:=by
 first | rfl | simp [Vr,Code.cUnits,Za,Xy]
theorem Ca:(A.under (.builtin "type.__call__" ⟨.ref C::us,kw⟩)).guards=A.guards:=by
 first | rfl | simp [Vr,pushGuards,Zb,Xx,guardIds] | (cases A;simp [Vr,pushGuards,Zb,Xx,guardIds])
theorem cK.make(r:cK (k + 1) A)(C:Addr)(us:Lv0)(a:List (Str×Value)):cK k (A.under (.builtin "type.__call__" ⟨.ref C::us,a⟩)):=
 ⟨r.hd,by have:=r.dp;rw[Du];lia,by have:=r.un;rw[Dt];lia,by have:=r.gd;rw[Ca];exact this⟩
theorem cK.depth(r:cK k A):A.depth < recursionLimit:=by have:=r.dp;lia
def rX:TA:=λ_ H Q=>Q [] H
def lq (ta:TE)(a:TA):TA:=λσ H Q=>ta σ H λx H1=>a σ H1 λxs H2=>Q (x::xs) H2
theorem rA:PA X [] rX:=λ_ _ _ _ H Q I h=>UK ⟨[],H,I,.nil,h⟩
theorem g_(n:PE X e te)(m:PA X es t)(l:autoParam (eh (e::es) X.env=(false,eval e X.env)::eh es X.env) wE):PA X (e::es) (lq te t):=by
 intro b a s c H Q I h;rw[l];show wpAny _ _ (spliced ((false,eval e X.env)::backTo b (eh es X.env))) _ _ s;refine UA (thn (n a s c H _ I h) λu f Z=>?_);obtain⟨x,r,p,i,k⟩:=Z;exact thn (m b a f c r _ p k) λv w ⟨d,q,o,g,j⟩=>⟨x::d,q,o,.cons i g,j⟩
def JF (t:TA):TE:=λσ H Q=>t σ H λxs H1=>xs.length<=sizeLine/\∀ p,H1 p=none->Q (.ref p) (upd H1 p (.tup xs))
def P9 (t:TA):TE:=λσ H Q=>t σ H λxs H1=>xs.length<=sizeLine/\∀ p,H1 p=none->Q (.ref p) (upd H1 p (.lst xs))
theorem C8{O}(h:PA X es t):PE X (.Tuple es O pos) (JF t):=by
 intro a s g H Q I k;refine wpAny_Tuple_spliced (thn (h pos a s g H _ I k) λj c ⟨i,f,d,r,z,q⟩=>⟨by rw[<- r.length];exact z,?_⟩);have l:f c.heap.objs.size=none:=d.hok.fresh (ec _);refine⟨.ref c.heap.objs.size,upd f c.heap.objs.size (.tup i),d.laid (t':=c.toks) (λb u e=>cm _ e) (ec _) ?_,rfl,q _ l⟩;exact⟨z,j,r,⟨_,hY _ rfl,rfl,_,rfl⟩⟩
theorem NX(h:PA X es t):PE X (.List es pos) (P9 t):=by
 intro a s g H Q I k;refine wpAny_List_spliced (thn (h pos a s g H _ I k) λj c ⟨i,f,d,r,z,q⟩=>⟨by rw[<- r.length];exact z,?_⟩);have l:f c.heap.objs.size=none:=d.hok.fresh (ec _);refine⟨.ref c.heap.objs.size,upd f c.heap.objs.size (.lst i),d.laid (t':=c.toks) (λb u e=>cm _ e) (ec _) ?_,rfl,q _ l⟩;exact⟨z,j,0,r,hY _ rfl⟩
abbrev Sp:=List V->Hp->VK->XK->Prop
abbrev CXT:=List Env->Hp->Shared->XK->Value->Shared->Prop
structure CK (P:OT) (w:World) (K:Fg0) (mg:SV0) (base:Heap) (A:Around) (outer:List Env) (s:Shared) (H:Hp):Prop where
 frames:A.frames=some outer
 mod:Mod K mg base
 bs:∀ b o,base.get? b=some o->s.heap.get? b=some o/\Kpt H b o
 bsz:base.objs.size<=s.heap.objs.size
 rM:s.heap.FunFrames base outer
 frf:∀ b∈frs outer,H b=none
 hok:HOk P w H s.heap
 bare:VI s.gens
 tb:TabsAt base H
def CE (a:List Env)(P:OT)(w:World)(H:Hp)(s:Shared)(Q:VK)(u:Value)(b:Shared):Prop:=
 ∃ v H',b.os=s.os/\VI b.gens/\Un (frs a) [] H H' s.heap b.heap/\HOk P w H' b.heap/\RelV v u/\Q v H'
def CR (CX:CXT)(a:List Env)(P:OT)(w:World)(H:Hp)(s:Shared)(Q:VK)(E:XK)(r:Result)(b:Shared):Prop:=
 match r with
 | .ok (.ret u)=>CE a P w H s Q u b
 | .ok _=>False
 | .error e=>CX a H s E e b
structure aC (P:OT) (w:World) (K:Fg0) (mg:SV0) (base:Heap) (CX:CXT) (k:Nat) (f:Addr) (fd:ej) (ps:Ls0) (sp:Sp):Prop where
 len:∀ vs H Q E,sp vs H Q E->vs.length=ps.length
 run:∀ (A:Around) (outer:List Env) (s:Shared) (H:Hp) (args:Args) (us:Lv0) (vs:List V) (Q:VK) (E:XK),cK k A->CK P w K mg base A outer s H->Xz s fd args (ps.zip us)->Vals vs us->sp vs H Q E->
  Pv (model P w) A (.call (.ref f) args) (CR CX outer P w H s Q E) s
theorem aC.imp{b:SV0}{CX:CXT}{sp sp':Sp}(F:aC P w K b base CX k f fd ps sp)(h:∀ vs H Q E,sp' vs H Q E->sp vs H Q E):aC P w K b base CX k f fd ps sp':=
 ⟨λvs H Q E q=>F.len vs H Q E (h _ _ _ _ q),λA a s H args c vs Q E g i j d e=>F.run A a s H args c vs Q E g i j d (h _ _ _ _ e)⟩
theorem CK.make{a:SV0}{s:Shared}(e:CK P w K a base A outer s H)(C:Addr)(us:Lv0)(b:List (Str×Value)) :
  CK P w K a base (A.under (.builtin "type.__call__" ⟨.ref C::us,b⟩)) outer s H:=⟨by first | exact e.frames | (simpa [Vr,Code.envs,Xy,pushEnvs] using e.frames),e.mod,e.bs,e.bsz,e.rM,e.frf,e.hok,e.bare,e.tb⟩
section
variable {pins:Pn0}{s:Shared}
theorem Inv.Sm(I:Inv X pins σ H s):CK X.prog X.w X.K X.mg X.base X.A X.stack s H:=
 ⟨I.ok.frames,I.ok.mod,I.bs,Ht I.ok.bsz I.sz,I.stack,I.wQ,I.hok,I.bare,I.tb⟩
theorem Inv.after{Q:VK}(I:Inv X pins σ H s)(h:CE X.stack X.prog X.w H s Q u s'):EP X pins σ Q u s':=by
 obtain⟨v,f,os,bare,un,c,r,q⟩:=h;obtain⟨e,g,d,t,a⟩:=s';obtain rfl:a=s.os:=os;exact⟨v,f,I.call (h':=e) (g':=g) (d':=d) (t':=t) (ch:=[]) un c bare (λb z=>absurd z (by simp)),r,q⟩
end
def Bt (sp:Sp)(dvs:List V)(E:XK)(t:TA):TE:=λσ H Q=>t σ H λvs H1=>sp (vs++dvs) H1 Q E
def Bq (C:Addr)(m:Str)(sp:Sp)(dvs:List V)(E:XK)(ta:TE)(t:TA):TE:=λσ H Q=>ta σ H λx H1=>∃ a dx fs,x=.ref a/\H1 a=some (.ins C dx fs)/\fs.lookup m=none/\
 t σ H1 λvs H2=>sp (x::(vs++dvs)) H2 Q E
def GN (C:Addr)(sp:Sp)(dvs:List V)(E:XK)(t:TA):TE:=λσ H Q=>t σ H λvs H1=>∀ x dx,H1 x=none->H1 dx=none->dx≠x->
 sp (.ref x::(vs++dvs)) (upd (upd H1 dx (.own x)) x (.ins C dx [])) (λv H2=>v=.non/\Q (.ref x) H2) E
def Binds (K:Fg0)(a:ej)(ps:Ls0)(ds:Lv0):Prop:=
 ∀ (s:Shared) (us:Lv0),K.In s.heap->(us++ds).length=ps.length->Xz s a ⟨us,[]⟩ (ps.zip (us++ds))
theorem Binds.all(h:∀ us:Lv0,us.length=ps.length->WD fd ⟨us,[]⟩=pure (ps.zip us)):Binds K fd ps []:=λs us _ a=>by
 rw[tq] at a ⊢;exact .of_eq (h us a)
def Passes (CX:CXT)(X:Cx)(E:XK):Prop:=∀ (pins:Pn0) (σ:St) (H:Hp) (s:Shared) (e:Value) (s':Shared),Inv X pins σ H s->CX X.stack H s E e s'->X.xe e s'
section
variable {CX:CXT}{sp:Sp}{dvs:List V}{ds:Lv0}{E:XK}{apos:Pos}{o:Expr}
theorem uA{a:Pn0}{s:Shared}{Q:VK}(F:aC X.prog X.w X.K X.mg X.base CX k f fd ps sp)(i:cK k X.A)(m:Binds X.K fd ps ds)(l:Vals dvs ds)(g:Passes CX X E)(I:Inv X a σ H s)(r:Vals vs us)(h:sp (vs++dvs) H Q E):wpAny (model X.prog X.w) X.A (call (.ref f) us) (EP X a σ Q) X.xe s:=by
 have c:Vals (vs++dvs) (us++ds):=r.append l;have j:(us++ds).length=ps.length:=by rw[<- c.length];exact F.len _ _ _ _ h
 refine Xe (UL (F.run X.A X.stack s H ⟨us,[]⟩ (us++ds) (vs++dvs) Q E i I.Sm (m s us I.kIn j) c h) λr d b=>?_);cases r with
 | error e=>exact g a σ H s e d I b
 | ok n=>
  cases n with
  | ret u=>exact I.after b
  | next=>exact sr b
  | brk=>exact sr b
  | cont=>exact sr b
theorem Kq(F:aC X.prog X.w X.K X.mg X.base CX k f fd ps sp)(j:cK k X.A)(n:Gl X x)(l:X.mg x=some (.ref f))(m:ox X.K (.ref f)=true)(v:Binds X.K fd ps ds)(u:Vals dvs ds)(i:Passes CX X E)(w:PA X (e::es) t)(c:autoParam ((x == ("__debug__":Str))=false) wP)(o:autoParam (eh (e::es) X.env=(false,eval e X.env)::eh es X.env) wE)(b:autoParam ((backTo pos (eh es X.env)).any (·.1)=false) wE) :
  PE X (.Call (.Name x p) (e::es) [] pos) (Bt sp dvs E t):=by
 intro a s g H Q I h;refine vB (p8 I n l ?_ c);refine UB (h₀:=X.base) I.ok.mod.kin m (thn (w pos a s g H _ I h) λz A ⟨y,B,d,r,q⟩=>⟨d.kIn,?_⟩) o b;exact uA F j v u i d r q
theorem HJ(F:aC X.prog X.w X.K X.mg X.base CX k f fd ps sp)(d:cK k X.A)(i:Gl X x)(e:X.mg x=some (.ref f))(g:ox X.K (.ref f)=true)(l:Binds X.K fd ps ds)(j:Vals dvs ds)(c:Passes CX X E)(a:autoParam ((x == ("__debug__":Str))=false) wP):PE X (.Call (.Name x p) [] [] pos) (Bt sp dvs E rX):=by
 intro b s m H Q I h;refine vB (p8 I i e ?_ a);exact Vp I.kIn g (uA (us:=[]) F d l j c I .nil h)
theorem Kl{pl:Sem Bool}(D:PE X o ta)(c:Cls X.K C)(j:Meth X.K C m f)(F:aC X.prog X.w X.K X.mg X.base CX k f fd ps sp)(B:cK k X.A)(J:Binds X.K fd ps ds)(G:Vals dvs ds)(z:Passes CX X E)(K:PA X (e::es) t)(d:autoParam (eh (e::es) X.env=(false,eval e X.env)::eh es X.env) wE)(g:autoParam ((backTo pos (eh es X.env)).any (·.1)=false) wE)(A:autoParam (eval (.Call (.Attribute o m apos) (e::es) [] pos) X.env=(do
   let O <- eval o X.env
   SZ apos.atName
   let (f,first) <- holding [O] (VV O m pl)
   Yn pos f first (backTo pos (eh (e::es) X.env)) (VX pos (UF [] X.env)))) wE) :
  PE X (.Call (.Attribute o m apos) (e::es) [] pos) (Bq C m sp dvs E ta t):=by
 intro b s i H Q I h;refine Wu (pl:=pl) (thn (D b s i H _ I h) λu v Z=>?_) A;obtain⟨x,N,p,w,a,S,R,L,M,l,q⟩:=Z;subst L;obtain rfl:u=qq a:=w;refine yd p M c j l ?_;refine UB (first:=[.ref a]) (h₀:=X.base) I.ok.mod.kin j.kp (thn (K pos b v i N _ p q) λus P ⟨vs,T,n,r,y⟩=>⟨n.kIn,?_⟩) d g;exact uA (us:=.ref a::us) (vs:=.ref a::vs) F B J G z n (.cons rfl r) y
theorem HC{pl:Sem Bool}(r:PE X o ta)(c:Cls X.K C)(e:Meth X.K C m f)(F:aC X.prog X.w X.K X.mg X.base CX k f fd ps sp)(p:cK k X.A)(v:Binds X.K fd ps ds)(t:Vals dvs ds)(j:Passes CX X E)(n:autoParam (eval (.Call (.Attribute o m apos) [] [] pos) X.env=(do
   let O <- eval o X.env
   SZ apos.atName
   let (f,first) <- holding [O] (VV O m pl)
   Yn pos f first (backTo pos (eh [] X.env)) (VX pos (UF [] X.env)))) wE) :
  PE X (.Call (.Attribute o m apos) [] [] pos) (Bq C m sp dvs E ta rX):=by
 intro b s g H Q I h;refine Wu (pl:=pl) (thn (r b s g H _ I h) λu z Z=>?_) n;obtain⟨x,D,d,i,a,B,A,w,y,l,q⟩:=Z;subst w;obtain rfl:u=qq a:=i;refine yd d y c e l ?_;exact Vp (first:=[.ref a]) d.kIn e.kp (uA (us:=[.ref a]) (vs:=[.ref a]) F p v t j d (.cons rfl .nil) q)
structure Mk (K:Fg0) (C f:Addr):Prop where
 makes:HT K C=true
 init:ew K (.ref C) "__init__"=some (some (.ref f))
 fn:Wj K (.ref f)=true
 kp:ox K (.ref C)=true
theorem G2{a:Pn0}{s:Shared}{Q:VK}(M:Mk X.K C f)(F:aC X.prog X.w X.K X.mg X.base CX k f fd ps sp)(n:cK (k + 1) X.A)(q:Binds X.K fd ps ds)(p:Vals dvs ds)(m:Passes CX X E)(I:Inv X a σ H s)(r:Vals vs us)(h:∀ x dx,H x=none->H dx=none->dx≠x->sp (.ref x::(vs++dvs)) (upd (upd H dx (.own x)) x (.ins C dx [])) (λv H2=>v=.non/\Q (.ref x) H2) E) :
  wpAny (model X.prog X.w) X.A (call (.ref C) us) (EP X a σ Q) X.xe s:=by
 have g:=h (s.heap.objs.size + 1) s.heap.objs.size (I.hok.fresh (XY _)) (I.hok.fresh (ec _)) (ov (Py _));have c:=Inv.made (C:=C) I;have d:Vals (V.ref (s.heap.objs.size + 1)::(vs++dvs)) (qq (s.heap.objs.size + 1)::(us++ds)):=.cons rfl (r.append p);have o:(qq (s.heap.objs.size + 1)::us++ds).length=ps.length:=by
  have e:=d.length;rw[F.len _ _ _ _ g] at e;exact e.symm
 refine Xe (H9 (f:=f) I.kIn M.makes M.init (beq_iff_eq.mp M.fn) (UL (F.run _ X.stack _ _ ⟨qq (s.heap.objs.size + 1)::us,[]⟩ (qq (s.heap.objs.size + 1)::(us++ds)) _ _ E (n.make C us [])
  (c.Sm.make C us []) (q _ (qq (s.heap.objs.size + 1)::us) c.kIn o) d g) λr i b=>?_))
 cases r with
 | error e=>exact m a σ _ _ e i c b
 | ok t=>
  cases t with
  | ret u=>
   obtain⟨v,z,y,j,w,l⟩:=c.after b;subst w;exact⟨j,⟨V.ref (s.heap.objs.size + 1),z,y,rfl,l⟩⟩
  | next=>exact sr b
  | brk=>exact sr b
  | cont=>exact sr b
theorem Km(M:Mk X.K C f)(F:aC X.prog X.w X.K X.mg X.base CX k f fd ps sp)(j:cK (k + 1) X.A)(m:Gl X x)(l:X.mg x=some (.ref C))(u:Binds X.K fd ps ds)(o:Vals dvs ds)(i:Passes CX X E)(v:PA X (e::es) t)(c:autoParam ((x == ("__debug__":Str))=false) wP)(n:autoParam (eh (e::es) X.env=(false,eval e X.env)::eh es X.env) wE)(b:autoParam ((backTo pos (eh es X.env)).any (·.1)=false) wE) :
  PE X (.Call (.Name x p) (e::es) [] pos) (GN C sp dvs E t):=by
 intro a s g H Q I h;refine vB (p8 I m l ?_ c);refine UB (h₀:=X.base) I.ok.mod.kin M.kp (thn (v pos a s g H _ I h) λy z ⟨w,A,d,r,q⟩=>⟨d.kIn,?_⟩) n b;exact G2 M F j u o i d r q
end
structure ak (N P:Ls0) (sc:Scope):Prop where
 kind:sc.kind=.function
 co:sc.isCoroutine=false
 gen:sc.isGenerator=false
 nd:N.Nodup
 pre:N.take P.length=P
 par:∀ x∈P,sc.names.lookup x=some .local\/sc.names.lookup x=some .cell
 nofree:∀ y∈sc.names,y.2≠.free
theorem Af {kindOf:Str->Option KF}{x:Str}:∀ {a:List (Str×Value)} {m:SV0},(∀ v,(x,v)∉a)->bindL kindOf a m x=m x
 | [],_,_=>rfl
 | (n,v)::r,m,h=>by
  unfold bindL;rw[Af λw b=>h w (ic _ b)];split
  .have:x≠n:=by rintro rfl;exact h v ly
   simp [this]
  .rfl
theorem Ah {kindOf:Str->Option KF}{x:Str}:∀ {a:List (Str×Value)} {m:SV0},(∀ v,(x,v)∉a)->bindC kindOf a m x=m x
 | [],_,_=>rfl
 | (n,v)::r,m,h=>by
  unfold bindC;rw[Ah λw b=>h w (ic _ b)];split
  .rfl
  .have:x≠n:=by rintro rfl;exact h v ly
   simp [this]
theorem Ag {kindOf:Str->Option KF}{x:Str}{v:Value}:∀ {P:Ls0} {vs:Lv0} {i:Nat} {m:SV0},P.Nodup->P[i]?=some x->vs[i]?=some v->kindOf x=some .local->
  bindL kindOf (P.zip vs) m x=some v
 | [],_,_,_,_,h,_,_=>by simp at h
 | _::_,[],_,_,_,_,h,_=>by simp at h
 | p::P,w::vs,0,m,c,b,a,d=>by
  simp at b a;subst b;subst a;show bindL kindOf ((p,w)::P.zip vs) m p=_;unfold bindL;rw[Af λv e=>(IR.mp c).1 (Vi e).1,if_pos d];simp
 | p::P,w::vs,i + 1,m,c,b,a,d=>by
  show bindL kindOf ((p,w)::P.zip vs) m x=_;unfold bindL;exact Ag (i:=i) (IR.mp c).2 (by simpa using b) (by simpa using a) d
theorem Ai {kindOf:Str->Option KF}{x:Str}{v:Value}:∀ {P:Ls0} {vs:Lv0} {i:Nat} {m:SV0},P.Nodup->P[i]?=some x->vs[i]?=some v->kindOf x≠some .local->
  bindC kindOf (P.zip vs) m x=some v
 | [],_,_,_,_,h,_,_=>by simp at h
 | _::_,[],_,_,_,_,h,_=>by simp at h
 | p::P,w::vs,0,m,c,b,a,d=>by
  simp at b a;subst b;subst a;show bindC kindOf ((p,w)::P.zip vs) m p=_;unfold bindC;rw[Ah λv e=>(IR.mp c).1 (Vi e).1,if_neg d];simp
 | p::P,w::vs,i + 1,m,c,b,a,d=>by
  show bindC kindOf ((p,w)::P.zip vs) m x=_;unfold bindC;exact Ai (i:=i) (IR.mp c).2 (by simpa using b) (by simpa using a) d
noncomputable def start (N:Ls0)(vs:List V):St:=vs.map some++hP (N.length - vs.length) none
noncomputable def Cv (CX:CXT)(P:OT)(w:World)(K:Fg0)(mg:SV0)(base:Heap)(N:Ls0)(a:Str)(scope:Scope)(f:Addr)(c:Value)(A:Around)(outer:List Env)(s:Shared)(H:Hp)(E:XK):Cx where
 prog:=P
 w:=w
 K:=K
 mg:=mg
 base:=base
 A:=A.deeper (envOfC a scope s.heap.objs.size f c)
 N:=N
 s₀:=s
 H₀:=H
 env:=envOfC a scope s.heap.objs.size f c
 outer:=outer
 stack:=envOfC a scope s.heap.objs.size f c::outer
 ex:=[]
 calm:=true
 fn:=λ_=>true
 pn:=[]
 xe:=λe s'=>wpAny (model P w) (A.deeper (envOfC a scope s.heap.objs.size f c)) (leaving (envOfC a scope s.heap.objs.size f c) e) (λ_ b=>CX outer H s E e b) (λd b=>CX outer H s E d b) s'
theorem CA{a:Scope}(h:a.names.lookup x=some .cell):∃ c,(Ln n a.names []).lookup x=some c:=by
 have q:=UM a.names n [] (.inl h);exact Rw.mp q
theorem Ga{CX:CXT}{C:SV0}{N:Ls0}{B:Value}{s s1:Shared}{E:XK}(S:ak N ps scope)(J:A.handled=none)(g:CK P w K C base A outer s H)(O:vs.length=ps.length)(r:Vals vs us)(x:InCallC s s.heap.objs.size (bindL (envOfC qual scope s.heap.objs.size f B).kindOf (ps.zip us) λ_=>none) (Ln (s.heap.objs.size + 1) scope.names []) (bindC (envOfC qual scope s.heap.objs.size f B).kindOf (ps.zip us) λ_=>none) s1) :
  Inv (Cv CX P w K C base N qual scope f B A outer s H E) [] (start N vs) H s1:=by
 have I:ps.length<=N.length:=by have:=congrArg Zc S.pre;rw[kv] at this;lia
 obtain⟨t,M,rfl,F⟩:=x.done;have j:∀ b:Addr,b∉(Cv CX P w K C base N qual scope f B A outer s H E).ex:=λb z=>absurd (show b∈([]:La0) from z) (by simp);refine⟨⟨g.mod,S.kind,rfl,rfl,ec _,λy z c t d=>?_,λy hy=>?_,λy c _ h=>?_,λ_=>J,WE g.frames,.inr ⟨rfl,rfl⟩,λb z=>absurd z (j b),g.bs,g.bsz,λb _ _=>j b,λb z=>absurd z (j b),g.rM,g.frf,g.tb⟩,
  rfl,g.bare,Un.kept F,⟨_,x.toInCall.ns,λi y v t d Q=>?_⟩,λy c h=>⟨_,x.cell y c h⟩,g.hok.fresh (ec _),λy c h=>?_,λp m=>absurd (show p∈([]:Pn0) from m) (by simp),g.hok.kept F,?_⟩
 .exact name_of_addr x.apart (Fl t) (Fl d)
 .have hy:scope.names.lookup y=some .cell\/scope.names.lookup y=some .free:=hy;rcases hy with hy | hy
  .exact CA hy
  .exact absurd rfl (S.nofree _ (Fl hy))
 .exact SY (x.above y c (Fl h))
 .have o:i < vs.length:=by
   unfold start at d;by_cases o:i < vs.length
   .exact o
   .rw[mm (by simpa using o)] at d;rw[tx] at d;split at d <;> cases d
  have L:vs[i]?=some v:=by
   unfold start at d;rw[iv (by simpa using o),dV] at d;cases e:vs[i]? with
   | none=>rw[e] at d;cases d
   | some a=>rw[e] at d;cases d;rfl
  obtain⟨u,D,G⟩:=r.get L;have m:ps[i]?=some y:=by
   rw[<- S.pre,Uu (by lia)];exact t
  have l:ps.Nodup:=by rw[<- S.pre];exact S.nd.sublist (List.take_sublist _ _)
  refine⟨u,G,?_⟩;rcases S.par y (fC m) with k | k
  .exact .inl ⟨k,Ag l m D k⟩
  .obtain⟨c,e⟩:=CA (n:=s.heap.objs.size + 1) k;refine .inr ⟨.inl k,c,e,?_⟩;have q:=x.cell y c e;rw[Ai l m D (by show scope.names.lookup y≠_;rw[k];decide)] at q;exact q
 .exact g.hok.fresh (SY (x.above y c (Fl h)))
 .unfold start;show _=N.length;rw[el,lM0,zz];lia
theorem MF{CX:CXT}{m:SV0}{c:Arguments}{F kV l D a G T:Value}{L R:Option Addr}{N:Ls0}{sp:Sp}(lk:K.lookup f=some ⟨T,R,.func (Fk name qual c body scope F kV l D L a G),osl⟩)(C:TV K a qual=true)(S:ak N ps scope)(len:∀ vs H Q E,sp vs H Q E->vs.length=ps.length)(hbody:∀ (A:Around) (outer:List Env) (s:Shared) (H:Hp) (vs:List V) (Q:VK) (E:XK),cK k (A.deeper (envOfC qual scope s.heap.objs.size f a))->sp vs H Q E->
   ∃ t,PSs (Cv CX P w K m base N qual scope f a A outer s H E) body t/\t { nx:=λ_ H'=>Q .non H',rt:=Q } (start N vs) H) :
  aC P w K m base CX (k + 1) f (Fk name qual c body scope F kV l D L a G) ps sp:=by
 refine⟨len,λA outer s H args O vs Q E B j hb r i=>?_⟩;have Y:=len _ _ _ _ i;have M:K.In s.heap:=j.mod.kin.keeps λb o e=>(j.bs b o e).1;have z:s.heap.NoLimit:=j.mod.nolimit.keeps λb o e=>(j.bs b o e).1;have g:∀ y∈ps.zip O,scope.names.lookup y.1=some .local\/(scope.names.lookup y.1=some .cell/\((Ln (s.heap.objs.size + 1) scope.names []).lookup y.1).isSome=true):=λ⟨n,v⟩ U=>by
  rcases S.par n (Vi U).1 with q | q
  .exact .inl q
  .exact .inr ⟨q,UM _ _ _ (.inl q)⟩
 refine codeAny_call_function B.depth (M _ _ lk) rfl S.co S.gen rfl (PySem.W.codeRec_of M C) (hb _ _ _ _ ?_);refine wpAny_newFunctionEnv_cells S.kind g λa1 Z s1 x=>?_;subst Z;refine⟨z.keeps x.toInCall.keep,codeAny_func ?_⟩;obtain⟨t,W,X⟩:=hbody A outer s H vs Q E (B.deeper _) i;have I:Inv (Cv CX P w K m base N qual scope f a A outer s H E) [] (start N vs) H s1:=Ga S B.hd j Y r x;refine Pz (W [] s1 (start N vs) H _ I X) (λfl s' h=>?_) λe s' h=>h;have fin:∀ {d:St} {H':Hp} {v:V} {u:Value},Inv (Cv CX P w K m base N qual scope f a A outer s H E) [] d H' s'->RelV v u->Q v H'->CE outer P w H s Q u s':=
  λ{d H' v u} J p q=>⟨v,H',J.os,J.bare,J.base,J.hok,p,q⟩
 cases fl with
 | ret u=>
  obtain⟨v,d,H',J,p,q⟩:=h;exact fin J p q
 | next=>
  obtain⟨d,H',J,q⟩:=h;exact fin (v:=V.non) (u:=TF) J rfl q
 | brk=>
  obtain⟨_,_,_,q⟩:=h;exact sr q
 | cont=>
  obtain⟨_,_,_,q⟩:=h;exact sr q
section
variable {id T:String}
def tCB (r:List V->Hp->VK->Prop)(t:TA):TE:=λσ H Q=>t σ H λvs H1=>r vs H1 Q
theorem HH(u:eB X (.builtin id) r)(o:Gl X x)(n:X.mg x=none)(l:AC x=some (.builtin id))(v:PA X (e::es) t)(m:autoParam (x≠"__name__") wP)(c:autoParam ((x == ("__debug__":Str))=false) wP)(q:autoParam (eh (e::es) X.env=(false,eval e X.env)::eh es X.env) wE)(b:autoParam ((backTo pos (eh es X.env)).any (·.1)=false) wE):PE X (.Call (.Name x p) (e::es) [] pos) (tCB r t):=by
 intro a s d H Q I h;refine vB (gO I o n l ?_ m c);exact PyProof.Rows.callWith_builtin1 (thn (v pos a s d H _ I h) λg i ⟨f,y,w,j,k⟩=>u a i d y f g Q w j k) q b
theorem Fz(u:eB X (.type T) r)(o:Gl X x)(n:X.mg x=none)(l:AC x=some (.type T))(v:PA X (e::es) t)(m:autoParam (x≠"__name__") wP)(c:autoParam ((x == ("__debug__":Str))=false) wP)(q:autoParam (eh (e::es) X.env=(false,eval e X.env)::eh es X.env) wE)(b:autoParam ((backTo pos (eh es X.env)).any (·.1)=false) wE):PE X (.Call (.Name x p) (e::es) [] pos) (tCB r t):=by
 intro a s d H Q I h;refine vB (gO I o n l ?_ m c);exact mC (thn (v pos a s d H _ I h) λg i ⟨f,y,w,j,k⟩=>u a i d y f g Q w j k) q b
end
end _2
variable {prog:OT}{v cd it acc:Lq}{o value tg elt iter:UX}{Q:Option Lq->SX->Prop}{lo hi:Option UX}{n j k k1 k2:Nat}{t:_2.TA}{X Y:_2.Cx}{e p f l C z i1 l1 l2 L:TC}{te ta:_2.TE}{pos p2 apos cpos tp p0:XI}{r:_2.V->Option Int->Option Int->_2.Hp->_2.VK->Prop}{σ:_2.St}{H H2 H' H₀:_2.Hp}{xs dvs:List _2.V}{ys:Array Lq}{its its' us:Lv0}{y:_2.V}{es ifs:List UX}{name qual:UU}{kvs:List (_2.Key×_2.V)}{env:YI}{K:Fg0}{base:WY}{st:Yj}{fd:ej}{N ps Nc:Ls0}{osl:Array (Option Lq)}{sc scope:YX}{g:_2.TG}{oe:PySem.Obj}{fr:On}{s₀:SX}{ex fp:La0}{R:Xq->SX->Prop}{outer:List YI}{dx:Option TC}{tn:Nat->WY->Prop}{J:_2.It}{wi:_2.TI}{RR:Lq->TC->Xq->SX->Prop}
namespace _h
open PySem PyProof.Rows
section
variable {s:Shared}
noncomputable def sIx (n d:Nat):Option Int->Nat
 | none=>d
 | some v=>if v < 0 then (v + (n:Int)).toNat else min v.toNat n
theorem BC(n d:Nat):sIx n d none=d:=rfl
theorem wV(n d k:Nat):sIx n d (some (k:Int))=min k n:=by
 show (if (k:Int) < 0 then ((k:Int) + (n:Int)).toNat else min (k:Int).toNat n)=min k n;rw[if_neg (by lia),ey]
theorem Ni(n d:Nat)(b:d<=n)(o:Option Int):sIx n d o<=n:=by
 cases o with
 | none=>exact b
 | some v=>
  show (if v < 0 then (v + (n:Int)).toNat else min v.toNat n)<=n;by_cases a:v < 0
  .rw[if_pos a];lia
  .rw[if_neg a];exact Nat.min_le_right _ _
theorem EO(v:Int)(n d:Nat):(if v < 0 then max (v + (n:Int)) 0 else min v (n:Int))=((sIx n d (some v):Nat):Int):=by
 show (if v < 0 then max (v + (n:Int)) 0 else min v (n:Int))=(((if v < 0 then (v + (n:Int)).toNat else min v.toNat n):Nat):Int);by_cases a:v < 0
 .simp only[if_pos a];lia
 .simp only[if_neg a];lia
theorem DW(lo a:Option Int)(n:Nat):Ud lo a 1 (n:Int)=(((sIx n 0 lo:Nat):Int),((sIx n n a:Nat):Int)):=by
 have b:¬ ((1:Int) < 0):=by lia
 unfold Ud;simp only[b,if_false];refine Zd ?_ ?_
 .cases lo with
  | none=>rfl
  | some v=>exact EO v n 0
 .cases a with
  | none=>rfl
  | some v=>exact EO v n n
theorem C7(i j:Nat):PP (i:Int) (j:Int) 1=j - i:=by
 unfold PP;have a:(1:Int) > 0:=by lia
 simp only[a,if_true,YN];split <;> lia
theorem xl{o:Option Int}{Q:Option Int->Shared->Prop}(p:IsPart v o)(h:Q o s):wpAny (model prog w) A (Yb v) Q E s:=by
 cases p with
 | none=>exact slicePart_none h
 | int i t=>exact slicePart_int h
theorem uq{f:Addr}{e d:Value}{lo b:Option Int}{Q:Int×Int×Nat->Shared->Prop}(i:s.heap.IsSliceOf f e d .none)(pl:IsPart e lo)(g:IsPart d b)(h:Q (((sIx n 0 lo:Nat):Int),1,sIx n n b - sIx n 0 lo) s):wpAny (model prog w) A (VD (.ref f) (pure (n:Int))) Q E s:=by
 obtain⟨os,a,j,c⟩:=id i;unfold VD Yy;refine cc (cc (NR a c (x:=e) rfl (cc (NR a c (x:=d) rfl (cc (NR a c (x:=.none) rfl (hE ?_)))))));refine cc (slicePart_none ?_);show wpAny _ _ (if ((1:Int) == 0)=true then _ else _) _ _ s;rw[if_neg (by decide)];refine cc (xl pl (cc (xl g (cc (hE ?_)))));show wpAny _ _ (match Ud lo b 1 (n:Int) with | (lo,b)=>pure (lo,(1:Int),PP lo b 1)) _ _ s;rw[DW lo b n];show wpAny _ _ (pure (((sIx n 0 lo:Nat):Int),(1:Int),PP ((sIx n 0 lo:Nat):Int) ((sIx n n b:Nat):Int) 1)) _ _ s;rw[C7];exact hE h
theorem HA(xs:Array Value)(i k:Nat):((ck k).filterMap λ(m:Nat)=>xs[((i:Int) + (m:Int) * 1).toNat]?).toArray=((xs.toList.drop i).take k).toArray:=by
 have e:(λ(m:Nat)=>xs[((i:Int) + (m:Int) * 1).toNat]?)=λm=>xs[i + m]?:=by
  funext m
  have:((i:Int) + (m:Int) * 1).toNat=i + m:=by lia
  rw[this]
 rw[e];have:=pick_run xs i k;rw[VE] at this;have a:((λx=>xs[x]?) ∘ λx=>i + x)=λm=>xs[i + m]?:=rfl;rw[a] at this;rw[this]
theorem tw{t d:Addr}{items:Array Value}{k j:Value}{lo b:Option Int}{Q:VS}(c:IsTup s.heap t items)(l:s.heap.IsSliceOf d k j .none)(pl:IsPart k lo)(n:IsPart j b)(o:¬ (sIx items.size 0 lo=0/\sIx items.size items.size b=items.size))(h:Q (.ref s.heap.objs.size) { s with heap:=s.heap.push { cls:=.type "tuple",data:=.seq ((items.toList.drop (sIx items.size 0 lo)).take (sIx items.size items.size b - sIx items.size 0 lo)).toArray } })(hsz:items.size<=sizeLine):wpAny (model prog w) A (WM (.ref t) (.ref d)) Q E s:=by
 have a:sizeOk (.seq ((items.toList.drop (sIx items.size 0 lo)).take (sIx items.size items.size b - sIx items.size 0 lo)).toArray):=by
  show ((items.toList.drop (sIx items.size 0 lo)).take (sIx items.size items.size b - sIx items.size 0 lo)).toArray.size<=sizeLine;rw[hL,kv,wh,Ue];lia
 have v:sIx items.size items.size b<=items.size:=Ni _ _ (ec _) b;obtain⟨os,e,g,p⟩:=id l;have i:s.TypeIs (.ref d) "slice":=⟨os,e,g⟩;unfold WM
 try with_reducible refine Nv ?_
 first | refine cc (hE ?_) | skip
 refine cc (wpAny_sequenceKey c.typeIs (by decide) ?_);refine cc (UG (name:=lh "__getitem__") c.typeIs OY
  (Va OY c.typeIs entry_tuple_getitem ?_ (args_tuple_getitem _ _)))
 show wpAny _ _ (Yo (.ref t) >>= _) _ _ s;refine cc (tupleItemsOf_ c ?_);refine cc (wpAny_typeOf i ?_);rw[if_pos (by decide)];refine cc (uq l pl n ?_);have f:¬ ((((sIx items.size 0 lo:Nat):Int) == 0 && (1:Int) == 1 && (sIx items.size items.size b - sIx items.size 0 lo) == items.size)=true):=by
  intro q;rw[ng,ng] at q;have u:((sIx items.size 0 lo:Nat):Int)=0:=eq_of_beq q.1.1;have r:sIx items.size items.size b - sIx items.size 0 lo=items.size:=eq_of_beq q.2;exact o ⟨by lia,by lia⟩
 show wpAny _ _ (if (((sIx items.size 0 lo:Nat):Int) == 0 && (1:Int) == 1 && (sIx items.size items.size b - sIx items.size 0 lo) == items.size)=true then _ else _) _ _ s;rw[if_neg f,HA]
 first
  | exact cc (m:=RM _) (Jv (hE ⟨_,rfl,hE h⟩) a)
  | exact cc (m:=RM _) (Jv (cc (hE (hE ⟨_,rfl,hE h⟩))) a)
  | exact cc (cc (m:=RM _) (Jv (hE (hE ⟨_,rfl,hE h⟩)) a))
  | exact cc (cc (m:=RM _) (Jv (hE ⟨_,rfl,hE h⟩) a))
end
end _h
namespace _2
open PySem PySem.Spec PyProof.Rows
abbrev TO:=St->Hp->(Option Int->Hp->Prop)->Prop
def PO (X:Cx)(e:Option Expr)(t:TO):Prop:=
 ∀ (pins:Pn0) (s:Shared) (σ:St) (H:Hp) (Q:Option Int->Hp->Prop),Inv X pins σ H s->t σ H Q->
  wpAny (model X.prog X.w) X.A (evalPart e X.env) (λu s'=>∃ o H',Inv X pins σ H' s'/\IsPart u o/\Q o H') X.xe s
def D2:TO:=λ_ H Q=>Q none H
def LZ (t:TE):TO:=λσ H Q=>t σ H λx H1=>∃ i,x=.int i/\Q (some i) H1
section
variable {e:Expr}{tl th:TO}
theorem Kg:PO X none D2:=by
 intro a s b H Q I h;rw[evalPart_none];exact hE ⟨none,H,I,.none,h⟩
theorem Kf(h:PE X e te):PO X (some e) (LZ te):=by
 intro a s b H Q I f;rw[evalPart_some];refine thn (h a s b H _ I f) λu k Z=>?_;obtain⟨x,j,g,c,d⟩:=Z;obtain⟨i,rfl,q⟩:=d;obtain⟨t,rfl⟩:=c;exact⟨some i,j,g,.int i t,q⟩
def SlR (X:Cx)(r:V->Option Int->Option Int->Hp->VK->Prop):Prop:=
 ∀ (pins:Pn0) (s:Shared) (σ:St) (H:Hp) (x:V) (v b a:Value) (lo hi:Option Int) (c:Addr) (Q:VK),Inv X pins σ H s->RelV x v->s.heap.IsSliceOf c b a .none->IsPart b lo->IsPart a hi->r x lo hi H Q->
  ∃ T id,Xf (.type T) "__getitem__"=pure (some (.builtin id))/\s.TypeIs v T/\wpAny (model X.prog X.w) X.A (WM v (.ref c)) (EP X pins σ Q) X.xe s
def tSl (r:V->Option Int->Option Int->Hp->VK->Prop)(te:TE)(tl a:TO):TE:=λσ H Q=>te σ H λx H1=>tl σ H1 λl H2=>a σ H2 λu b=>r x l u b Q
theorem BQ(z:SlR X r)(C:PE X e te)(A:PO X lo tl)(w:PO X hi th):PE X (.Subscript e (.Slice lo hi none p2) pos) (tSl r te tl th):=by
 intro a s d H Q I h;refine Xg (thn (C a s d H _ I h) λv j Z=>?_);obtain⟨x,L,J,k,o⟩:=Z;refine wpAny_Slice (thn (A a j d L _ J o) λf i ⟨l,K,G,t,n⟩=>thn (w a i d K _ G n) λvu c Z=>?_);obtain⟨u,g,F,p,m⟩:=Z;rw[evalPart_none];refine hE ?_;have E:Inv X a d g { c with heap:=c.heap.push { cls:=.type "slice",data:=.fields #[f,vu,.none] } }:=F.kept (t':=c.toks) λb M q=>cm _ q;obtain⟨T,id,D,y,B⟩:=z a { c with heap:=c.heap.push { cls:=.type "slice",data:=.fields #[f,vu,.none] } } d g x v f vu l u c.heap.objs.size Q E k (Xh ..) t p m;show wpAny (model X.prog X.w) X.A (VP e (.Slice lo hi none p2) v (.ref c.heap.objs.size)) (EP X a d Q) X.xe { c with heap:=c.heap.push { cls:=.type "slice",data:=.fields #[f,vu,.none] } };exact tail_any (ops:=[.ref c.heap.objs.size,v]) y D B (by with_unfolding_all rfl)
noncomputable def zg (xs:List V)(lo a:Option Int):List V:=(xs.drop (_h.sIx xs.length 0 lo)).take (_h.sIx xs.length xs.length a - _h.sIx xs.length 0 lo)
theorem vR(xs:List V)(lo a:Option Int):(zg xs lo a).length<=xs.length:=by
 unfold zg;rw[kv,wh];lia
noncomputable def Qp (K:Fg0):V->Option Int->Option Int->Hp->VK->Prop:=λx lo hi H Q=>∃ a xs,x=.ref a/\SqT K H a xs/\
 ¬ (_h.sIx xs.length 0 lo=0/\_h.sIx xs.length xs.length hi=xs.length)/\∀ p,H p=none->Q (.ref p) (upd H p (.tup (zg xs lo hi)))
theorem Nf:SlR X (Qp X.K):=by
 intro g s u H x v y w lo f z Q I k t m l h;obtain⟨a,d,rfl,n,p,q⟩:=h;cases k;obtain⟨e,r,j,i⟩:=I.tuple n;have c:e.toArray.size=d.length:=by rw[hL];exact r.length.symm
 refine⟨"tuple",_,OY.lookup,j.typeIs,?_⟩;refine _h.tw j t m l (by rw[c];exact p) ?_ (by rw[c];exact i);rw[c];refine⟨.ref s.heap.objs.size,_,I.laid (t':=s.toks) (o:=.tup (zg d lo f)) (λb A q=>cm _ q) (ec _) ?_,rfl,q _ (I.hok.fresh (ec _))⟩;exact⟨Ht (vR d lo f) i,_,(r.drop (_h.sIx d.length 0 lo)).take (_h.sIx d.length d.length f - _h.sIx d.length 0 lo),YJ _ _⟩
end
noncomputable def ixN (n:Nat)(i:Int):Option Nat:=if 0<=i then (if i < n then some i.toNat else none) else if -(n:Int)<=i then some (i + n).toNat else none
noncomputable def atI {α:Type}(xs:List α)(i:Int):Option α:=(ixN xs.length i).bind λj=>xs[j]?
theorem EA{i:Int}(h:ixN n i=some j):seqIndex? i n=some j/\j < n/\-(n:Int)<=i/\i < n:=by
 unfold ixN at h;by_cases b:0<=i
 .rw[if_pos b] at h;by_cases a:i < n
  .rw[if_pos a] at h;have e:i.toNat=j:=nS h;exact⟨by rw[XZ b a,e],by lia,by lia,a⟩
  .rw[if_neg a] at h;cases h
 .rw[if_neg b] at h;by_cases a:-(n:Int)<=i
  .rw[if_pos a] at h;have e:(i + n).toNat=j:=nS h;exact⟨by rw[XA (by lia) a,e],by lia,a,by lia⟩
  .rw[if_neg a] at h;cases h
theorem Bg{a:Type}{xs:List a}{i:Int}{v:a}(h:atI xs i=some v):∃ j,seqIndex? i xs.length=some j/\xs[j]?=some v/\j < xs.length/\-(xs.length:Int)<=i/\i < xs.length:=by
 unfold atI at h;cases e:ixN xs.length i with
 | none=>rw[e] at h;cases h
 | some j=>
  rw[e] at h;obtain⟨f,d,c,b⟩:=EA e;exact⟨j,f,h,d,c,b⟩
theorem LG{a:Type}{xs:List a}{v:a}(h:xs[j]?=some v):atI xs (j:Int)=some v:=by
 have b:j < xs.length:=(gS0 h).1;have e:ixN xs.length (j:Int)=some j:=by
  unfold ixN;rw[if_pos (by lia),if_pos (by lia)];simp
 unfold atI;rw[e];exact h
theorem jN{a:Type}(xs:List a)(v:a):atI (xs++[v]) (-1)=some v:=by
 have b:(xs++[v]).length=xs.length + 1:=by simp
 have e:ixN (xs++[v]).length (-1)=some xs.length:=by
  unfold ixN;rw[b,if_neg (by decide),if_pos (by lia)]
  congr 1
  lia
 unfold atI;rw[e];show (xs++[v])[xs.length]?=some v;simp
def E4 (b:Expr):Prop:=∀ o i,subscripted b false o i=operate [o,i] (WM o i)
def IxR (X:Cx)(r:R2):Prop:=
 ∀ (value slice:Expr) (pins:Pn0) (s:Shared) (σ:St) (H:Hp) (x y:V) (v u:Value) (Q:VK),Inv X pins σ H s->RelV x v->RelV y u->r x y H Q->
  subscripted slice false v u=operate [v,u] (WM v u)->wpAny (model X.prog X.w) X.A (VP value slice v u) (EP X pins σ Q) X.xe s
def MtR (X:Cx)(id:String)(r:V->List V->Hp->VK->Prop):Prop:=
 ∀ (pins:Pn0) (s:Shared) (σ:St) (H:Hp) (x:V) (xs:List V) (v:Value) (us:Lv0) (Q:VK),Inv X pins σ H s->RelV x v->Vals xs us->r x xs H Q->
  wpAny (model X.prog X.w) X.A (call (.builtin id) (v::us)) (EP X pins σ Q) X.xe s
section
variable {a b:Expr}{tb:TE}
theorem IxR.or{r f:R2}(h:IxR X r)(h':IxR X f):IxR X (λx y H Q=>r x y H Q\/f x y H Q):=by
 intro a slice b s c H x y v u Q I e d q g;rcases q with q | q
 .exact h a slice b s c H x y v u Q I e d q g
 .exact h' a slice b s c H x y v u Q I e d q g
theorem QK{r:R2}(j:IxR X r)(l:PE X a ta)(k:PE X b tb)(i:E4 b):PE X (.Subscript a b pos) (tOp r ta tb):=by
 intro c s d H Q I h;exact Xg (Pn l k I h λv u e x y n m g f q=>j a b c e d n x y v u Q m g f q (i _ _))
def Qt (K:Fg0):R2:=λx y H Q=>∃ p xs i v,x=.ref p/\y=.int i/\SqL K H p xs/\atI xs i=some v/\Q v H
def Qr (K:Fg0):R2:=λx y H Q=>∃ p xs i v,x=.ref p/\y=.int i/\SqT K H p xs/\atI xs i=some v/\Q v H
def Qs:R2:=λx y H Q=>∃ z i c,x=.str z/\y=.int i/\z.length<=sizeLine/\atI z.cps.toList i=some c/\Q (.str ⟨#[c]⟩) H
theorem K7:IxR X (Qt X.K):=by
 intro c slice a s k H x y v u Q I B A h l;obtain⟨p,K,i,z,rfl,rfl,C,E,q⟩:=h;cases B;obtain⟨t,rfl⟩:=A;obtain⟨f,r,e,L⟩:=I.list C;obtain⟨j,b,J,N,G,F⟩:=Bg E;obtain⟨w,n,d⟩:=r.get J;have D:=r.length;have M:=uP;have fin:EP X a k Q w s:=⟨z,H,I,d,q⟩;by_cases m:0<=i
 .have g:i.toNat=j:=by
   rw[XZ m F] at b;exact nS b
  exact item_listR e.isList m (by lia) (by rw[g];simpa using n) fin l
 .have g:(i + (f.toArray.size:Int)).toNat=j:=by
   rw[XA (by lia) G] at b;rw[hL,<- D];exact nS b
  exact Wk (x:=w) e.isList.typeIs VM.lookup
   (wpAny_getItem_list_neg (Q:=λr o=>r=w/\EP X a k Q r o) e.isList (by lia) (by rw[hL] <;> lia) (by lia) (by rw[g];simpa using n) ⟨rfl,fin⟩) l
theorem OD:IxR X (Qr X.K):=by
 intro b slice a s d H x y v u Q I k g h m;obtain⟨p,E,i,z,rfl,rfl,n,A,q⟩:=h;cases k;obtain⟨t,rfl⟩:=g;obtain⟨l,r,e,F⟩:=I.tuple n;obtain⟨j,C,B,L,K,J⟩:=Bg A;obtain⟨w,D,c⟩:=r.get B;have o:=r.length;have G:=uP;have fin:EP X a d Q w s:=⟨z,H,I,c,q⟩;exact Wk (x:=w) e.typeIs OY.lookup
  (getItem_tuple (j:=j) (Q:=λr f=>r=w/\EP X a d Q r f) e (by lia) (by lia) (by rw[hL,<- o];exact C) (by simpa using D) ⟨rfl,fin⟩) m
theorem OE:IxR X Qs:=by
 intro a slice b s w H x y v u Q I f e h g;obtain⟨z,i,c,rfl,rfl,B,l,q⟩:=h;obtain⟨t,rfl⟩:=f;obtain⟨A,rfl⟩:=e;obtain⟨j,d,o,D,n,m⟩:=Bg l;have k:z.cps.toList.length=z.length:=by simp [Str.length]
 rw[k] at d n m;have C:=uP;exact tail_any (typeIs_str s z t) slot_str_getitem.lookup (getItem_str (c:=c) (by
  have r:decide (i < -(2 ^ 63:Int))=false:=decide_eq_false (by lia);have p:decide (i≥2 ^ 63)=false:=decide_eq_false (by lia);rw[r,p,YA]) (by rw[d];simpa using o) ⟨.str ⟨#[c]⟩,H,I.tok _,⟨_,rfl⟩,q⟩) g
def rIx (K:Fg0):R2:=λx y H Q=>Qt K x y H Q\/Qr K x y H Q\/Qs x y H Q
theorem OF:IxR X (rIx X.K):=K7.or (OD.or OE)
theorem Dr(a:Lv0)(n j:Nat)(u:Value):IW (·.setIfInBounds j u) { cls:=.type "list",data:=.seq a.toArray n }={ cls:=.type "list",data:=.seq (a.set j u).toArray n }:=by
 simp [IW]
theorem Inv.lst {a:Pn0}{σ:St}{H:Hp}{s:Shared}{p:Addr}{xs:List V}(I:Inv X a σ H s)(h:H p=some (.lst xs)) :
  ∃ (its:Lv0) (n:Nat),Vals xs its/\s.heap.get? p=some { cls:=.type "list",data:=.seq its.toArray n }/\xs.length<=sizeLine:=by
 obtain⟨z,its,n,r,e⟩:=I.hok p _ h;exact⟨its,n,r,e,z⟩
theorem Inv.Oo{a:Pn0}{s:Shared}{ys:List V}{c:Nat}{f:Obj->Obj}(I:Inv X a σ H s)(h:H p=some (.lst xs))(g:s.heap.get? p=some { cls:=.type "list",data:=.seq its.toArray n })(d:f { cls:=.type "list",data:=.seq its.toArray n }={ cls:=.type "list",data:=.seq its'.toArray c })(r:Vals ys its')(hz:ys.length<=sizeLine)(t:Nat) :
  Inv X a σ (upd H p (.lst ys)) { s with heap:=s.heap.update p f,toks:=t }:=by
 have e:(s.heap.update p f).get? p=some { cls:=.type "list",data:=.seq its'.toArray c }:=by
  rw[PL f g (by rw[d] <;> rfl),d]
 refine I.write (x:=p) (e:=p) (by rw[h];trivial) (.inl rfl) (λb u i q=>(Pw _ _ (vk i)).trans q) ⟨_,e⟩ ?_;exact⟨hz,its',c,r,e⟩
noncomputable def Ef:V->V->V->Hp->(Hp->Prop)->Prop:=λo i v H Q=>∃ p xs k j,o=.ref p/\i=.int k/\H p=some (.lst xs)/\ixN xs.length k=some j/\Q (upd H p (.lst (xs.set j v)))
theorem set_list:SU X Ef:=by
 intro a s y H o i v F G u Q I B C A h;obtain⟨p,z,k,j,rfl,rfl,g,E,q⟩:=h;cases B;obtain⟨t,rfl⟩:=C;obtain⟨b,n,r,d,D⟩:=I.lst g;obtain⟨c,K,m,l⟩:=EA E;have e:=r.length;have J:=uP;have x:Inv X a y (upd H p (.lst (z.set j v))) { s with heap:=s.heap.update p (IW (·.setIfInBounds j u)) }:=
  I.Oo g d (Dr b n j u) (r.set A j) (by rw[Qh];exact D) s.toks
 by_cases w:0<=k
 .have f:k.toNat=j:=by
   rw[XZ w l] at c;exact nS c
  exact PySem.W.ki_setAt d w (by lia) (by rw[hL,<- e];exact l) (by rw[f];exact⟨_,x,q⟩)
 .have f:(k + (b.toArray.size:Int)).toNat=j:=by
   rw[XA (by lia) m] at c;rw[hL,<- e];exact nS c
  exact PySem.W.ki_setBack d (by lia) (by rw[hL,<- e];exact m) (by lia) (by rw[f];exact⟨_,x,q⟩)
theorem Ao(lo a:Option Int)(n:Nat):(rx lo a none n).1=((_h.sIx n 0 lo:Nat):Int)/\(rx lo a none n).2.1=((_h.sIx n n a:Nat):Int)/\(rx lo a none n).2.2=1:=by
 refine⟨?_,?_,rfl⟩
 .cases lo with
  | none=>simp [rx,_h.sIx]
  | some i=>
   simp only[rx,_h.sIx,XQ,show (1:Int) > 0 by decide,if_true];by_cases h:i < 0
   .simp only[h,if_true] <;> lia
   .simp only[h,if_false] <;> lia
 .cases a with
  | none=>simp [rx,_h.sIx]
  | some i=>
   simp only[rx,_h.sIx,XQ,show (1:Int) > 0 by decide,if_true];by_cases h:i < 0
   .simp only[h,if_true] <;> lia
   .simp only[h,if_false] <;> lia
theorem yT(a:Lv0)(lo b:Option Int):WO a.toArray lo b none=((a.drop (_h.sIx a.length 0 lo)).take (_h.sIx a.length a.length b - _h.sIx a.length 0 lo)).toArray:=by
 obtain⟨e,d,c⟩:=Ao lo b a.toArray.size;unfold WO;rw[e,d,c];simp only[sliceRange_one,pick_run,hL] <;> rfl
noncomputable def Qq (K:Fg0):V->Option Int->Option Int->Hp->VK->Prop:=λx lo hi H Q=>∃ a xs,x=.ref a/\SqL K H a xs/\∀ p,H p=none->Q (.ref p) (upd H p (.lst (zg xs lo hi)))
theorem JM:SlR X (Qq X.K):=by
 intro f s t H x v w u lo e y Q I i p k j h;obtain⟨a,c,rfl,n,q⟩:=h;cases i;obtain⟨l,r,g,m⟩:=I.list n;have d:=r.length;refine⟨"list",_,VM.lookup,g.isList.typeIs,?_⟩;refine VQ g.isList p k j .none (by simp) ?_ (by rw[hL] <;> lia);rw[yT,<- d];refine⟨.ref s.heap.objs.size,_,I.laid (t':=s.toks) (o:=.lst (zg c lo e)) (λb z q=>cm _ q) (ec _) ?_,rfl,q _ (I.hok.fresh (ec _))⟩;exact⟨Ht (vR c lo e) m,_,0,(r.drop (_h.sIx c.length 0 lo)).take (_h.sIx c.length c.length e - _h.sIx c.length 0 lo),hY _ rfl⟩
noncomputable def qx:V->Bool
 | .non=>true
 | .bl _=>true
 | .int _=>true
 | .str _=>true
 | _=>false
noncomputable def eqV:V->V->Bool
 | .non,.non=>true
 | .bl a,.bl b=>a == b
 | .bl a,.int b=>(if a then 1 else 0) == b
 | .int a,.bl b=>a == (if b then 1 else 0)
 | .int a,.int b=>a == b
 | .str a,.str b=>a == b
 | _,_=>false
theorem Pd{s:Shared}{x:V}(e:RelV y u)(c:RelV x v)(fy:qx y=true)(fx:qx x=true):Zg A s u v (eqV y x):=by
 cases y with
 | non=>
  cases e;cases x with
  | non=>cases c;exact Wd _
  | bl b=>cases c;exact SeqAt.EqAt.none_bool b
  | int b=>obtain⟨t,rfl⟩:=c;exact SeqAt.EqAt.none_int b t
  | str b=>obtain⟨t,rfl⟩:=c;exact SeqAt.EqAt.none_str b t
  | _=>exact absurd (show false=true from fx) ri
 | bl a=>
  cases e;cases x with
  | non=>cases c;exact SeqAt.EqAt.bool_none a
  | bl b=>cases c;exact SeqAt.EqAt.bool_bool a b
  | int b=>obtain⟨t,rfl⟩:=c;exact SeqAt.EqAt.bool_int a b t
  | str b=>obtain⟨t,rfl⟩:=c;exact SeqAt.EqAt.bool_str a b t
  | _=>exact absurd (show false=true from fx) ri
 | int a=>
  obtain⟨d,rfl⟩:=e;cases x with
  | non=>cases c;exact SeqAt.EqAt.int_none a d
  | bl b=>cases c;exact SeqAt.EqAt.int_bool a d b
  | int b=>obtain⟨t,rfl⟩:=c;exact SeqAt.EqAt.int_int a d b t
  | str b=>obtain⟨t,rfl⟩:=c;exact Xa a d b t
  | _=>exact absurd (show false=true from fx) ri
 | str a=>
  obtain⟨d,rfl⟩:=e;cases x with
  | non=>cases c;exact SeqAt.EqAt.str_none a d
  | bl b=>cases c;exact SeqAt.EqAt.str_bool a d b
  | int b=>obtain⟨t,rfl⟩:=c;exact Xb a d b t
  | str b=>obtain⟨t,rfl⟩:=c;exact SeqAt.EqAt.str_str a d b t
  | _=>exact absurd (show false=true from fx) ri
 | _=>exact absurd (show false=true from fy) ri
noncomputable def eqU (x:V)(u:Value):Bool:=match u with
 | .none=>eqV .non x
 | .bool b=>eqV (.bl b) x
 | .int i _=>eqV (.int i) x
 | .str z _=>eqV (.str z) x
 | _=>false
theorem IK{x:V}(r:RelV y u)(f:qx y=true):eqU x u=eqV y x:=by
 cases y with
 | non=>cases r;rfl
 | bl b=>cases r;rfl
 | int i=>obtain⟨t,rfl⟩:=r;rfl
 | str z=>obtain⟨t,rfl⟩:=r;rfl
 | _=>exact absurd (show false=true from f) ri
theorem Bj {x:V}:∀ {xs:List V} {us:Lv0},Vals xs us->xs.all qx=true->us.any (eqU x)=xs.any λy=>eqV y x
 | _,_,.nil,_=>rfl
 | y::xs,u::us,.cons r t,f=>by
  rw[Ve,ng] at f;rw[YB,YB,IK r f.1,Bj t f.2]
theorem xY {A:Around}{s:Shared}{x:V}{v:Value}(a:RelV x v)(fx:qx x=true):∀ {xs:List V} {us:Lv0},Vals xs us->xs.all qx=true->∀ u∈us,Zg A s u v (eqU x u)
 | _,_,.nil,_=>λu hu=>by cases hu
 | y::xs,u::us,.cons r t,f=>λb hu=>by
  rw[Ve,ng] at f;rcases hF.mp hu with rfl | hu
  .rw[IK r f.1];exact Pd r a f.1 fx
  .exact xY a fx t f.2 b hu
noncomputable def inV (x:V)(xs:List V):Bool:=xs.any λy=>eqV y x
def rIn (K:Fg0)(a:Bool):R2:=λx y H Q=>∃ p xs,y=.ref p/\(SqL K H p xs\/SqT K H p xs)/\qx x=true/\xs.all qx=true/\Q (.bl (if a then !inV x xs else inV x xs)) H
theorem FE:OpR X (Px .In) (rIn X.K false):=by
 intro f s j H x y v u Q I e g h;obtain⟨p,k,rfl,hq,fx,b,q⟩:=h;cases g;rcases hq with hq | hq
 .obtain⟨a,r,c,i⟩:=I.list hq;refine SeqAt.in_listAt (eqU x) c.isList (λw d=>xY e fx r b w (by simpa using d)) ⟨.bl _,H,I,rfl,?_⟩;rw[show a.toArray.any (eqU x)=a.any (eqU x) by simp,Bj r b];exact q
 .obtain⟨a,r,c,i⟩:=I.tuple hq;refine SeqAt.in_tupleAt (eqU x) c (λw d=>xY e fx r b w (by simpa using d)) ⟨.bl _,H,I,rfl,?_⟩;rw[show a.toArray.any (eqU x)=a.any (eqU x) by simp,Bj r b];exact q
theorem Bb:eB X (.builtin "len") (λxs H Q=>∃ p ys,xs=[.ref p]/\(SqL X.K H p ys\/SqT X.K H p ys)/\Q (.int ys.length) H):=by
 intro e s i H xs j Q I r h;obtain⟨p,ys,rfl,hq,q⟩:=h;obtain⟨u,rfl,f⟩:=vals1 r;cases f;have k:=uP;rcases hq with hq | hq
 .obtain⟨d,b,c,g⟩:=I.list hq;have a:=b.length;exact Calls.call_len_list c.isList (by simp only[hL] <;> lia) ⟨.int ys.length,H,I.tok _,⟨s.toks + 1,by rw[hL,a]⟩,q⟩
 .obtain⟨d,b,c,g⟩:=I.tuple hq;have a:=b.length;exact len_tuple c (by simp only[hL] <;> lia) ⟨.int ys.length,H,I.tok _,⟨s.toks + 1,by rw[hL,a]⟩,q⟩
theorem Ba:eB X (.builtin "len") (λxs H Q=>∃ z,xs=[.str z]/\z.length<=sizeLine/\Q (.int z.length) H):=by
 intro a s b H xs c Q I r h;obtain⟨z,rfl,d,q⟩:=h;obtain⟨u,rfl,t,rfl⟩:=vals1 r;have e:=uP;exact len_str (by lia) ⟨.int z.length,H,I.tok _,⟨_,rfl⟩,q⟩
theorem A_:eB X (.type "list") (λxs H Q=>∃ p ys,xs=[.ref p]/\(SqL X.K H p ys\/SqT X.K H p ys)/\∀ l,H l=none->Q (.ref l) (upd H l (.lst ys))):=by
 intro g s y H xs A Q I r h;obtain⟨p,ys,rfl,hq,q⟩:=h;obtain⟨u,rfl,z⟩:=vals1 r;cases z;have fin:∀ (a:Lv0),Vals ys a->ys.length<=sizeLine->∀ (c:Heap) (f:Nat),(∀ b x,s.heap.get? b=some x->c.get? b=some x)->
   c.get? s.heap.objs.size=some { cls:=.type "list",dict:=none,data:=.seq a.toArray f,slots:=#[] }->EP X g y Q (.ref s.heap.objs.size) { s with heap:=c }:=λa d j c f i e=>
  ⟨.ref s.heap.objs.size,_,I.laid (t':=s.toks) i (ec _) (show e7 X.prog X.w _ c _ (.lst ys) from ⟨j,a,f,d,e⟩),rfl,q _ (I.hok.fresh (ec _))⟩
 rcases hq with hq | hq
 .obtain⟨a,d,m,j⟩:=I.list hq;have k:=d.length;obtain⟨o,t,w,n,v⟩:=m.isList;exact call_list_seq p (.inl rfl) t w v (λc f i e=>fin a d j c f i e) (by simp only[hL] <;> lia)
 .obtain⟨a,d,m,j⟩:=I.tuple hq;have k:=d.length;obtain⟨o,t,w,n,v⟩:=m;exact call_list_seq p (.inr rfl) t w v (λc f i e=>fin a d j c f i e) (by simp only[hL] <;> lia)
theorem zi:eB X (.type "tuple") (λxs H Q=>∃ p ys,xs=[.ref p]/\((SqL X.K H p ys/\∀ l,H l=none->Q (.ref l) (upd H l (.tup ys)))\/(SqT X.K H p ys/\Q (.ref p) H))):=by
 intro a s j H xs x Q I r h;obtain⟨p,ys,rfl,h⟩:=h;obtain⟨u,rfl,t⟩:=vals1 r;cases t;rcases h with ⟨i,q⟩ | ⟨i,q⟩
 .obtain⟨c,f,g,k⟩:=I.list i;have m:=f.length;refine call_tuple_list g.isList (λd v=>?_) (by simp only[hL] <;> lia);have n:Inv X a j H { s with heap:=d }:=I.kept (t':=s.toks) v;have w:Inv X a j (upd H d.objs.size (.tup ys)) { s with heap:=d.push { cls:=.type "tuple",data:=.seq c.toArray } }:=
   n.laid (t':=s.toks) (λb o e=>cm _ e) (ec _) (show e7 X.prog X.w _ _ _ (.tup ys) from ⟨k,c,f,YJ _ _⟩)
  exact⟨.ref d.objs.size,_,w,rfl,q _ (n.hok.fresh (ec _))⟩
 .obtain⟨c,f,g,k⟩:=I.tuple i;exact call_tuple_same g ⟨.ref p,H,I,rfl,q⟩
def tyV (K:Fg0)(T:String)(x:V)(H:Hp):Prop:=match x with
 | .str _=>T="str"
 | .int _=>T="int"
 | .ref p=>(T="list"/\∃ xs,SqL K H p xs)\/(T="tuple"/\∃ o,K.lookup p=some o/\o.cls=.type "tuple"/\o.dict=none)\/
   (T="dict"/\((∃ kvs,H p=some (.dK kvs))\/∃ kvs,H p=some (.dT kvs)))\/(T="set"/\∃ S n,H p=some (.set S n))
 | _=>False
theorem M3{f:Pn0}{s:Shared}{T:String}{x:V}(I:Inv X f σ H s)(r:RelV x v)(g:tyV X.K T x H) :
  s.TypeIs v T/\∀ a,v=.ref a->∃ m,s.heap.get? a=some m/\m.dict=none:=by
 cases x with
 | str z=>
  obtain⟨t,rfl⟩:=r;cases (show T="str" from g);exact⟨typeIs_str s z t,λ_ e=>nomatch e⟩
 | int i=>
  obtain⟨t,rfl⟩:=r;cases (show T="int" from g);exact⟨Yp s i t,λ_ e=>nomatch e⟩
 | ref p=>
  cases r;rcases g with ⟨rfl,y,u⟩ | ⟨rfl,o,b,w,j⟩ | ⟨rfl,b⟩ | ⟨rfl,S,n,b⟩
  .obtain⟨q,_,l,_⟩:=I.list u;refine⟨l.isList.typeIs,λa e=>?_⟩;cases e;obtain⟨o,n,e,c,j,_⟩:=l;exact⟨o,e,j⟩
  .refine⟨⟨o,I.kIn p o b,w⟩,λa e=>?_⟩;cases e;exact⟨o,I.kIn _ o b,j⟩
  .have z:∃ o,s.heap.get? p=some o/\o.ExactDict:=by
    rcases b with ⟨h,b⟩ | ⟨h,b⟩
    .obtain⟨_,_,_,_,o,_,_,e,d,_⟩:=I.hok p _ b;exact⟨o,e,d⟩
    .obtain⟨_,_,_,_,o,_,_,e,d,_⟩:=I.hok p _ b;exact⟨o,e,d⟩
   obtain⟨o,e,d⟩:=z;refine⟨⟨o,e,d.1⟩,λa k=>?_⟩;cases k;exact⟨o,e,d.2.1⟩
  .obtain⟨o,_,_,_,e,d,_⟩:=I.hok p _ b;refine⟨⟨o,e,d.1⟩,λa k=>?_⟩;cases k;exact⟨o,e,d.2.1⟩
 | _=>exact sr g
def tBM (K:Fg0)(T:String)(r:V->List V->Hp->VK->Prop)(a:TE)(t:TA):TE:=λσ H Q=>a σ H λx H1=>tyV K T x H1/\t σ H1 λxs H2=>r x xs H2 Q
variable {e:Expr}{to:TE}{T id:String}{r:V->List V->Hp->VK->Prop}
theorem Mb(B:PlainAttrs T)(f:Slot T name id)(j:typeOf (.builtin id)=pure (.type "method_descriptor"))(E:MtR X id r)(D:PE X o to)(F:PA X (e::es) t)(d:autoParam (Ut o name X.env (eval o X.env)=eval o X.env) wE)(g:autoParam (((backTo cpos (eh (e::es) X.env)).all (λx=>!x.1) && (VX cpos (UF [] X.env)).all (λx=>x.1.isSome)
   && decide ((e::es).length + ([]:List XB).length + (if ([]:List XB).isEmpty then 0 else 1) < 30))=true) wE)(c:autoParam ((apos.endLine == cpos.line)=true) wE)(C:autoParam (eh (e::es) X.env=(false,eval e X.env)::eh es X.env) wE)(b:autoParam ((backTo cpos (eh es X.env)).any (·.1)=false) wE) :
  PE X (.Call (.Attribute o name apos) (e::es) [] cpos) (tBM X.K T r to t):=by
 intro a s i H Q I h;refine wpAny_Call_method_late d g c rfl (thn (D a s i H _ I h) λv w Z=>?_);obtain⟨x,M,m,k,q,A⟩:=Z;obtain⟨J,G⟩:=M3 m k q;refine⟨T,id,B,f,j,J,G,?_⟩;have l:=F cpos a w i M _ m A;rw[C] at l ⊢;refine Calls.callWith_builtin (by show (false || (backTo cpos (eh es X.env)).any (·.1))=false;rw[b] <;> rfl) (Calls.evalArgs_plain ?_);exact thn l λp u ⟨n,L,K,y,z⟩=>E a u i L x n v p Q K k y z
end
def MtM (X:Cx)(id:String)(r:V->List V->Hp->VK->Prop):Prop:=
 ∀ (pins:Pn0) (s:Shared) (σ:St) (H:Hp) (x:V) (xs:List V) (v:Value) (us:Lv0) (Q:VK),Inv X pins σ H s->RelV x v->Vals xs us->r x xs H Q->
  wpAny (model X.prog X.w) X.A (call (.builtin id) (v::us)) (EP X pins σ Q) X.xe s
theorem Vals.one{x:V}(h:Vals [x] us):∃ u,us=[u]/\RelV x u:=by
 cases h with
 | cons r t=>cases t;exact⟨_,rfl,r⟩
theorem Vals.rep(h:Vals xs us):∀ k:Nat,Vals (hP k xs).flatten (hP k us).flatten
 | 0=>.nil
 | k + 1=>by
  rw[yv,yv,KM,KM];exact Vals.append h (Vals.rep h k)
theorem foldl_rep (a:Lv0):∀ (k:Nat) (acc:Lv0),
  Yq (λc b=>c++b) acc.toArray (hP k a.toArray)=(acc++(hP k a).flatten).toArray
 | 0,acc=>by simp
 | k + 1,acc=>by
  have e:acc.toArray++a.toArray=(acc++a).toArray:=by simp
  have d:(acc++a)++(hP k a).flatten=acc++(hP (k + 1) a).flatten:=by
   rw[yv,KM,Re]
  rw[<- d,<- foldl_rep a k (acc++a),<- e,yv,List.foldl_cons]
section
variable {pins:Pn0}{s:Shared}{b:Addr}{ys zs:List V}
theorem Inv.Rp{f:Array Value->Array Value}(I:Inv X pins σ H s)(g:H l=some (.lst xs))(e:s.heap.get? l=some { cls:=.type "list",data:=.seq its.toArray n })(c:f its.toArray=its'.toArray)(a:Vals ys its')(hz:ys.length<=sizeLine) :
  Inv X pins σ (upd H l (.lst ys)) { s with heap:=s.heap.update l (IW f),toks:=t' }:=by
 have q:=PySem.IsL.update e f;rw[c] at q;refine I.write (x:=l) (e:=l) (by rw[g];exact trivial) (.inl rfl) (λh u d b=>(Pw s.heap (IW f) (vk d)).trans b) ⟨_,q⟩ ?_;exact⟨hz,its',_,a,q⟩
theorem Inv.Rq(I:Inv X pins σ H s)(a:Vals ys its)(hz:ys.length<=sizeLine) :
  Inv X pins σ (upd H s.heap.objs.size (.lst ys)) { s with heap:=s.heap.push { cls:=.type "list",data:=.seq its.toArray },toks:=t' }:=
 I.laid (λ_ _ q=>cm _ q) (ec _) ⟨hz,its,0,a,hY _ rfl⟩
theorem Inv.fresh(I:Inv X pins σ H s):H s.heap.objs.size=none:=I.hok.fresh (ec _)
theorem Inv.FR(I:Inv X pins σ H s)(a:H l=some (.lst xs)):xs.length<=sizeLine/\∃ (its:Lv0) (n:Nat),Vals xs its/\xs.length=its.length/\s.heap.get? l=some { cls:=.type "list",data:=.seq its.toArray n }:=by
 obtain⟨z,its,n,r,e⟩:=I.hok l _ a;exact⟨z,its,n,r,r.length,e⟩
theorem B5(h:n<=sizeLine):SB n=false:=by
 unfold SB;exact decide_eq_false (by lia)
end
noncomputable def AE:V->List V->Hp->VK->Prop:=λx vs H Q=>∃ l xs y,x=.ref l/\vs=[y]/\H l=some (.lst xs)/\xs.length < sizeLine/\Q .non (upd H l (.lst (xs++[y])))
theorem FO:MtM X "list.append" AE:=by
 intro b s i H x k v m Q I d f h;obtain⟨l,j,y,rfl,rfl,c,o,q⟩:=h;cases d;obtain⟨u,rfl,g⟩:=f.one;obtain⟨z,a,n,r,p,e⟩:=I.FR c;refine Xi Wv ⟨_,e,rfl⟩ F.entry_list_append (F.args_list_append_2 _ _) (PySem.list_append l a.toArray n u (by rw[hL];lia)) ⟨e,?_⟩;refine⟨.non,_,I.Rp (its':=a++[u]) c e (by simp) (r.append (.cons g .nil)) ?_,rfl,q⟩;rw[el,UR];lia
noncomputable def AD:V->List V->Hp->VK->Prop:=λx vs H Q=>∃ l b xs zs,x=.ref l/\vs=[.ref b]/\H l=some (.lst xs)/\H b=some (.lst zs)/\xs.length + zs.length<=sizeLine/\Q .non (upd H l (.lst (xs++zs)))
theorem FL:MtM X "list.extend" AD:=by
 intro g s A H x D v E Q I j k h;obtain⟨l,b,C,B,rfl,rfl,i,w,G,q⟩:=h;cases j;obtain⟨u,rfl,m⟩:=k.one;cases m;obtain⟨z,c,n,r,J,e⟩:=I.FR i;obtain⟨z2,a,p,o,t,y⟩:=I.FR w;have f:c.toArray.size + a.toArray.size<=sizeLine:=by rw[hL,hL];lia
 have d:¬ (!c.toArray.isEmpty && SB (c.toArray.size + a.toArray.size))=true:=by
  rw[B5 f,WG];exact ri
 refine Xi Ww ⟨_,e,rfl⟩ F.entry_list_extend (F.args_list_extend_2 _ _)
  (AutoSeq1.list_extend_list_list_0 l c.toArray n b a.toArray p d (by rw[hL];lia) (by lia)) ⟨e,y,?_⟩
 refine⟨.non,_,I.Rp (its':=c++a) i e (by simp) (r.append o) ?_,rfl,q⟩;rw[el];lia
def Qu:R2:=λx y H Q=>∃ l b xs zs,x=.ref l/\y=.ref b/\H l=some (.lst xs)/\H b=some (.lst zs)/\xs.length + zs.length<=sizeLine/\∀ p,H p=none->Q (.ref p) (upd H p (.lst (xs++zs)))
theorem Oa:OpR X (TN .Add) Qu:=by
 intro d s t H x y v u Q I g f h;obtain⟨l,b,A,w,rfl,rfl,k,m,C,q⟩:=h;cases g;cases f;obtain⟨z,c,n,r,D,e⟩:=I.FR k;obtain⟨z2,a,B,i,j,p⟩:=I.FR m;refine PySem.P.add_list e p ?_ (by rw[hL,hL];lia);have o:c.toArray++a.toArray=(c++a).toArray:=by simp
 rw[o];exact⟨.ref _,_,I.Rq (t':=s.toks) (r.append i) (by rw[el];lia),rfl,q _ I.fresh⟩
def Nz:R2:=λx y H Q=>∃ l k xs,x=.ref l/\y=.int k/\H l=some (.lst xs)/\-(2 ^ 63)<=k/\k < 2 ^ 63/\xs.length * k.toNat<=sizeLine/\
 ∀ p,H p=none->Q (.ref p) (upd H p (.lst (hP k.toNat xs).flatten))
theorem len_rep{a:Type}(xs:List a)(k:Nat):(hP k xs).flatten.length=k * xs.length:=by
 induction k with
 | zero=>simp
 | succ k b=>rw[yv,KM,el,b,Nat.succ_mul,Nat.add_comm]
theorem N6:OpR X (TN .Mult) Nz:=by
 intro p s L H x y v u Q I C B h;obtain⟨l,k,M,rfl,rfl,E,J,G,w,q⟩:=h;cases C;obtain⟨t,rfl⟩:=B;obtain⟨z,b,n,r,D,e⟩:=I.FR E;have f:b.toArray.size * k.toNat<=sizeLine:=by rw[hL,<- D];exact w
 have i:¬ b.toArray.size * k.toNat > (2 ^ 63 - 1) / 8:=by
  have:(sizeLine:Nat)<=(2 ^ 63 - 1) / 8:=by decide
  lia
 have g:¬ (!Builtin.List.listFitsIndex k)=true:=by
  rw[fitsIndex_both J G];exact ri
 have c:¬ SB (b.toArray.size * k.toNat)=true:=by
  rw[B5 f];exact ri
 have d:Yq (λo j=>o++j) #[] (hP (if b.toArray.isEmpty=true then 0 else k.toNat) b.toArray)=(hP k.toNat b).flatten.toArray:=by
  have K:∀ m:Nat,Yq (λo j=>o++j) #[] (hP m b.toArray)=(hP m b).flatten.toArray:=λm=>by
   have:=foldl_rep b m [];rw[Vj] at this;exact this
  rw[K];cases b with
  | nil=>simp
  | cons a N=>rw[if_neg (by simp)]
 refine wpAny_binaryOp_repeat_ref (T:="list") (U:="int") (by decide) ⟨_,e,rfl⟩ (λA=>Yp A k t) noFill_list_mul F.fills_int_mul Yc repeat_list F.slot_int_index.lookup
  (Xi Yc (Yp s k t) F.entry_int_rmul (F.args_int_rmul_2 _ _) (int___rmul___int_list k t l b.toArray n)
   ⟨e,rfl,⟨_,e,rfl⟩,Xi F.slot_list_mul ⟨_,e,rfl⟩ F.entry_list_mul (F.args_list_mul_2 _ _) (AutoListH.list___mul___list_int_3 l b.toArray n k t g i c) ⟨e,?_⟩⟩)
 rw[d];exact⟨.ref _,_,I.Rq (t':=s.toks) (r.rep k.toNat) (by rw[len_rep,Nat.mul_comm];exact w),rfl,q _ I.fresh⟩
section
variable {κ:Type}[DecidableEq κ]
noncomputable def putK (a:List (κ×V))(k:κ)(v:V):List (κ×V):=
 if (a.any λb=>decide (b.1=k))=true then a.map (λb=>if b.1=k then (b.1,v) else b) else a++[(k,v)]
end
def PM (i:Expr):Prop:=∀ a b,subscripted i false a b=operate [a,b] (WM a b)
theorem JI{s:Shared}{slice:Expr}{T id:String}{Q:VS}(j:Xf (.type T) "__getitem__"=pure (some (.builtin id)))(g:PM slice)(h:wpAny (model prog w) A (eval value env) (λo c=>wpAny (model prog w) A (eval slice env) (λi s₂=>s₂.TypeIs o T/\wpAny (model prog w) A (WM o i) Q E s₂) E c) E s) :
  wpAny (model prog w) A (eval (.Subscript value slice pos) env) Q E s:=by
 refine Xg (Pz h (λo c e=>Pz e (λi s₂ a=>?_) λ_ _ x=>x) λ_ _ x=>x);obtain⟨f,a⟩:=a;unfold VP;refine cc ?_;rw[getitemInPython_of_ne f.not_modules];refine cc (Vk f j ?_);have fin:wpAny (model prog w) A (subscripted slice false o i) (λr b=>wpAny (model prog w) A (letTemporaryGo value o r >>= λ_=>pure r) Q E b) E s₂:=by
  rw[g o i];exact wpAny_operating (Pz a (λr b d=>cc (wpAny_letTemporaryGo (hE d))) λ_ _ x=>x)
 first
  | exact hE (cc fin)
  | exact cc (hE (cc fin))
  | exact cc fin
end _2
namespace _a
open PySem PySem.W PySem.Calls PyProof.Rows
theorem wC{P:Params}:∀ (ns:Li0) (vs:Lv0),WellAll P h vs (ns.map WData.int)->Yi vs ns:=by
 intro ns
 induction ns with
 | nil=>
  intro vs w;rw[YO] at w;cases w;exact .nil
 | cons n ns c=>
  intro vs w;rw[sS] at w;cases w with
  | cons a b=>
   cases a;exact .cons _ _ (c _ b)
theorem Ff{l:Vf}(u:l.most=some n){P:Params}{args:List WData}{b:Lv0}(c:l.row.toRowW.claim.pre args=true)(j:WellAll P h b args) :
  ∃ a vs ns,b=[qq a]/\args=[WData.list (ns.map WData.int)]/\h.get? a=some { cls:=.type "list",data:=.seq vs.toArray }/\Yi vs ns/\ns.length<=n:=by
 have k:WShape.hasAll [] args [.list .int]=true:=(pre_splitW c).1;have m:l.pre.holds [] { args:=args }=true:=(pre_splitW c).2;obtain⟨d,r,rfl,x,w⟩:=hasAllW_cons k;obtain rfl:=hasAllW_nil w;obtain⟨y,rfl,v⟩:=hasW_list x;obtain⟨ns,rfl⟩:=items_int v;have e:ns.length<=n:=by
  unfold OpenLaw.pre at m;have i:(WTm.not (.lt (.lit (.int (n:Int))) (.len (.arg 0)))).holds [] { args:=[.list (ns.map .int)] }=true:=by
   have i:=(holds_andW m).1;rw[u] at i;exact i
  have g:=condW_of i (w_not (w_lt w_lit (w_len_list (w_arg rfl))));rw[lM0] at g;refine Vb λq=>?_;have s:(n:Int) < ((ns.length:Nat):Int):=by lia
  first
   | (rw[decide_eq_true s] at g;exact absurd g (by decide))
   | (simp at g;lia)
 cases j with
 | cons p o=>
  cases o;cases p with
  | list t f=>exact⟨_,_,ns,rfl,rfl,t,wC ns _ f,e⟩
theorem Ft(l:Vf)(args:List WData):l.row.toRowW.claim.post args (.bool true) args=true:=
 postW_of (r:=l.row.toRowW) (X:=(true == true))
  (show Zh [] (.bool true) .bool=true by first | rfl | decide | simp [Zh,WShape.arms,WShape.armsAll])
  (show (WTm.eq .res (.lit (.bool true))).value [] { args:=args,res:=some (.bool true),after:=args }=some (.bool (true == true)) from w_eq_bool (w_res rfl) w_lit) rfl
theorem CH{l:Vf}{q:OT}{c:Ls0}{XP:(SV0)->Heap->Prop}{z:World->Heap->Prop}{d:DefRec}(D:l.most=some n)(t:d.params.defaults=[])(call:∀ (w:World) (s₀ b:Shared) (mg m:SV0) (k:Addr) (o:Obj) (pm cd g:Value) (a:Addr) (vs:Lv0) (ns:Li0),
   Ground q c [] XP w s₀ mg m b.heap->z w b.heap->
   b.heap.get? k=some o->o.data=.func (docDef d.name d.params d.body d.scope pm cd g)->b.heap.CodeRec cd d.name->mg d.name=some (.ref k)->
   b.heap.get? a=some { cls:=.type "list",data:=.seq vs.toArray }->Yi vs ns->ns.length<=n->b.gens=#[]->
   Pv (model l.prog w) WQ (.call (.ref k) ⟨[.ref a],[]⟩) (λr s'=>r=.ok (.ret (.bool true))/\OldK b.heap s'.heap/\s'.os=b.os/\VI s'.gens) b) :
  WalkO q c XP z l.row.toRowW d [] (λf vs=>Yr f vs):=by
 intro w s₀ b mg m G Y k o pm cd g M kV C I u y s H args v N h x A p F;obtain rfl:M=.none:=Dflts.none y t;obtain rfl:kV=.none:=Dflts.noKw y;obtain⟨a,vs,ns,rfl,rfl,i,e,j⟩:=Ff D h p;refine enter_call (UL (call w s₀ b mg m k o pm cd g a vs ns G Y C (fd_plain I) u s i e j H) λr s' B=>?_);obtain⟨rfl,L,K,J⟩:=B;exact⟨.inl ⟨.bool true,.bool true,[],rfl,λ_=>rfl,.bool true,Ft l _,λ_=>⟨Zi,λ_ E=>(nomatch E)⟩⟩,L,K,J⟩
end _a
namespace _2
open PySem PySem.Spec PyProof.Rows
theorem zl:∀ {vs:Lv0} {ns:Li0},Yi vs ns->Vals (ns.map V.int) vs
 | _,_,.nil=>.nil
 | _,_,.cons n t h=>.cons ⟨t,rfl⟩ (zl h)
def PK (H:Hp):Prop:=∀ b,H b=none\/(∃ o xs,H b=some (.frz o (.lst xs)))\/∃ ps,H b=some (.tbl ps)
noncomputable def inClass (s:Stmt)(j:Nat):Stmt:=match s with
 | .ClassDef _ _ _ body _ _ _ _ _ _ _=>body.getD j (.Pass ⟨0,0,0,0⟩)
 | _=>.Pass ⟨0,0,0,0⟩
noncomputable def eO (s:Stmt):Arguments:=match s with
 | .FunctionDef _ a _ _ _ _ _ _ _ _=>a
 | _=>{ posonlyargs:=[],args:=[],vararg:=none,kwonlyargs:=[],kw_defaults:=[],kwarg:=none,defaults:=[] }
noncomputable def cj (s:Stmt):List Stmt:=match s with
 | .FunctionDef _ _ b _ _ _ _ _ _ _=>b
 | _=>[]
noncomputable def af (s:Stmt):Scope:=match s with
 | .FunctionDef _ _ _ _ _ _ sc _ _ _=>sc
 | _=>{ kind:=.function,names:=[],isGenerator:=false,isCoroutine:=false }
abbrev CX0:CXT:=λ_ _ _ _ _ _=>False
abbrev E0:XK:=λ_ _ _=>False
theorem xJ:Passes CX0 X E0:=λ_ _ _ _ _ _ _ h=>h.elim
structure Fun (K:Fg0) (x qual:Str) (st:Stmt) (f:Addr) (fd:ej):Prop where
 ex:∃ (oc:Value) (od:Option Addr) (kV doc pm:Value) (an:Option Addr) (cdv ct:Value) (osl:Array (Option Value)),
  fd=Fk x qual (eO st) (cj st) (af st) .none kV doc pm an cdv ct/\K.lookup f=some ⟨oc,od,.func fd,osl⟩/\TV K cdv qual=true
 kp:ox K (.ref f)=true
section
variable {mg:SV0}
theorem Fun.ok{sp:Sp}(F:Fun K x qual st f fd)(S:ak N ps (af st))(len:∀ vs H Q E,sp vs H Q E->vs.length=ps.length)(hbody:∀ (a:Value) (A:Around) (outer:List Env) (s:Shared) (H:Hp) (vs:List V) (Q:VK) (E:XK),cK k (A.deeper (envOfC qual (af st) s.heap.objs.size f a))->sp vs H Q E->
   ∃ t,PSs (Cv CX0 P w K mg base N qual (af st) f a A outer s H E).nox (cj st) t/\t { nx:=λ_ H'=>Q .non H',rt:=Q } (start N vs) H):aC P w K mg base CX0 (k + 1) f fd ps sp:=by
 obtain⟨l,j,kV,g,i,n,a,m,d,rfl,lk,c⟩:=F.ex;refine MF lk c S len λA outer s H vs Q E e b=>?_;obtain⟨t,h,q⟩:=hbody a A outer s H vs Q E e b;exact⟨t,h.nox,q⟩
theorem Fun.binds(F:Fun K x qual st f fd)(h:∀ (kV a pm:Value) (d:Option Addr) (b c:Value) (us:Lv0),us.length=ps.length->WD (Fk x qual (eO st) (cj st) (af st) .none kV a pm d b c) ⟨us,[]⟩=pure (ps.zip us)):Binds K fd ps []:=by
 obtain⟨j,i,kV,a,pm,d,b,c,e,rfl,lk,g⟩:=F.ex;exact .all (h kV a pm d b c)
theorem oW{i:Value}{h g:Option Addr}{kV b d a e:Value}(l:K.lookup f=some ⟨i,h,.func (Fk x qual (eO st) (cj st) (af st) .none kV b d g a e),osl⟩)(c:TV K a qual=true)(k:ox K (.ref f)=true):Fun K x qual st f (Fk x qual (eO st) (cj st) (af st) .none kV b d g a e):=⟨⟨i,h,kV,b,d,g,a,e,osl,rfl,l,c⟩,k⟩
end
theorem DC{A B:Prop}(h:B):if false=true then A else B:=by
 rw[if_neg ri];exact h
theorem DB{A B:Prop}(h:A):if true=true then A else B:=by
 rw[if_pos rfl];exact h
def aS (H a:Hp):Prop:=∀ b o,H b=some o->a b=some o
theorem aS.refl(H:Hp):aS H H:=λ_ _ h=>h
theorem aS.trans{d:Hp}(a:aS H d)(b:aS d H2):aS H H2:=λc o h=>b c o (a c o h)
theorem aS.free(e:aS H H')(h:H' l=Ze):H l=Ze:=by
 cases q:H l with
 | none=>rfl
 | some o=>
  rw[e l o q] at h;cases h
theorem aS.seq(e:aS H H')(h:SqL K H a xs):SqL K H' a xs:=by
 rcases h with (h | ⟨o,h⟩) | h
 .exact .inl (.inl (e _ _ h))
 .exact .inl (.inr ⟨o,e _ _ h⟩)
 .exact .inr h
noncomputable def takes (cells:List (Str×Addr)):List (Str×KF)->List (Str×Addr)->List (Str×Addr)
 | [],acc=>acc
 | (n,k)::r,acc=>takes cells r (if k=nr then (n,(cells.lookup n).getD 0)::acc else acc)
theorem zh(h:∀ y∈sc.names,y.2=.free->∃ c,env.cells.lookup y.1=some c):Wl sc env=pure (takes env.cells sc.names []):=by
 have o:∀ (l:List (Str×KF)) (acc:List (Str×Addr)),(∀ y∈l,y.2=.free->∃ c,env.cells.lookup y.1=some c)->
   (forIn l acc (λ(x:Str×KF) (b:List (Str×Addr))=>match x with
    | (name,kind)=>if (kind == nr)=true then do let c <- cellOf env name;pure (Qi ((name,c)::b)) else pure (Qi b)):Sem (List (Str×Addr)))=pure (takes env.cells l acc):=by
  intro l
  induction l with
  | nil=>intro acc _;rfl
  | cons x l i=>
   intro acc e;obtain⟨n,k⟩:=x;rw[Uw];by_cases f:k=nr
   .subst f;obtain⟨c,j⟩:=e (n,.free) ly rfl;have a:env.cells.lookup n=some c:=j;have p:cellOf env n=pure c:=by unfold cellOf;rw[a]
    have g:takes env.cells ((n,nr)::l) acc=takes env.cells l ((n,c)::acc):=by
     show takes env.cells l (if nr=nr then (n,(env.cells.lookup n).getD 0)::acc else acc)=_;rw[if_pos rfl,a]
     rfl
    rw[g,<- i ((n,c)::acc) λy d=>e y (ic _ d)];show ((if (nr == nr)=true then (do let c <- cellOf env n;pure (Qi ((n,c)::acc))) else pure (Qi acc)) >>= _)=_;rw[if_pos (by decide),p,pure_bind,pure_bind]
   .have g:takes env.cells ((n,k)::l) acc=takes env.cells l acc:=by
     show takes env.cells l (if k=nr then _ else acc)=_;rw[if_neg f]
    have m:(k == nr)=false:=by simpa using f
    rw[g,<- i acc λy d=>e y (ic _ d)];show ((if (k == nr)=true then _ else pure (Qi acc)) >>= _)=_;rw[m,if_neg ri,pure_bind]
 have:=o sc.names [] h;unfold Wl
 first
  | exact(congrArg (λz=>z >>= λb=>pure b) this).trans (pure_bind _ _)
  | exact this
  | simpa using this
theorem zm {cells:List (Str×Addr)}{n:Str}{c:Addr}:∀ (a:List (Str×KF)) (acc:List (Str×Addr)),(takes cells a acc).lookup n=some c->
  acc.lookup n=some c\/((n,nr)∈a/\c=(cells.lookup n).getD 0)
 | [],_,h=>.inl h
 | (m,k)::r,acc,h=>by
  rcases zm r _ h with q | ⟨f,d⟩
  .by_cases b:k=nr
   .rw[if_pos b] at q;subst b;by_cases e:n=m
    .subst e;rw[ek,beq_self_eq_true] at q;exact .inr ⟨ly,(nS q).symm⟩
    .have:(n == m)=false:=by simpa using e
     rw[ek,this] at q;exact .inl q
   .rw[if_neg b] at q;exact .inl q
  .exact .inr ⟨ic _ f,d⟩
theorem zp {cells:List (Str×Addr)}{n:Str}:∀ (a:List (Str×KF)) (acc:List (Str×Addr)),(acc.lookup n).isSome=true->((takes cells a acc).lookup n).isSome=true
 | [],_,h=>h
 | (m,k)::r,acc,h=>by
  refine zp r _ ?_;by_cases b:k=nr
  .rw[if_pos b];cases e:n == m with
   | true=>rw[ek,e];rfl
   | false=>rw[ek,e];exact h
  .rw[if_neg b];exact h
theorem uk {cells:List (Str×Addr)}{n:Str}:∀ (a:List (Str×KF)) (acc:List (Str×Addr)),(n,nr)∈a->((takes cells a acc).lookup n).isSome=true
 | [],_,h=>by simp at h
 | (m,k)::r,acc,h=>by
  rcases hF.mp h with e | h
  .cases e;refine zp r _ ?_;rw[if_pos rfl,ek,beq_self_eq_true]
   rfl
  .exact uk r _ h
structure Blk (N:Ls0) (osc sc:Scope) (Nc:Ls0) (fr:On):Prop where
 kind:sc.kind=.function
 own:∀ y∈sc.names,y.2=.cell->sc.names.lookup y.1=some .cell
 free:∀ y∈sc.names,y.2=.free->osc.names.lookup y.1=some .cell\/osc.names.lookup y.1=some .free
 locs:∀ y∈sc.names,y.2=.local->sc.names.lookup y.1=some .local
 nd:Nc.Nodup
 len:Nc.length=fr.length
 whence:∀ p∈Nc.zip fr,(p.2.all λj=>decide (N[j]?=some p.1) && decide (sc.names.lookup p.1=some .free))=true
noncomputable abbrev bcl (cells:List (Str×Addr))(a:Scope)(C:Addr):List (Str×Addr):=Ln (C + 1) a.names (takes cells a.names [])
theorem ER {x:Str}{c:Addr}:∀ (a:List (Str×KF)) (n:Nat) (acc:List (Str×Addr)),(Ln n a acc).lookup x=some c->acc.lookup x=some c\/(n<=c/\(x,vr)∈a)
 | [],_,_,h=>.inl h
 | (y,k)::r,n,acc,h=>by
  unfold Ln at h;split at h
  .rename_i f;have g:k=vr:=by simpa using f
   subst g;rcases ER r _ _ h with q | ⟨d,b⟩
   .rw[ek] at q;cases e:x == y with
    | true=>
     rw[e] at q;cases q;rw[beq_iff_eq.mp e];exact .inr ⟨ec _,ly⟩
    | false=>rw[e] at q;exact .inl q
   .exact .inr ⟨UN d,ic _ b⟩
  .rcases ER r _ _ h with q | ⟨d,b⟩
   .exact .inl q
   .exact .inr ⟨d,ic _ b⟩
theorem DP {x:Str}{c:Addr}:∀ (a:List (Str×KF)) (n:Nat) (acc:List (Str×Addr)),(x,vr)∈a->(Ln n a acc).lookup x=some c->n<=c
 | [],_,_,m,_=>nomatch m
 | (y,k)::r,n,acc,m,h=>by
  unfold Ln at h;by_cases b:(x,vr)∈r
  .split at h
   .exact UN (DP r _ _ b h)
   .exact DP r _ _ b h
  .have e:(x,vr)=(y,k):=(hF.mp m).resolve_right b;cases e;rw[if_pos (by rfl)] at h;rcases ER r _ _ h with q | ⟨d,_⟩
   .rw[ek,beq_self_eq_true] at q;cases q;exact ec _
   .exact UN d
theorem DO {x:Str}:∀ (a:List (Str×KF)) (n:Nat) (acc:List (Str×Addr)),(x,vr)∉a->(Ln n a acc).lookup x=acc.lookup x
 | [],_,_,_=>rfl
 | (y,k)::r,n,acc,m=>by
  unfold Ln;have b:(x,vr)∉r:=λz=>m (ic _ z);split
  .rename_i d;have e:k=vr:=by simpa using d
   subst e;rw[DO r _ _ b,ek];have:(x == y)=false:=by
    cases c:x == y with
    | false=>rfl
    | true=>exact absurd (by rw[beq_iff_eq.mp c];exact ly) m
   rw[this]
  .exact DO r _ _ b
theorem DQ:∀ (b:List (Str×KF)) (n:Nat) (acc:List (Str×Addr)),(∀ x y c,acc.lookup x=some c->acc.lookup y=some c->x=y)->(∀ x c,acc.lookup x=some c->c < n)->
  ∀ x y c,(Ln n b acc).lookup x=some c->(Ln n b acc).lookup y=some c->x=y
 | [],_,_,h,_=>h
 | (z,k)::r,n,acc,h,lt=>by
  unfold Ln;split
  .refine DQ r (n + 1) ((z,n)::acc) (λx y c a e=>?_) λx c a=>?_
   .rw[ek] at a e;cases d:x == z with
    | true=>
     cases f:y == z with
     | true=>rw[beq_iff_eq.mp d,beq_iff_eq.mp f]
     | false=>
      rw[d] at a;rw[f] at e;cases a;exact absurd (lt y n e) (sk _)
    | false=>
     cases f:y == z with
     | true=>
      rw[d] at a;rw[f] at e;cases e;exact absurd (lt x n a) (sk _)
     | false=>rw[d] at a;rw[f] at e;exact h x y c a e
   .rw[ek] at a;cases d:x == z with
    | true=>rw[d] at a;cases a;exact Py _
    | false=>rw[d] at a;exact VN (lt x c a)
  .exact DQ r n acc h lt
theorem FH{s:Shared}{g:Addr}{f:List (Str×Addr)}{i:Env}{Q:Env->Shared->Prop}(t:∀ h':Heap,h'.Ns s.heap.objs.size (λ_=>none)->(∀ b o,s.heap.get? b=some o->h'.get? b=some o)->(∀ n c,(Ln (s.heap.objs.size + 1) sc.names f).lookup n=some c->f.lookup n=some c\/h'.IsCell c none)->
   Q { scope:=sc,locals:=s.heap.objs.size,globals:=g,cells:=Ln (s.heap.objs.size + 1) sc.names f,qual:=qual,func:=none,code:=i.code,frame:=i.frame,builtins:=i.builtins } { s with heap:=h' }) :
  wpAny M A (VF sc g f [] qual none .none (some i)) Q E s:=by
 simp only[VF,Option.isSome_some,if_true];refine cc (wpAny_alloc ?_);refine cc (wpAny_layCells _ (λname kind cells=>by cases j:kind == vr <;> simp [j]) _ _ _ _ ?_);have u:∀ (a:List (Str×KF)) (h:Heap) (d:List (Str×Addr)) (P:Str->Addr->Prop),(∀ n c,d.lookup n=some c->P n c\/h.IsCell c none)->∀ n c,(Ln h.objs.size a d).lookup n=some c->P n c\/(pushCells h a).IsCell c none:=by
  intro a
  induction a with
  | nil=>intro h d P x;exact x
  | cons p r l=>
   intro h d P x;obtain⟨y,k⟩:=p;unfold Ln pushCells;split
   .have:=l (h.push { cls:=.type "cell",data:=.cell none }) ((y,h.objs.size)::d) P λn c e=>by
     rw[ek] at e;cases m:n == y with
     | true=>rw[m] at e;cases e;exact .inr ⟨_,hY _ rfl,rfl⟩
     | false=>
      rw[m] at e;rcases x n c e with q | q
      .exact .inl q
      .exact .inr (q.keeps λb o e=>cm _ e)
    rwa [NB] at this
   .exact l h d P x
 have ok:=u sc.names (s.heap.push { cls:=.type "dict",data:=.dict #[] }) f (λn c=>f.lookup n=some c) λn c e=>.inl e;rw[NB] at ok;rw[show ({ s with heap:=s.heap.push { cls:=.type "dict",data:=.dict #[] } }:Shared).heap.objs.size=s.heap.objs.size + 1 from NB ..];refine cc ?_;rw[Ys];exact hE (hE (t _ ((Heap.Ns.new s.heap (.type "dict")).keeps (pushCells_keeps _ _)) (λb o e=>pushCells_keeps _ _ b o (cm _ e)) ok))
noncomputable abbrev bZ (X:Cx)(a:Scope)(b:Ls0)(s₀:Shared)(H₀:Hp)(C:Addr)(ex:La0)(pn:Pn0):Cx where
 prog:=X.prog
 w:=X.w
 K:=X.K
 mg:=X.mg
 base:=X.base
 A:=X.A
 N:=b
 s₀:=s₀
 H₀:=H₀
 env:=compEnvC a (bcl X.env.cells a C) C X.env
 outer:=X.stack
 stack:=X.stack
 ex:=ex
 fn:=λx=>a.names.lookup x == some .cell
 calm:=X.calm
 pn:=pn
 xe:=λ_ _=>False
noncomputable def uf (a:On)(σ:St):St:=a.map λo=>o.bind λj=>(σ[j]?).join
theorem oy{k:KF}(h:(relabel sc env).names.lookup x=some k):sc.names.lookup x=some k\/(k=.cell/\sc.names.lookup x=some .free):=by
 have j:∀ l:List (Str×KF),(l.map λ(n,k)=>if (k == nr && env.scope.kind == .function && env.kindOf n == some .cell) then (n,vr) else (n,k)).lookup x=some k->l.lookup x=some k\/(k=.cell/\l.lookup x=some .free):=by
  intro l
  induction l with
  | nil=>intro h;simp at h
  | cons p r g=>
   intro h;obtain⟨n,d⟩:=p;rw[sS] at h;by_cases e:(d == nr && env.scope.kind == .function && env.kindOf n == some .cell)=true
   .have b:Qx x ((n,vr)::r.map λ(n,k)=>if (k == nr && env.scope.kind == .function && env.kindOf n == some .cell) then (n,vr) else (n,k))=some k:=by
     have c:=h;simp only[e,if_true] at c;exact c
    have i:d=.free:=by
     simp only[ng] at e;simpa using e.1.1
    subst i;cases a:x == n with
    | true=>
     rw[ek,a] at b;rw[ek,a];cases b;exact .inr ⟨rfl,rfl⟩
    | false=>
     rw[ek,a] at b;rw[ek,a];exact g b
   .have f:(d == nr && env.scope.kind == .function && env.kindOf n == some .cell)=false:=by simpa using e
    have b:Qx x ((n,d)::r.map λ(n,k)=>if (k == nr && env.scope.kind == .function && env.kindOf n == some .cell) then (n,vr) else (n,k))=some k:=by
     have c:=h;simp only[f,PF,if_false] at c;exact c
    cases a:x == n with
    | true=>
     rw[ek,a] at b;rw[ek,a];exact .inl b
    | false=>
     rw[ek,a] at b;rw[ek,a];exact g b
 exact j _ h
theorem AB(h:sc.names.lookup x=some .free):(relabel sc env).names.lookup x=some .cell\/(relabel sc env).names.lookup x=some .free:=by
 have f:∀ l:List (Str×KF),l.lookup x=some .free->(l.map λ(n,k)=>if (k == nr && env.scope.kind == .function && env.kindOf n == some .cell) then (n,vr) else (n,k)).lookup x=some .cell\/(l.map λ(n,k)=>if (k == nr && env.scope.kind == .function && env.kindOf n == some .cell) then (n,vr) else (n,k)).lookup x=some .free:=by
  intro l
  induction l with
  | nil=>intro h;simp at h
  | cons p r d=>
   intro h;obtain⟨n,c⟩:=p;rw[sS];by_cases e:(c == nr && env.scope.kind == .function && env.kindOf n == some .cell)=true
   .simp only[e,if_true];cases a:x == n with
    | true=>left;simp [ek,a]
    | false=>
     rw[ek,a] at h;simp only[ek,a];exact d h
   .have b:(c == nr && env.scope.kind == .function && env.kindOf n == some .cell)=false:=by simpa using e
    simp only[b,PF,if_false];cases a:x == n with
    | true=>
     rw[ek,a] at h
     right
     simp only[ek,a];exact h
    | false=>
     rw[ek,a] at h;simp only[ek,a];exact d h
 exact f _ h
section
variable {pins:Pn0}
theorem i_(B:Blk X.N X.env.scope sc Nc fr)(ok:X.Ok){n:Str}{c:Addr}(h:(takes X.env.cells sc.names []).lookup n=some c):X.env.cells.lookup n=some c:=by
 rcases zm _ _ h with q | ⟨d,b⟩
 .simp at q
 .obtain⟨e,a⟩:=ok.has n (B.free _ d rfl);rw[a] at b;rw[a,b]
  rfl
theorem Ae(B:Blk X.N X.env.scope sc Nc fr)(ok:X.Ok){n:Str}{c:Addr}(h:(bcl X.env.cells sc C).lookup n=some c):X.env.cells.lookup n=some c\/C < c:=by
 rcases ER _ _ _ h with q | ⟨q,_⟩
 .exact .inl (i_ B ok q)
 .exact .inr q
theorem gc{n:Str}{k:KF}:∀ {l:List (Str×KF)},l.lookup n=some k->(n,k)∈l:=λh=>Fl h
theorem Pm(B:Blk X.N X.env.scope sc Nc fr){g:Pn0}(I:Inv X pins σ H₀ s₀)(d:s₀.heap.objs.size<=C)(hex:∀ b∈ex,b < s₀.heap.objs.size/\b∉X.fs/\b≠X.env.locals/\(∀ x c,X.env.cells.lookup x=some c->c≠b)/\∀ o,X.base.get? b≠some o):(bZ X sc Nc s₀ H₀ C ex g).Ok where
 mod:=I.ok.mod
 kind:=B.kind
 glob:=I.ok.glob
 blt:=I.ok.blt
 above:=d
 inj:=DQ _ _ _ (λx y c j i=>I.ok.inj x y c (i_ B I.ok j) (i_ B I.ok i)) λx c h=>by
  obtain⟨v,o,e,_⟩:=I.cell x c (i_ B I.ok h);exact VN (kl (hH e) d)
 has:=λx hx=>by
  have f:sc.names.lookup x=some .cell\/sc.names.lookup x=some .free:=by
   rcases hx with hx | hx
   .rcases oy hx with q | ⟨_,q⟩
    .exact .inl q
    .exact .inr q
   .rcases oy hx with q | ⟨_,q⟩
    .exact .inr q
    .exact .inr q
  refine Rw.mp (UM _ _ _ ?_);rcases f with q | q
  .exact .inl q
  .exact .inr (uk _ _ (gc q))
 cab:=λx c h e=>by
  have k:sc.names.lookup x=some .cell:=by simpa using h
  exact Ht d (UN (DP _ _ _ (gc k) e))
 hd:=I.ok.hd
 frames:=I.ok.frames
 stk:=.inl rfl
 exf:=λb a=>⟨λe=>by have:=(hex b a).1;rw[e] at this;exact absurd (kl this d) (sk _),λx c h=>by
  rcases Ae B I.ok h with q | q
  .exact(hex b a).2.2.2.1 x c q
  .exact λz=>absurd (Nat.lt_trans (kl (hex b a).1 d) q) (by rw[z];exact sk _)⟩
 bs:=λb o e=>I.bs b o e
 bsz:=Ht I.ok.bsz I.sz
 noex:=λb o e a=>(hex b a).2.2.2.2 o e
 exfs:=λb a f=>by
  rcases hF.mp (I.xh b f) with e | e
  .exact(hex b a).2.2.1 e
  .exact(hex b a).2.1 e
 rM:=I.stack
 frf:=λb a=>I.wQ b a
 tb:=I.tb
end
noncomputable abbrev fu (us:Lv0)(n:Nat):Obj:={ cls:=.type "list",data:=.seq us.toArray n }
theorem Dx{a:Type}{fr:List a}{o:a}(d:Nc[i]?=some x)(c:fr[i]?=some o):(x,o)∈Nc.zip fr:=by
 have b:(Nc.zip fr)[i]?=some (x,o):=by
  rw[Nn];exact⟨d,c⟩
 exact fC b
theorem Lu{a:Pn0}(B:Blk X.N X.env.scope sc Nc fr){s₄:Shared}{D:Addr}{o:Obj}{Z:SV0}(ok:(bZ X sc Nc s₀ H₀ C ex (X.pn++a)).Ok)(I:Inv X a σ H₀ s₀)(V:s₀.heap.objs.size<=C)(ho:s₄.os=s₀.os)(hg:s₄.gens=s₀.gens)(n:∀ b u,s₀.heap.get? b=some u->s₄.heap.get? b=some u)(hn:s₄.heap.Ns C Z)(hw:∀ x c,(bcl X.env.cells sc C).lookup x=some c->(takes X.env.cells sc.names []).lookup x=some c\/s₄.heap.IsCell c none)(hD:s₀.heap.get? D=some o)(U:H₀ D=none)(T:D≠X.env.locals)(R:D∉X.fs)(S:∀ v,o.data≠.cell v) :
  Inv (bZ X sc Nc s₀ H₀ C ex (X.pn++a)) [(D,o)] (uf fr σ) H₀ s₄:=by
 have t:∀ b,b≠X.env.locals->b∉X.fs->b∉frs X.stack:=λb H G h3=>by
  rcases hF.mp (I.xh b h3) with e | e
  .exact H e
  .exact G e
 have w:∀ {b:Addr} {u:Obj},s₀.heap.get? b=some u->b≠C:=λe z=>absurd (kl (hH e) (by rw[z];exact V)) (sk _);refine⟨ok,ho,by rw[hg];exact I.bare,Un.kept n,⟨Z,hn,λi x v H G h3=>?_⟩,λx c h=>?_,I.hok.fresh V,λx c h=>?_,λp hp=>?_,I.hok.kept n,?_⟩
 .have d:(fr.map λo=>o.bind λj=>(σ[j]?).join)[i]?=some (some v):=G;rw[dV] at d;cases W:fr[i]? with
  | none=>rw[W] at d;cases d
  | some Y=>
   rw[W] at d;have h4:(Y.bind λj=>(σ[j]?).join)=some v:=nS d;cases Y with
   | none=>cases h4
   | some j=>
    have hz:=B.whence _ (Dx H W);have f:(decide (X.N[j]?=some x) && decide (sc.names.lookup x=some .free))=true:=hz;rw[ng] at f;have M:X.N[j]?=some x:=of_decide_eq_true f.1;have s:sc.names.lookup x=some .free:=of_decide_eq_true f.2;have h5:σ[j]?=some (some v):=by
     have K:(σ[j]?).join=some v:=h4;cases L:σ[j]? with
     | none=>rw[L] at K;cases K
     | some y=>rw[L] at K;exact congrArg some K
    have A:=B.free _ (gc s) rfl;obtain⟨m,hm,hl⟩:=I.loc;have N:Vis X.env.scope x:=by rcases A with k | k;exact .inr (.inl k);exact .inr (.inr k)
    obtain⟨u,r,l⟩:=hl j x v M h5 N;refine⟨u,r,.inr ⟨AB s,?_⟩⟩;rcases l with ⟨k,_⟩ | ⟨_,c,hc,g⟩
    .have J:X.env.scope.names.lookup x=some .local:=k;rcases A with q | q
     .rw[q] at J;cases J
     .rw[q] at J;cases J
    .obtain⟨c',F⟩:=Rw.mp (uk (cells:=X.env.cells) sc.names [] (gc s));have E:=i_ B I.ok F;rw[hc] at E;cases E;obtain⟨O,Q,P⟩:=g;exact⟨c,(DO _ _ _ λz=>by have:=B.own _ z rfl;rw[s] at this;cases this).trans F,O,n _ _ Q,P⟩
 .rcases hw x c h with q | q
  .obtain⟨v,O,H,G⟩:=I.cell x c (i_ B I.ok q);exact⟨v,O,n _ _ H,G⟩
  .exact⟨_,q⟩
 .rcases Ae B I.ok h with q | q
  .exact I.freeC x c q
  .exact I.hok.fresh (Ht V (SY q))
 .rcases Bl.mp hp with hp | hp
  .obtain⟨M,s,L,e4,e5⟩:=I.pin p hp;exact⟨n _ _ M,s,w M,t _ L e4,e5⟩
  .have e:p=(D,o):=by simpa using hp
   subst e;exact⟨n _ _ hD,U,w hD,t _ T R,S⟩
 .show (fr.map _).length=Nc.length;rw[lM0,B.len]
theorem EN{a:Pn0}{s:Shared}(B:Blk X.N X.env.scope sc Nc fr)(I:Inv X a σ H s):Wl sc X.env=pure (takes X.env.cells sc.names []):=
 zh λy b c=>I.ok.has y.1 (B.free y b c)
theorem CF:∀ {a:List Bool} {us:Lv0},Vals (a.map V.bl) us->LSm.BoolsAre us a
 | [],_,.nil=>.nil
 | _::_,_,.cons r t=>by
  obtain rfl:=(show _=We _ from r);exact .cons _ (CF t)
theorem Gu(w:X.calm=true):eB X (.builtin "all") (λxs H Q=>∃ (p:Addr) (c:List Bool),xs=[.ref p]/\SqL X.K H p (c.map V.bl)/\Q (.bl (c.all id)) H):=by
 intro g s y H xs z Q I r h;obtain⟨p,c,rfl,o,q⟩:=h;obtain⟨u,rfl,m⟩:=vals1 r;cases m;obtain⟨a,l,n,D⟩:=I.list o;have j:=CF l;have f:=n.isList;have d:p < s.heap.objs.size:=by obtain⟨_,e,_⟩:=f;exact hH e
 refine call_all_walk (Xt f ⟨s.heap.objs.size,[s.heap.objs.size,p],[s.heap.objs.size],a.toArray.size,_,_,λi=>(c[i]?).getD true,rfl,Walks.list (A:=X.A.in1) (I.ok.hd w) _ p (ov d) a.toArray,⟨⟨_,hY _ rfl,rfl,rfl⟩,f.push _⟩,
  λi v C F G x k=>?_,λE B t=>?_⟩)
 .obtain⟨b,e,rfl⟩:=j.get i v (by simpa using x);simp only[e,XR] at k;exact Gc k
 .have e:((ck a.toArray.size).all λi=>(c[i]?).getD true)=c.all id:=by rw[hL,j.length,LSm.range_all c]
  rw[e];exact⟨.bl _,H,I.kept (LSm.kept_iter t),rfl,q⟩
structure i8 (K:Fg0):Prop where
 bb:bq K (.type "bool") (.type "bool")=some true
 bi:bq K (.type "bool") (.type "int")=some true
 bl:bq K (.type "bool") (.type "list")=some false
 bt:bq K (.type "bool") (.type "tuple")=some false
 ib:bq K (.type "int") (.type "bool")=some false
 ii:bq K (.type "int") (.type "int")=some true
 il:bq K (.type "int") (.type "list")=some false
 it:bq K (.type "int") (.type "tuple")=some false
 nb:bq K (.type "NoneType") (.type "bool")=some false
 ni:bq K (.type "NoneType") (.type "int")=some false
 nl:bq K (.type "NoneType") (.type "list")=some false
 nt:bq K (.type "NoneType") (.type "tuple")=some false
 sb:bq K (.type "str") (.type "bool")=some false
 si:bq K (.type "str") (.type "int")=some false
 sl:bq K (.type "str") (.type "list")=some false
 st:bq K (.type "str") (.type "tuple")=some false
 lb:bq K (.type "list") (.type "bool")=some false
 li:bq K (.type "list") (.type "int")=some false
 ll:bq K (.type "list") (.type "list")=some true
 lt:bq K (.type "list") (.type "tuple")=some false
 tb:bq K (.type "tuple") (.type "bool")=some false
 ti:bq K (.type "tuple") (.type "int")=some false
 tl:bq K (.type "tuple") (.type "list")=some false
 tt:bq K (.type "tuple") (.type "tuple")=some true
 db:bq K (.type "dict") (.type "bool")=some false
 di:bq K (.type "dict") (.type "int")=some false
 dl:bq K (.type "dict") (.type "list")=some false
 dt:bq K (.type "dict") (.type "tuple")=some false
inductive Kn (H:Hp):V->Prop where
 | non:Kn H .non
 | bl (b:Bool):Kn H (.bl b)
 | int (i:Int):Kn H (.int i)
 | str (x:Str):Kn H (.str x)
 | lst {a:Addr} {xs:List V} (e:H a=some (.lst xs)):Kn H (.ref a)
 | tup {a:Addr} {xs:List V} (e:H a=some (.tup xs)):Kn H (.ref a)
 | dK {a:Addr} {kvs:List (Key×V)} (e:H a=some (.dK kvs)):Kn H (.ref a)
noncomputable def isB:V->Bool
 | .bl _=>true
 | _=>false
noncomputable def isI:V->Bool
 | .bl _=>true
 | .int _=>true
 | _=>false
noncomputable def isL (H:Hp):V->Bool
 | .ref a=>match H a with
  | some (.lst _)=>true
  | _=>false
 | _=>false
noncomputable def isT (H:Hp):V->Bool
 | .ref a=>match H a with
  | some (.tup _)=>true
  | _=>false
 | _=>false
theorem EE(h:H a=some (.lst xs)):isL H (.ref a)=true:=by simp only[isL,h]
theorem ED(h:H a=some (.tup xs)):isL H (.ref a)=false:=by simp only[isL,h]
theorem DE{xs:List (Key×V)}(h:H a=some (.dK xs)):isL H (.ref a)=false:=by simp only[isL,h]
theorem EC(h:H a=some (.lst xs)):isT H (.ref a)=false:=by simp only[isT,h]
theorem EB(h:H a=some (.tup xs)):isT H (.ref a)=true:=by simp only[isT,h]
theorem DD{xs:List (Key×V)}(h:H a=some (.dK xs)):isT H (.ref a)=false:=by simp only[isT,h]
theorem ay{a:Pn0}{s:Shared}{x:V}{c:String}{t:Value}{b f:Bool}{Q:VK}(I:Inv X a σ H s)(r:Vals [x,.ty c] us)(h:qm X.K H x t)(e:bq X.K t (.type c)=some b)(j:f=b)(q:Q (.bl f) H) :
  wpAny (model X.prog X.w) X.A (call (.builtin "isinstance") us) (EP X a σ Q) X.xe s:=by
 obtain⟨u,g,rfl,i,d⟩:=vals2 r;obtain rfl:g=UV c:=d;subst j;exact zJ I i h e λk=>⟨.bl f,H,I.tok _,rfl,q⟩
theorem Jg(F:i8 X.K):eB X (.builtin "isinstance") (λxs H Q=>∃ x,xs=[x,.ty "bool"]/\Kn H x/\Q (.bl (isB x)) H):=by
 intro a s c H xs d Q I r h;obtain⟨x,rfl,k,q⟩:=h;cases k with
 | non=>exact ay I r .non F.nb rfl q
 | bl b=>exact ay I r (.bl b) F.bb rfl q
 | int i=>exact ay I r (.int i) F.ib rfl q
 | str y=>exact ay I r (.str y) F.sb rfl q
 | lst e=>exact ay I r (.lst e) F.lb rfl q
 | tup e=>exact ay I r (.tup e) F.tb rfl q
 | dK e=>exact ay I r (.dK e) F.db rfl q
theorem Je(F:i8 X.K):eB X (.builtin "isinstance") (λxs H Q=>∃ x,xs=[x,.ty "int"]/\Kn H x/\Q (.bl (isI x)) H):=by
 intro a s c H xs d Q I r h;obtain⟨x,rfl,k,q⟩:=h;cases k with
 | non=>exact ay I r .non F.ni rfl q
 | bl b=>exact ay I r (.bl b) F.bi rfl q
 | int i=>exact ay I r (.int i) F.ii rfl q
 | str y=>exact ay I r (.str y) F.si rfl q
 | lst e=>exact ay I r (.lst e) F.li rfl q
 | tup e=>exact ay I r (.tup e) F.ti rfl q
 | dK e=>exact ay I r (.dK e) F.di rfl q
theorem Jd(F:i8 X.K):eB X (.builtin "isinstance") (λxs H Q=>∃ x,xs=[x,.ty "list"]/\Kn H x/\Q (.bl (isL H x)) H):=by
 intro a s c H xs d Q I r h;obtain⟨x,rfl,k,q⟩:=h;cases k with
 | non=>exact ay I r .non F.nl rfl q
 | bl b=>exact ay I r (.bl b) F.bl rfl q
 | int i=>exact ay I r (.int i) F.il rfl q
 | str y=>exact ay I r (.str y) F.sl rfl q
 | lst e=>exact ay I r (.lst e) F.ll (EE e) q
 | tup e=>exact ay I r (.tup e) F.tl (ED e) q
 | dK e=>exact ay I r (.dK e) F.dl (DE e) q
theorem Jb(F:i8 X.K):eB X (.builtin "isinstance") (λxs H Q=>∃ x,xs=[x,.ty "tuple"]/\Kn H x/\Q (.bl (isT H x)) H):=by
 intro a s c H xs d Q I r h;obtain⟨x,rfl,k,q⟩:=h;cases k with
 | non=>exact ay I r .non F.nt rfl q
 | bl b=>exact ay I r (.bl b) F.bt rfl q
 | int i=>exact ay I r (.int i) F.it rfl q
 | str y=>exact ay I r (.str y) F.st rfl q
 | lst e=>exact ay I r (.lst e) F.lt (EC e) q
 | tup e=>exact ay I r (.tup e) F.tt (EB e) q
 | dK e=>exact ay I r (.dK e) F.dt (DD e) q
section
variable {pins:Pn0}{s:Shared}
theorem Inv.moved(I:Inv X pins σ H s)(a:∀ b∈ch,iH X pins H b)(g:∀ b o,b∉ch->s.heap.get? b=some o->h'.get? b=some o):Inv X pins σ H { s with heap:=h',toks:=t' }:=by
 have h:∀ {b:Addr} {u:HO},H b=some u->b∉ch:=λe d=>by rw[(a _ d).1] at e;cases e
 refine I.step (g':=s.gens) (d':=s.drawn) (ch:=ch) (λb d=>⟨(a b d).2.2.2.1,(a b d).2.1,(a b d).2.2.2.2.1,(a b d).2.2.2.2.2⟩) (λb o _ _ f e _=>g b o f e) (λb o _ _ f e _=>⟨o.slots,g b o f e⟩) (λ_ _ _ _ n=>n)
  (λb o f e=>⟨o,g b o f e⟩) (λ_ _ e=>e) (λ_ _ _ e=>e) (λb p e=>⟨#[],by rw[e];simp⟩) (λm j=>?_) (λb u e=>?_) I.bare
 .obtain⟨o,k,l,i,r⟩:=j;exact⟨o,k,l,g _ o (λd=>(a _ d).2.1 rfl) i,r⟩
 .exact(I.hok b u e).Am (λc v f q=>g c v (by rcases f with z | z <;> first | (rw[z];exact h e) | exact h z) q) (λ_ q=>q) λ_ _ q=>q
theorem Inv.AJ{T:Addr}{x:V}(I:Inv X pins σ H s)(d:∀ b∈ch,iH X pins H b)(k:s.heap.objs.size<=T)(h:∀ b o,b∉ch->s.heap.get? b=some o->h'.get? b=some o)(w:IsTup h' T #[u,v])(t:RelV x u)(p:RelV y v):Inv X pins σ (upd H T (.tup [x,y])) { s with heap:=h',toks:=t' }:=by
 have j:∀ {b:Addr} {u:HO},H b=some u->b∉ch:=λe f=>by rw[(d _ f).1] at e;cases e
 have C:H T=none:=I.hok.fresh k;have neT:∀ {b:Addr} {o:Obj},s.heap.get? b=some o->b≠T:=λe=>ov (kl (hH e) k);have a:∀ {b:Addr} {u:HO},H b=some u->b≠T:=λe z=>by rw[z,C] at e;cases e
 refine I.step (g':=s.gens) (d':=s.drawn) (ch:=ch) (λb f=>⟨(d b f).2.2.2.1,(d b f).2.1,(d b f).2.2.2.2.1,(d b f).2.2.2.2.2⟩) (λb o _ _ g e _=>h b o g e) (λb o _ _ g e _=>⟨o.slots,h b o g e⟩) (λb o _ e n=>by rw[au (neT e)];exact n)
  (λb o g e=>⟨o,h b o g e⟩) (λb i e=>by rw[au (a e)];exact e) (λb o i e=>by rw[au (a e)];exact e) (λb G e=>⟨#[],by rw[au (a e),e];simp⟩) (λm B=>?_) (λb o e=>?_) I.bare
 .obtain⟨o,D,E,A,r⟩:=B;exact⟨o,D,E,h _ o (λf=>(d _ f).2.1 rfl) A,r⟩
 .by_cases f:b=T
  .subst f;rw[az] at e;cases e;exact⟨(by show 2<=sizeLine;decide),[u,v],.cons t (.cons p .nil),w⟩
  .rw[au f] at e;exact(I.hok b o e).Am (λc l g q=>h c l (by rcases g with z | z <;> first | (rw[z];exact j e) | exact j z) q) (λc q=>by rw[au (a q)];exact q) (λc i q=>by rw[au (a q)];exact q) λc o F q=>by rw[au (a q)];exact q
end
noncomputable def Itz (a b:Addr):It:=
 ⟨λi H=>∃ xs ys x y,H a=some (.lst xs)/\H b=some (.lst ys)/\xs[i]?=some x/\ys[i]?=some y,
  λi H v H'=>∃ t xs ys x y,H t=none/\H a=some (.lst xs)/\H b=some (.lst ys)/\xs[i]?=some x/\ys[i]?=some y/\v=.ref t/\H'=upd H t (.tup [x,y]),
  λi H=>∃ xs ys,H a=some (.lst xs)/\H b=some (.lst ys)/\(xs.length<=i\/ys.length<=i)⟩
def MV (z TI TO c i2 e d:Addr)(i:Nat)(h:Heap):Prop:=IsZip h z TI TO .none/\IsPair h TI (.ref c) (.ref i2)/\(∃ a b,IsPair h TO a b)/\h.IsListIter c e i/\h.IsListIter i2 d i
structure xa (z TI TO i1 i2:Addr):Prop where
 TIz:TI≠z
 TOz:TO≠z
 i1z:i1≠z
 i2z:i2≠z
 TITO:TI≠TO
 TIi1:TI≠i1
 TIi2:TI≠i2
 TOi1:TO≠i1
 TOi2:TO≠i2
 i12:i1≠i2
theorem GG{kt:Nat}(z TI TO m i2 B l2:Addr)(D:xa z TI TO m i2) :
  Turn P w K (.Tuple es kt tp) (Itz B l2) [z,TI,TO,m,i2] z (MV z TI TO m i2 B l2) where
 mem:=by simp
 obj:=λi h st b j=>by
  obtain⟨r,l,⟨a,c,n⟩,⟨o1,e1,_,d1⟩,⟨o2,e2,_,d2⟩⟩:=st;simp only[hF,lp,or_false] at j;rcases j with rfl | rfl | rfl | rfl | rfl
  .exact⟨_,r,λv q=>by cases q⟩
  .exact⟨_,l,λv q=>by cases q⟩
  .exact⟨_,n,λv q=>by cases q⟩
  .exact⟨_,e1,λv q=>by rw[d1] at q;cases q⟩
  .exact⟨_,e2,λv q=>by rw[d2] at q;cases q⟩
 keep:=λi h h' st k=>by
  obtain⟨r,l,⟨a,c,n⟩,F,C⟩:=st;exact⟨k z (by simp) _ r,k TI (by simp) _ l,⟨a,c,k TO (by simp) _ n⟩,F.at λo e=>k m (by simp) o e,C.at λo e=>k i2 (by simp) o e⟩
 item:=by
  intro X U R V hc i G s σ H E I J st T;subst U R V;obtain⟨xs,ys,x,y,t,j,hx,hy⟩:=T;obtain⟨r,l,⟨a0,b0,n⟩,F,C⟩:=st;obtain⟨O,na,M,Y,_⟩:=I.lst t;obtain⟨N,nb,rb,W,_⟩:=I.lst j;have A:∀ b∈[z,TI,TO,m,i2],H b=none:=λb j=>(J b j).1;have g:∀ b∈[z,TI,TO,m,i2],B≠b:=λb j e=>by rw[e,A b j] at t;cases t
  have f:∀ b∈[z,TI,TO,m,i2],l2≠b:=λb d e=>by rw[e,A b d] at j;cases j
  have Z:VY z TI TO m i2 B l2:=⟨D.TIz,D.TOz,D.i1z,D.i2z,D.TITO,D.TIi1,D.TIi2,D.TOi1,D.TOi2,D.i12,g z (by simp),g TO (by simp),g m (by simp),g i2 (by simp),f z (by simp),f TO (by simp),f m (by simp),f i2 (by simp)⟩;obtain⟨u,hu,ru⟩:=M.get hx;obtain⟨v,hv,rv⟩:=rb.get hy;refine Wx Z r l n F C (xs:=O.toArray) (ys:=N.toArray) ⟨_,Y,rfl,_,rfl⟩ ⟨_,W,rfl,_,rfl⟩ (x:=u) (y:=v) (by simpa using hu) (by simpa using hv) λh' a1 a2 a3 a4 a5 a6 L=>?_;refine⟨_,rfl,wpAny_letOwnedTupleGo_zip a1 λa7 Q p=>?_⟩;have zT:s.heap.objs.size≠z:=Wh (hH r);refine⟨.ref s.heap.objs.size,upd H s.heap.objs.size (.tup [x,y]),?_,rfl,⟨_,xs,ys,x,y,I.hok.fresh (ec _),t,j,hx,hy,rfl,rfl⟩,?_,λb d=>?_⟩
  .refine I.AJ (t':=s.toks) (ch:=[z,TO,m,i2]) (u:=u) (v:=v) (λb d=>J b (by simp at d ⊢;rcases d with e | e | e | e <;> simp [e])) (ec _) (λb o d e=>?_) ⟨_,p.extBut _ _ zT a5,rfl,_,rfl⟩ ru rv;simp only[hF,lp,or_false,not_or] at d;exact p.extBut b o d.1 (L b o d.1 d.2.1 d.2.2.1 d.2.2.2 e)
  .exact⟨Q,p.extBut _ _ D.TIz (L _ _ D.TIz D.TITO D.TIi1 D.TIi2 l),⟨_,_,p.extBut _ _ D.TOz a2⟩,a3.extBut p.extBut D.i1z,a4.extBut p.extBut D.i2z⟩
  .rw[au]
   .exact A b d
   .have S:∃ o,s.heap.get? b=some o:=by
     obtain⟨o1,e1,_⟩:=F;obtain⟨o2,e2,_⟩:=C;simp only[hF,lp,or_false] at d;rcases d with rfl | rfl | rfl | rfl | rfl
     .exact⟨_,r⟩
     .exact⟨_,l⟩
     .exact⟨_,n⟩
     .exact⟨_,e1⟩
     .exact⟨_,e2⟩
    obtain⟨o,e⟩:=S;exact ov (hH e)
 done:=by
  intro X U R V hc i G s σ H E I J st T;subst U R V;obtain⟨xs,ys,t,j,hl⟩:=T;obtain⟨r,l,⟨a0,b0,n⟩,F,C⟩:=st;obtain⟨O,na,M,Y,_⟩:=I.lst t;obtain⟨N,nb,rb,W,_⟩:=I.lst j;have A:∀ b∈[z,TI,TO,m,i2],H b=none:=λb j=>(J b j).1;have g:∀ b∈[z,TI,TO,m,i2],B≠b:=λb j e=>by rw[e,A b j] at t;cases t
  have f:∀ b∈[z,TI,TO,m,i2],l2≠b:=λb d e=>by rw[e,A b d] at j;cases j
  have Z:VY z TI TO m i2 B l2:=⟨D.TIz,D.TOz,D.i1z,D.i2z,D.TITO,D.TIi1,D.TIi2,D.TOi1,D.TOi2,D.i12,g z (by simp),g TO (by simp),g m (by simp),g i2 (by simp),f z (by simp),f TO (by simp),f m (by simp),f i2 (by simp)⟩;have la:=M.length;have lb:=rb.length;refine WH (I.ok.hd hc) Z r l n F C (xs:=O.toArray) (ys:=N.toArray) ⟨_,Y,rfl,_,rfl⟩ ⟨_,W,rfl,_,rfl⟩ ?_ λh' L=>⟨rfl,I.moved (t':=s.toks) (ch:=[z,TO,m,i2]) (λb d=>J b (by simp at d ⊢;rcases d with e | e | e | e <;> simp [e])) λb o d e=>?_⟩
  .rcases hl with hl | hl
   .left;simp;lia
   .right;simp;lia
  .simp only[hF,lp,or_false,not_or] at d;exact L b o d.1 d.2.1 d.2.2.1 d.2.2.2 e
 self:=λ_ _ _ _ _ st h=>VZ st.1 h
def RE (ta:TA):TI:=λσ H R=>ta σ H λvs H1=>∃ (p q:Addr) (xs ys:List V),vs=[.ref p,.ref q]/\H1 p=some (.lst xs)/\H1 q=some (.lst ys)/\R (Itz p q) H1
theorem NO{a b:Expr}{ta:TA}{kt:Nat}{p:Pos}(M:Gl X "zip")(K:X.mg "zip"=none)(N:PA X [a,b] ta)(J:autoParam (eh [a,b] X.env=[(false,eval a X.env),(false,eval b X.env)]) wE)(f:autoParam (eh [b] X.env=[(false,eval b X.env)]) wE) :
  PI X (.Tuple es kt tp) (.Call (.Name "zip" p) [a,b] [] pos) (RE ta):=by
 intro d s t H R I h;refine Call_ (gO I M K (by decide +kernel:AC "zip"=some (.type "zip")) (mC (thn (N pos d s t H _ I h) λY c ⟨W,x,k,z,A⟩=>?_) (by rw[J,f]) (by rw[f];rfl)));obtain⟨C,B,xs,ys,e,P,O,q⟩:=A;subst e;obtain⟨u,V,rfl,y,l⟩:=vals2 z;cases y;cases l;obtain⟨F,na,Z,T,_⟩:=k.lst P;obtain⟨E,nb,rb,S,_⟩:=k.lst O;refine call_zip_2 (xs:=F.toArray) (ys:=E.toArray) ⟨_,T,rfl,_,rfl⟩ ⟨_,S,rfl,_,rfl⟩ λQ v r o n m G L=>VZ v ?_;have U:Inv X d t x { c with heap:=Q }:=k.kept (t':=c.toks) L;have lt:∀ i j:Nat,i < j->c.heap.objs.size + i≠c.heap.objs.size + j:=λi j h e=>by lia
 have D:xa (c.heap.objs.size + 4) (c.heap.objs.size + 2) (c.heap.objs.size + 3) c.heap.objs.size (c.heap.objs.size + 1):=
  ⟨lt 2 4 (by decide),lt 3 4 (by decide),lt 0 4 (by decide),lt 1 4 (by decide),lt 2 3 (by decide),(lt 0 2 (by decide)).symm,(lt 1 2 (by decide)).symm,(lt 0 3 (by decide)).symm,(lt 1 3 (by decide)).symm,lt 0 1 (by decide)⟩
 refine⟨_,_,_,_,x,rfl,U,GG _ _ _ _ _ C B D,⟨v,r,⟨_,_,o⟩,n,m⟩,λb w=>?_,q⟩;have g:c.heap.objs.size<=b:=by
  simp only[hF,lp,or_false] at w;rcases w with rfl | rfl | rfl | rfl | rfl <;> lia
 exact k.uV g (k.hok.fresh g)
noncomputable def Ite (a:Addr):It:=
 ⟨λi H=>∃ xs x,H a=some (.lst xs)/\xs[i]?=some x,
  λi H v H'=>∃ t xs x,H t=none/\H a=some (.lst xs)/\xs[i]?=some x/\v=.ref t/\H'=upd H t (.tup [.int i,x]),
  λi H=>∃ xs,H a=some (.lst xs)/\xs.length<=i⟩
def Um (e it l:Addr)(i:Nat)(h:Heap):Prop:=(∃ a,IsEnum h e it i a)/\h.IsListIter it l i
theorem Fc{kt:Nat}(e it l:Addr)(D:e≠it):Turn P w K (.Tuple es kt tp) (Ite l) [e,it] e (Um e it l) where
 mem:=by simp
 obj:=λi h st b n=>by
  obtain⟨⟨c,d⟩,⟨U,M,_,d1⟩⟩:=st;simp only[hF,lp,or_false] at n;rcases n with rfl | rfl
  .exact⟨_,d,λv q=>by cases q⟩
  .exact⟨_,M,λv q=>by rw[d1] at q;cases q⟩
 keep:=λi h R st k=>by
  obtain⟨⟨c,d⟩,g⟩:=st;exact⟨⟨c,k e (by simp) _ d⟩,g.at λo e=>k it (by simp) o e⟩
 item:=by
  intro X G y J Q i j s S H E I m st C;subst G y J;obtain⟨N,x,p,O⟩:=C;obtain⟨⟨c,d⟩,g⟩:=st;obtain⟨t,W,r,L,_⟩:=I.lst p;have V:∀ b∈[e,it],H b=none:=λb n=>(m b n).1;obtain⟨u,Y,T⟩:=r.get O;refine wpAny_pyNext_enum_item d g (items:=t.toArray) ⟨_,L,rfl,_,rfl⟩ (x:=u) (by simpa using Y) D λR a1 a2 a3 a4 B=>?_;refine⟨_,rfl,wpAny_letOwnedTupleGo_enum a1 λZ F f=>?_⟩;have eT:s.heap.objs.size≠e:=Wh (hH d);refine⟨.ref s.heap.objs.size,upd H s.heap.objs.size (.tup [.int i,x]),?_,rfl,⟨_,N,x,I.hok.fresh (ec _),p,O,rfl,rfl⟩,?_,λb a=>?_⟩
  .refine I.AJ (t':=s.toks + 1) (ch:=[e,it]) (u:=.int i s.toks) (v:=u) m (ec _) (λb o a q=>?_) ⟨_,f.extBut _ _ eT a3,rfl,_,rfl⟩ ⟨_,rfl⟩ T;simp only[hF,lp,or_false,not_or] at a;exact f.extBut b o a.1 (B b o a.1 a.2 q)
  .exact⟨⟨_,by simpa using F⟩,a2.extBut f.extBut (vk D)⟩
  .rw[au]
   .exact V b a
   .have A:∃ o,s.heap.get? b=some o:=by
     obtain⟨U,M,_⟩:=g;simp only[hF,lp,or_false] at a;rcases a with rfl | rfl
     .exact⟨_,d⟩
     .exact⟨_,M⟩
    obtain⟨o,q⟩:=A;exact ov (hH q)
 done:=by
  intro X G y J Q i j s S H E I m st C;subst G y J;obtain⟨N,p,hl⟩:=C;obtain⟨⟨c,d⟩,g⟩:=st;obtain⟨t,W,r,L,_⟩:=I.lst p;have la:=r.length;exact wpAny_pyNext_enum_end (I.ok.hd Q) d g (items:=t.toArray) ⟨_,L,rfl,_,rfl⟩ (by simp;lia) λR B=>⟨rfl,I.moved (t':=s.toks) (ch:=[it]) (λb a=>m b (by simp at a ⊢;simp [a])) λb o a q=>B b o (λz=>a (by simp [z])) q⟩
 self:=λ_ _ _ _ _ st h=>by obtain⟨⟨c,d⟩,_⟩:=st;exact XC d h
def Ms (ta:TA):TI:=λσ H R=>ta σ H λvs H1=>∃ (p:Addr) (xs:List V),vs=[.ref p]/\H1 p=some (.lst xs)/\R (Ite p) H1
theorem Kk{a:Expr}{ta:TA}{kt:Nat}{p:Pos}(z:Gl X "enumerate")(w:X.mg "enumerate"=none)(A:PA X [a] ta)(v:autoParam (eh [a] X.env=[(false,eval a X.env)]) wE) :
  PI X (.Tuple es kt tp) (.Call (.Name "enumerate" p) [a] [] pos) (Ms ta):=by
 intro c s i H R I h;refine Call_ (gO I z w (by decide +kernel:AC "enumerate"=some (.type "enumerate")) (mC (thn (A pos c s i H _ I h) λJ g Z=>?_) v rfl));obtain⟨G,m,f,o,r⟩:=Z;obtain⟨l,F,e,B,q⟩:=r;subst e;obtain⟨u,rfl,n⟩:=vals1 o;cases n;obtain⟨M,L,K,D,_⟩:=f.lst B;refine call_enumerate_1 D λC j y t x=>XC j ?_;have E:Inv X c i m { g with heap:=C }:=f.kept (t':=g.toks) x;refine⟨_,_,_,_,m,rfl,E,Fc _ _ l (Nat.succ_ne_self _),⟨⟨_,by simpa using j⟩,y⟩,λb k=>?_,q⟩;have d:g.heap.objs.size<=b:=by
  simp only[hF,lp,or_false] at k;rcases k with rfl | rfl <;> lia
 exact f.uV d (f.hok.fresh d)
noncomputable def oA (xs:List V)(lo a st:Option Int):List V:=
 (Vc (rx lo a st xs.length).1 (rx lo a st xs.length).2.1 (rx lo a st xs.length).2.2).filterMap (xs[·]?)
theorem Vals.places:∀ {xs:List V} {us:Lv0},Vals xs us->∀ a:List Nat,Vals (a.filterMap (xs[·]?)) (a.filterMap (us[·]?))
 | _,_,_,[]=>.nil
 | xs,us,h,j::a=>by
  have c:=Vals.places h a;cases b:xs[j]? with
  | some x=>
   obtain⟨u,e,r⟩:=h.get b;simp only[td,b,e];exact .cons r c
  | none=>
   have d:=h.none_of b;simp only[td,b,d];exact c
def P5 (K:Fg0)(te:TE)(tl d c:TO):TE:=λσ H Q=>te σ H λx H1=>tl σ H1 λl H2=>d σ H2 λu e=>c σ e λk b=>k≠some 0/\∃ a xs,x=.ref a/\SqL K b a xs/\∀ p,b p=none->Q (.ref p) (upd b p (.lst (oA xs l u k)))
theorem Fx{e:Expr}{st:Expr}{tl y w:TO}(U:PE X e te)(T:PO X lo tl)(R:PO X hi y)(S:PO X (some st) w):PE X (.Subscript e (.Slice lo hi (some st) p2) pos) (P5 X.K te tl y w):=by
 intro c s g H Q I h;refine Xg (thn (U c s g H _ I h) λv D Z=>?_);obtain⟨x,H1,I1,E,K⟩:=Z;refine wpAny_Slice (thn (T c D g H1 _ I1 K) λp C ⟨l,H2,I2,M,J⟩=>thn (R c C g H2 _ I2 J) λvu B ⟨u,H3,Y,L,G⟩=>thn (S c B g H3 _ Y G) λt f Z=>?_);obtain⟨k,H4,W,pk,F⟩:=Z;obtain⟨O,a,i,rfl,P,q⟩:=F;cases E;have n:Inv X c g H4 { f with heap:=f.heap.push { cls:=.type "slice",data:=.fields #[p,vu,t] } }:=W.kept (t':=f.toks) λb N q=>cm _ q;obtain⟨d,r,A,hz⟩:=n.list P;have j:=r.length;show wpAny (model X.prog X.w) X.A (VP e (.Slice lo hi (some st) p2) (.ref a) (.ref f.heap.objs.size)) (EP X c g Q) X.xe { f with heap:=f.heap.push { cls:=.type "slice",data:=.fields #[p,vu,t] } };refine tail_any (ops:=[.ref a,.ref f.heap.objs.size]) A.isList.typeIs VM.lookup (VQ A.isList (Xh ..) M L pk O ?_ (by rw[hL] <;> lia)) (by with_unfolding_all rfl);refine⟨.ref _,_,n.laid (t':=f.toks) (o:=.lst (oA i l u k)) (λb N q=>cm _ q) (ec _) ?_,rfl,q _ (n.hok.fresh (ec _))⟩;have z:Vals (oA i l u k) (WO d.toArray l u k).toList:=by
  have e:(WO d.toArray l u k).toList=(Vc (rx l u k i.length).1 (rx l u k i.length).2.1 (rx l u k i.length).2.2).filterMap (d[·]?):=by
   simp [WO,j]
  rw[e];exact r.places _
 have m:=slicePick_size_le d.toArray l u k;have V:=z.length;simp only[Ue,hL] at V m;exact⟨by lia,_,0,z,hY _ rfl⟩
abbrev jO (h:Heap)(z TI TO T:Addr)(f:Bool):Prop:=h.get? z=some { cls:=.type "zip",dict:=none,data:=.fields #[rawInt T,.bool f,.bool false,.ref TI,.ref TO],slots:=#[] }
section
variable {s:Shared}
theorem Gw{Q:Option Obj->Shared->Prop}(h:Q (s.heap.get? a) s):wpAny M A (Ya a) Q E s:=λc p b=>by
 unfold Ya;rw[Sem.wp_loadIfAlive];exact h
theorem EI{TI TO T:Addr}{f:Bool}{d:Obj}{Q:Bool->Shared->Prop}(a:jO s.heap z TI TO T f)(e:s.heap.get? T=some d)(h:∀ h',jO h' z TI TO T true->UI z s.heap h'->Q false { s with heap:=h' }) :
  wpAny (model prog w) A (GW (.ref z)) Q E s:=by
 unfold GW;refine cc (NR a rfl (x:=rawInt T) rfl ?_);show wpAny _ _ (Ya ((T:Int).toNat) >>= _) _ _ _;have g:((T:Nat):Int).toNat=T:=ey T;rw[g];refine cc (Gw ?_);rw[e];show wpAny _ _ (field (.ref z) 1 >>= _) _ _ _;refine cc (NR a rfl (x:=.bool f) rfl ?_);cases f with
 | true=>exact hE (h _ a (.refl ..))
 | false=>
  show wpAny _ _ (setField (.ref z) 1 (.bool true) >>= λ_=>pure false) _ _ _;exact cc (wpAny_setField_rec a (by simp) λh' b c=>hE (h h' b c))
theorem Gz{TI TO i2 T:Addr}{f:Bool}{I:Obj}{xs:Array Value}{x y:Value}{Q:VS}(D:VY z TI TO i1 i2 l1 l2)(h:jO s.heap z TI TO T f)(B:IsPair s.heap TI (.ref i1) (.ref i2))(L:s.heap.get? T=some I)(O:s.heap.IsListIter i1 l1 k1)(N:s.heap.IsListIter i2 l2 k2)(q:s.heap.IsList l1 xs)(p:s.heap.IsList l2 ys)(K:xs[k1]?=some x)(J:ys[k2]?=some y)(M:∀ h',jO h' z TI TO T true->h'.IsListIter i1 l1 (k1 + 1)->h'.IsListIter i2 l2 (k2 + 1)->IsPair h' s.heap.objs.size x y->(∀ c o,c≠z->c≠i1->c≠i2->s.heap.get? c=some o->h'.get? c=some o)->Q (.ref s.heap.objs.size) { s with heap:=h' }) :
  wpAny (model prog w) A (YP.«zip.__next__» ⟨[.ref z],[]⟩) (λfin s'=>∃ v,fin=.done (.ret v)/\Q v s') E s:=by
 show wpAny _ _ (field (.ref z) 2 >>= λa=>_) _ _ _;refine cc (NR h rfl (x:=.bool false) rfl ?_);show wpAny _ _ (field (.ref z) 3 >>= λa=>_) _ _ _;refine cc (NR h rfl (x:=.ref TI) rfl (cc (WI B rfl ?_)));show wpAny _ _ (GW (.ref z) >>= λa=>_) _ _ _;refine cc (EI h L λj l b=>?_);simp only[PF,if_false];have n:j.IsListIter i1 l1 k1:=O.extBut b.extBut D.i1z;have m:j.IsListIter i2 l2 k2:=N.extBut b.extBut D.i2z;have F:j.IsList l1 xs:=q.extBut b.extBut D.l1z;have C:j.IsList l2 ys:=p.extBut b.extBut D.l2z;rw[Xj];refine cc ?_;rw[Uw];refine cc (cc (Nv ?_));show wpAny _ _ (PV (.ref i1) >>= λv=>pure (some v)) _ _ _;refine cc (UO n F K λU u d=>hE (hE ?_));show wpAny _ _ (forIn [qq i2] _ _) _ _ _;rw[Uw];refine cc (cc (Nv ?_));show wpAny _ _ (PV (.ref i2) >>= λv=>pure (some v)) _ _ _;refine cc (UO (m.extBut d.extBut D.i12.symm) (C.extBut d.extBut D.l2i1) J λG r g=>hE (hE ?_));show wpAny _ _ (forIn ([]:Lv0) _ _) _ _ _;rw[Ys];refine hE ?_;show wpAny _ _ (newTuple [x,y] >>= λt=>ret t) _ _ _;refine cc (wpAny_newTuple (hE ⟨_,rfl,?_⟩));have i:G.objs.size=s.heap.objs.size:=by rw[g.1,d.1,b.1]
 have k:jO G z TI TO T true:=g.extBut _ _ D.i2z.symm (d.extBut _ _ D.i1z.symm l);have H:=M (G.push { cls:=.type "tuple",data:=.seq #[x,y] }) (cm _ k) ((u.extBut g.extBut D.i12).at λo e=>cm _ e) (r.at λo e=>cm _ e)
  (by rw[<- i];exact hY _ rfl) λc o S R P e=>cm _ (g.extBut _ _ P (d.extBut _ _ R (b.extBut _ _ S e)))
 rw[<- i] at H;exact H
theorem FJ{TI TO i2 T:Addr}{f:Bool}{h:Obj}{xs:Array Value}{x y:Value}(D:VY z TI TO i1 i2 l1 l2)(a:jO s.heap z TI TO T f)(g:IsPair s.heap TI (.ref i1) (.ref i2))(k:s.heap.get? T=some h)(n:s.heap.IsListIter i1 l1 k1)(m:s.heap.IsListIter i2 l2 k2)(e:s.heap.IsList l1 xs)(d:s.heap.IsList l2 ys)(j:xs[k1]?=some x)(i:ys[k2]?=some y)(l:∀ h',jO h' z TI TO T true->h'.IsListIter i1 l1 (k1 + 1)->h'.IsListIter i2 l2 (k2 + 1)->IsPair h' s.heap.objs.size x y->(∀ c o,c≠z->c≠i1->c≠i2->s.heap.get? c=some o->h'.get? c=some o)->Q (some (.ref s.heap.objs.size)) { s with heap:=h' }) :
  wpAny (model prog w) A (pyNext (.ref z)) Q E s:=by
 have b:s.TypeIs (.ref z) "zip":=⟨_,a,rfl⟩;unfold pyNext;exact cc (wpAny_attempt (UG (name:=lh "__next__") b Vl
  (Va Vl b XS (Gz D a g k n m e d j i λh' u t r q p=>hE (l h' u t r q p)) (XE _))))
theorem Gy{TI TO i2 T:Addr}{f:Bool}{I:Obj}{xs:Array Value}{Q:Fin->Shared->Prop}(F:A.handled=none)(D:VY z TI TO i1 i2 l1 l2)(g:jO s.heap z TI TO T f)(u:IsPair s.heap TI (.ref i1) (.ref i2))(M:s.heap.get? T=some I)(O:s.heap.IsListIter i1 l1 k1)(N:s.heap.IsListIter i2 l2 k2)(p:s.heap.IsList l1 xs)(n:s.heap.IsList l2 ys)(i:xs[k1]?=none\/ys[k2]?=none)(G:∀ h' e,(∀ c o,c≠z->c≠i1->c≠i2->s.heap.get? c=some o->h'.get? c=some o)->(∃ o,h'.get? e=some o/\o.cls=.type "StopIteration")->E (.ref e) { s with heap:=h' }) :
  wpAny (model prog w) A (YP.«zip.__next__» ⟨[.ref z],[]⟩) Q E s:=by
 show wpAny _ _ (field (.ref z) 2 >>= λa=>_) _ _ _;refine cc (NR g rfl (x:=.bool false) rfl ?_);show wpAny _ _ (field (.ref z) 3 >>= λa=>_) _ _ _;refine cc (NR g rfl (x:=.ref TI) rfl (cc (WI u rfl ?_)));show wpAny _ _ (GW (.ref z) >>= λa=>_) _ _ _;refine cc (EI g M λk J b=>?_);simp only[PF,if_false];have h:k.IsListIter i1 l1 k1:=O.extBut b.extBut D.i1z;have m:k.IsListIter i2 l2 k2:=N.extBut b.extBut D.i2z;have j:k.IsList l1 xs:=p.extBut b.extBut D.l1z;have y:k.IsList l2 ys:=n.extBut b.extBut D.l2z;rw[Xj];refine cc ?_;rw[Uw];refine cc (cc (Nv ?_));show wpAny _ _ (PV (.ref i1) >>= λv=>pure (some v)) _ _ _;cases l:xs[k1]? with
 | none=>
  exact cc (Wy F h j l λh' e r t=>G h' e (λc o C B H q=>r c o B (b.extBut _ _ C q)) t)
 | some x=>
  have K:ys[k2]?=none:=by rcases i with q | q;(rw[l] at q;cases q);exact q
  refine cc (UO h j l λP L d=>hE (hE ?_));show wpAny _ _ (forIn [qq i2] _ _) _ _ _;rw[Uw];refine cc (cc (Nv ?_));show wpAny _ _ (PV (.ref i2) >>= λv=>pure (some v)) _ _ _;exact cc (Wy F (m.extBut d.extBut D.i12.symm) (y.extBut d.extBut D.l2i1) K λh' e r t=>G h' e (λc o C B H q=>r c o H (d.extBut _ _ B (b.extBut _ _ C q))) t)
theorem FI{TI TO i2 T:Addr}{f:Bool}{l:Obj}{xs:Array Value}(p:A.handled=none)(D:VY z TI TO i1 i2 l1 l2)(a:jO s.heap z TI TO T f)(k:IsPair s.heap TI (.ref i1) (.ref i2))(r:s.heap.get? T=some l)(v:s.heap.IsListIter i1 l1 k1)(u:s.heap.IsListIter i2 l2 k2)(i:s.heap.IsList l1 xs)(h:s.heap.IsList l2 ys)(d:xs[k1]?=none\/ys[k2]?=none)(t:∀ h',(∀ c o,c≠z->c≠i1->c≠i2->s.heap.get? c=some o->h'.get? c=some o)->Q none { s with heap:=h' }):wpAny (model prog w) A (pyNext (.ref z)) Q E s:=by
 have g:s.TypeIs (.ref z) "zip":=⟨_,a,rfl⟩;unfold pyNext;refine cc (wpAny_attempt (UG (name:=lh "__next__") g Vl
  (Va Vl g XS (Gy p D a k r v u i h d λh' e n q=>?_) (XE _))))
 obtain⟨o,m,j⟩:=q;exact cc (wpAny_isInstance (T:="StopIteration") (b:=true) ⟨o,m,j⟩ isSubtype_stop (hE (t _ n)))
theorem IJ{I S:Addr}{res:Value}(J:Nat->Lv0->Shared->Prop)(j:n < sizeLine)(a:∀ i acc s,J i acc s->acc.length=i)(item:∀ i acc s E,i < n->J i acc s->wpAny (model prog w) A.in1 (pyNext (.ref I)) (λr s'=>∃ v c,r=some v/\s'.heap.get? S=some (fu acc c)/\∀ h',UI S s'.heap h'->h'.get? S=some (fu (acc++[v]) (c + 1))->J (i + 1) (acc++[v]) { s' with heap:=h' }) E s)(done:∀ acc s E,J n acc s->wpAny (model prog w) A.in1 (pyNext (.ref I)) (λr s'=>r=none/\R (.ok (.ret res)) s') E s) :
  ∀ (k i:Nat) (acc:Lv0) (s:Shared),n - i=k->i<=n->J i acc s->Pv (model prog w) A (.builtin "list.extend.loop" ⟨[.ref S,.ref I,res],[]⟩) R s:=by
 intro k
 induction k with
 | zero=>
  intro i acc s g h hJ;obtain rfl:i=n:=by lia
  refine Wq WR ?_;rw[Vg Ug _];show wpAny _ A.in1 (pyNext (.ref I) >>= λr=>_) _ _ s;refine cc (thn (done acc s _ hJ) λr s' Z=>?_);obtain⟨b,q⟩:=Z;subst b;exact hE q
 | succ k f=>
  intro i acc s g h hJ;refine Wq WR ?_;rw[Vg Ug _];show wpAny _ A.in1 (pyNext (.ref I) >>= λr=>_) _ _ s;refine cc (thn (item i acc s _ (by lia) hJ) λr s' Z=>?_);obtain⟨v,c,b,d,q⟩:=Z;subst b;have l:=a i acc s hJ;show wpAny _ A.in1 (XT S (·.push v) >>= λr=>_) _ _ _;have e:IW (·.push v) (fu acc c)=fu (acc++[v]) (c + 1):=by
   show IW (·.push v) { cls:=.type "list",dict:=none,data:=.seq acc.toArray c,slots:=#[] }=_;rw[mapSeq_push,List.push_toArray]
  refine cc (Vm d rfl (hE ⟨WW Ug _,f (i + 1) (acc++[v]) _ (by lia) (by lia) (q _ (Heap.SameBut.update ..) ?_)⟩) (by rw[hL];lia) (by show (acc.toArray.push v).size<=sizeLine + 1;rw[Array.size_push,hL];lia));rw[PL _ d (by rw[e];rfl),e]
end
theorem E7:Xf (.type "zip") "__len__"=pure none:=by rw[typeLookup_type,Wz];kernel_rfl
theorem CL:Xf (.type "zip") "__length_hint__"=pure none:=by rw[typeLookup_type,Wz];kernel_rfl
section
variable {pins:Pn0}{s:Shared}
theorem Inv.adopt{S:Addr}{c:Nat}(I:Inv X pins σ H s)(f:iH X pins H S)(t:s.heap.get? S=some (fu us c))(r:Vals xs us)(hz:xs.length<=sizeLine):Inv X pins σ (upd H S (.lst xs)) s:=by
 have a:∀ {b:Addr} {u:HO},H b=some u->b≠S:=λe z=>by rw[z,f.1] at e;cases e
 refine⟨I.ok,I.os,I.bare,⟨I.base.keep,I.base.slot,λb o e n h=>?_,I.base.there,λb g e=>?_,λb o u e=>?_,λb k e=>?_⟩,I.loc,I.cell,?_,λx d e=>?_,λp i=>?_,λb u e=>?_,I.len⟩
 .have l:b≠S:=λz=>by
   rcases f.2.2.2.1 with q | q
   .exact h (by rw[z];exact q)
   .exact absurd (kl (hH e) (by rw[z];exact q)) (sk _)
  rw[au l];exact I.base.free b o e n h
 .have q:=I.base.tups b g e;rw[au (a q)];exact q
 .have q:=I.base.frzs b o u e;rw[au (a q)];exact q
 .obtain⟨m,q⟩:=I.base.tbls b k e;exact⟨m,by rw[au (a q)];exact q⟩
 .rw[au (vk f.2.1)];exact I.free
 .rw[au (f.2.2.2.2.1 x d e)];exact I.freeC x d e
 .obtain⟨y,w,v⟩:=I.pin p i;exact⟨y,by rw[au (f.2.2.2.2.2 p i)];exact w,v⟩
 .by_cases j:b=S
  .subst j;rw[az] at e;cases e;exact⟨hz,us,c,r,t⟩
  .rw[au j] at e;exact(I.hok b u e).Am (λ_ _ _ q=>q) (λd q=>by rw[au (a q)];exact q) (λd g q=>by rw[au (a q)];exact q) λd o A q=>by rw[au (a q)];exact q
theorem iH.heap{b:Addr}(f:iH X pins H b)(h:H' b=none):iH X pins H' b:=⟨h,f.2⟩
theorem zy:∀ a:La0,Vals (a.map V.ref) (a.map qq)
 | []=>.nil
 | _::r=>.cons rfl (zy r)
def SN (H:Hp)(xs ys:List V)(Q:VK):Prop:=∀ (S:Addr) (a:La0) (H':Hp),H S=none->aS H H'->H' S=some (.lst (a.map V.ref))->a.length=min xs.length ys.length->
 (∀ (j:Nat) t x y,a[j]?=some t->xs[j]?=some x->ys[j]?=some y->H' t=some (.tup [x,y]))->(∀ t∈a,H t=none)->Q (.ref S) H'
theorem Cb{TI TO i2:Addr}{ys:List V}{Q:VK}(D:xa z TI TO i1 i2)(I:Inv X pins σ H s)(hc:X.calm=true)(hf:∀ b∈[z,TI,TO,i1,i2],iH X pins H b)(st:MV z TI TO i1 i2 l1 l2 0 s.heap)(ha:H l1=some (.lst xs))(hb:H l2=some (.lst ys))(hn:min xs.length ys.length < sizeLine)(q:SN H xs ys Q):wpAny (model X.prog X.w) X.A (call (.type "list") [.ref z]) (EP X pins σ Q) E s:=by
 obtain⟨hz,e9,⟨a0,b0,d5⟩,h1,h2⟩:=st;obtain⟨S,c7⟩:∃ S,S=s.heap.objs.size:=⟨_,rfl⟩;have fS:iH X pins H S:=by rw[c7];exact I.uV (ec _) (I.hok.fresh (ec _))
 have f6:∀ b∈[z,TI,TO,i1,i2],b < S:=λb d=>by
  have f7:∃ o,s.heap.get? b=some o:=by
   obtain⟨o1,e1,_⟩:=h1;obtain⟨o2,L,_⟩:=h2;simp only[hF,lp,or_false] at d;rcases d with rfl | rfl | rfl | rfl | rfl
   .exact⟨_,hz⟩
   .exact⟨_,e9⟩
   .exact⟨_,d5⟩
   .exact⟨_,e1⟩
   .exact⟨_,L⟩
  obtain⟨o,e⟩:=f7;rw[c7];exact hH e
 have G:∀ b∈[z,TI,TO,i1,i2],b≠S:=λb d=>ov (f6 b d);have b6:∀ w:Hp,aS H w->(∀ b∈[z,TI,TO,i1,i2],w b=none)->VY z TI TO i1 i2 l1 l2:=λw N W=>by
  have b':∀ b∈[z,TI,TO,i1,i2],l1≠b:=λb d e=>by have:=N _ _ ha;rw[e,W b d] at this;cases this
  have b9:∀ b∈[z,TI,TO,i1,i2],l2≠b:=λb d e=>by have:=N _ _ hb;rw[e,W b d] at this;cases this
  exact⟨D.TIz,D.TOz,D.i1z,D.i2z,D.TITO,D.TIi1,D.TIi2,D.TOi1,D.TOi2,D.i12,b' z (by simp),b' TO (by simp),b' i1 (by simp),b' i2 (by simp),b9 z (by simp),b9 TO (by simp),b9 i1 (by simp),b9 i2 (by simp)⟩
 let J:Nat->Lv0->Shared->Prop:=λi b7 m=>∃ (w:Hp) (B:La0) (c:Nat),Inv X pins σ w m/\b7=B.map qq/\B.length=i/\w S=none/\m.heap.get? S=some (fu b7 c)/\aS H w/\
  (∀ (j:Nat) t x y,B[j]?=some t->xs[j]?=some x->ys[j]?=some y->w t=some (.tup [x,y]))/\(∀ t∈B,w t≠none/\H t=none)/\(∀ b∈[z,TI,TO,i1,i2],w b=none)/\(∃ o,m.heap.get? TO=some o)/\IsPair m.heap TI (.ref i1) (.ref i2)/\m.heap.IsListIter i1 l1 i/\m.heap.IsListIter i2 l2 i/\
  ((B=[]/\IsZip m.heap z TI TO .none/\∃ a b,IsPair m.heap TO a b)\/∃ t r f,B=t::r/\jO m.heap z TI TO t f)
 have alive:∀ {w:Hp} {m:Shared} {t:Addr},Inv X pins σ w m->w t≠none->∃ o,m.heap.get? t=some o:=λ{w m t} T h=>by
  cases e:w t with
  | none=>exact absurd e h
  | some o=>
   have lt:=T.hok.lt e;have x:=T.hok t o e;cases L:m.heap.get? t with
   | some ob=>exact⟨ob,rfl⟩
   | none=>
    exfalso;cases o with
    | lst _=>obtain⟨_,_,_,_,n⟩:=x;rw[L] at n;cases n
    | tup _=>obtain⟨_,_,_,p⟩:=x;obtain⟨_,n,_⟩:=p;rw[L] at n;cases n
    | dK _=>obtain⟨_,_,_,_,_,_,_,n,_⟩:=x;rw[L] at n;cases n
    | dT _=>obtain⟨_,_,_,_,_,_,_,n,_⟩:=x;rw[L] at n;cases n
    | set _ _=>obtain⟨_,_,_,_,n,_⟩:=x;rw[L] at n;cases n
    | ins _ _ _=>obtain⟨_,_,_,n,_⟩:=x;rw[L] at n;cases n
    | own _=>obtain⟨_,n⟩:=x;rw[L] at n;cases n
    | xd _=>obtain⟨_,⟨_,_,_,n,_⟩,_⟩:=x;rw[L] at n;cases n
    | rng _ _=>obtain⟨_,_,_,n⟩:=x;rw[L] at n;cases n
    | frz _ _=>obtain⟨n,_⟩:=x;rw[L] at n;cases n
    | tbl _=>obtain⟨_,_,_,_,n,_⟩:=x;rw[L] at n;cases n
    | cod _ _=>obtain⟨⟨_,n⟩,_⟩:=x;rw[L] at n;cases n
    | met _ _=>have n:m.heap.get? t=some _:=x;rw[L] at n;cases n
    | ext _=>obtain⟨_,⟨_,n⟩,_⟩:=x;rw[L] at n;cases n
 have d4:∀ {w:Hp},(∀ b∈[z,TI,TO,i1,i2],w b=none)->∀ b∈[z,TO,i1,i2],iH X pins w b:=λ{w} W b d=>by
  have e6:b∈[z,TI,TO,i1,i2]:=by
   simp only[hF,lp,or_false] at d ⊢;rcases d with e | e | e | e <;> simp [e]
  exact(hf b e6).heap (W b e6)
 have step:∀ (i:Nat) (w:Hp) (B:La0) (c:Nat) (m:Shared) (C:Heap) (x y:V) (u v:Value),Inv X pins σ w m->B.length=i->w S=none->m.heap.get? S=some (fu (B.map qq) c)->aS H w->
   (∀ (j:Nat) t x y,B[j]?=some t->xs[j]?=some x->ys[j]?=some y->w t=some (.tup [x,y]))->(∀ t∈B,w t≠none/\H t=none)->(∀ b∈[z,TI,TO,i1,i2],w b=none)->(∀ b∈[z,TI,TO,i1,i2],∃ o,m.heap.get? b=some o)->IsPair m.heap TI (.ref i1) (.ref i2)->xs[i]?=some x->ys[i]?=some y->RelV x u->RelV y v->
   (∀ b o,b∉[z,TO,i1,i2]->m.heap.get? b=some o->C.get? b=some o)->(∃ o,C.get? TO=some o)->IsPair C m.heap.objs.size u v->C.IsListIter i1 l1 (i + 1)->C.IsListIter i2 l2 (i + 1)->(∃ t r f,B++[m.heap.objs.size]=t::r/\jO C z TI TO t f)->
   ∃ v' c',some (qq m.heap.objs.size)=some v'/\C.get? S=some (fu (B.map qq) c')/\∀ g,UI S C g->g.get? S=some (fu (B.map qq++[v']) (c' + 1))->J (i + 1) (B.map qq++[v']) { m with heap:=g }:=by
  intro i w B c m C x y u v T hl R hS N a9 K W ex A hx hy ru rv U e8 hT P O b4;have g5:S < m.heap.objs.size:=hH hS;have ST:S≠m.heap.objs.size:=ov g5;have fT:w m.heap.objs.size=none:=T.hok.fresh (ec _);have g2:S∉[z,TO,i1,i2]:=λhm=>by
   simp only[hF,lp,or_false] at hm;rcases hm with e | e | e | e
   .exact G z (by simp) e.symm
   .exact G TO (by simp) e.symm
   .exact G i1 (by simp) e.symm
   .exact G i2 (by simp) e.symm
  refine⟨_,c,rfl,U S _ g2 hS,λg sb hg=>?_⟩;have I1:Inv X pins σ (upd w m.heap.objs.size (.tup [x,y])) { m with heap:=C }:=T.AJ (t':=m.toks) (d4 W) (ec _) U ⟨_,hT,rfl,_,rfl⟩ ru rv;have nT:∀ b∈[z,TI,TO,i1,i2],b≠m.heap.objs.size:=λb d=>by obtain⟨o,e⟩:=ex b d;exact ov (hH e)
  have b5:(upd w m.heap.objs.size (.tup [x,y])) S=none:=by rw[au ST];exact R
  have I2:Inv X pins σ (upd w m.heap.objs.size (.tup [x,y])) { m with heap:=g }:=I1.moved (t':=m.toks) (ch:=[S]) (λb d=>by
   have e:b=S:=by simpa using d
   rw[e];exact fS.heap b5) λb o d e=>(sb.2 b λz'=>d (by simp [z'])).trans e
  have e5:∀ {t:Addr},w t≠none->t≠m.heap.objs.size:=λh e=>h (by rw[e];exact fT);refine⟨upd w m.heap.objs.size (.tup [x,y]),B++[m.heap.objs.size],c + 1,I2,by rw[ih];rfl,by rw[el,hl];rfl,b5,hg,λb o e=>?_,λj t x' y' ht c5 c4=>?_,λt ht=>?_,λb d=>?_,?_,?_,?_,?_,?_⟩
  .have e':=N b o e;rw[au (λz'=>by rw[z',fT] at e';cases e')];exact e'
  .by_cases hj:j < B.length
   .rw[iv hj] at ht;have e':=a9 j t x' y' ht c5 c4;rw[au (e5 (by rw[e'];simp))];exact e'
   .have f8:j=B.length:=by
     have:=(gS0 ht).1;rw[el,UR] at this;lia
    subst f8;rw[mm (ec _),Vs] at ht;have et:t=m.heap.objs.size:=(nS ht).symm;rw[hl] at c5 c4;rw[hx] at c5;rw[hy] at c4;cases c5;cases c4;rw[et];exact az
  .rcases Bl.mp ht with z' | z'
   .rw[au (e5 (K t z').1)];exact K t z'
   .have e:t=m.heap.objs.size:=by simpa using z'
    rw[e,az];exact⟨by simp,N.free fT⟩
  .rw[au (nT b d)];exact W b d
  .obtain⟨o,e⟩:=e8;exact⟨o,(sb.2 TO (G TO (by simp))).trans e⟩
  .exact(sb.2 TI (G TI (by simp))).trans (U TI _ (by simp [D.TIz,D.TITO,D.TIi1,D.TIi2]) A)
  .exact P.extBut sb.extBut (G i1 (by simp))
  .exact O.extBut sb.extBut (G i2 (by simp))
  .obtain⟨t,r,f,e,a7⟩:=b4;exact .inr ⟨t,r,f,e,(sb.2 z (G z (by simp))).trans a7⟩
 refine callType_codes (Q₁:=λe4 c9=>e4=.ref S/\c9={ s with heap:=s.heap.push { cls:=.type "list",data:=.seq #[] } }) F.called_list (F.typeCall_list_1 _) F.entry_list_init (code_list_new _ ⟨by rw[c7],rfl⟩) λe4 c9 f1=>?_;obtain⟨rfl,rfl⟩:=f1;have c8:(s.heap.push { cls:=.type "list",data:=.seq #[] }).get? S=some { cls:=.type "list",data:=.seq #[] }:=by rw[c7];exact hY _ rfl
 have d8:∀ b o,s.heap.get? b=some o->(s.heap.push { cls:=.type "list",data:=.seq #[] }).get? b=some o:=λb o e=>cm _ e;have I0:Inv X pins σ H { s with heap:=s.heap.push { cls:=.type "list",data:=.seq #[] } }:=I.kept (t':=s.toks) d8;refine⟨⟨_,c8,rfl⟩,F.args_list_init_2 _ _,?_⟩;show wpAny _ X.A.in1.in1 (Wm (.ref S) >>= λf5=>Builtin.List.listUpdate (.ref S) (λ_=>#[]) >>= λ_=>letGo f5.toList.reverse >>= λ_=>Tx (.ref S) (.ref z) .none) _ _ _;unfold Wm;refine cc (cc (WI c8 rfl (hE ?_)));show wpAny _ X.A.in1.in1 (XT S (λ_=>#[]) >>= λ_=>letGo (#[]:Array Value).toList.reverse >>= λ_=>Tx (.ref S) (.ref z) .none) _ _ _;refine cc (Vm c8 rfl (cc (wpAny_letGo ?_)));have d6:=PL (IW (λ_=>(#[]:Array Value))) c8 rfl;have up1:∀ b o,b≠S->s.heap.get? b=some o->((s.heap.push { cls:=.type "list",data:=.seq #[] }).update S (IW (λ_=>(#[]:Array Value)))).get? b=some o:=λb o nb e=>(Pw _ _ (vk nb)).trans (d8 b o e);generalize g0:(s.heap.push { cls:=.type "list",data:=.seq #[] }).update S (IW (λ_=>(#[]:Array Value)))=g1 at d6 up1;have c1:∀ g:Heap,(∀ b o,b≠S->s.heap.get? b=some o->g.get? b=some o)->g.get? z=some _:=λg k=>k z _ (G z (by simp)) hz;have d7:∀ m:Shared,m.heap.get? z=some { cls:=.type "zip",dict:=none,data:=.fields #[.none,.bool false,.bool false,.ref TI,.ref TO],slots:=#[] }->m.TypeIs (.ref z) "zip":=λm e=>⟨_,e,rfl⟩;unfold Tx;refine cc (wpAny_typeOf (d7 _ (c1 g1 up1)) ?_);have b1:VR (.ref S) (.ref z)=false:=by simp [VR,(G z (by simp)).symm]
 have b2:(UV "zip" == UV "list")=false:=by decide
 have b3:(UV "zip" == UV "tuple")=false:=by decide
 simp only[b1,b2,b3,YA,PF,if_false];refine cc (VZ (c1 g1 up1) (cc (Nv ?_)));unfold Builtin.List.listLengthHint;refine cc (Vk (d7 _ (c1 g1 up1)) E7 ?_);show wpAny _ X.A.in1.in1 (specialOf (qq z) (lh "__length_hint__") >>= λa=>_) _ _ _;refine cc (Vk (d7 _ (c1 g1 up1)) CL (hE ?_));show wpAny _ X.A.in1.in1 (rule "list.extend.makes-room" >>= λ_=>Builtin.List.listTouch (.ref S) >>= λ_=>again (.builtin "list.extend.loop" ⟨[.ref S,.ref z,.none],[]⟩)) _ _ _;refine cc (Xc (cc ?_));show wpAny _ X.A.in1.in1 (XT S (·.push .none) >>= λ_=>XT S (·.pop)) _ _ _;refine cc (Vm d6 rfl ?_);have b5:=PL (IW (·.push TF)) d6 rfl;refine Vm (hz:=by seq_fits) b5 rfl ?_;have e0:=PL (IW (·.pop)) b5 rfl;have M:∀ b o,b≠S->s.heap.get? b=some o->((g1.update S (IW (·.push TF))).update S (IW (·.pop))).get? b=some o:=
  λb o nb e=>(Pw _ _ (vk nb)).trans ((Pw _ _ (vk nb)).trans (up1 b o nb e))
 generalize g7:(g1.update S (IW (·.push TF))).update S (IW (·.pop))=g3 at e0 M;have I3:Inv X pins σ H { s with heap:=g3 }:=I.moved (t':=s.toks) (ch:=[S]) (λb d=>by
  have e:b=S:=by simpa using d
  rw[e];exact fS) λb o d e=>M b o (λz'=>d (by simp [z'])) e
 obtain⟨c0,f'⟩:∃ c0,g3.get? S=some (fu [] c0):=⟨_,e0⟩;have J0:J 0 [] { s with heap:=g3 }:=⟨H,[],c0,I3,rfl,rfl,fS.1,f',aS.refl H,λj t x y h=>by simp at h,λt h=>by simp at h,λb d=>(hf b d).1,⟨_,M TO _ (G TO (by simp)) d5⟩,M TI _ (G TI (by simp)) e9,h1.at λo e=>M i1 o (G i1 (by simp)) e,h2.at λo e=>M i2 o (G i2 (by simp)) e,
  .inl ⟨rfl,M z _ (G z (by simp)) hz,a0,b0,M TO _ (G TO (by simp)) d5⟩⟩
 refine hE ⟨WW Ug _,IJ J hn (λi b7 m h=>?_) (λi b7 m E' hi h=>?_) (λb7 m E' h=>?_) _ 0 [] _ rfl (xt _) J0⟩
 .obtain⟨_,B,_,_,e,l,_⟩:=h;rw[e,lM0,l]
 .obtain⟨w,B,c,T,rfl,hl,R,hS,N,a9,K,W,a',A,P,O,b4⟩:=h;have Z:=b6 w N W;obtain⟨ia,na,ra,ea,_⟩:=T.lst (N _ _ ha);obtain⟨ib,nb,rb,eb,_⟩:=T.lst (N _ _ hb);have f0:i < xs.length:=by lia
  have f9:i < ys.length:=by lia
  have hx:xs[i]?=some xs[i]:=gE0 f0;have hy:ys[i]?=some ys[i]:=gE0 f9;obtain⟨u,hu,ru⟩:=ra.get hx;obtain⟨v,hv,rv⟩:=rb.get hy;have LA:m.heap.IsList l1 ia.toArray:=⟨_,ea,rfl,_,rfl⟩;have LB:m.heap.IsList l2 ib.toArray:=⟨_,eb,rfl,_,rfl⟩;have f2:∀ zo:∃ o,m.heap.get? z=some o,∀ to:∃ o,m.heap.get? TO=some o,∀ b∈[z,TI,TO,i1,i2],∃ o,m.heap.get? b=some o:=λzo to b d=>by
   obtain⟨o1,e1,_⟩:=P;obtain⟨o2,L,_⟩:=O;simp only[hF,lp,or_false] at d;rcases d with rfl | rfl | rfl | rfl | rfl
   .exact zo
   .exact⟨_,A⟩
   .exact to
   .exact⟨_,e1⟩
   .exact⟨_,L⟩
  rcases b4 with ⟨rfl,c2,a,b,Y⟩ | ⟨t,r,f,rfl,a7⟩
  .refine Wx Z c2 A Y P O LA LB (x:=u) (y:=v) (by simpa using hu) (by simpa using hv) λC a1 a2 a3 a4 a5 a6 U=>?_;exact step i w [] c m C _ _ u v T hl R hS N a9 K W (f2 ⟨_,c2⟩ ⟨_,Y⟩) A hx hy ru rv (λb o d e=>by
    simp only[hF,lp,or_false,not_or] at d;exact U b o d.1 d.2.1 d.2.2.1 d.2.2.2 e) ⟨_,a2⟩ a5 a3 a4 ⟨_,[],false,rfl,a1⟩
  .obtain⟨ot,et⟩:=alive T (K t ly).1;refine FJ Z a7 A et P O LA LB (x:=u) (y:=v) (by simpa using hu) (by simpa using hv) λC a1 a2 a3 a4 U=>?_;exact step i w (t::r) c m C _ _ u v T hl R hS N a9 K W (f2 ⟨_,a7⟩ a') A hx hy ru rv (λb o d e=>by
    simp only[hF,lp,or_false,not_or] at d;exact U b o d.1 d.2.2.1 d.2.2.2 e) (by obtain⟨o,e⟩:=a';exact⟨o,U TO o D.TOz D.TOi1 D.TOi2 e⟩) a4 a2 a3 ⟨t,r++[_],true,rfl,a1⟩
 .obtain⟨w,B,c,T,rfl,hl,R,hS,N,a9,K,W,a',A,P,O,b4⟩:=h;have Z:=b6 w N W;obtain⟨ia,na,ra,ea,_⟩:=T.lst (N _ _ ha);obtain⟨ib,nb,rb,eb,_⟩:=T.lst (N _ _ hb);have LA:m.heap.IsList l1 ia.toArray:=⟨_,ea,rfl,_,rfl⟩;have LB:m.heap.IsList l2 ib.toArray:=⟨_,eb,rfl,_,rfl⟩;have la:=ra.length;have lb:=rb.length;have d3:ia.toArray[min xs.length ys.length]?=none\/ib.toArray[min xs.length ys.length]?=none:=by
   by_cases g6:xs.length<=ys.length
   .left;simp;lia
   .right;simp;lia
  have fin:∀ C,(∀ b o,b∉[z,TO,i1,i2]->m.heap.get? b=some o->C.get? b=some o)->wants (λr d9=>r=.none/\EP X pins σ Q (.ref S) d9) E (.ok (.ret .none)) { m with heap:=C }:=λC U=>by
   have I4:Inv X pins σ w { m with heap:=C }:=T.moved (t':=m.toks) (d4 W) U;have g4:C.get? S=some (fu (B.map qq) c):=U S _ (λhm=>by
    simp only[hF,lp,or_false] at hm;rcases hm with e | e | e | e
    .exact G z (by simp) e.symm
    .exact G TO (by simp) e.symm
    .exact G i1 (by simp) e.symm
    .exact G i2 (by simp) e.symm) hS
   have I5:=I4.adopt (fS.heap R) g4 (zy B) (by rw[lM0,hl];lia);have f4:aS H (upd w S (.lst (B.map V.ref))):=λb o e=>by rw[au (aM (N b o e) R)];exact N b o e
   exact⟨rfl,.ref S,_,I5,rfl,q S B _ fS.1 f4 az hl (λj t x y ht hx hy=>by
    have e:=a9 j t x y ht hx hy;rw[au (aM e R)];exact e) λt ht=>(K t ht).2⟩
  rcases b4 with ⟨rfl,c2,a,b,Y⟩ | ⟨t,r,f,rfl,a7⟩
  .exact WH (I.ok.hd hc) Z c2 A Y P O LA LB d3 λC U=>⟨rfl,fin C λb o d e=>by
    simp only[hF,lp,or_false,not_or] at d;exact U b o d.1 d.2.1 d.2.2.1 d.2.2.2 e⟩
  .obtain⟨ot,et⟩:=alive T (K t ly).1;exact FI (I.ok.hd hc) Z a7 A et P O LA LB d3 λC U=>⟨rfl,fin C λb o d e=>by
    simp only[hF,lp,or_false,not_or] at d;exact U b o d.1 d.2.2.1 d.2.2.2 e⟩
def Br (t:TA):TE:=λσ H Q=>t σ H λvs H1=>∃ (p q:Addr) (xs ys:List V),vs=[.ref p,.ref q]/\H1 p=some (.lst xs)/\H1 q=some (.lst ys)/\min xs.length ys.length < sizeLine/\SN H1 xs ys Q
theorem C9{a b:Expr}{ta:TA}{p c:Pos}(S:X.calm=true)(R:Gl X "list")(O:X.mg "list"=none)(v:Gl X "zip")(o:X.mg "zip"=none)(T:PA X [a,b] ta)(M:autoParam (eh [a,b] X.env=[(false,eval a X.env),(false,eval b X.env)]) wE)(k:autoParam (eh [b] X.env=[(false,eval b X.env)]) wE)(g:autoParam (eh [Expr.Call (.Name "zip" p2) [a,b] [] c] X.env=[(false,eval (.Call (.Name "zip" p2) [a,b] [] c) X.env)]) wE) :
  PE X (.Call (.Name "list" p) [.Call (.Name "zip" p2) [a,b] [] c] [] pos) (Br ta):=by
 intro f s y H Q I h;refine vB (gO I R O (by decide +kernel:AC "list"=some (.type "list")) ?_);refine mC ?_ (by rw[g];rfl) rfl;rw[g];show wpAny _ _ (spliced ((false,eval (.Call (.Name "zip" p2) [a,b] [] c) X.env)::backTo pos [])) _ _ s;refine UA (Call_ (gO I v o (by decide +kernel:AC "zip"=some (.type "zip")) (mC (thn (T c f s y H _ I h) λus d ⟨vs,Z,m,E,F⟩=>?_) (by rw[M,k]) (by rw[k];rfl))));obtain⟨l1,l2,xs,ys,e,B,A,N,q⟩:=F;subst e;obtain⟨u,w',rfl,C,n⟩:=vals2 E;cases C;cases n;obtain⟨J,na,ra,W,_⟩:=m.lst B;obtain⟨G,nb,rb,V,_⟩:=m.lst A;refine call_zip_2 (xs:=J.toArray) (ys:=G.toArray) ⟨_,W,rfl,_,rfl⟩ ⟨_,V,rfl,_,rfl⟩ λU K x w t r L P=>?_;have Y:Inv X f y Z { d with heap:=U }:=m.kept (t':=d.toks) P;have lt:∀ i j:Nat,i < j->d.heap.objs.size + i≠d.heap.objs.size + j:=λi j h e=>by lia
 have D:xa (d.heap.objs.size + 4) (d.heap.objs.size + 2) (d.heap.objs.size + 3) d.heap.objs.size (d.heap.objs.size + 1):=
  ⟨lt 2 4 (by decide),lt 3 4 (by decide),lt 0 4 (by decide),lt 1 4 (by decide),lt 2 3 (by decide),(lt 0 2 (by decide)).symm,(lt 1 2 (by decide)).symm,(lt 0 3 (by decide)).symm,(lt 1 3 (by decide)).symm,lt 0 1 (by decide)⟩
 refine UK ?_;refine Cb D Y S (λb z=>?_) ⟨K,x,⟨_,_,w⟩,t,r⟩ B A N q;have l:d.heap.objs.size<=b:=by
  simp only[hF,lp,or_false] at z;rcases z with rfl | rfl | rfl | rfl | rfl <;> lia
 exact m.uV l (m.hok.fresh l)
end
section
variable {p:Pos}
structure Mk0 (K:Fg0) (C:Addr):Prop where
 makes:HT K C=true
 init:ew K (.ref C) "__init__"=some (some (.builtin "object.__init__"))
 kp:ox K (.ref C)=true
def D4 (C:Addr):TE:=λ_ H Q=>∀ x dx,H x=none->H dx=none->dx≠x->Q (.ref x) (upd (upd H dx (.own x)) x (.ins C dx []))
theorem Fy(M:Mk0 X.K C)(k:Gl X x)(j:X.mg x=some (.ref C))(c:autoParam ((x == ("__debug__":Str))=false) wP):PE X (.Call (.Name x p) [] [] pos) (D4 C):=by
 intro d s n H Q I h;refine vB (p8 I k j ?_ c);refine Vp I.kIn M.kp (Xe ?_);have i:=h (s.heap.objs.size + 1) s.heap.objs.size (I.hok.fresh (XY _)) (I.hok.fresh (ec _)) (ov (Py _));have m:=Inv.made (C:=C) I;have Y:=VW (M:=model X.prog X.w) I.kIn M.makes;refine FP I.kIn M.makes M.init (λa=>YU (PySem.W.oi_bind a)) ?_;have l:((s.heap.push rd).push (rr C s.heap.objs.size)).get? (s.heap.objs.size + 1)=some (rr C s.heap.objs.size):=by
  have:=hY (s.heap.push rd) (o:=rr C s.heap.objs.size) rfl
  rwa [NB] at this
 have g:WU (model X.prog X.w) ((s.heap.push rd).push (rr C s.heap.objs.size)) (typeOf (.ref (s.heap.objs.size + 1))) (.ref C):=(Zk l).andThen .now;have f:WU (model X.prog X.w) ((s.heap.push rd).push (rr C s.heap.objs.size)) (isInstance (.ref (s.heap.objs.size + 1)) (.type "object")) true:=g.andThen (Y.top.keeps λb o e=>cm _ (cm _ e));refine codeAny_call_builtin PySem.W.oi_plain PySem.W.entry_oi (@PySem.W.check_slot (model X.prog X.w) _ _ _ "object.__init__" "object" "__init__" (.ref (s.heap.objs.size + 1)) [] [] _ PySem.W.oi_kind PySem.W.oi_split f (PySem.W.oi_args (.ref (s.heap.objs.size + 1))) ?_);rw[PySem.W.oi_run];exact hE (And.intro rfl ⟨V.ref (s.heap.objs.size + 1),_,m,rfl,i⟩)
end
theorem A5 {a b:Type}{f:a->Option b}{g:a->b}:∀ {l:List a},(∀ k∈l,f k=some (g k))->l.filterMap f=l.map g
 | [],_=>rfl
 | k::l,h=>by
  rw[td,h k ly,sS,A5 λj c=>h j (ic _ c)]
theorem R1(a:Li0)(h:k < a.length):(a.map V.int)[k]?=some (V.int (a.getD k 0)):=by
 rw[dV,lj,gE0 h]
 rfl
theorem QE(a:Li0):oA (a.map V.int) (some 0) none (some 2)=(ck ((a.length + 1) / 2)).map λk=>V.int (a.getD (2 * k) 0):=by
 have e:rx (some 0) none (some 2) (a.map V.int).length=(0,(a.length:Int),2):=by
  simp [rx];lia
 unfold oA;rw[e];have d:Vc 0 (a.length:Int) 2=(ck ((a.length + 1) / 2)).map λk=>2 * k:=by
  unfold Vc;have c:(if (2:Int) > 0 then (if (0:Int) < (a.length:Int) then ((a.length:Int) - 0 + 2 - 1) / 2 else 0) else (if (0:Int) > (a.length:Int) then (0 - (a.length:Int) - 2 - 1) / (-2) else 0)).toNat=(a.length + 1) / 2:=by
   rw[if_pos (by decide)];split <;> lia
  simp only[c];refine Pg λk _=>?_;lia
 simp only[d,VE];refine A5 λk b=>?_;have:=rk.mp b;exact R1 a (show 2 * k < a.length by lia)
theorem QD(a:Li0):oA (a.map V.int) (some 1) none (some 2)=(ck (a.length / 2)).map λk=>V.int (a.getD (2 * k + 1) 0):=by
 have e:rx (some 1) none (some 2) (a.map V.int).length=(min 1 (a.length:Int),(a.length:Int),2):=by
  simp [rx];lia
 unfold oA;rw[e];have d:Vc (min 1 (a.length:Int)) (a.length:Int) 2=(ck (a.length / 2)).map λk=>2 * k + 1:=by
  unfold Vc;have c:(if (2:Int) > 0 then (if min 1 (a.length:Int) < (a.length:Int) then ((a.length:Int) - min 1 (a.length:Int) + 2 - 1) / 2 else 0) else (if min 1 (a.length:Int) > (a.length:Int) then (min 1 (a.length:Int) - (a.length:Int) - 2 - 1) / (-2) else 0)).toNat=a.length / 2:=by
   rw[if_pos (by decide)];split <;> lia
  simp only[c];refine Pg λk b=>?_;have:=rk.mp b;lia
 simp only[d,VE];refine A5 λk b=>?_;have:=rk.mp b;exact R1 a (show 2 * k + 1 < a.length by lia)
noncomputable def LW (lo c:Int)(n:Nat):It:=⟨λi _=>i < n,λi H x H'=>H'=H/\x=.int (lo + i * c),λi _=>n<=i⟩
theorem vd(it:Addr)(lo c:Int)(n:Nat):Turn P w K tg (LW lo c n) [it] it (λi h=>VJ h it (lo + (i:Nat) * c) ((n:Int) - (i:Nat)) c) where
 mem:=by simp
 obj:=λi h st b d=>by
  obtain rfl:b=it:=by simpa using d
  exact⟨_,st,λv z=>by cases (show YY _=Data.cell v from z)⟩
 keep:=λi h j st k=>k it (by simp) _ st
 item:=by
  intro X q l r p i a s C H E I g st m;subst q l r;obtain⟨B,A,L,y,x,u⟩:=g it (by simp);refine(YZ (prog:=X.prog) (w:=X.w) (I.ok.hd p) it lo c n).item i s _ _ m st λv j D G f F=>?_;obtain⟨t,rfl⟩:=G;have N:Inv X a C H { s with heap:=j,toks:=D }:=I.turned (λb o d e=>F b o (by simpa using d) e) B A y x u;exact⟨_,rfl,Cg (s:={ s with heap:=j,toks:=D }) (n:="range_iterator") f rfl rfl (by decide) ⟨.int (lo + i * c),H,N,⟨t,rfl⟩,⟨rfl,rfl⟩,f,λb d=>(g b d).1⟩⟩
 done:=by
  intro X q l r p i a s C H E I g st m;subst q l r;obtain⟨B,A,L,y,x,u⟩:=g it (by simp);have J:n<=i:=m;exact Wi (I.ok.hd p) st (by lia) λj M=>⟨rfl,I.turned (t':=s.toks) (λb o d e=>M b o d e) B A y x u⟩
 self:=λ_ _ _ _ _ st h=>Th st h
theorem pC(a:Li0)(k:Nat)(h:k<=a.length):zg (a.map V.int) (some (k:Int)) none=(a.drop k).map V.int:=by
 have e:_h.sIx (a.map V.int).length 0 (some (k:Int))=k:=by
  simp only[_h.sIx,lM0];split <;> lia
 unfold zg;rw[e,show _h.sIx (a.map V.int).length (a.map V.int).length none=a.length by simp [_h.sIx]];rw[oD (by simp),VT]
noncomputable def sgn (c:Nat):Str:=⟨#[c]⟩
noncomputable def Its (x:Str):It:=⟨λi _=>i < x.cps.size,λi H v H'=>H'=H/\∃ c,x.cps[i]?=some c/\v=.str (sgn c),λi _=>x.cps.size<=i⟩
theorem GH(it:Addr)(x:Str)(t:Tok):Turn P w K tg (Its x) [it] it (λi h=>h.IsStrIter it "str_ascii_iterator" x t i) where
 mem:=by simp
 obj:=λi h st b g=>by
  obtain rfl:b=it:=by simpa using g
  obtain⟨o,e,c,d⟩:=st;exact⟨o,e,λv z=>by rw[d] at z;cases z⟩
 keep:=λi h m st k=>let ⟨o,e,r⟩:=st;⟨o,k it (by simp) o e,r⟩
 item:=by
  intro X q n u G i f s F H E I l st p;subst q n u;obtain⟨D,C,L,B,A,y⟩:=l it (by simp);have a:i < x.cps.size:=p;refine wpAny_pyNext_ascii_item st (c:=x.cps[i]) (by simp [a]) λm j J=>?_;have N:Inv X f F H { s with heap:=m,toks:=s.toks + 1 }:=I.turned (λb o g e=>(J.2 b g).trans e) D C B A y;obtain⟨o,e,c,d⟩:=id j;exact⟨_,rfl,Cg (s:={ s with heap:=m,toks:=s.toks + 1 }) e c d (by decide) ⟨.str (sgn x.cps[i]),H,N,⟨_,rfl⟩,⟨rfl,_,by simp [a],rfl⟩,j,λb g=>(l b g).1⟩⟩
 done:=by
  intro X q n u G i f s F H E I l st p;subst q n u;obtain⟨D,C,L,B,A,y⟩:=l it (by simp);have a:x.cps.size<=i:=p;exact wpAny_pyNext_ascii_end (I.ok.hd G) st (by simpa using a) λm M=>⟨rfl,I.turned (t':=s.toks) (λb o g e=>M b o g e) D C B A y⟩
 self:=λ_ _ _ _ _ st h=>wpAny_pyIter_striter_ascii st h
def RG (tl:TE):TI:=λσ H R=>tl σ H λx H1=>∃ z,x=.str z/\z.cps.all (· < 128)=true/\R (Its z) H1
theorem NQ{l:Expr}{tl:TE}(j:PE X l tl):PI X tg l (RG tl):=by
 intro a s f H R I h;refine thn (j a s f H _ I h) λv c Z=>?_;obtain⟨x,n,d,g,i⟩:=Z;obtain⟨z,rfl,m,q⟩:=i;obtain⟨t,rfl⟩:=g;refine wpAny_pyIter_ascii m ?_;refine⟨c.heap.objs.size,[c.heap.objs.size],_,_,n,rfl,d.kept (t':=c.toks) λb o e=>cm _ e,GH _ z t,⟨_,hY _ rfl,rfl,rfl⟩,λb k=>?_,q⟩;obtain rfl:b=c.heap.objs.size:=by simpa using k
 exact d.uV (ec _) (d.hok.fresh (ec _))
structure TyS (K:Fg0):Prop where
 bs:bq K (.type "bool") (.type "str")=some false
 is:bq K (.type "int") (.type "str")=some false
 ns:bq K (.type "NoneType") (.type "str")=some false
 ss:bq K (.type "str") (.type "str")=some true
 ls:bq K (.type "list") (.type "str")=some false
 ts:bq K (.type "tuple") (.type "str")=some false
 ds:bq K (.type "dict") (.type "str")=some false
noncomputable def isS:V->Bool
 | .str _=>true
 | _=>false
theorem Jc(F:TyS X.K):eB X (.builtin "isinstance") (λxs H Q=>∃ x,xs=[x,.ty "str"]/\Kn H x/\Q (.bl (isS x)) H):=by
 intro a s c H xs d Q I r h;obtain⟨x,rfl,k,q⟩:=h;cases k with
 | non=>exact ay I r .non F.ns rfl q
 | bl b=>exact ay I r (.bl b) F.bs rfl q
 | int i=>exact ay I r (.int i) F.is rfl q
 | str y=>exact ay I r (.str y) F.ss rfl q
 | lst e=>exact ay I r (.lst e) F.ls rfl q
 | tup e=>exact ay I r (.tup e) F.ts rfl q
 | dK e=>exact ay I r (.dK e) F.ds rfl q
section
variable {s:Shared}
noncomputable abbrev D8 (n:Int):Obj:={ cls:=.type "range_iterator",data:=.fields #[rawInt (n - 1),rawInt n,rawInt (-1)] }
theorem Qg{n:Int}(h:0<=n):UE 0 n 1=n:=by
 unfold UE;rw[if_pos (by decide),YN];split <;> lia
theorem qi{r:Addr}{n:Int}{t u v:Tok}{Q:VS}(b:IsRange s.heap r 0 n 1 t u v)(d:0<=n)(g:n < 2 ^ 62)(h:Q (.ref s.heap.objs.size) { s with heap:=s.heap.push (D8 n) }):wpAny (model prog w) A (call (.builtin "range.__reversed__") [.ref r]) Q E s:=by
 have c:s.TypeIs (.ref r) "range":=⟨_,b,rfl⟩;have f:(sT 0 && sT n && sT 1 && sT (-1) && sT (0 - 1) && sT n)=true:=by
  simp only[sT,ng,decide_eq_true_eq];lia
 refine Va US c F.entry_range_reversed ?_ (F.args_range_reversed_1 _);unfold YP.«range.__reversed__»;refine cc (SW (a:=qq r) rfl ?_);refine cc ?_;unfold Yz;refine cc (NR b rfl (x:=.int 0 t) rfl ?_);refine cc (SW (a:=some (0:Int)) rfl ?_);refine cc (NR b rfl (x:=.int n u) rfl ?_);refine cc (SW (a:=some n) rfl ?_);refine cc (NR b rfl (x:=.int 1 v) rfl ?_);refine cc (SW (a:=some (1:Int)) rfl ?_);refine hE ?_;dsimp only;rw[Qg d,f];simp only[Bool.not_true,PF,if_false,if_true];have e:(0:Int) + (n - 1) * 1=n - 1:=by lia
 rw[e]
 first
 | exact cc (Jv (hE ⟨_,rfl,h⟩))
 | exact cc (hE (cc (Jv (hE ⟨_,rfl,h⟩))))
theorem wa:isSubtype (.type "range_iterator") (.type "reversed")=pure false:=by rw[isSubtype_type];kernel_rfl
theorem qh{r:Addr}{n:Int}{t u v:Tok}{Q₁:VS}(c:IsRange s.heap r 0 n 1 t u v)(f:0<=n)(e:n < 2 ^ 62)(h:Q₁ (.ref s.heap.objs.size) { s with heap:=s.heap.push (D8 n) }) :
  Pv (model prog w) A (.call (.builtin "reversed.__new__") ⟨[.type "reversed",.ref r],[]⟩) (wants Q₁ E) s:=by
 have d:s.TypeIs (.ref r) "range":=⟨_,c,rfl⟩;refine codeAny_of_tree ?_;show wpAny _ A.in1 (checkBuiltinCall "reversed.__new__" ⟨[.type "reversed",.ref r],[]⟩ >>= λ_=>again (.builtin "reversed.__new__" ⟨[.type "reversed",.ref r],[]⟩)) _ _ s;refine cc (SW (F.newCall_reversed_1 _) (hE ⟨WW WJ _,Wq F.entry_reversed_new ?_⟩));rw[Vg WJ _];unfold YP.«reversed.__new__»;refine cc (SW (newClass_reversed _) ?_)
 try dsimp only
 refine cc (SW (a:=()) (by first | rfl | kernel_rfl) ?_);refine cc (SW (a:=()) (by first | rfl | kernel_rfl) ?_)
 try dsimp only
 refine cc (Vk d US.lookup ?_)
 try dsimp only
 refine cc (SW (US.bind _) ?_)
 try dsimp only
 have b:¬ ((YC "range.__reversed__" == TF)=true):=ri
 first
 | rw[if_neg b]
 | (show wpAny _ _ (if (YC "range.__reversed__" == TF)=true then _ else _) _ _ _;rw[if_neg b])
 refine cc (Xc ?_);refine cc (m:=runValue (.call (.builtin "range.__reversed__") ⟨[.ref r],[]⟩)) (show wpAny _ _ (call (.builtin "range.__reversed__") [.ref r]) _ _ _ from qi c f e ?_)
 first
 | exact hE h
 | exact cc (hE (hE h))
theorem iM{r:Addr}{n:Int}{t u v:Tok}{Q:VS}(c:IsRange s.heap r 0 n 1 t u v)(e:0<=n)(d:n < 2 ^ 62)(h:Q (.ref s.heap.objs.size) { s with heap:=s.heap.push (D8 n) }):wpAny (model prog w) A (call (.type "reversed") [.ref r]) Q E s:=by
 refine callType_other (U:="range_iterator") (Q₁:=λb a=>b=.ref s.heap.objs.size/\a={ s with heap:=s.heap.push (D8 n) }) (by decide +kernel) F.create_reversed ⟨_,_,F.mro_reversed⟩ F.made_reversed wa (F.typeCall_reversed_1 _) (qh c e d ⟨rfl,rfl⟩) ?_;rintro b a ⟨rfl,rfl⟩;exact⟨⟨_,hY _ rfl,rfl⟩,h⟩
end
def RJ (ta:TA):TI:=λσ H R=>ta σ H λvs H1=>∃ j:Int,vs=[.int j]/\0<=j/\j < 2 ^ 62/\R (LW (j - 1) (-1) j.toNat) H1
theorem NS{a:Expr}{ta:TA}{p F c:Pos}(m:Gl X "reversed")(l:X.mg "reversed"=none)(L:Gl X "range")(K:X.mg "range"=none)(N:PA X [a] ta)(G:autoParam (eh [a] X.env=[(false,eval a X.env)]) wE)(g:autoParam (eh [.Call (.Name "range" p) [a] [] pos] X.env=[(false,eval (.Call (.Name "range" p) [a] [] pos) X.env)]) wE) :
  PI X tg (.Call (.Name "reversed" F) [.Call (.Name "range" p) [a] [] pos] [] c) (RJ ta):=by
 intro f s r H R I h;refine Call_ (gO I m l (by decide +kernel:AC "reversed"=some (.type "reversed")) (mC ?_ g rfl));rw[g];have k:∀ (q:Sem Value) (Q:Lv0->Shared->Prop) (s:Shared),wpAny (model X.prog X.w) X.A q (λv w=>Q [v] w) X.xe s->wpAny (model X.prog X.w) X.A (spliced (backTo c [(false,q)])) Q X.xe s:=λq Q s J=>by
  show wpAny _ _ (spliced ((false,q)::backTo c [])) _ _ s;exact UA (thn J λv w z=>UK z)
 refine k _ _ _ ?_;refine Call_ (gO I L K Xd (mC (thn (N pos f s r H _ I h) λT d Z=>?_) G rfl));obtain⟨S,y,P,B,D⟩:=Z;obtain⟨j,e,E,C,q⟩:=D;subst e;obtain⟨u,rfl,A⟩:=vals1 B;obtain⟨t,rfl⟩:=A;refine call_range_1 ?_;have n:Inv X f r y { d with heap:=d.heap.push { cls:=.type "range",data:=.fields #[.int 0 d.toks,.int j t,.int 1 (d.toks + 1)] },toks:=d.toks + 1 + 1 }:=P.kept λb o e=>cm _ e;refine iM (XX ..) E C ?_;refine Th (x:=j - 1) (left:=j) (step:=-1) (hY _ rfl) ?_;refine⟨_,_,_,_,y,rfl,n.kept (t':=d.toks + 1 + 1) λb o e=>cm _ e,vd _ (j - 1) (-1) j.toNat,?_,λb M=>?_,q⟩
 .show VJ _ _ (j - 1 + ((0:Nat):Int) * (-1)) (((j.toNat:Nat):Int) - ((0:Nat):Int)) (-1);rw[show j - 1 + ((0:Nat):Int) * (-1)=j - 1 by simp,show ((j.toNat:Nat):Int) - ((0:Nat):Int)=j by simp;lia];exact hY _ rfl
 .have O:b=d.heap.objs.size + 1:=by simpa using M
  have i:(d.heap.push { cls:=.type "range",data:=.fields #[.int 0 d.toks,.int j t,.int 1 (d.toks + 1)] }).objs.size<=b:=by rw[NB,O];exact ec _
  exact n.uV i (n.hok.fresh i)
structure ExcAt (n:Nat) (H:Hp) (h:Heap) (e:Addr) (cls:Value) (dx:Option Addr):Prop where
 ge:n<=e
 free:H e=none
 rcd:∃ oe vs,h.get? e=some oe/\oe.cls=cls/\oe.dict=dx/\oe.data=.fields vs/\1 < vs.size/\
  (vs[1]?=some .none\/∃ T oT ts,vs[1]?=some (.ref T)/\n<=T/\T≠e/\H T=none/\h.get? T=some oT/\oT.data=.fields ts/\ts[3]?=some .none)
open PySem PySem.Spec PyProof.Rows PySem.W
open Builtin Builtin.ObjectAttr
noncomputable def XdO (d:Addr)(a:List (Str×V)):HO:=HO.ext λh=>∃ mA,h.Ns1 d mA/\(∀ f,yN (a.lookup f) (mA f))/\Wf mA (a.map (·.1))
open PySem PySem.Spec PyProof.Rows
structure XAt (X:Cx) (pins:Pn0) (n:Nat):Prop where
 s0:X.s₀.heap.objs.size<=n
 loc:X.env.locals < n
 cel:∀ x c,X.env.cells.lookup x=some c->c < n
 pin:∀ p∈X.pn++pins,p.1 < n
def XP (X:Cx)(W:St->XK)(b:Value)(a:Shared):Prop:=∃ e cls dx H' σ' n,b=.ref e/\Inv X [] σ' H' a/\XAt X [] n/\ExcAt n H' a.heap e cls dx/\W σ' cls dx H'
section
variable {pins:Pn0}{s:Shared}{cls:Value}
noncomputable def Ul (e:Addr)(cls:Value)(a:Option Addr):HO:=HO.ext λh=>∃ o vs,h.get? e=some o/\o.cls=cls/\o.dict=a/\o.data=.fields vs
end
noncomputable def XDk (H:Hp):Option Addr->List (Str×V)->Prop
 | some d,a=>H d=some (XdO d a)
 | none,a=>a=[]
theorem XDk.mono(e:∀ b o,H b=some o->H' b=some o):∀ {dx:Option Addr} {a:List (Str×V)},XDk H dx a->XDk H' dx a
 | some _,_,h=>e _ _ h
 | none,_,h=>h
noncomputable def vv:V->Value
 | .ref a=>.ref a
 | .ty n=>.type n
 | _=>.none
noncomputable def isC:V->Bool
 | .ref _=>true
 | .ty _=>true
 | _=>false
theorem PZ{x:V}(h:isC x=true)(r:RelV x u):u=vv x:=by
 cases x with
 | ref a=>exact r
 | ty n=>exact r
 | _=>cases h
noncomputable abbrev cE (b:Bool)(elt:Expr)(a:List Do)(c:Scope)(pos:Pos):Expr:=match b with
 | false=>.ListComp elt a c pos
 | true=>.SetComp elt a c pos
theorem IS{b:Bool}{a:List Do}{d:Nat}:(model prog w).den (.compLoop (cE b elt a sc pos) d it acc env)=(Wa (cE b elt a sc pos) d it acc env).onRaise (λx=>do noteFrame x env;theTreesLotGoes x):=by cases b <;> rfl
theorem GF{b:Bool}{a:List Do}{d:Nat}:A.under (.compLoop (cE b elt a sc pos) d it acc env)=A:=by cases b <;> rfl
structure Acc {α:Type} (RO:List α->Obj->Prop) (Y:Cx) (D:Addr) (pl:Pn0) (ys:List α) (σ:St) (H:Hp) (s:Shared):Prop where
 us:∃ o,Inv Y ((D,o)::pl) σ H s/\RO ys o
 exD:D∈Y.ex
 nd:∀ p∈Y.pn++pl,p.1≠D
noncomputable abbrev TBg (a:Type):=List a->St->Hp->(List a->St->Hp->Prop)->Prop
abbrev TB:=TBg V
def RL (ys:List V)(o:Obj):Prop:=∃ us,o=fu us us.length/\Vals ys us
def PB {b:Type}(RO:List b->Obj->Prop)(Y:Cx)(D:Addr)(m:Sem Fin->Sem Fin)(t:TBg b):Prop:=
 ∀ (k:Sem Fin) (c:Pn0) (s:Shared) (ys:List b) (σ:St) (H:Hp) (Q:List b->St->Hp->Prop) (R:Fin->Shared->Prop),Acc RO Y D c ys σ H s->t ys σ H Q->
  (∀ a σ' H' s',Acc RO Y D c a σ' H' s'->Q a σ' H'->wpAny (model Y.prog Y.w) Y.A k R (λ_ _=>False) s')->wpAny (model Y.prog Y.w) Y.A (m k) R (λ_ _=>False) s
section
variable {D:Addr}{α:Type}{RO:List α->Obj->Prop}
def vY (te:TE):TB:=λys σ H Q=>ys.length < sizeLine/\te σ H λy H'=>Q (ys++[y]) σ H'
noncomputable abbrev Ac (elt:Expr)(D:Addr)(a:Env)(k:Sem Fin):Sem Fin:=(eval elt a >>= λx=>call (.builtin "list.append") [.ref D,x] >>= λ_=>pure ()) >>= λ_=>k
theorem Acc.pins{pl:Pn0}{ys:List α}{b:St}{s s':Shared}{o:Obj}(a:Acc RO Y D pl ys σ H s)(I:Inv Y ((D,o)::pl) b H' s')(r:RO ys o):Acc RO Y D pl ys b H' s':=⟨⟨o,I,r⟩,a.exD,a.nd⟩
theorem wZ(L:Y.xe=λ_ _=>False)(N:PE Y elt te):PB RL Y D (Ac elt D Y.env) (vY te):=by
 intro k u s r h H Q R a ⟨K,q⟩ M;obtain⟨_,I,d,rfl,t⟩:=a.us;have g:=N _ s h H _ I q;rw[L] at g;refine cc (cc (thn g λy s7 ⟨E,n,i,F,G⟩=>cc ?_));obtain⟨pD,A,w,J,S⟩:=i.pin (D,fu d d.length) (ks _ ly);have f:d.length=r.length:=t.length.symm;refine append_at (hsz:=by rw[hL,f];exact SY K) pD λB j l=>hE ?_;have m:Inv Y u h n s7:=i.sv λp z=>i.pin p (ks _ (ic _ z));have C:Inv Y u h n { s7 with heap:=B }:=m.turned (t':=s7.toks) (it:=D) (λb o O e=>(j.2 b O).trans e) A w (.inl a.exD) (λx c e=>(i.ok.exf D a.exD).2 x c e) a.nd;have P:B.get? D=some (fu (d++[y]) (d++[y]).length):=by
  rw[l];simp
 refine M (r++[E]) h n _ ⟨⟨_,C.sv λp z=>?_,d++[y],rfl,t.append (.cons F .nil)⟩,a.exD,a.nd⟩ G;rcases hF.mp z with e | z
 .subst e;exact⟨P,A,w,J,λv z=>by cases z⟩
 .exact C.pin p (ks _ z)
noncomputable def bIf (a:TT)(t:TBg α):TBg α:=λys σ H Q=>a σ H λb H'=>if b=true then t ys σ H' Q else Q ys σ H'
noncomputable abbrev ifK (c:Expr)(a:Env)(m:Sem Fin->Sem Fin)(k:Sem Fin):Sem Fin:=(forIn [c] true λc r=>if r=true then do let ok <- isTrue c a (eval c a);pure (Qi ok) else pure (Qi r)) >>= λok=>if ok=true then m k else k
theorem QN{c:Expr}{g:TT}{m:Sem Fin->Sem Fin}{t:TBg α}(r:Y.xe=λ_ _=>False)(v:PT Y c g)(u:PB RO Y D m t):PB RO Y D (ifK c Y.env m) (bIf g t):=by
 intro k p s f e H Q R a q l;obtain⟨w,I,i⟩:=a.us;have d:=v _ s e H _ I q;rw[r] at d;refine cc (wpAny_tests_one (thn d λb h Z=>?_));obtain⟨o,n,j⟩:=Z;cases b with
 | true=>exact u k p h f e o Q R (a.pins n i) (by simpa using j) l
 | false=>exact l f e o h (a.pins n i) (by simpa using j)
noncomputable def Aj (J:It)(g:TG)(t:TBg α):TBg α:=λys σ H Q=>∃ W:Nat->Nat->List α->St->Hp->Prop,(∃ m,W 0 m ys σ H)/\∀ i m ys σ H,W i m ys σ H->
 (J.stop i H/\Q ys σ H)\/(J.go i H/\∀ x H',J.yld i H x H'->g x σ H' λa H2=>t ys a H2 λb σ' c=>∃ d,d < m/\W (i + 1) d b σ' c)
theorem Mh{b:Bool}{w:List Do}{d:Nat}{it:Addr}{m:Sem Fin->Sem Fin}{t:TBg α}(hx:Y.xe=λ_ _=>False)(hc:Y.calm=true)(T:Turn Y.prog Y.w Y.K tg J fp it tn)(hg:PG Y tg g)(hm:PB RO Y D m t)(I:Wa (cE b elt w sc pos) d (.ref it) (.ref D) Y.env=(SZ p0 >>= λ_=>pyNext (.ref it) >>= λr=>match r with
   | none=>pure (.done .next)
   | some v=>MP tg (.ref it) v >>= λ_=>assign tg Y.env v >>= λ_=>m (again (.compLoop (cE b elt w sc pos) d (.ref it) (.ref D) Y.env)))){pl:Pn0}{ys:List α}{s:Shared}{Q:List α->St->Hp->Prop}(a:Acc RO Y D pl ys σ H s)(st:tn 0 s.heap)(f:∀ b∈fp,iH Y pl H b/\D≠b)(q:Aj J g t ys σ H Q)(hR:∀ j σ' H' s',Acc RO Y D pl j σ' H' s'->Q j σ' H'->R (.ok .next) s'):Pv (model Y.prog Y.w) Y.A (.compLoop (cE b elt w sc pos) d (.ref it) (.ref D) Y.env) R s:=by
 obtain⟨W,⟨m0,w0⟩,N⟩:=q;have k:∀ {H':Hp} {o:Obj},(∀ b∈fp,H' b=none)->∀ b∈fp,iH Y ((D,o)::pl) H' b:=λhn b B=>by
  obtain⟨⟨_,f1,f2,f3,f4,f5⟩,f6⟩:=f b B;refine⟨hn b B,f1,f2,f3,f4,λp hp=>?_⟩;rcases Bl.mp hp with hp | hp
  .exact f5 p (Bk _ hp)
  .rcases hF.mp hp with e | hp
   .subst e;exact f6
   .exact f5 p (ks _ hp)
 refine codeAny_loop rfl (λn s'=>∃ i j σ' H',Acc RO Y D pl j σ' H' s'/\tn i s'.heap/\(∀ b∈fp,H' b=none)/\W i n j σ' H') (λn s3 hI=>?_) m0 ⟨0,ys,σ,H,a,st,λb B=>(f b B).1.1,w0⟩;rw[IS,GF];refine wpAny_noted ?_;rw[I];obtain⟨i,y,c,V,a3,O,U,w3⟩:=hI;obtain⟨a2,I3,P⟩:=a3.us;have l:∀ {M:Model} {A:Around} {α:Type} {t:Sem α} {Q:α->Shared->Prop} {E:VS} {s:Shared},wpAny M A t Q (λ_ _=>False) s->wpAny M A t Q E s:=λh=>Pz h (λ_ _ x=>x) λ_ _ x=>x.elim;refine cc (Up (cc ?_));rcases N i n y c V w3 with ⟨stop,qn⟩ | ⟨go,step⟩
 .refine l (thn (T.done Y rfl rfl rfl hc i _ s3 c V _ I3 (k U) O stop) λr s4 Z=>?_);obtain⟨hr,I4⟩:=Z;subst hr;exact hE (hR y c V s4 (a3.pins I4 P) qn)
 .refine l (thn (T.item Y rfl rfl rfl hc i _ s3 c V _ I3 (k U) O go) λr s4 Z=>?_);obtain⟨u,hr,h4⟩:=Z;subst hr;refine cc (l (thn h4 λ_ s5 Z=>?_));obtain⟨x,H5,I5,r5,y5,F,a5⟩:=Z;have a9:=I5.pinned (k a5) (T.obj _ _ F);have S:=hg _ s5 c H5 x u _ a9 r5 (step x H5 y5);rw[hx] at S;refine cc (l (thn S λ_ s6 Z=>?_));obtain⟨L,H6,I6,q6⟩:=Z;have a6:Acc RO Y D (pl++xG fp s5.heap) y L H6 s6:=⟨⟨a2,I6,P⟩,a.exD,λp hp=>by
   rcases Bl.mp hp with hp | hp
   .exact a.nd p (Bk _ hp)
   .rcases Bl.mp hp with hp | hp
    .exact a.nd p (ks _ hp)
    .exact λz=>(f p.1 (zG hp).1).2 z.symm⟩
  refine l (hm _ _ s6 y L H6 _ _ a6 q6 λa1 X H7 s7 a7 ⟨m',a4,w7⟩=>hE ⟨rfl,m',a4,i + 1,a1,X,H7,?_,?_,?_,w7⟩)
  .obtain⟨C,K,G⟩:=a7.us;exact⟨⟨C,K.sv λp hp=>K.pin p (ks _ (by
    rcases hF.mp hp with e | hp
    .subst e;exact ly
    .exact ic _ (Bk _ hp))),G⟩,a.exD,a.nd⟩
  .obtain⟨C,K,G⟩:=a7.us;exact T.keep _ _ _ F λb B o e=>(K.pin (b,o) (ks _ (ic _ (ks _ (mw B e))))).1
  .intro b B;obtain⟨C,K,G⟩:=a7.us;obtain⟨o,e,d⟩:=T.obj _ _ F b B;exact(K.pin (b,o) (ks _ (ic _ (ks _ (mw B e))))).2.1
end
theorem Gm{b:Bool}{a:List Do}{d:Nat}:(model prog w).den (.compStart (cE b elt a sc pos) d it acc env)=(YK (cE b elt a sc pos) d it acc env).onRaise (λx=>do noteFrame x env;SZ theWindowsPlace):=by cases b <;> rfl
theorem E_{b:Bool}{a:List Do}{d:Nat}:A.under (.compStart (cE b elt a sc pos) d it acc env)=A:=by cases b <;> rfl
theorem t4{s:Shared}{b:Bool}{a:List Do}{d:Nat}(g:a[d]?=some ⟨tg,iter,ifs,0⟩)(same:Pv (model prog w) A (.compLoop (cE b elt a sc pos) d it acc env) R s)(c:wpAny (model prog w) A (pyIter it) (λf e=>Pv (model prog w) A (.compLoop (cE b elt a sc pos) d f acc env) R e) (notedBy (model prog w) A env λx e=>R (.error x) e) s) :
  Pv (model prog w) A (.compStart (cE b elt a sc pos) d it acc env) R s:=by
 have h:(clausesOf (cE b elt a sc pos))[d]?=some ⟨tg,iter,ifs,0⟩:=by cases b <;> exact g
 apply codeAny_of_tree;rw[Gm,E_];apply wpAny_notedAt (pos:=theWindowsPlace) (m:=YK (cE b elt a sc pos) d it acc env);simp only[YK,h];apply cc;apply wpAny_askSetting;apply wpAny_ite;split
 .exact hE ⟨rfl,same⟩
 .apply cc;apply Xc;apply cc;apply Up;exact cc (Pz c (λ_ _ q=>hE ⟨rfl,q⟩) λ_ _ q=>q)
section
variable {D:Addr}{α:Type}{RO:List α->Obj->Prop}
noncomputable def Ju (a:TI)(g:TG)(t:TBg α):TBg α:=λys σ H Q=>a σ H λJ H1=>Aj J g t ys σ H1 Q
noncomputable abbrev L_ (b:Bool)(elt:Expr)(c:List Do)(f:Scope)(pos:Pos)(d:Nat)(iter:Expr)(D:Addr)(a:Env)(k:Sem Fin):Sem Fin:=
 eval iter a >>= λx=>SZ iter.pos >>= λ_=>vl iter a x >>= λx=>holding [x] (pyIter x) >>= λe=>runOwn (.compStart (cE b elt c f pos) d e (.ref D) a) a >>= λ_=>k
theorem Ks{b:Bool}{c:List Do}{d:Nat}{m:Sem Fin->Sem Fin}{t:TBg α}(A:Y.xe=λ_ _=>False)(U:Y.calm=true)(z:c[d]?=some ⟨tg,iter,ifs,0⟩)(P:PI Y tg iter wi)(S:PG Y tg g)(N:PB RO Y D m t)(o:∀ it,Wa (cE b elt c sc pos) d (.ref it) (.ref D) Y.env=(SZ p0 >>= λ_=>pyNext (.ref it) >>= λr=>match r with
   | none=>pure (.done .next)
   | some v=>MP tg (.ref it) v >>= λ_=>assign tg Y.env v >>= λ_=>m (again (.compLoop (cE b elt c sc pos) d (.ref it) (.ref D) Y.env))))(M:autoParam (∀ x,vl iter Y.env x=pure x) wT):PB RO Y D (L_ b elt c sc pos d iter D Y.env) (Ju wi g t):=by
 intro k G s ys C H Q R a q O;obtain⟨us,I,E⟩:=a.us;have w:=P _ s C H _ I q;rw[A] at w;refine cc (thn w λv s1 X=>cc (Up (cc ?_)));rw[M];refine hE (cc (Nv (thn X λL s2 W=>?_)));obtain⟨it,fp,tn,J,H2,e,I2,T,u,f2,cw⟩:=W;subst e;have a2:=a.pins I2 E;refine cc (wpAny_runOwn ?_);have K:∀ {R:Result->Shared->Prop},(∀ l j y i,Acc RO Y D G l j y i->Q l j y->R (.ok .next) i)->Pv (model Y.prog Y.w) Y.A (.compLoop (cE b elt c sc pos) d (.ref it) (.ref D) Y.env) R s2:=λhR=>
  Mh A U T S N (o it) a2 u (λb V=>by
   obtain⟨f0,f1,f3,f4,Z,B⟩:=f2 b V;exact⟨⟨f0,f1,f3,f4,Z,λp hp=>B p (by
    rcases Bl.mp hp with hp | hp
    .exact Bk _ hp
    .exact ks _ (ic _ hp))⟩,B (D,_) (ks _ ly)⟩) cw hR
 have fin:=K (R:=λr i=>match r with | .ok f=>wpAny (model Y.prog Y.w) Y.A k R (λ_ _=>False) i | .error e=>False) λl j y i a' F=>O l j y i a' F;have n:Pv (model Y.prog Y.w) Y.A (.compLoop (cE b elt c sc pos) d (.ref it) (.ref D) Y.env) (λr i=>match r with | .ok f=>wpAny (model Y.prog Y.w) Y.A k R (λ_ _=>False) i | .error e=>cameBackBy (model Y.prog Y.w) Y.A Y.env (λ_ _=>False) e i) s2:=
  UL fin λr i h=>by cases r with | ok f=>exact h | error e=>exact h.elim
 exact t4 z n (Pz (T.self Y.A 0 _ _ (λ_ _=>False) u n) (λ_ _ h=>h) λ_ _ h=>h.elim)
end
theorem Cy{α:Type}{RO:List α->Obj->Prop}{b:Bool}{j:List Do}{m:Addr->Env->Sem Fin->Sem Fin}{t:TBg α}{a5:Sem Value}{o0:Obj}(b5:j[0]?=some ⟨tg,iter,ifs,0⟩)(mk:∀ {P:VS} {E:VS} {s:Shared},P (.ref s.heap.objs.size) { s with heap:=s.heap.push o0 }->wpAny (model X.prog X.w) X.A a5 P E s)(a':o0.isFreed=false)(a2:RO [] o0)(nc:∀ ys o,RO ys o->∀ v,o.data≠.cell v)(B:Blk X.N X.env.scope sc Nc fr)(hc:X.calm=true)(hg:∀ s₀ H₀ C ex pn,PG (bZ X sc Nc s₀ H₀ C ex pn) tg g)(hm:∀ s₀ H₀ C ex pn D,PB RO (bZ X sc Nc s₀ H₀ C ex pn) D (m D (bZ X sc Nc s₀ H₀ C ex pn).env) t)(R:∀ (it D:Addr) (env:Env),Wa (cE b elt j sc pos) 0 (.ref it) (.ref D) env=(SZ p0 >>= λ_=>pyNext (.ref it) >>= λr=>match r with
   | none=>pure (.done .next)
   | some v=>MP tg (.ref it) v >>= λ_=>assign tg env v >>= λ_=>m D env (again (.compLoop (cE b elt j sc pos) 0 (.ref it) (.ref D) env)))){a:Pn0}{s2:Shared}{it:Addr}(K:Inv X a σ H2 s2)(T:Turn X.prog X.w X.K tg J fp it tn)(N:tn 0 s2.heap)(V:∀ b∈fp,iH X a H2 b){QF:List α->St->Hp->Prop}(cw:Aj J g t [] (uf fr σ) H2 QF)(b6:∀ D C s' H' ys o σ',Inv X a σ H' s'->(∃ m,s'.heap.Ns C m)->C≠D->iH X a H' C->iH X a H' D->s'.heap.get? D=some o->RO ys o->QF ys σ' H'->RR (.ref D) C (.ok .next) s') :
  wpAny (model X.prog X.w) X.A a5 (λacc a1=>wpAny (model X.prog X.w) X.A (VF sc X.env.globals (takes X.env.cells sc.names []) [] X.env.qual none .none (some X.env)) (λI Z=>
   Pv (model X.prog X.w) X.A (.compStart (cE b elt j sc pos) 0 (.ref it) acc { I with scope:=relabel sc X.env }) (RR acc I.locals) Z) E a1) E s2:=by
 refine mk (FH λl d f i=>?_);dsimp only at d f i ⊢;generalize U:s2.heap.push o0=q at d f i ⊢;have w:q.objs.size=s2.heap.objs.size + 1:=by rw[<- U,NB]
 generalize F:q.objs.size=C at d i ⊢;generalize k:s2.heap.objs.size=D at w ⊢;have b9:D≠C:=by rw[<- F,w];exact ov (Py _)
 have L:∀ b o,s2.heap.get? b=some o->q.get? b=some o:=λb o e=>by rw[<- U];exact cm _ e
 have b7:q.get? D=some o0:=by rw[<- U,<- k];exact hY _ a'
 have I3:Inv X a σ H2 { s2 with heap:=q }:=K.kept (t':=s2.toks) L;have a7:H2 D=none:=K.hok.fresh (by rw[k];exact ec _);have fD:iH X a H2 D:=K.uV (by rw[k];exact ec _) a7;have b0:∀ b∈fp,∃ o,s2.heap.get? b=some o/\∀ v,o.data≠.cell v:=T.obj 0 _ N;have y:∀ b∈fp,b < D:=λb hb=>by obtain⟨o,e,_⟩:=b0 b hb;rw[<- k];exact hH e
 have a6:D∉fp:=λhb=>sk _ (y D hb);have a9:C∉fp:=λhb=>by have:=y C hb;rw[<- F,w] at this;exact absurd (Nat.lt_of_succ_lt this) (sk _)
 have A:∀ b,(b∈X.ex\/X.s₀.heap.objs.size<=b)->∀ o,X.base.get? b≠some o:=λb h o e=>by
  rcases h with h | h
  .exact K.ok.noex b o e h
  .exact absurd (kl (hH e) (Ht K.ok.bsz h)) (sk _)
 have hex:∀ b∈D::fp,b < q.objs.size/\b∉X.fs/\b≠X.env.locals/\(∀ x c,X.env.cells.lookup x=some c->c≠b)/\∀ o,X.base.get? b≠some o:=λb hb=>by
  have fb:iH X a H2 b:=by
   rcases hF.mp hb with e | hb
   .rw[e];exact fD
   .exact V b hb
  refine⟨?_,fb.2.2.1,fb.2.1,fb.2.2.2.2.1,A b fb.2.2.2.1⟩;rcases hF.mp hb with e | hb
  .rw[e,w];exact Py _
  .rw[w];exact VN (y b hb)
 have H:q.objs.size<=C:=by rw[F];exact ec _
 have ok:(bZ X sc Nc { s2 with heap:=q } H2 C (D::fp) (X.pn++a)).Ok:=Pm B I3 H hex;have O:∀ b u,q.get? b=some u->l.get? b=some u:=f;have J0:Inv (bZ X sc Nc { s2 with heap:=q } H2 C (D::fp) (X.pn++a)) [(D,o0)] (uf fr σ) H2 { s2 with heap:=l }:=
  Lu B ok I3 H rfl rfl O d i b7 a7 fD.2.1 fD.2.2.1 (nc _ _ a2)
 have a0:Acc RO (bZ X sc Nc { s2 with heap:=q } H2 C (D::fp) (X.pn++a)) D [] [] (uf fr σ) H2 { s2 with heap:=l }:=
  ⟨⟨_,J0,a2⟩,ly,λp S=>fD.2.2.2.2.2 p (by simpa using S)⟩
 have b':∀ b∈fp,iH (bZ X sc Nc { s2 with heap:=q } H2 C (D::fp) (X.pn++a)) [] H2 b/\D≠b:=λb hb=>
  ⟨⟨(V b hb).1,λe=>a9 (by have e':b=C:=e;rw[<- e'];exact hb),ok.exfs b (ic _ hb),.inl (ic _ hb),(ok.exf b (ic _ hb)).2,λp S=>(V b hb).2.2.2.2.2 p (by simpa using S)⟩,λz=>a6 (by rw[z];exact hb)⟩
 have G:Pv (model X.prog X.w) X.A (.compLoop (cE b elt j sc pos) 0 (.ref it) (.ref D) (compEnvC sc (bcl X.env.cells sc C) C X.env)) (RR (.ref D) C) { s2 with heap:=l }:=by
  refine Mh (Y:=bZ X sc Nc { s2 with heap:=q } H2 C (D::fp) (X.pn++a)) (D:=D) rfl hc T (hg _ _ _ _ _) (hm _ _ _ _ _ D) (R it D _) a0 (T.keep _ _ _ N (λb _ o e=>O b o (L b o e))) b' cw λys c1 H3 s4 a4 hq=>?_;obtain⟨o4,W,rv⟩:=a4.us;obtain⟨pD,pH,_,_,_⟩:=W.pin (D,o4) (ks _ ly);obtain⟨b1,b4,_⟩:=W.loc;have un:Un (frs X.stack) fp H2 H3 s2.heap s4.heap:=by
   have M:Un (frs X.stack) (D::fp) H2 H3 q s4.heap:=W.base;have nx:∀ {b:Addr} {o:Obj},s2.heap.get? b=some o->b∉fp->b∉D::fp:=λe h1 h2=>by
    rcases hF.mp h2 with z | z
    .exact ov (hH e) (by rw[k];exact z)
    .exact h1 z
   exact⟨λb o e n hb Q=>M.keep b o (L b o e) n hb (nx e Q),λb o e n hb Q=>M.slot b o (L b o e) n hb (nx e Q),λb o e n Q=>M.free b o (L b o e) n (nx e Q),
    λb o e Q=>M.there b o (L b o e) (nx e Q),M.tups,M.frzs,M.tbls⟩
  have I5:Inv X a σ H3 s4:=K.Ss W.os un W.hok W.bare λb hb=>⟨(V b hb).2.2.2.1,(V b hb).2.1,(V b hb).2.2.2.2.1,(V b hb).2.2.2.2.2⟩;exact b6 D C s4 _ ys o4 _ I5 ⟨b1,b4⟩ (vk b9) (K.uV (by rw[k,<- F,w];exact XY _) W.free) (K.uV (by rw[k];exact ec _) pH) pD rv hq
 exact t4 b5 G (Pz (T.self X.A 0 _ _ (λ_ _=>False) (T.keep _ _ _ N (λb _ o e=>O b o (L b o e))) G) (λ_ _ h=>h) λ_ _ h=>h.elim)
theorem vS{c:List Do}{m:Addr->Env->Sem Fin->Sem Fin}{t:TB}(q:c[0]?=some ⟨tg,iter,ifs,0⟩)(B:Blk X.N X.env.scope sc Nc fr)(K:X.calm=true)(I:∀ s₀ H₀ C ex k,PG (bZ X sc Nc s₀ H₀ C ex k) tg g)(H:∀ s₀ H₀ C ex k D,PB RL (bZ X sc Nc s₀ H₀ C ex k) D (m D (bZ X sc Nc s₀ H₀ C ex k).env) t)(f:∀ (it D:Addr) (env:Env),Wa (.ListComp elt c sc pos) 0 (.ref it) (.ref D) env=(SZ p0 >>= λ_=>pyNext (.ref it) >>= λr=>match r with
   | none=>pure (.done .next)
   | some v=>MP tg (.ref it) v >>= λ_=>assign tg env v >>= λ_=>m D env (again (.compLoop (.ListComp elt c sc pos) 0 (.ref it) (.ref D) env)))){a:Pn0}{s2:Shared}{it:Addr}(N:Inv X a σ H2 s2)(T:Turn X.prog X.w X.K tg J fp it tn)(n:tn 0 s2.heap)(L:∀ b∈fp,iH X a H2 b){Q:VK}(M:Aj J g t [] (uf fr σ) H2 λys _ H'=>ys.length < sizeLine/\∀ l,H' l=none->Q (.ref l) (upd H' l (.lst ys)))(s:∀ D C s' H',Inv X a σ H' s'->(∃ m,s'.heap.Ns C m)->iH X a H' C->Q (.ref D) H'->RR (.ref D) C (.ok .next) s') :
  wpAny (model X.prog X.w) X.A (newList []) (λacc j=>wpAny (model X.prog X.w) X.A (VF sc X.env.globals (takes X.env.cells sc.names []) [] X.env.qual none .none (some X.env)) (λd i=>
   Pv (model X.prog X.w) X.A (.compStart (.ListComp elt c sc pos) 0 (.ref it) acc { d with scope:=relabel sc X.env }) (RR acc d.locals) i) E j) E s2:=by
 refine Cy (RO:=RL) (b:=false) (elt:=elt) (pos:=pos) (o0:=fu [] 0) q (λh=>Jv h) rfl ⟨[],rfl,.nil⟩ (λys o ⟨x,e,_⟩ v z=>by subst e;cases z) B K I H f N T n L M λD C s' H' ys o w O G F u fD pD ⟨x,e,y⟩ ⟨p,A⟩=>?_;subst e;exact s D C s' _ (O.adopt fD pD y (SY p)) G ⟨by rw[au F];exact u.1,u.2⟩ (A D fD.1)
def nZ (b:On)(a:TI)(g:TG)(t:TB):TE:=λσ H Q=>a σ H λJ H1=>Aj J g t [] (uf b σ) H1 λys _ H'=>ys.length < sizeLine/\∀ l,H' l=none->Q (.ref l) (upd H' l (.lst ys))
theorem xI{rest:List Do}{m:Addr->Env->Sem Fin->Sem Fin}{t:TB}(E:X.calm=true)(z:PI X tg iter wi)(B:Blk X.N X.env.scope sc Nc fr)(A:∀ s₀ H₀ C ex f,PG (bZ X sc Nc s₀ H₀ C ex f) tg g)(y:∀ s₀ H₀ C ex f D,PB RL (bZ X sc Nc s₀ H₀ C ex f) D (m D (bZ X sc Nc s₀ H₀ C ex f).env) t)(c:∀ (it D:Addr) (env:Env),Wa (.ListComp elt (⟨tg,iter,ifs,0⟩::rest) sc pos) 0 (.ref it) (.ref D) env=(SZ p0 >>= λ_=>pyNext (.ref it) >>= λr=>match r with
   | none=>pure (.done .next)
   | some v=>MP tg (.ref it) v >>= λ_=>assign tg env v >>= λ_=>m D env (again (.compLoop (.ListComp elt (⟨tg,iter,ifs,0⟩::rest) sc pos) 0 (.ref it) (.ref D) env))))(w:autoParam (∀ x,vl iter X.env x=pure x) wT) :
  PE X (.ListComp elt (⟨tg,iter,ifs,0⟩::rest) sc pos) (nZ fr wi g t):=by
 intro a s l H Q I h;rw[eval_ListComp];refine VU (use:=none) rfl w (EN B I) B.kind B.locs (thn (z a s l H _ I h) λv U K=>thn K λu S G=>?_);obtain⟨it,W,R,J,Y,e,N,T,i,L,M⟩:=G;subst e;refine vS (RR:=λk C=>compPost (model X.prog X.w) X.A X.xe none (EP X a l Q) k C) rfl B E A y c N T i L M λD C p P O j d q=>?_;obtain⟨m,j⟩:=j;exact⟨m,j,λV n=>⟨.ref D,P,O.turned (t':=p.toks) (λb o F e=>(n.2 b F).trans e) d.1 d.2.1 d.2.2.2.1 d.2.2.2.2.1 d.2.2.2.2.2,rfl,q⟩⟩
theorem BO{k d:Pos}{rest:List Do}{m:Addr->Env->Sem Fin->Sem Fin}{t:TB}(hN:X.N.Nodup)(E:X.N[i]?=some x)(M:X.env.scope.names.lookup x=some .local)(Y:X.calm=true)(V:PI X tg iter wi)(B:Blk X.N X.env.scope sc Nc fr)(W:∀ s₀ H₀ C ex n,PG (bZ X sc Nc s₀ H₀ C ex n) tg g)(U:∀ s₀ H₀ C ex n D,PB RL (bZ X sc Nc s₀ H₀ C ex n) D (m D (bZ X sc Nc s₀ H₀ C ex n).env) t)(f:∀ (it D:Addr) (env:Env),Wa (.ListComp elt (⟨tg,iter,ifs,0⟩::rest) sc pos) 0 (.ref it) (.ref D) env=(SZ p0 >>= λ_=>pyNext (.ref it) >>= λr=>match r with
   | none=>pure (.done .next)
   | some v=>MP tg (.ref it) v >>= λ_=>assign tg env v >>= λ_=>m D env (again (.compLoop (.ListComp elt (⟨tg,iter,ifs,0⟩::rest) sc pos) 0 (.ref it) (.ref D) env))))(w:autoParam (UY (.ListComp elt (⟨tg,iter,ifs,0⟩::rest) sc pos) (some (.Name x k)) d.line X.env=pure true) wE)(R:autoParam (∀ x,vl iter X.env x=pure x) wT) :
  PS X (.Assign [.Name x k] (.ListComp elt (⟨tg,iter,ifs,0⟩::rest) sc pos) d) (yS (nZ fr wi g t) (tE i)):=by
 intro c s K H D I h;rw[exec_Assign_Name_used _ _ _ _ w];refine cc (Up (cc ?_));show wpAny _ X.A (do let _ <- comprehension (.ListComp elt (⟨tg,iter,ifs,0⟩::rest) sc pos) sc X.env _ (newList []) false (eval iter X.env) (some (assign (.Name x k) X.env))) _ _ s;refine cc (Pz (VU (use:=some (assign (.Name x k) X.env)) (Q:=λ_ l=>SP X c D .next l) rfl R (EN B I) B.kind B.locs
  (thn (V c s K H _ I h) λv s1 h1=>thn h1 λP s2 h2=>?_)) (λ_ l S=>hE (hE S)) λ_ _ e=>e)
 obtain⟨it,fp,tn,J,H2,e,I2,T,p,f2,cw⟩:=h2;subst e;refine vS (Q:=λx H1=>tE i x K H1 D.nx) (RR:=λG C=>compPost (model X.prog X.w) X.A X.xe (some (assign (.Name x k) X.env)) (λ_ l=>SP X c D .next l) G C) rfl B Y W U f I2 T p f2 cw λL C l H' I' A j q=>?_;obtain⟨m,A⟩:=A;show wpAny _ X.A (assign (.Name x k) X.env (.ref L)) _ _ _;refine Xr (zr I' hN E (.inl M) (v:=.ref L) rfl (λO I3 y=>?_) (.inr M));obtain⟨a,N,ha⟩:=y;have F:C≠a:=by
  rcases ha with e | e
  .rw[e];exact j.2.1
  .exact λz=>j.2.2.2.2.1 _ _ e (by rw[z])
 exact⟨m,A.sameBut N F,λh' u=>⟨_,H',I3.turned (t':=O.toks) (λb o Z e=>(u.2 b Z).trans e) j.1 j.2.1 j.2.2.2.1 j.2.2.2.2.1 j.2.2.2.2.2,q⟩⟩
end _2
namespace _3
open PySem _2
def SV (o:Obj)(c:Addr)(q:Str):Prop:=∃ fd,o.data=.func fd/\fd.code=.ref c/\fd.qualname=q
set_option genSizeOf true in
inductive D where
 | non | bl (b:Bool) | int (i:Int) | str (x:Str) | lst (xs:List D) | tup (xs:List D) | ktup (xs:List D) | ins (C:Addr) (ns:Ls0) (xs:List D) | scr (ns:Li0) | ty (n:String) | adr (a:Addr) | cel (p:Addr) (xs:List D) | exc (C:Addr) (ns:Ls0) (xs:List D) | dct | dcs (k:Str) (i:Int) | fn (o:Unit->Obj) (f:Addr) (v:V) (r:D) | obj (p:Addr) (c:Option Addr) | mp (kvs:List (Int×Int×Int))
noncomputable def mpT (a:List (Int×Int×Int)):List (List Key×V):=a.map λq=>([.inl q.1,.inl q.2.1],.int q.2.2)
noncomputable def LU (F:Hp)(p:Addr):Option Addr->Prop
 | some C=>∃ dx a,F p=some (.ins C dx a)
 | none=>F p=some (.dK [])
theorem LU.to{F a:Hp}(e:∀ o,F p=some o->(∀ vs,o≠.lst vs)->a p=some o):∀ {c:Option Addr},LU F p c->LU a p c
 | some _,⟨d,b,h⟩=>⟨d,b,e _ h λ_ z=>by cases z⟩
 | none,h=>e _ h λ_ z=>by cases z
mutual
noncomputable def Rep (K:Fg0)(F:Hp):D->V->Prop
 | .non,v=>v=.non
 | .bl b,v=>v=.bl b
 | .int i,v=>v=.int i
 | .str x,v=>v=.str x
 | .ty n,v=>v=.ty n
 | .adr a,v=>v=.ref a
 | .cel p xs,v=>v=.ref p/\∃ vs,F p=some (.lst vs)/\aE K F xs vs
 | .scr ns,v=>∃ p,v=.ref p/\SqL K F p (ns.map V.int)
 | .lst xs,v=>∃ p vs,v=.ref p/\F p=some (.lst vs)/\aE K F xs vs
 | .tup xs,v=>∃ p vs,v=.ref p/\F p=some (.tup vs)/\aE K F xs vs
 | .ktup xs,v=>∃ p vs,v=.ref p/\SqT K F p vs/\aE K F xs vs
 | .ins C ns xs,v=>∃ p dx e,v=.ref p/\F p=some (.ins C dx e)/\e.map (·.1)=ns/\aE K F xs (e.map (·.2))
 | .dct,v=>∃ p,v=.ref p/\F p=some (.dK [])
 | .dcs k i,v=>∃ p,v=.ref p/\F p=some (.dK [(.inr k,.int i)])
 | .exc C ns xs,v=>∃ p d e,v=.ref p/\F p=some (Ul p (.ref C) d)/\XDk F d e/\e.map (·.1)=ns/\aE K F xs (e.map (·.2))
 | .fn o f v r,x=>x=.ref f/\(∃ c q,F f=some (.frz (o ()) (.cod c q))/\SV (o ()) c q)/\Rep K F r v
 | .obj p c,v=>v=.ref p/\LU F p c
 | .mp kvs,v=>∃ p,v=.ref p/\F p=some (.dT (mpT kvs))
noncomputable def aE (K:Fg0)(F:Hp):List D->List V->Prop
 | [],vs=>vs=[]
 | x::xs,vs=>∃ v a,vs=v::a/\Rep K F x v/\aE K F xs a
end
theorem SqT.same{H b:Hp}{xs:List V}(e:aS H b)(h:SqT K H a xs):SqT K b a xs:=by
 rcases h with (h | ⟨o,h⟩) | h
 .exact .inl (.inl (e _ _ h))
 .exact .inl (.inr ⟨o,e _ _ h⟩)
 .exact .inr h
mutual
theorem Rep.mono {K:Fg0}{F m:Hp}(e:aS F m):∀ {d:D} {v:V},Rep K F d v->Rep K m d v
 | .non,_,h=>h
 | .bl _,_,h=>h
 | .int _,_,h=>h
 | .str _,_,h=>h
 | .ty _,_,h=>h
 | .adr _,_,h=>h
 | .cel _ _,_,⟨f,i,a,g⟩=>⟨f,i,e _ _ a,aE.mono e g⟩
 | .scr _,_,⟨p,f,a⟩=>⟨p,f,e.seq a⟩
 | .lst _,_,⟨p,i,f,a,g⟩=>⟨p,i,f,e _ _ a,aE.mono e g⟩
 | .tup _,_,⟨p,i,f,a,g⟩=>⟨p,i,f,e _ _ a,aE.mono e g⟩
 | .ktup _,_,⟨p,i,f,a,g⟩=>⟨p,i,f,SqT.same e a,aE.mono e g⟩
 | .ins _ _ _,_,⟨p,l,k,f,a,g,j⟩=>⟨p,l,k,f,e _ _ a,g,aE.mono e j⟩
 | .dct,_,⟨p,f,a⟩=>⟨p,f,e _ _ a⟩
 | .dcs _ _,_,⟨p,f,a⟩=>⟨p,f,e _ _ a⟩
 | .exc _ _ _,_,⟨p,l,k,f,a,n,g,j⟩=>⟨p,l,k,f,e _ _ a,n.mono e,g,aE.mono e j⟩
 | .fn _ _ _ _,_,⟨f,⟨c,q,a,j⟩,g⟩=>⟨f,⟨c,q,e _ _ a,j⟩,Rep.mono e g⟩
 | .obj _ _,_,⟨f,a⟩=>⟨f,a.to λ_ h _=>e _ _ h⟩
 | .mp _,_,⟨p,f,a⟩=>⟨p,f,e _ _ a⟩
theorem aE.mono {K:Fg0}{F a:Hp}(e:aS F a):∀ {xs:List D} {vs:List V},aE K F xs vs->aE K a xs vs
 | [],_,h=>h
 | _::_,_,⟨v,b,f,d,c⟩=>⟨v,b,f,Rep.mono e d,aE.mono e c⟩
end
inductive Sl where
 | fz (d:D) | ow (d:D) | ln (d:D)
abbrev G:=List (Option Sl)
inductive RV where
 | fz (d:D) | fr (d:D) | two (xs ys:List D) | rws (xss:List (List D)) | tol (x:Str) (xs ys:List D)
noncomputable def RV.pl:RV->Bool
 | .fz _=>true
 | .fr _=>true
 | _=>false
noncomputable def RV.d:RV->D
 | .fz d=>d
 | .fr d=>d
 | .two xs ys=>.tup [.lst xs,.lst ys]
 | .rws xss=>.lst (xss.map .lst)
 | .tol x xs ys=>.lst [.str x,.lst (.lst xs::ys)]
set_option backward.eqns.nonrecursive false in
noncomputable def RV.sl:RV->Sl
 | .fz d=>.fz d
 | .fr d=>.ow d
 | .two xs ys=>.fz (.tup [.lst xs,.lst ys])
 | .rws xss=>.ow (.lst (xss.map .lst))
 | .tol x xs ys=>.ow (.lst [.str x,.lst (.lst xs::ys)])
set_option genInjectivity false in
structure Bs where
 F:Hp
 H:Hp
 own:List (Nat×Addr)
noncomputable def Own (K:Fg0)(F H:Hp)(p:Addr):D->Prop
 | .lst xs=>∃ vs,H p=some (.lst vs)/\aE K F xs vs
 | .cel q xs=>p=q/\∃ vs,H p=some (.lst vs)/\aE K F xs vs
 | .ins C ns xs=>∃ dx a,H p=some (.ins C dx a)/\a.map (·.1)=ns/\aE K F xs (a.map (·.2))
 | _=>False
theorem Own.mono{F i H g:Hp}(e:aS F i)(h:g p=H p):∀ {d:D},Own K F H p d->Own K i g p d
 | .lst _,⟨f,a,b⟩=>⟨f,h.trans a,b.mono e⟩
 | .cel _ _,⟨z,f,a,b⟩=>⟨z,f,h.trans a,b.mono e⟩
 | .ins _ _ _,⟨k,j,a,b,c⟩=>⟨k,j,h.trans a,b,c.mono e⟩
theorem Own.some {K:Fg0}{F H:Hp}{p:Addr}:∀ {d:D},Own K F H p d->∃ o,H p=some o
 | .lst _,⟨_,a,_⟩=>⟨_,a⟩
 | .cel _ _,⟨_,_,a,_⟩=>⟨_,a⟩
 | .ins _ _ _,⟨_,_,a,_⟩=>⟨_,a⟩
theorem Own.rep{F H:Hp}{o:HO}(h:F p=none)(g:H p=Option.some o):∀ {d:D},Own K F H p d->Rep K (upd F p o) d (.ref p)
 | .lst _,Z=>by
  obtain⟨f,a,b⟩:=Z;rw[g] at a;cases a;exact⟨p,f,rfl,az,b.mono λx u e=>by rw[au (aM e h)];exact e⟩
 | .cel _ _,Z=>by
  obtain⟨z,f,a,b⟩:=Z;rw[g] at a;cases a;subst z;exact⟨rfl,f,az,b.mono λx u e=>by rw[au (aM e h)];exact e⟩
 | .ins _ _ _,Z=>by
  obtain⟨j,i,a,b,c⟩:=Z;rw[g] at a;cases a;exact⟨p,j,i,rfl,az,b,c.mono λx u e=>by rw[au (aM e h)];exact e⟩
def Hld (Γ:G)(i:Nat)(d:D):Prop:=Γ[i]?=some (some (Sl.ow d))\/Γ[i]?=some (some (Sl.ln d))
structure En (K:Fg0) (B:Bs) (F:Hp) (σ:St) (H:Hp) (Γ:G):Prop where
 sub:aS F H
 len:σ.length=Γ.length
 fz:∀ (i:Nat) (d:D),Γ[i]?=some (some (Sl.fz d))->∃ v,σ[i]?=some (some v)/\Rep K F d v
 hl:∀ (i:Nat) (d:D),Hld Γ i d->∃ p,σ[i]?=some (some (V.ref p))/\F p=none/\Own K F H p d
 ow:∀ (i:Nat) (d:D) (p:Addr),Γ[i]?=some (some (Sl.ow d))->σ[i]?=some (some (V.ref p))->B.H p=none
 ln:∀ (i:Nat) (d:D) (p:Addr),Γ[i]?=some (some (Sl.ln d))->σ[i]?=some (some (V.ref p))->(i,p)∈B.own
 dis:∀ (i j:Nat) (d e:D) (p:Addr),Hld Γ i d->Hld Γ j e->σ[i]?=some (some (V.ref p))->σ[j]?=some (some (V.ref p))->i=j
 par:∀ (i:Nat) (p:Addr),(i,p)∈B.own->σ[i]?=some (some (V.ref p))/\∃ d,Γ[i]?=some (some (Sl.ln d))
 keep:aS B.F F
 new:∀ (b:Addr) (o:HO),F b=some o->B.F b=some o\/B.H b=none
 rest:∀ (b:Addr) (o:HO),B.H b=some o->(∀ i,(i,b)∉B.own)->H b=some o
 dom:∀ b,H b=none->B.H b=none
section
variable {B:Bs}{F:Hp}{σ:St}{H:Hp}{Γ:G}
theorem En.alloc(e:En K B F σ H Γ)(hl:H l=none)(o:HO):En K B F σ (upd H l o) Γ where
 sub:=λb u h=>by rw[au (aM (e.sub b u h) hl)];exact e.sub b u h
 len:=e.len
 fz:=e.fz
 hl:=λi d h=>by
  obtain⟨p,g,f,a⟩:=e.hl i d h;obtain⟨u,c⟩:=a.some;exact⟨p,g,f,a.mono (aS.refl F) (au (aM c hl))⟩
 ow:=e.ow
 ln:=e.ln
 dis:=e.dis
 par:=e.par
 keep:=e.keep
 new:=e.new
 rest:=λb u h n=>by rw[au (aM (e.rest b u h n) hl)];exact e.rest b u h n
 dom:=λb h=>by
  by_cases q:b=l
  .subst q;exact e.dom _ hl
  .rw[au q] at h;exact e.dom b h
theorem bE{F:Hp}{o:HO}(h:F l=none):aS F (upd F l o):=λb u e=>by rw[au (aM e h)];exact e
theorem En.freeze(e:En K B F σ H Γ){o:HO}(c:F l=none)(j:H l=some o)(k:B.H l=none)(g:∀ (i:Nat) (d:D),Hld Γ i d->σ[i]?≠some (some (V.ref l))):En K B (upd F l o) σ H Γ where
 sub:=λb u h=>by
  by_cases q:b=l
  .subst q;rw[az] at h;cases h;exact j
  .rw[au q] at h;exact e.sub b u h
 len:=e.len
 fz:=λi d h=>by
  obtain⟨v,a,f⟩:=e.fz i d h;exact⟨v,a,f.mono (bE c)⟩
 hl:=λi d h=>by
  obtain⟨p,a,f,m⟩:=e.hl i d h;have q:p≠l:=λz=>g i d h (z ▸ a);exact⟨p,a,by rw[au q];exact f,m.mono (bE c) rfl⟩
 ow:=e.ow
 ln:=e.ln
 dis:=e.dis
 par:=e.par
 keep:=e.keep.trans (bE c)
 new:=λb u h=>by
  by_cases q:b=l
  .subst q;exact .inr k
  .rw[au q] at h;exact e.new b u h
 rest:=e.rest
 dom:=e.dom
noncomputable def pP (K:Fg0)(F H:Hp):La0->List (List D)->Prop
 | [],xss=>xss=[]
 | q::qs,xss=>∃ xs a vs,xss=xs::a/\H q=some (.lst vs)/\aE K F xs vs/\pP K F H qs a
theorem pP.mono{F b H a:Hp}(s:aS F b):∀ {qs:La0} {xss:List (List D)},(∀ q∈qs,a q=H q)->pP K F H qs xss->pP K b a qs xss
 | [],_,_,h=>h
 | q::qs,_,e,⟨d,c,f,l,k,j,i⟩=>⟨d,c,f,l,(e q (.head _)).trans k,j.mono s,pP.mono s (λz g=>e z (.tail _ g)) i⟩
noncomputable def uj (K:Fg0)(B:Bs)(F:Hp)(σ:St)(H:Hp)(Γ:G)(v:V):RV->Prop
 | .fz d=>Rep K F d v
 | .fr d=>∃ p,v=.ref p/\F p=none/\Own K F H p d/\B.H p=none/\∀ (i:Nat) (e:D),Hld Γ i e->σ[i]?≠some (some (V.ref p))
 | .rws xss=>∃ p qs,v=.ref p/\H p=some (.lst (qs.map V.ref))/\(p::qs).Nodup/\pP K F H qs xss/\∀ z,z∈p::qs->F z=none/\B.H z=none/\∀ (i:Nat) (e:D),Hld Γ i e->σ[i]?≠some (some (V.ref z))
 | .tol x xs ys=>∃ p q w vs,v=.ref p/\H p=some (.lst [.str x,w])/\Rep K F (.lst (.adr q::ys)) w/\H q=some (.lst vs)/\aE K F xs vs/\p≠q/\∀ z,z=p\/z=q->F z=none/\B.H z=none/\∀ (i:Nat) (e:D),Hld Γ i e->σ[i]?≠some (some (V.ref z))
 | .two xs ys=>∃ t p q vs a,v=.ref t/\H t=some (.tup [.ref p,.ref q])/\H p=some (.lst vs)/\H q=some (.lst a)/\aE K F xs vs/\aE K F ys a/\p≠q/\∀ z,z=t\/z=p\/z=q->F z=none/\B.H z=none/\∀ (i:Nat) (e:D),Hld Γ i e->σ[i]?≠some (some (V.ref z))
theorem LO{F b:Hp}{q:Addr}{vs:List V}{xs ys:List D}{w:V}(s:aS F b)(h:b q=some (.lst vs))(c:aE K b xs vs)(r:Rep K F (.lst (.adr q::ys)) w):Rep K b (.lst (.lst xs::ys)) w:=by
 obtain⟨a,g,rfl,e,v,f,rfl,rfl,d⟩:=r;exact⟨a,_,rfl,s _ _ e,_,_,rfl,⟨q,vs,rfl,h,c⟩,d.mono s⟩
theorem En.EH:∀ {qs:La0} {xss:List (List D)} {F:Hp},En K B F σ H Γ->pP K F H qs xss->qs.Nodup->(∀ z∈qs,F z=none/\B.H z=none/\∀ (i:Nat) (e:D),Hld Γ i e->σ[i]?≠some (some (V.ref z)))->
  ∃ d,aS F d/\En K B d σ H Γ/\aE K d (xss.map .lst) (qs.map V.ref)/\∀ z,z∉qs->d z=F z
 | [],_,F,e,h,_,_=>by cases h;exact⟨F,aS.refl F,e,rfl,λ_ _=>rfl⟩
 | q::qs,_,F,e,⟨L,J,j,x,v,u,t⟩,n,k=>by
  subst x;obtain⟨r,p⟩:=IR.mp n;obtain⟨l,I,G⟩:=k q (.head _);have y:=e.freeze l v I G;have f:=bE (o:=.lst j) l;obtain⟨d,g,A,m,s⟩:=En.EH (qs:=qs) y (t.mono f λ_ _=>rfl) p λz c=>by
   obtain⟨E,b2,C⟩:=k z (.tail _ c);exact⟨by rw[au (a:=q) (b:=z) (λw=>r (by rw[<- w];exact c))];exact E,b2,C⟩
  refine⟨d,f.trans g,A,⟨_,_,rfl,⟨q,j,rfl,g _ _ az,u.mono (f.trans g)⟩,m⟩,λz c=>?_⟩;rw[hF,not_or] at c;rw[s z c.2,au c.1]
theorem En.D9(e:En K B F σ H Γ){qs:La0}{b:List (List D)}(m:H p=some (.lst (qs.map V.ref)))(g:(p::qs).Nodup)(r:pP K F H qs b)(c:∀ z,z∈p::qs->F z=none/\B.H z=none/\∀ (i:Nat) (e:D),Hld Γ i e->σ[i]?≠some (some (V.ref z))) :
  ∃ a,aS F a/\En K B a σ H Γ/\a p=none/\Own K a H p (.lst (b.map .lst)):=by
 obtain⟨j,h⟩:=IR.mp g;obtain⟨a,d,n,f,k⟩:=e.EH r h λz l=>c z (.tail _ l);exact⟨a,d,n,(k p j).trans (c p (.head _)).1,_,m,f⟩
theorem En.GK(e:En K B F σ H Γ){xs ys:List D}{q:Addr}{w:V}{vs:List V}(k:H p=some (.lst [.str x,w]))(j:Rep K F (.lst (.adr q::ys)) w)(h:H q=some (.lst vs))(g:aE K F xs vs)(f:p≠q)(c:∀ z,z=p\/z=q->F z=none/\B.H z=none/\∀ (i:Nat) (e:D),Hld Γ i e->σ[i]?≠some (some (V.ref z))) :
  ∃ a,aS F a/\En K B a σ H Γ/\a p=none/\Own K a H p (.lst [.str x,.lst (.lst xs::ys)]):=by
 obtain⟨d,m,l⟩:=c q (.inr rfl);have b:=bE (o:=.lst vs) d;exact⟨upd F q (.lst vs),b,e.freeze d h m l,(au f).trans (c p (.inl rfl)).1,_,k,_,_,rfl,rfl,_,_,rfl,LO b az (g.mono b) j,rfl⟩
theorem En.frozen(e:En K B F σ H Γ){v:V}:∀ {r:RV},uj K B F σ H Γ v r->∃ m,aS F m/\En K B m σ H Γ/\Rep K m r.d v
 | .fz d,h=>⟨F,aS.refl F,e,h⟩
 | .fr d,Z=>by
  obtain⟨p,g,a,b,f,c⟩:=Z;subst g;obtain⟨o,L⟩:=b.some;exact⟨upd F p o,bE a,e.freeze a L f c,b.rep a L⟩
 | .rws Q,Z=>by
  obtain⟨p,qs,g,a,b,f,c⟩:=Z;subst g;obtain⟨m,A,G,i,C⟩:=e.D9 a b f c;obtain⟨_,b2,l⟩:=c p (.head _);exact⟨_,A.trans (bE i),G.freeze i a b2 l,C.rep i a⟩
 | .tol x R P,Z=>by
  obtain⟨p,q,w,j,g,a,b,f,c,E,k⟩:=Z;subst g;obtain⟨m,A,G,i,C⟩:=e.GK a b f c E k;obtain⟨_,b2,l⟩:=k p (.inl rfl);exact⟨_,A.trans (bE i),G.freeze i a b2 l,C.rep i a⟩
 | .two R P,Z=>by
  obtain⟨t,p,q,j,n,g,a,b,f,c,E,k,D⟩:=Z;subst g;obtain⟨a1,a2,a3⟩:=D t (.inl rfl);obtain⟨O,b2,l⟩:=D p (.inr (.inl rfl));obtain⟨Y,X,W⟩:=D q (.inr (.inr rfl));have J:t≠p:=λz=>by rw[z,b] at a;cases a
  have I:t≠q:=λz=>by rw[z,f] at a;cases a
  have U:=e.freeze O b b2 l;have N:upd F p (.lst j) q=none:=by rw[au (vk k)];exact Y
  have T:=U.freeze N f X W;have M:upd (upd F p (.lst j)) q (.lst n) t=none:=by rw[au I,au J];exact a1
  have S:=T.freeze M a a2 a3;have y:=bE (o:=.lst j) O;have u:=bE (o:=.lst n) N;have s:=bE (o:=.tup [.ref p,.ref q]) M;exact⟨_,(y.trans u).trans s,S,t,_,rfl,az,⟨_,_,rfl,⟨p,j,rfl,by rw[au (vk J),au k];exact az,(c.mono ((y.trans u).trans s))⟩,_,_,rfl,⟨q,n,rfl,by rw[au (vk I)];exact az,E.mono ((y.trans u).trans s)⟩,rfl⟩⟩
theorem En.norm(e:En K B F σ H Γ){v:V}:∀ {r:RV},uj K B F σ H Γ v r->∃ a k,aS F a/\En K B a σ H Γ/\uj K B a σ H Γ v k/\k.sl=r.sl/\k.pl=true
 | .fz d,h=>⟨F,.fz d,aS.refl F,e,h,rfl,rfl⟩
 | .fr d,h=>⟨F,.fr d,aS.refl F,e,h,rfl,rfl⟩
 | .rws g,Z=>by
  obtain⟨p,D,m,t,o,n,c⟩:=Z;subst m;obtain⟨a,j,b,u,l⟩:=e.D9 t o n c;obtain⟨_,b2,y⟩:=c p (.head _);exact⟨a,.fr (.lst (g.map .lst)),j,b,⟨p,rfl,u,l,b2,y⟩,rfl,rfl⟩
 | .tol x i f,Z=>by
  obtain⟨p,q,w,C,m,t,o,n,c,A,z⟩:=Z;subst m;obtain⟨a,j,b,u,l⟩:=e.GK t o n c A z;obtain⟨_,b2,y⟩:=z p (.inl rfl);exact⟨a,.fr (.lst [.str x,.lst (.lst i::f)]),j,b,⟨p,rfl,u,l,b2,y⟩,rfl,rfl⟩
 | .two i f,h=>by
  obtain⟨a,s,b,r⟩:=e.frozen h;exact⟨a,.fz (.tup [.lst i,.lst f]),s,b,r,rfl,rfl⟩
def Po (K:Fg0)(B:Bs)(F:Hp)(σ:St)(Q:RV->G->Prop):VK:=λv H'=>∃ b a r,aS F b/\En K B b σ H' a/\uj K B b σ H' a v r/\Q r a
abbrev TE3:=G->(RV->G->Prop)->Prop
def Ref (K:Fg0)(t:TE)(b:TE3):Prop:=∀ (B:Bs) (F:Hp) (σ:St) (H:Hp) (Γ:G) (Q:RV->G->Prop) (a:VK),En K B F σ H Γ->b Γ Q->(∀ v H',Po K B F σ Q v H'->a v H')->t σ H a
theorem Po.mono{F d:Hp}{Q:RV->G->Prop}{v:V}{H:Hp}(s:aS F d)(h:Po K B d σ Q v H):Po K B F σ Q v H:=by
 obtain⟨e,c,r,a,b⟩:=h;exact⟨e,c,r,s.trans a,b⟩
theorem j8(e:En K B F σ H Γ){Q:RV->G->Prop}{v:V}{d:D}(r:Rep K F d v)(q:Q (.fz d) Γ):Po K B F σ Q v H:=⟨F,Γ,.fz d,aS.refl F,e,r,q⟩
theorem En.B7(e:En K B F σ H Γ)(b:H l=none):∀ (i:Nat) (d:D),Hld Γ i d->σ[i]?≠some (some (V.ref l)):=λi d h z=>by
 obtain⟨p,f,g,c⟩:=e.hl i d h;rw[f] at z;cases z;obtain⟨o,a⟩:=c.some;rw[b] at a;cases a
theorem En.nof(e:En K B F σ H Γ)(a:H l=none):F l=none:=by
 cases q:F l with
 | none=>rfl
 | some o=>have:=e.sub _ _ q;rw[a] at this;cases this
theorem j7(e:En K B F σ H Γ){Q:RV->G->Prop}{vs:List V}{xs:List D}(a:H l=none)(r:aE K F xs vs)(q:Q (.fr (.lst xs)) Γ):Po K B F σ Q (.ref l) (upd H l (.lst vs)):=
 ⟨F,Γ,.fr (.lst xs),aS.refl F,e.alloc a _,⟨l,rfl,e.nof a,⟨vs,az,r⟩,e.dom _ a,e.B7 a⟩,q⟩
theorem AG(e:En K B F σ H Γ){Q:RV->G->Prop}{vs:List V}{xs:List D}(a:H l=none)(r:aE K F xs vs)(q:Q (.fz (.tup xs)) Γ):Po K B F σ Q (.ref l) (upd H l (.tup vs)):=
 ⟨upd F l (.tup vs),Γ,.fz (.tup xs),bE (e.nof a),(e.alloc a _).freeze (e.nof a) az (e.dom _ a) (e.B7 a),⟨l,vs,rfl,az,r.mono (bE (e.nof a))⟩,q⟩
set_option backward.eqns.nonrecursive false in
def D5 (i:Nat)(Γ:G)(Q:RV->G->Prop):Prop:=match Γ[i]? with
 | some (some (.fz d))=>Q (.fz d) Γ
 | some (some (.ow d))=>Q (.fz d) (Γ.set i (some (Sl.fz d)))
 | _=>False
theorem cf{b:Type}{l:List b}{a:b}(h:i≠j):(l.set i a)[j]?=l[j]?:=by rw[VO,if_neg h]
theorem ye{c:Type}{l:List c}{a b:c}(h:l[i]?=some b):(l.set i a)[i]?=some a:=by
 rw[VO,if_pos rfl,if_pos (gS0 h).1]
theorem En.give(e:En K B F σ H Γ){d:D}(h:Γ[i]?=some (some (Sl.ow d))):∃ n p,aS F n/\σ[i]?=some (some (V.ref p))/\Rep K n d (.ref p)/\En K B n σ H (Γ.set i (some (Sl.fz d))):=by
 obtain⟨p,m,l,t⟩:=e.hl i d (.inl h);obtain⟨o,s⟩:=t.some;have r:=t.rep l s;have back:∀ {j u},j≠i->(Γ.set i (some (Sl.fz d)))[j]?=u->Γ[j]?=u:=λE q=>by rw[cf (vk E)] at q;exact q
 have f:∀ {j x},Hld (Γ.set i (some (Sl.fz d))) j x->j≠i/\Hld Γ j x:=λ{j x} q=>by
  by_cases z:j=i
  .subst z;rcases q with q | q <;> rw[ye h] at q <;> cases q
  .exact⟨z,q.imp (back z) (back z)⟩
 refine⟨upd F p o,p,bE l,m,r,?_,?_,?_,?_,?_,?_,?_,?_,?_,?_,e.rest,e.dom⟩
 .intro b u q;by_cases z:b=p
  .subst z;rw[az] at q;cases q;exact s
  .rw[au z] at q;exact e.sub b u q
 .rw[Qh];exact e.len
 .intro j x q;by_cases z:j=i
  .subst z;rw[ye h] at q;cases q;exact⟨_,m,r⟩
  .obtain⟨v,a,b⟩:=e.fz j x (back z q);exact⟨v,a,b.mono (bE l)⟩
 .intro j x q;obtain⟨z,q⟩:=f q;obtain⟨g,a,b,c⟩:=e.hl j x q;have C:g≠p:=λy=>z (e.dis j i x d p q (.inl h) (y ▸ a) m);exact⟨g,a,by rw[au C];exact b,c.mono (bE l) rfl⟩
 .intro j x g q a;obtain⟨z,_⟩:=f (.inl q);exact e.ow j x g (back z q) a
 .intro j x g q a;obtain⟨z,_⟩:=f (.inr q);exact e.ln j x g (back z q) a
 .intro j k x y g A w;exact e.dis j k x y g (f A).2 (f w).2
 .intro j g q;obtain⟨a,y,b⟩:=e.par j g q;have z:j≠i:=λz=>by subst z;rw[h] at b;cases b
  exact⟨a,y,by rw[cf (vk z)];exact b⟩
 .exact e.keep.trans (bE l)
 .intro b u q;by_cases z:b=p
  .subst z;exact .inr (e.ow i d _ h m)
  .rw[au z] at q;exact e.new b u q
theorem J2(i:Nat):Ref K (jj i) (D5 i):=by
 intro B F g H j Q l e h k;unfold D5 at h;split at h
 .rename_i d q;obtain⟨v,b,a⟩:=e.fz i d q;exact⟨v,b,k _ _ (j8 e a h)⟩
 .rename_i d q;obtain⟨f,p,s,b,a,c⟩:=e.give q;exact⟨_,b,k _ _ ⟨f,_,.fz d,s,c,a,h⟩⟩
 .exact h.elim
def t3C (d:D)(Γ:G)(Q:RV->G->Prop):Prop:=Q (.fz d) Γ
theorem zC{v:V}{d:D}(h:∀ F,Rep K F d v):Ref K (tC v) (t3C d):=λB F a H b Q c e q k=>k _ _ (j8 e (h F) q)
inductive Bo where
 | d (x:D) | v (i:Nat)
noncomputable def bare:D->D
 | .cel _ xs=>.lst xs
 | .non=>.non
 | .bl b=>.bl b
 | .int i=>.int i
 | .str x=>.str x
 | .lst xs=>.lst xs
 | .tup xs=>.tup xs
 | .ktup xs=>.ktup xs
 | .ins C ns xs=>.ins C ns xs
 | .scr ns=>.scr ns
 | .ty n=>.ty n
 | .adr a=>.adr a
 | .exc C ns xs=>.exc C ns xs
 | .dct=>.dct
 | .dcs k i=>.dcs k i
 | .fn o f v r=>.fn o f v r
 | .obj p C=>.obj p C
 | .mp k=>.mp k
set_option backward.eqns.nonrecursive false in
noncomputable def Gat (Γ:G)(i:Nat):Option D:=match Γ[i]? with
 | some (some (.fz d))=>some d
 | some (some (.ow d))=>some (bare d)
 | some (some (.ln d))=>some (bare d)
 | _=>none
set_option backward.eqns.nonrecursive false in
noncomputable def Bo.at (Γ:G):Bo->Option D
 | .d x=>some x
 | .v i=>Gat Γ i
noncomputable def vZ (K:Fg0)(F:Hp)(σ:St):Bo->V->Prop
 | .d x,v=>Rep K F x v
 | .v i,v=>σ[i]?=some (some v)
noncomputable def lT (K:Fg0)(F H:Hp):D->V->Prop
 | .lst xs,v=>∃ p vs,v=.ref p/\H p=some (.lst vs)/\aE K F xs vs
 | .cel q xs,v=>v=.ref q/\∃ vs,H q=some (.lst vs)/\aE K F xs vs
 | .ins C ns xs,v=>∃ p dx a,v=.ref p/\H p=some (.ins C dx a)/\a.map (·.1)=ns/\aE K F xs (a.map (·.2))
 | d,v=>Rep K F d v
theorem Rep.b{F H:Hp}(s:aS F H):∀ {d:D} {v:V},Rep K F d v->lT K F H d v
 | .non,_,h=>h
 | .bl _,_,h=>h
 | .int _,_,h=>h
 | .str _,_,h=>h
 | .ty _,_,h=>h
 | .adr _,_,h=>h
 | .exc _ _ _,_,h=>h
 | .dct,_,h=>h
 | .dcs _ _,_,h=>h
 | .fn _ _ _ _,_,h=>h
 | .obj _ _,_,h=>h
 | .mp _,_,h=>h
 | .cel _ _,_,⟨e,f,c,a⟩=>⟨e,f,s _ _ c,a⟩
 | .scr _,_,h=>h
 | .tup _,_,h=>h
 | .ktup _,_,h=>h
 | .lst _,_,⟨p,f,e,c,a⟩=>⟨p,f,e,s _ _ c,a⟩
 | .ins _ _ _,_,⟨p,j,i,e,c,a,g⟩=>⟨p,j,i,e,s _ _ c,a,g⟩
theorem Own.b{F H:Hp}:∀ {d:D},Own K F H p d->lT K F H (bare d) (.ref p)
 | .lst _,⟨e,c,a⟩=>⟨p,e,rfl,c,a⟩
 | .cel _ _,Z=>by obtain⟨z,e,c,a⟩:=Z;subst z;exact⟨_,e,rfl,c,a⟩
 | .ins _ _ _,⟨h,g,c,a,f⟩=>⟨p,h,g,rfl,c,a,f⟩
theorem vZ.mono{F b:Hp}(s:aS F b):∀ {a:Bo} {v:V},vZ K F σ a v->vZ K b σ a v
 | .d _,_,h=>Rep.mono s h
 | .v _,_,h=>h
theorem En.get(e:En K B F σ H Γ){d:D}(h:Gat Γ i=some d):∃ v,σ[i]?=some (some v)/\lT K F H d v:=by
 unfold Gat at h;split at h
 .cases h;rename_i q;obtain⟨v,a,c⟩:=e.fz i _ q;exact⟨v,a,c.b e.sub⟩
 .cases h;rename_i q;obtain⟨p,a,c,b⟩:=e.hl i _ (.inl q);exact⟨_,a,b.b⟩
 .cases h;rename_i q;obtain⟨p,a,c,b⟩:=e.hl i _ (.inr q);exact⟨_,a,b.b⟩
 .cases h
theorem En.bo (e:En K B F σ H Γ):∀ {bo:Bo} {v:V} {d:D},vZ K F σ bo v->bo.at Γ=some d->lT K F H d v
 | .d x,v,d,h,q=>by cases q;exact Rep.b e.sub h
 | .v i,v,d,h,q=>by
  obtain⟨u,a,b⟩:=e.get q;rw[show σ[i]?=some (some v) from h] at a;cases a;exact b
abbrev Tag {a:Sort _}(_:a):Type:=Unit
def m1 (o:Option D)(k:D->Prop)(_:Tag k):Prop:=match o with
 | some d=>k d
 | none=>False
theorem Eu{d:D}{k:D->Prop}{t:Tag k}:m1 (some d) k t=k d:=rfl
theorem bX{o:Option D}{k:D->Prop}{t:Tag k}:m1 o k t↔∃ d,o=some d/\k d:=by
 cases o with
 | none=>exact⟨λh=>h.elim,λZ=>by obtain⟨_,h,_⟩:=Z;cases h⟩
 | some d=>exact⟨λh=>⟨d,rfl,h⟩,λZ=>by obtain⟨_,h,q⟩:=Z;cases h;exact q⟩
def mL (o:Option (List D))(k:List D->Prop)(_:Tag k):Prop:=match o with
 | some d=>k d
 | none=>False
theorem KU{d:List D}{k:List D->Prop}{t:Tag k}:mL (some d) k t=k d:=rfl
theorem uO{o:Option (List D)}{k:List D->Prop}{t:Tag k}:mL o k t↔∃ d,o=some d/\k d:=by
 cases o with
 | none=>exact⟨λh=>h.elim,λZ=>by obtain⟨_,h,_⟩:=Z;cases h⟩
 | some d=>exact⟨λh=>⟨d,rfl,h⟩,λZ=>by obtain⟨_,h,q⟩:=Z;cases h;exact q⟩
def mI (o:Option D)(k:Int->Prop)(_:Tag k):Prop:=match o with
 | some (.int d)=>k d
 | _=>False
theorem KW{d:Int}{k:Int->Prop}{t:Tag k}:mI (some (.int d)) k t=k d:=rfl
theorem Ra{o:Option D}{k:Int->Prop}{t:Tag k}(h:mI o k t):∃ j,o=some (.int j)/\k j:=by
 rcases o with _ | d
 .exact h.elim
 cases d <;> first | exact h.elim | exact⟨_,rfl,h⟩
def bT (c:Bool)(p q:Prop)(_:Tag p)(_:Tag q):Prop:=match c with
 | true=>p
 | false=>q
theorem T4{p q:Prop}{s:Tag p}{t:Tag q}:bT true p q s t=p:=rfl
theorem T5{p q:Prop}{s:Tag p}{t:Tag q}:bT false p q s t=q:=rfl
theorem vb{c:Bool}{p:Prop}{s:Tag p}{t:Tag False}(h:bT c p False s t):c=true/\p:=by cases c;exact h.elim;exact⟨rfl,h⟩
noncomputable def one?:List D->Option D
 | [d]=>some d
 | _=>none
theorem Od{ds:List D}{d:D}(h:one? ds=some d):ds=[d]:=by
 rcases ds with _ | ⟨a,_ | ⟨b,c⟩⟩
 .cases h
 .cases h;rfl
 .cases h
theorem Q5{d:D}:one? [d]=some d:=rfl
noncomputable def Oq:D->Option (List D)
 | .lst xs=>some xs
 | _=>none
theorem lst_is{d:D}{xs:List D}(h:Oq d=some xs):d=.lst xs:=by cases d <;> cases h;rfl
theorem Rn{xs:List D}:Oq (.lst xs)=some xs:=rfl
noncomputable def GI:D->Option (List D)
 | .tup xs=>some xs
 | _=>none
theorem tup_is{d:D}{xs:List D}(h:GI d=some xs):d=.tup xs:=by cases d <;> cases h;rfl
theorem P1{xs:List D}:GI (.tup xs)=some xs:=rfl
abbrev TB3:=G->(Bo->G->Prop)->Prop
def PoB (K:Fg0)(B:Bs)(F:Hp)(σ:St)(Q:Bo->G->Prop):VK:=λv H'=>∃ b a c,aS F b/\En K B b σ H' a/\vZ K b σ c v/\Q c a
def yO (K:Fg0)(t:TE)(b:TB3):Prop:=∀ (B:Bs) (F:Hp) (σ:St) (H:Hp) (Γ:G) (Q:Bo->G->Prop) (a:VK),En K B F σ H Γ->b Γ Q->(∀ v H',PoB K B F σ Q v H'->a v H')->t σ H a
def bor (i:Nat)(Γ:G)(Q:Bo->G->Prop):Prop:=m1 (Gat Γ i) (λ_=>Q (.v i) Γ) ⟨⟩
def bof (b:TE3)(Γ:G)(Q:Bo->G->Prop):Prop:=b Γ λx a=>Q (.d x.d) a
theorem Hb(i:Nat):yO K (jj i) (bor i):=by
 intro B F f H b Q g e q k;obtain⟨d,c,q⟩:=bX.1 q;obtain⟨v,a,_⟩:=e.get c;exact⟨v,a,k _ _ ⟨F,b,.v i,aS.refl F,e,a,q⟩⟩
theorem J1{t:TE}{g:TE3}(h:Ref K t g):yO K t (bof g):=by
 intro B F i H j Q p e q k;refine h B F i H j _ _ e q (λv r Z=>?_);obtain⟨s,a,x,l,o,m,n⟩:=Z;obtain⟨f,b,d,c⟩:=o.frozen m;exact k _ _ ⟨f,a,.d x.d,l.trans b,d,c,n⟩
def pQ (K:Fg0)(r:R2)(c:D->D->TE3):Prop:=∀ (B:Bs) (F:Hp) (σ:St) (H:Hp) (Γ:G) (x y:V) (dx a:D) (Q:RV->G->Prop) (b:VK),En K B F σ H Γ->lT K F H dx x->lT K F H a y->c dx a Γ Q->(∀ v H',Po K B F σ Q v H'->b v H')->r x y H b
def uo (c:D->D->TE3)(f e:TB3)(Γ:G)(Q:RV->G->Prop):Prop:=f Γ λx b=>e b λy a=>m1 (x.at a) (λdx=>m1 (y.at a) (λd=>c dx d a Q) ⟨⟩) ⟨⟩
theorem jv{r:R2}{ta f:TE}{l j:TB3}{i:D->D->TE3}(h:pQ K r i)(C:yO K ta l)(A:yO K f j):Ref K (tOp r ta f) (uo i l j):=by
 intro B F a H m Q M e q k;refine C B F a H m _ _ e q (λv P Z=>?_);obtain⟨S,c,x,n,I,s,w⟩:=Z;refine A B S a P c _ _ I w (λu O Z=>?_);obtain⟨R,b,y,g,d,o,Z⟩:=Z;obtain⟨L,G,Z⟩:=bX.1 Z;obtain⟨J,E,t⟩:=bX.1 Z;exact h B R a O b v u L J Q M d (d.bo (s.mono g) G) (d.bo o E) t λz N p=>k z N (p.mono (n.trans g))
def GO (b:D->TE3)(c:TB3)(Γ:G)(Q:RV->G->Prop):Prop:=c Γ λx a=>m1 (x.at a) (λdx=>b dx a Q) ⟨⟩
def SO (K:Fg0)(r:V->Hp->VK->Prop)(b:D->TE3):Prop:=∀ (B:Bs) (F:Hp) (σ:St) (H:Hp) (Γ:G) (x:V) (dx:D) (Q:RV->G->Prop) (a:VK),En K B F σ H Γ->lT K F H dx x->b dx Γ Q->(∀ v H',Po K B F σ Q v H'->a v H')->r x H a
theorem C4{r:V->Hp->VK->Prop}{ta:TE}{d:TB3}{b:D->TE3}(h:SO K r b)(l:yO K ta d):Ref K (λσ H Q=>ta σ H λx H1=>r x H1 Q) (GO b d):=by
 intro B F σ H f Q o e q k;refine l B F σ H f _ _ e q (λv H1 Z=>?_);obtain⟨t,a,x,g,c,i,Z⟩:=Z;obtain⟨n,m,j⟩:=bX.1 Z;exact h B t σ H1 a v n Q o c (c.bo i m) j λz s p=>k z s (p.mono g)
end
variable {a e:UX}{pos' px:XI}{C:Int->Int->Prop}{op:YW}{is:List Nat}{ls:On}{σc:_2.St}{ns:Li0}
open PySem _2 PySem.Spec PyProof.Rows
structure P3 (K:Fg0) (X:Cx) (e:Expr) (t:TE) (t3:TE3):Prop where
 pe:PE X e t
 rf:Ref K t t3
structure P3B (K:Fg0) (X:Cx) (e:Expr) (t:TE) (t3:TB3):Prop where
 pe:PE X e t
 rf:yO K t t3
section
variable {X:Cx}{b c:Expr}{ta tb tc:TE}{a3 b3 c3:TB3}
theorem P3.opd{b:TE3}(h:P3 K X a ta b):P3B K X a ta (bof b):=⟨h.pe,J1 h.rf⟩
theorem bv(i:Nat)(d:autoParam (X.N[i]?=some x) wE)(b:autoParam (Vis X.env.scope x) wq2)(c:autoParam ((x == ("__debug__":Str))=false) wP)(a:autoParam ((x == ("__classdict__":Str))=false) wP):P3B K X (.Name x pos) (jj i) (bor i):=⟨xH d b c a,Hb i⟩
theorem kO{B:Bs}{F:Hp}{H:Hp}{Γ:G}{Q:RV->G->Prop}{i:Int}(e:En K B F σ H Γ)(q:Q (.fz (.int i)) Γ):Po K B F σ Q (.int i) H:=j8 (d:=.int i) e rfl q
theorem Hs{B:Bs}{F:Hp}{H:Hp}{Γ:G}{Q:RV->G->Prop}{i:Str}(e:En K B F σ H Γ)(q:Q (.fz (.str i)) Γ):Po K B F σ Q (.str i) H:=j8 (d:=.str i) e rfl q
theorem su{B:Bs}{F:Hp}{H:Hp}{Γ:G}{Q:RV->G->Prop}{i:Bool}(e:En K B F σ H Γ)(q:Q (.fz (.bl i)) Γ):Po K B F σ Q (.bl i) H:=j8 (d:=.bl i) e rfl q
theorem p3v(i:Nat)(d:autoParam (X.N[i]?=some x) wE)(b:autoParam (Vis X.env.scope x) wq2)(c:autoParam ((x == ("__debug__":Str))=false) wP)(a:autoParam ((x == ("__classdict__":Str))=false) wP):P3 K X (.Name x pos) (jj i) (D5 i):=⟨xH d b c a,J2 i⟩
theorem ag{i j pos}:P3 K X (.Constant (.int i) j pos) (tC (.int i)) (t3C (.int i)):=⟨C_,zC λ_=>rfl⟩
theorem fG{i j pos}:P3 K X (.Constant (.bool i) j pos) (tC (.bl i)) (t3C (.bl i)):=⟨QM,zC λ_=>rfl⟩
theorem b8{x j pos}:P3 K X (.Constant (.str x) j pos) (tC (.str x)) (t3C (.str x)):=⟨NU,zC λ_=>rfl⟩
theorem eJ{i:Int}(b:Gl X x)(a:∃ t,X.mg x=some (.int i t))(c:autoParam ((x == ("__debug__":Str))=false) wP):P3 K X (.Name x pos) (tC (.int i)) (t3C (.int i)):=
 ⟨let ⟨t,a⟩:=a;wY (v:=.int i) b a ⟨t,rfl⟩ c,zC λ_=>rfl⟩
theorem N1{x y v:Int}{a:Pos}(h:x ^ y.toNat=v)(b:Jy x y):P3 K X (.BinOp (.Constant (.int x) j pos') .Pow (.Constant (.int y) k a) pos) (tOp (rI Jy λi j=>.int (i ^ j.toNat)) (tC (.int x)) (tC (.int y))) (t3C (.int v)):=
 ⟨sy HR C_ C_,λB F d H f Q c e q k=>⟨x,y,rfl,rfl,b,by show c (.int (x ^ y.toNat)) H;rw[h];exact k _ _ (kO e q)⟩⟩
set_option backward.eqns.nonrecursive false in
def i2 (C:Int->Int->Prop)(f:Int->Int->D)(x y:D)(Γ:G)(Q:RV->G->Prop):Prop:=match x,y with
 | .int i,.int j=>C i j/\Q (.fz (f i j)) Γ
 | _,_=>False
set_option backward.eqns.nonrecursive false in
def i2' (f:Int->Int->D)(x y:D)(Γ:G)(Q:RV->G->Prop):Prop:=match x,y with
 | .int i,.int j=>Q (.fz (f i j)) Γ
 | _,_=>False
theorem opI{f:Int->Int->D}{g:Int->Int->V}(h:∀ F i j,Rep K F (f i j) (g i j)):pQ K (rI C g) (i2 C f):=by
 intro B F c H d x y m l Q n e b a q k;unfold i2 at q;split at q
 .cases b;cases a;exact⟨_,_,rfl,rfl,q.1,k _ _ (j8 e (h F _ _) q.2)⟩
 .exact q.elim
theorem y6{f:Int->Int->D}{g:Int->Int->V}(h:∀ F i j,Rep K F (f i j) (g i j)):pQ K (rI0 g) (i2' f):=by
 intro B F c H d x y m l Q n e b a q k;unfold i2' at q;split at q
 .cases b;cases a;exact⟨_,_,rfl,rfl,k _ _ (j8 e (h F _ _) q)⟩
 .exact q.elim
set_option backward.eqns.nonrecursive false in
def LP (x y:D)(Γ:G)(Q:RV->G->Prop):Prop:=match x,y with
 | .int i,.int j=>Q (.fz (.int (i + j))) Γ
 | .lst xs,.lst ys=>xs.length + ys.length<=sizeLine/\Q (.fr (.lst (xs++ys))) Γ
 | .str i,.str j=>i.length + j.length<=sizeLine/\Q (.fz (.str (i++j))) Γ
 | _,_=>False
theorem aE.length{F:Hp}:∀ {xs:List D} {vs:List V},aE K F xs vs->vs.length=xs.length
 | [],_,h=>by cases h;rfl
 | _::_,_,Z=>by obtain⟨v,c,b,d,a⟩:=Z;subst b;simp [a.length]
theorem aE.append{F:Hp}:∀ {xs ys:List D} {vs a:List V},aE K F xs vs->aE K F ys a->aE K F (xs++ys) (vs++a)
 | [],_,_,_,h,b=>by cases h;exact b
 | _::_,_,_,_,⟨v,a,e,d,c⟩,b=>by subst e;exact⟨v,_,rfl,d,c.append b⟩
theorem aE.get{F:Hp}:∀ {xs:List D} {vs:List V},aE K F xs vs->∀ {i:Nat} {d:D},xs[i]?=some d->∃ v,vs[i]?=some v/\Rep K F d v
 | [],_,_,i,d,e=>by simp at e
 | x::xs,_,⟨v,h,c,g,f⟩,0,d,e=>by subst c;simp at e;subst e;exact⟨v,rfl,g⟩
 | x::xs,_,⟨v,h,c,g,f⟩,i + 1,d,e=>by
  subst c;obtain⟨u,a,b⟩:=f.get (i:=i) (d:=d) (by simpa using e);exact⟨u,by simpa using a,b⟩
theorem aE.Le{F:Hp}:∀ {xs:List D} {vs:List V},aE K F xs vs->∀ {i:Nat} {v:V},vs[i]?=some v->∃ d,xs[i]?=some d/\Rep K F d v:=λ{xs vs} h {i v} e=>by
 have c:i < vs.length:=(gS0 e).1;rw[h.length] at c;obtain⟨u,a,b⟩:=h.get (gE0 c);rw[e] at a;cases a;exact⟨_,gE0 c,b⟩
theorem aE.take{F:Hp}:∀ {xs:List D} {vs:List V} (n:Nat),aE K F xs vs->aE K F (xs.take n) (vs.take n)
 | _,_,0,_=>by simp [aE]
 | [],_,n + 1,h=>by cases h;simp [aE]
 | x::xs,_,n + 1,Z=>by obtain⟨v,d,c,b,a⟩:=Z;subst c;exact⟨v,_,rfl,b,aE.take n a⟩
theorem aE.drop{F:Hp}:∀ {xs:List D} {vs:List V} (n:Nat),aE K F xs vs->aE K F (xs.drop n) (vs.drop n)
 | _,_,0,h=>h
 | [],_,n + 1,h=>by cases h;simp [aE]
 | x::xs,_,n + 1,Z=>by obtain⟨v,c,b,d,a⟩:=Z;subst b;exact aE.drop n a
theorem aE.set{F:Hp}{d:D}{v:V}(r:Rep K F d v):∀ {xs:List D} {vs:List V} (n:Nat),aE K F xs vs->aE K F (xs.set n d) (vs.set n v)
 | [],_,_,h=>by cases h;simp [aE]
 | x::xs,_,0,Z=>by obtain⟨u,c,b,e,a⟩:=Z;subst b;exact⟨v,c,rfl,r,a⟩
 | x::xs,_,n + 1,Z=>by obtain⟨u,c,b,e,a⟩:=Z;subst b;exact⟨u,_,rfl,e,aE.set r n a⟩
theorem aE.ints{F:Hp}:∀ (ns:Li0),aE K F (ns.map D.int) (ns.map V.int)
 | []=>rfl
 | n::ns=>⟨_,_,rfl,rfl,aE.ints ns⟩
theorem aE.ya{F:Hp}:∀ {ns:Li0} {vs:List V},aE K F (ns.map D.int) vs->vs=ns.map V.int
 | [],_,h=>h
 | n::ns,_,Z=>by
  obtain⟨v,d,c,b,a⟩:=Z;rw[c,aE.ya a];have:v=.int n:=b;rw[this];rfl
abbrev NC:R2:=λx y H Q=>rI0 (λi j=>.int (i + j)) x y H Q\/Qu x y H Q\/(∃ i j,x=.str i/\y=.str j/\i.length + j.length<=sizeLine/\Q (.str (i++j)) H)
theorem KH:OpR X (TN .Add) NC:=Oc.or (Oa.or Dh)
theorem addRef:pQ K NC LP:=by
 intro B F n H o x y s r Q t e b a q k;unfold LP at q;split at q
 .cases b;cases a;exact .inl ⟨_,_,rfl,rfl,k _ _ (kO e q)⟩
 .obtain⟨p,g,rfl,m,d⟩:=b;obtain⟨h,f,rfl,j,c⟩:=a;refine .inr (.inl ⟨p,h,g,f,rfl,rfl,m,j,by rw[d.length,c.length];exact q.1,λl i=>k _ _ (j7 e i (d.append c) q.2)⟩)
 .cases b;cases a;exact .inr (.inr ⟨_,_,rfl,rfl,q.1,k _ _ (Hs e q.2)⟩)
 .exact q.elim
theorem aJ(d:P3B K X a ta a3)(c:P3B K X b tb b3):P3 K X (.BinOp a .Add b pos) (tOp NC ta tb) (uo LP a3 b3):=⟨sy KH d.pe c.pe,jv addRef d.rf c.rf⟩
theorem bK(d:P3B K X a ta a3)(c:P3B K X b tb b3):P3 K X (.BinOp a .Sub b pos) (tOp (rI0 λi j=>.int (i - j)) ta tb) (uo (i2' λi j=>.int (i - j)) a3 b3):=⟨sy N5 d.pe c.pe,jv (y6 λ_ _ _=>rfl) d.rf c.rf⟩
theorem dX(d:P3B K X a ta a3)(c:P3B K X b tb b3):P3 K X (.BinOp a .Mult b pos) (tOp (rI Jz λi j=>.int (i * j)) ta tb) (uo (i2 Jz λi j=>.int (i * j)) a3 b3):=⟨sy N8 d.pe c.pe,jv (opI λ_ _ _=>rfl) d.rf c.rf⟩
theorem cg(d:P3B K X a ta a3)(c:P3B K X b tb b3):P3 K X (.BinOp a .FloorDiv b pos) (tOp (rI PU λi j=>.int (i / j)) ta tb) (uo (i2 PU λi j=>.int (i / j)) a3 b3):=⟨sy KG d.pe c.pe,jv (opI λ_ _ _=>rfl) d.rf c.rf⟩
theorem xN(d:P3B K X a ta a3)(c:P3B K X b tb b3):P3 K X (.BinOp a .Mod b pos) (tOp (rI (λ_ j=>0 < j) λi j=>.int (i % j)) ta tb) (uo (i2 (λ_ j=>0 < j) λi j=>.int (i % j)) a3 b3):=⟨sy N9 d.pe c.pe,jv (opI λ_ _ _=>rfl) d.rf c.rf⟩
theorem Ej(d:P3B K X a ta a3)(c:P3B K X b tb b3):P3 K X (.BinOp a .Pow b pos) (tOp (rI Jy λi j=>.int (i ^ j.toNat)) ta tb) (uo (i2 Jy λi j=>.int (i ^ j.toNat)) a3 b3):=⟨sy HR d.pe c.pe,jv (opI λ_ _ _=>rfl) d.rf c.rf⟩
def I_ (f:Int->Int->Bool)(x y:D)(Γ:G)(Q:RV->G->Prop):Prop:=i2' (λi j=>.bl (f i j)) x y Γ Q
noncomputable abbrev DL (i j:Int):Bool:=decide (i < j)
noncomputable abbrev qg (i j:Int):Bool:=decide (i<=j)
noncomputable abbrev A8 (i j:Int):Bool:=decide (j < i)
noncomputable abbrev II (i j:Int):Bool:=decide (j<=i)
structure C3 (K:Fg0) (X:Cx) (op:CmpOp) (r:R2) (o3:D->D->TE3):Prop where
 op:OpR X (Px op) r
 rf:pQ K r o3
theorem CC:C3 K X .Lt (rI0 λi j=>.bl (decide (i < j))) (I_ DL):=⟨Q0,y6 λ_ _ _=>rfl⟩
theorem vU:C3 K X .LtE (rI0 λi j=>.bl (decide (i<=j))) (I_ qg):=⟨Q1,y6 λ_ _ _=>rfl⟩
theorem CD:C3 K X .Gt (rI0 λi j=>.bl (decide (j < i))) (I_ A8):=⟨Q2,y6 λ_ _ _=>rfl⟩
theorem MR:C3 K X .GtE (rI0 λi j=>.bl (decide (j<=i))) (I_ II):=⟨Q4,y6 λ_ _ _=>rfl⟩
noncomputable def eqS:D->D->Option Bool
 | .int i,.int j=>some (decide (i=j))
 | .str i,.str j=>some (decide (i=j))
 | .bl i,.bl j=>some (decide (i=j))
 | .non,.non=>some true
 | .int _,.str _=>some false
 | .str _,.int _=>some false
 | .bl _,.str _=>some false
 | .str _,.bl _=>some false
 | .non,.int _=>some false
 | .int _,.non=>some false
 | .non,.str _=>some false
 | .str _,.non=>some false
 | .non,.bl _=>some false
 | .bl _,.non=>some false
 | _,_=>none
theorem jx{r:R2}{c:D->D->TE3}(h:C3 K X op r c)(e:P3B K X a ta a3)(d:P3B K X b tb b3)(f:Us op b=false):P3 K X (.Compare a [op] [b] pos) (tOp r ta tb) (uo c a3 b3):=⟨Kp h.op e.pe d.pe f,jv h.rf e.rf d.rf⟩
set_option backward.eqns.nonrecursive false in
def wO (h f:D->D->TE3)(k j i:TB3)(Γ:G)(Q:RV->G->Prop):Prop:=k Γ λx e=>j e λy b=>∃ dx d,x.at b=some dx/\y.at b=some d/\h dx d b λz c=>match z with
 | .fz (.bl true)=>i c λw a=>∃ d g,y.at a=some d/\w.at a=some g/\f d g a Q
 | .fz (.bl false)=>Q (.fz (.bl false)) c
 | _=>False
theorem zB{r E:R2}{G f:D->D->TE3}(h:pQ K r G)(h':pQ K E f)(U:yO K ta a3)(T:yO K tb b3)(S:yO K tc c3):Ref K (xf r E ta tb tc) (wO G f a3 b3 c3):=by
 intro B F c H J Q QQ e q k;refine U B F c H J _ _ e q (λv H1 Z=>?_);obtain⟨F1,l,x,L,e1,N,R⟩:=Z;refine T B F1 c H1 l _ _ e1 R (λu H2 Z=>?_);obtain⟨F2,j,y,A,n,C,dx,o,Y,X,P⟩:=Z;refine h B F2 c H2 j v u dx o _ _ n (n.bo (N.mono A) Y) (n.bo C X) P λz H3 Z=>?_;obtain⟨F3,i,z3,t,I,d,b⟩:=Z;have a:=(L.trans A).trans t
 revert d b
 split
 .intro d b;refine⟨true,d,?_⟩;rw[if_pos rfl];refine S B F3 c H3 i _ _ I b (λw H4 Z=>?_);obtain⟨F4,g,w3,s,m,M,o,dw,W,V,O⟩:=Z;exact h' B F4 c H4 g u w o dw Q QQ m (m.bo (C.mono (t.trans s)) W) (m.bo M V) O λz H5 p=>k z H5 (p.mono (a.trans s))
 .intro d b;refine⟨false,d,?_⟩;rw[if_neg (by simp)];exact k _ _ (Po.mono a (su I b))
 .intro _ b;exact b.elim
theorem BR{d:CmpOp}{r f:R2}{g e:D->D->TE3}(h:C3 K X op r g)(h':C3 K X d f e)(k:P3B K X a ta a3)(j:P3B K X b tb b3)(i:P3B K X c tc c3)(l:autoParam (XM [op,d] [b,c]=false) wq1) :
  P3 K X (.Compare a [op,d] [b,c] pos) (xf r f ta tb tc) (wO g e a3 b3 c3):=⟨HE h.op h'.op k.pe j.pe i.pe l,zB h.rf h'.rf k.rf j.rf i.rf⟩
set_option backward.eqns.nonrecursive false in
def Oh (x:D)(Γ:G)(Q:RV->G->Prop):Prop:=match x with
 | .int i=>Q (.fz (.int (-i))) Γ
 | _=>False
theorem jw(b:P3B K X a ta a3):P3 K X (.UnaryOp .USub a pos) (tUn (rU λi=>.int (-i)) ta) (GO Oh a3):=⟨QH M1 b.pe,C4 (r:=rU λi=>.int (-i)) (ta:=ta) (by
 intro B F d H f x g Q h e c q k;unfold Oh at q;split at q
 .cases c;exact⟨_,rfl,k _ _ (kO e q)⟩
 .exact q.elim) b.rf⟩
end
abbrev TT3:=G->(Bool->G->Prop)->Prop
noncomputable def PoT (K:Fg0)(B:Bs)(F:Hp)(σ:_2.St)(Q:Bool->G->Prop):Bool->Hp->Prop:=λb H'=>∃ c a,aS F c/\En K B c σ H' a/\Q b a
def wM (K:Fg0)(t:TT)(c:TT3):Prop:=∀ (B:Bs) (F:Hp) (σ:_2.St) (H:Hp) (Γ:G) (Q:Bool->G->Prop) (a:Bool->Hp->Prop),En K B F σ H Γ->c Γ Q->(∀ b H',PoT K B F σ Q b H'->a b H')->t σ H a
structure P3T (K:Fg0) (X:Cx) (e:Expr) (t:TT) (t3:TT3):Prop where
 pe:PT X e t
 rf:wM K t t3
structure P3W (K:Fg0) (X:Cx) (e:Expr) (t:TT) (t3:TT3):Prop where
 pe:PW X e t
 rf:wM K t t3
section
variable {X:Cx}{b c:Expr}{ta tb tc:TE}{a3 b3 c3:TE3}{a3' b3' c3':TB3}{tA tB':TT}{A3 B3:TT3}{rest:List Expr}
def tst (b:TE3)(Γ:G)(Q:Bool->G->Prop):Prop:=b Γ λx a=>match x.d with
 | .bl k=>Q k a
 | _=>False
theorem PoT.mono{B:Bs}{F d:Hp}{H:Hp}{Q:Bool->G->Prop}{k:Bool}(s:aS F d)(h:PoT K B d σ Q k H):PoT K B F σ Q k H:=by
 obtain⟨e,c,a,b⟩:=h;exact⟨e,c,s.trans a,b⟩
theorem Hg(h:Ref K ta a3):wM K (λσ H Q=>ta σ H λx H1=>∃ c,x=.bl c/\Q c H1) (tst a3):=by
 intro B F σ H j Q p e q k;refine h B F σ H j _ _ e q (λv H1 Z=>?_);obtain⟨r,d,x,l,o,m,b⟩:=Z;obtain⟨i,f,g,a⟩:=o.frozen m
 revert a b
 split
 .rename_i n;intro b a;rw[n] at a;exact⟨_,a,k _ _ ⟨i,d,l.trans f,g,b⟩⟩
 .intro b;exact b.elim
theorem bj{t:TE}{b:TE3}(h:P3 K X e t b)(c:autoParam (∀ a,isTrue e X.env a=(do let v <- a;SZ e.pos;holding [v] (truthy v))) wT):P3T K X e (tB t) (tst b):=⟨NG h.pe c,Hg h.rf⟩
theorem aT{r:R2}{c:D->D->TE3}(h:C3 K X op r c)(e:P3B K X a ta a3')(d:P3B K X b tb b3')(f:Us op b=false):P3T K X (.Compare a [op] [b] pos) (D0 (tOp r ta tb)) (tst (uo c a3' b3')):=
 ⟨J_ h.op e.pe d.pe f,Hg (jv h.rf e.rf d.rf)⟩
theorem FA{d:CmpOp}{r f:R2}{g e:D->D->TE3}(h:C3 K X op r g)(h':C3 K X d f e)(k:P3B K X a ta a3')(j:P3B K X b tb b3')(i:P3B K X c tc c3')(l:autoParam (XM [op,d] [b,c]=false) wq1) :
  P3T K X (.Compare a [op,d] [b,c] pos) (D0 (xf r f ta tb tc)) (tst (wO g e a3' b3' c3')):=⟨Hk h.op h'.op k.pe j.pe i.pe l,Hg (zB h.rf h'.rf k.rf j.rf i.rf)⟩
def Pu (b B3:TT3)(Γ:G)(Q:Bool->G->Prop):Prop:=b Γ λc a=>bT c (B3 a Q) (Q false a) ⟨⟩ ⟨⟩
def or3 (b B3:TT3)(Γ:G)(Q:Bool->G->Prop):Prop:=b Γ λc a=>bT c (Q true a) (B3 a Q) ⟨⟩ ⟨⟩
def Of (b:TT3)(Γ:G)(Q:Bool->G->Prop):Prop:=b Γ λc a=>Q (!c) a
theorem J7(l:wM K tA A3)(j:wM K tB' B3):wM K (M_ tA tB') (Pu A3 B3):=by
 intro B F b H i Q n e q k;refine l B F b H i _ _ e q (λc m Z=>?_);obtain⟨h,a,d,g,f⟩:=Z;cases c with
 | true=>exact DB (j B h b m a _ _ g f λc o p=>k _ _ (p.mono d))
 | false=>exact DC (k _ _ ⟨h,a,d,g,f⟩)
theorem Nw(l:wM K tA A3)(j:wM K tB' B3):wM K (tOr tA tB') (or3 A3 B3):=by
 intro B F b H i Q n e q k;refine l B F b H i _ _ e q (λc m Z=>?_);obtain⟨h,a,d,g,f⟩:=Z;cases c with
 | true=>exact DB (k _ _ ⟨h,a,d,g,f⟩)
 | false=>exact DC (j B h b m a _ _ g f λc o p=>k _ _ (p.mono d))
theorem J3(h:wM K tA A3):wM K (M8 tA) (Of A3):=by
 intro B F b H d Q l e q k;exact h B F b H d _ _ e q (λc m ⟨j,a,f,i,g⟩=>k _ _ ⟨j,a,f,i,g⟩)
theorem xM(b:P3T K X a tA A3):P3W K X (.BoolOp .And [a] pos) tA A3:=⟨J9 b.pe,b.rf⟩
theorem hU(b:P3T K X a tA A3):P3W K X (.BoolOp .Or [a] pos) tA A3:=⟨ND b.pe,b.rf⟩
theorem AK(d:P3T K X a tA A3)(c:P3W K X (.BoolOp .And (b::rest) pos) tB' B3):P3W K X (.BoolOp .And (a::b::rest) pos) (M_ tA tB') (Pu A3 B3):=⟨NF d.pe c.pe,J7 d.rf c.rf⟩
theorem kP(d:P3T K X a tA A3)(c:P3W K X (.BoolOp .Or (b::rest) pos) tB' B3):P3W K X (.BoolOp .Or (a::b::rest) pos) (tOr tA tB') (or3 A3 B3):=⟨Qv d.pe c.pe,Nw d.rf c.rf⟩
theorem P3W.pt(h:P3W K X e tA A3):P3T K X e tA A3:=⟨h.pe.pt,h.rf⟩
theorem bC(b:P3T K X a tA A3):P3T K X (.UnaryOp .Not a pos) (M8 tA) (Of A3):=⟨NH b.pe,J3 b.rf⟩
set_option backward.eqns.nonrecursive false in
def MU (c b:TE3)(Γ:G)(Q:RV->G->Prop):Prop:=c Γ λx a=>match x.d with
 | .bl true=>b a Q
 | .bl false=>Q (.fz (.bl false)) a
 | _=>False
set_option backward.eqns.nonrecursive false in
def QY (c b:TE3)(Γ:G)(Q:RV->G->Prop):Prop:=c Γ λx a=>match x.d with
 | .bl true=>Q (.fz (.bl true)) a
 | .bl false=>b a Q
 | _=>False
set_option backward.eqns.nonrecursive false in
def Md (b:TE3)(Γ:G)(Q:RV->G->Prop):Prop:=b Γ λx a=>match x.d with
 | .bl k=>Q (.fz (.bl (!k))) a
 | _=>False
theorem kQ{op}(h:P3 K X a ta a3):P3 K X (.BoolOp op [a] pos) ta a3:=⟨NV h.pe,h.rf⟩
theorem iA(o:P3 K X a ta a3)(n:P3 K X (.BoolOp .And (b::rest) pos) tb b3):P3 K X (.BoolOp .And (a::b::rest) pos) (L6 ta tb) (MU a3 b3):=⟨N0 o.pe n.pe,by
 intro B F l H r Q w e q k;refine o.rf B F l H r _ _ e q (λv u Z=>?_);obtain⟨z,h,x,m,t,s,d⟩:=Z;obtain⟨j,f,g,c⟩:=t.frozen s
 revert c d
 split
 .rename_i i;intro d c;rw[i] at c;exact⟨true,c,DB (n.rf B j l u h _ _ g d λv y p=>k _ _ (p.mono (m.trans f)))⟩
 .rename_i i;intro d c;rw[i] at c;exact⟨false,c,DC (k _ _ (Po.mono (m.trans f) (su g d)))⟩
 .intro d;exact d.elim⟩
theorem QR(o:P3 K X a ta a3)(n:P3 K X (.BoolOp .Or (b::rest) pos) tb b3):P3 K X (.BoolOp .Or (a::b::rest) pos) (P8 ta tb) (QY a3 b3):=⟨QJ o.pe n.pe,by
 intro B F l H r Q w e q k;refine o.rf B F l H r _ _ e q (λv u Z=>?_);obtain⟨z,h,x,m,t,s,d⟩:=Z;obtain⟨j,f,g,c⟩:=t.frozen s
 revert c d
 split
 .rename_i i;intro d c;rw[i] at c;exact⟨true,c,DB (k _ _ (Po.mono (m.trans f) (su g d)))⟩
 .rename_i i;intro d c;rw[i] at c;exact⟨false,c,DC (n.rf B j l u h _ _ g d λv y p=>k _ _ (p.mono (m.trans f)))⟩
 .intro d;exact d.elim⟩
theorem HM(g:P3 K X a ta a3):P3 K X (.UnaryOp .Not a pos) (L1 ta) (Md a3):=⟨NW g.pe,by
 intro B F h H j Q r e q k;refine g.rf B F h H j _ _ e q (λv s Z=>?_);obtain⟨t,i,x,l,o,m,c⟩:=Z;obtain⟨p,d,f,b⟩:=o.frozen m
 revert b c
 split
 .rename_i n;intro c b;rw[n] at b;exact⟨_,b,k _ _ (Po.mono (l.trans d) (su f c))⟩
 .intro c;exact c.elim⟩
def if3 (e:TT3)(d b:TE3)(Γ:G)(Q:RV->G->Prop):Prop:=e Γ λc a=>bT c (d a Q) (b a Q) ⟨⟩ ⟨⟩
theorem HN{c:Expr}(i:P3T K X c tA A3)(l:P3 K X a ta a3)(j:P3 K X b tb b3):P3 K X (.IfExp c a b pos) (tIf tA ta tb) (if3 A3 a3 b3):=⟨HD i.pe l.pe j.pe,by
 intro B F f H r Q t e q k;refine i.rf B F f H r _ _ e q (λc n Z=>?_);obtain⟨o,d,g,m,h⟩:=Z;cases c with
 | true=>exact DB (l.rf B o f n d _ _ m h λv s p=>k _ _ (p.mono g))
 | false=>exact DC (j.rf B o f n d _ _ m h λv s p=>k _ _ (p.mono g))⟩
end
abbrev TA3:=G->(List D->G->Prop)->Prop
noncomputable def PoA (K:Fg0)(B:Bs)(F:Hp)(σ:_2.St)(Q:List D->G->Prop):List V->Hp->Prop:=λvs H'=>∃ b a ds,aS F b/\En K B b σ H' a/\aE K b ds vs/\Q ds a
def SS (K:Fg0)(t:TA)(b:TA3):Prop:=∀ (B:Bs) (F:Hp) (σ:_2.St) (H:Hp) (Γ:G) (Q:List D->G->Prop) (a:List V->Hp->Prop),En K B F σ H Γ->b Γ Q->(∀ vs H',PoA K B F σ Q vs H'->a vs H')->t σ H a
structure P3A (K:Fg0) (X:Cx) (es:List Expr) (t:TA) (t3:TA3):Prop where
 pe:PA X es t
 rf:SS K t t3
section
variable {X:Cx}{te:TE}{e3:TE3}{t:TA}{t3:TA3}
def HY (Γ:G)(Q:List D->G->Prop):Prop:=Q [] Γ
def qQ (d:TE3)(c:TA3)(Γ:G)(Q:List D->G->Prop):Prop:=d Γ λx b=>c b λxs a=>Q (x.d::xs) a
theorem aq:P3A K X [] rX HY:=⟨rA,λB F b H a Q c e q k=>k _ _ ⟨F,a,[],aS.refl F,e,rfl,q⟩⟩
theorem ae(l:P3 K X e te e3)(j:P3A K X es t t3)(w:autoParam (eh (e::es) X.env=(false,eval e X.env)::eh es X.env) wE):P3A K X (e::es) (lq te t) (qQ e3 t3):=⟨g_ l.pe j.pe w,by
 intro B F h H m Q E e q k;refine l.rf B F h H m _ _ e q (λv C Z=>?_);obtain⟨I,b,x,o,z,r,u⟩:=Z;obtain⟨g,c,f,d⟩:=z.frozen r;refine j.rf B g h C b _ _ f u (λn G Z=>?_);obtain⟨D,a,A,i,y,p,s⟩:=Z;exact k _ _ ⟨D,a,x.d::A,(o.trans c).trans i,y,⟨v,n,rfl,d.mono i,p⟩,s⟩⟩
def Ro (b:TA3)(Γ:G)(Q:RV->G->Prop):Prop:=b Γ λxs a=>xs.length<=sizeLine/\Q (.fr (.lst xs)) a
def GJ (b:TA3)(Γ:G)(Q:RV->G->Prop):Prop:=b Γ λxs a=>xs.length<=sizeLine/\Q (.fz (.tup xs)) a
theorem bQ(h:P3A K X es t t3):P3 K X (.List es pos) (P9 t) (Ro t3):=⟨NX h.pe,by
 intro B F c H f Q n e q k;refine h.rf B F c H f _ _ e q (λl o Z=>?_);obtain⟨r,d,m,g,j,a,b⟩:=Z;exact⟨by rw[a.length];exact b.1,λp i=>k _ _ (Po.mono g (j7 j i a b.2))⟩⟩
theorem cp{I}(h:P3A K X es t t3):P3 K X (.Tuple es I pos) (JF t) (GJ t3):=⟨C8 h.pe,by
 intro B F c H f Q n e q k;refine h.rf B F c H f _ _ e q (λl o Z=>?_);obtain⟨r,d,m,g,j,a,b⟩:=Z;exact⟨by rw[a.length];exact b.1,λp i=>k _ _ (Po.mono g (AG j i a b.2))⟩⟩
end
noncomputable abbrev dG:=G->(List Bo->G->Prop)->Prop
noncomputable def bD (K:Fg0)(F:Hp)(σ:_2.St):List Bo->List V->Prop
 | [],vs=>vs=[]
 | b::c,vs=>∃ v a,vs=v::a/\vZ K F σ b v/\bD K F σ c a
noncomputable def v5 (K:Fg0)(F H:Hp):List D->List V->Prop
 | [],vs=>vs=[]
 | d::ds,vs=>∃ v a,vs=v::a/\lT K F H d v/\v5 K F H ds a
noncomputable def ats (Γ:G):List Bo->Option (List D)
 | []=>some []
 | b::a=>match b.at Γ,ats Γ a with
  | some d,some ds=>some (d::ds)
  | _,_=>none
noncomputable def Uk (K:Fg0)(B:Bs)(F:Hp)(σ:_2.St)(Q:List Bo->G->Prop):List V->Hp->Prop:=λvs H'=>∃ b a c,aS F b/\En K B b σ H' a/\bD K b σ c vs/\Q c a
def yP (K:Fg0)(t:TA)(b:dG):Prop:=∀ (B:Bs) (F:Hp) (σ:_2.St) (H:Hp) (Γ:G) (Q:List Bo->G->Prop) (a:List V->Hp->Prop),En K B F σ H Γ->b Γ Q->(∀ vs H',Uk K B F σ Q vs H'->a vs H')->t σ H a
structure yQ (K:Fg0) (X:Cx) (es:List Expr) (t:TA) (t3:dG):Prop where
 pe:PA X es t
 rf:yP K t t3
section
variable {X:Cx}{te:TE}{e3:TB3}{t:TA}{t3:dG}{B:Bs}{F H:Hp}{Γ:G}
theorem En.bos(e:En K B F σ H Γ):∀ {c:List Bo} {vs:List V} {ds:List D},bD K F σ c vs->ats Γ c=some ds->v5 K F H ds vs
 | [],_,_,h,q=>by cases q;exact h
 | b::c,_,_,⟨v,f,k,j,i⟩,q=>by
  unfold ats at q;split at q
  .rename_i d ds g a;cases q;exact⟨v,f,k,e.bo j g,e.bos i a⟩
  .cases q
def KP (Γ:G)(Q:List Bo->G->Prop):Prop:=Q [] Γ
def ML (d:TB3)(c:dG)(Γ:G)(Q:List Bo->G->Prop):Prop:=d Γ λx b=>c b λxs a=>Q (x::xs) a
theorem ab:yQ K X [] rX KP:=⟨rA,λB F b H a Q c e q k=>k _ _ ⟨F,a,[],aS.refl F,e,rfl,q⟩⟩
theorem aa(g:P3B K X e te e3)(f:yQ K X es t t3)(p:autoParam (eh (e::es) X.env=(false,eval e X.env)::eh es X.env) wE):yQ K X (e::es) (lq te t) (ML e3 t3):=⟨g_ g.pe f.pe p,by
 intro B F c H h Q A e q k;refine g.rf B F c H h _ _ e q (λv w Z=>?_);obtain⟨z,b,x,j,s,m,o⟩:=Z;refine f.rf B z c w b _ _ s o (λi C Z=>?_);obtain⟨y,a,u,d,r,l,n⟩:=Z;exact k _ _ ⟨y,a,x::u,j.trans d,r,⟨v,i,rfl,m.mono d,l⟩,n⟩⟩
def E6 (K:Fg0)(r:List V->Hp->VK->Prop)(b:List D->TE3):Prop:=∀ (B:Bs) (F:Hp) (σ:_2.St) (H:Hp) (Γ:G) (vs:List V) (ds:List D) (Q:RV->G->Prop) (a:VK),En K B F σ H Γ->v5 K F H ds vs->b ds Γ Q->(∀ v H',Po K B F σ Q v H'->a v H')->r vs H a
def EU (c:List D->TE3)(b:dG)(Γ:G)(Q:RV->G->Prop):Prop:=b Γ λd a=>mL (ats a d) (λds=>c ds a Q) ⟨⟩
theorem Hf{r:List V->Hp->VK->Prop}{d:List D->TE3}(h:E6 K r d)(n:yP K t t3):Ref K (tCB r t) (EU d t3):=by
 intro B F b H f Q s e q k;refine n B F b H f _ _ e q (λg u Z=>?_);obtain⟨w,a,x,i,c,j,Z⟩:=Z;obtain⟨o,m,l⟩:=uO.1 Z;exact h B w b u a g o Q s c (c.bos j m) l λv y p=>k _ _ (p.mono i)
structure B3 (K:Fg0) (X:Cx) (f:Value) (r:List V->Hp->VK->Prop) (c3:List D->TE3):Prop where
 op:eB X f r
 rf:E6 K r c3
variable {p:Pos}{id T:String}{r:List V->Hp->VK->Prop}{c3:List D->TE3}
theorem aw(c:B3 K X (.builtin id) r c3)(i:Gl X x)(h:X.mg x=none)(f:AC x=some (.builtin id))(d:yQ K X (e::es) t t3)(g:autoParam (x≠"__name__") wP)(b:autoParam ((x == ("__debug__":Str))=false) wP)(j:autoParam (eh (e::es) X.env=(false,eval e X.env)::eh es X.env) wE)(a:autoParam ((backTo pos (eh es X.env)).any (·.1)=false) wE):P3 K X (.Call (.Name x p) (e::es) [] pos) (tCB r t) (EU c3 t3):=
 ⟨HH c.op i h f d.pe g b j a,Hf c.rf d.rf⟩
theorem fF(c:B3 K X (.type T) r c3)(i:Gl X x)(h:X.mg x=none)(f:AC x=some (.type T))(d:yQ K X (e::es) t t3)(g:autoParam (x≠"__name__") wP)(b:autoParam ((x == ("__debug__":Str))=false) wP)(j:autoParam (eh (e::es) X.env=(false,eval e X.env)::eh es X.env) wE)(a:autoParam ((backTo pos (eh es X.env)).any (·.1)=false) wE):P3 K X (.Call (.Name x p) (e::es) [] pos) (tCB r t) (EU c3 t3):=
 ⟨Fz c.op i h f d.pe g b j a,Hf c.rf d.rf⟩
set_option backward.eqns.nonrecursive false in
def mx3 (f:Int->Int->Int)(ds:List D)(Γ:G)(Q:RV->G->Prop):Prop:=match ds with
 | [.int i,.int j]=>Q (.fz (.int (f i j))) Γ
 | _=>False
theorem v5.one{d:D}{vs:List V}(h:v5 K F H [d] vs):∃ v,vs=[v]/\lT K F H d v:=by
 obtain⟨v,c,rfl,b,a⟩:=h;cases a;exact⟨v,rfl,b⟩
theorem v5.two{d e:D}{vs:List V}(h:v5 K F H [d,e] vs):∃ v w,vs=[v,w]/\lT K F H d v/\lT K F H e w:=by
 obtain⟨v,f,rfl,c,b⟩:=h;obtain⟨w,rfl,a⟩:=v5.one b;exact⟨v,w,rfl,c,a⟩
noncomputable abbrev fmax (i j:Int):Int:=if j > i then j else i
noncomputable abbrev fmin (i j:Int):Int:=if j < i then j else i
theorem Jk(a:X.calm=true):B3 K X (.builtin "max") (λxs H Q=>∃ i j,xs=[.int i,.int j]/\Q (.int (if j > i then j else i)) H) (mx3 fmax):=⟨Gr a,by
 intro B F c H d f g Q l e r q k;unfold mx3 at q;split at q
 .obtain⟨v,w,rfl,h,b⟩:=r.two;cases h;cases b;exact⟨_,_,rfl,k _ _ (kO e q)⟩
 .exact q.elim⟩
theorem Jj(a:X.calm=true):B3 K X (.builtin "min") (λxs H Q=>∃ i j,xs=[.int i,.int j]/\Q (.int (if j < i then j else i)) H) (mx3 fmin):=⟨Gq a,by
 intro B F c H d f g Q l e r q k;unfold mx3 at q;split at q
 .obtain⟨v,w,rfl,h,b⟩:=r.two;cases h;cases b;exact⟨_,_,rfl,k _ _ (kO e q)⟩
 .exact q.elim⟩
set_option backward.eqns.nonrecursive false in
def OK (ds:List D)(Γ:G)(Q:RV->G->Prop):Prop:=match ds with
 | [.int i]=>Q (.fz (.int i)) Γ
 | [.bl k]=>Q (.fz (.int (if k then 1 else 0))) Γ
 | _=>False
theorem EV:B3 K X (.type "int") (λxs H Q=>(∃ i,xs=[.int i]/\Q (.int i) H)\/∃ k,xs=[.bl k]/\Q (.int (if k then 1 else 0)) H) OK:=⟨Gs,by
 intro B F a H b c d Q f e r q k;unfold OK at q;split at q
 .obtain⟨v,rfl,h⟩:=r.one;cases h;exact .inl ⟨_,rfl,k _ _ (kO e q)⟩
 .obtain⟨v,rfl,h⟩:=r.one;cases h;exact .inr ⟨_,rfl,k _ _ (kO e q)⟩
 .exact q.elim⟩
set_option backward.eqns.nonrecursive false in
noncomputable def K2:D->Option Nat
 | .lst xs=>some xs.length
 | .tup xs=>some xs.length
 | .ktup xs=>some xs.length
 | .scr ns=>some ns.length
 | _=>none
set_option backward.eqns.nonrecursive false in
def Ot (ds:List D)(Γ:G)(Q:RV->G->Prop):Prop:=match ds with
 | [.str z]=>z.length<=sizeLine/\Q (.fz (.int z.length)) Γ
 | [d]=>∃ n,K2 d=some n/\Q (.fz (.int n)) Γ
 | _=>False
noncomputable abbrev S2 (K:Fg0):List V->Hp->VK->Prop:=λxs H Q=>(∃ p ys,xs=[.ref p]/\(SqL K H p ys\/SqT K H p ys)/\Q (.int ys.length) H)\/(∃ z,xs=[.str z]/\z.length<=sizeLine/\Q (.int z.length) H)
theorem eB.or'{f:Value}{r e:List V->Hp->VK->Prop}(h:eB X f r)(h':eB X f e):eB X f (λxs H Q=>r xs H Q\/e xs H Q):=by
 intro a s b H xs c Q I d q;rcases q with q | q
 .exact h a s b H xs c Q I d q
 .exact h' a s b H xs c Q I d q
theorem K1{d:D}{v:V}(s:aS F H)(h:lT K F H d v)(a:K2 d=some n):∃ p ys,v=.ref p/\(SqL K H p ys\/SqT K H p ys)/\ys.length=n:=by
 unfold K2 at a;split at a
 .cases a;obtain⟨p,c,rfl,b,e⟩:=h;exact⟨p,c,rfl,.inl (SqL.of b),e.length⟩
 .cases a;obtain⟨p,c,rfl,b,e⟩:=h;exact⟨p,c,rfl,.inr (.inl (.inl (s _ _ b))),e.length⟩
 .cases a;obtain⟨p,c,rfl,b,e⟩:=h;exact⟨p,c,rfl,.inr (SqT.same s b),e.length⟩
 .cases a;obtain⟨p,rfl,b⟩:=h;exact⟨p,_,rfl,.inl (s.seq b),by simp⟩
 .cases a
theorem bR(f:X.K=K):B3 K X (.builtin "len") (S2 K) Ot:=⟨by subst f;exact eB.or' Bb Ba,by
 intro B F g H i j l Q m e r q k;unfold Ot at q;split at q
 .obtain⟨v,rfl,h⟩:=r.one;cases h;exact .inr ⟨_,rfl,q.1,k _ _ (kO e q.2)⟩
 .obtain⟨v,rfl,h⟩:=r.one;obtain⟨n,c,q⟩:=q;obtain⟨p,a,rfl,b,d⟩:=K1 e.sub h c;subst d;exact .inl ⟨p,a,rfl,b,k _ _ (kO e q)⟩
 .exact q.elim⟩
end
section
variable {X:Cx}{b c:Expr}{ta tb tc:TE}{a3 b3 c3:TB3}{B:Bs}{F H:Hp}{Γ:G}
theorem aE.atI{xs:List D}{vs:List V}(h:aE K F xs vs){i:Int}{d:D}(e:atI xs i=some d):∃ v,_2.atI vs i=some v/\Rep K F d v:=by
 unfold _2.atI at e ⊢;rw[h.length];cases q:ixN xs.length i with
 | none=>rw[q] at e;cases e
 | some j=>
  rw[q] at e;exact h.get e
def ix3 (x y:D)(Γ:G)(Q:RV->G->Prop):Prop:=match x,y with
 | .lst xs,.int i=>m1 (atI xs i) (λd=>Q (.fz d) Γ) ⟨⟩
 | .tup xs,.int i=>m1 (atI xs i) (λd=>Q (.fz d) Γ) ⟨⟩
 | .ktup xs,.int i=>∃ d,atI xs i=some d/\Q (.fz d) Γ
 | .scr ns,.int i=>∃ n,atI ns i=some n/\Q (.fz (.int n)) Γ
 | .str z,.int i=>z.length<=sizeLine/\∃ c,atI z.cps.toList i=some c/\Q (.fz (.str ⟨#[c]⟩)) Γ
 | _,_=>False
theorem EY{a b:Type}{f:a->b}{xs:List a}{i:Int}{d:a}(e:atI xs i=some d):atI (xs.map f) i=some (f d):=by
 unfold _2.atI at e ⊢;rw[lM0];cases q:ixN xs.length i with
 | none=>rw[q] at e;cases e
 | some j=>
  rw[q] at e;show (xs.map f)[j]?=_;rw[dV,show xs[j]?=some d from e]
  rfl
theorem Rv:pQ K (rIx K) ix3:=by
 intro B F n H o x y t s Q u e h g q k;unfold ix3 at q;split at q
 .obtain⟨d,a,q⟩:=bX.1 q;obtain⟨p,f,rfl,b,j⟩:=h;cases g;obtain⟨v,i,r⟩:=j.atI a;exact .inl ⟨p,f,_,v,rfl,rfl,SqL.of b,i,k _ _ (j8 e r q)⟩
 .obtain⟨d,a,q⟩:=bX.1 q;obtain⟨p,f,rfl,b,j⟩:=h;cases g;obtain⟨v,i,r⟩:=j.atI a;exact .inr (.inl ⟨p,f,_,v,rfl,rfl,.inl (.inl (e.sub _ _ b)),i,k _ _ (j8 e r q)⟩)
 .obtain⟨d,a,q⟩:=q;obtain⟨p,f,rfl,b,j⟩:=h;cases g;obtain⟨v,i,r⟩:=j.atI a;exact .inr (.inl ⟨p,f,_,v,rfl,rfl,SqT.same e.sub b,i,k _ _ (j8 e r q)⟩)
 .obtain⟨d,a,q⟩:=q;obtain⟨p,rfl,b⟩:=h;cases g;exact .inl ⟨p,_,_,.int d,rfl,rfl,e.sub.seq b,EY a,k _ _ (kO e q)⟩
 .cases h;cases g;obtain⟨l,c,m,q⟩:=q;exact .inr (.inr ⟨_,_,c,rfl,rfl,l,m,k _ _ (Hs e q)⟩)
 .exact q.elim
theorem aR(f:X.K=K)(d:P3B K X a ta a3)(c:P3B K X b tb b3)(e:E4 b):P3 K X (.Subscript a b pos) (tOp (rIx K) ta tb) (uo ix3 a3 b3):=⟨QK (by subst f;exact OF) d.pe c.pe e,jv Rv d.rf c.rf⟩
noncomputable def cut {α:Type}(xs:List α)(lo a:Option Int):List α:=(xs.drop (_h.sIx xs.length 0 lo)).take (_h.sIx xs.length xs.length a - _h.sIx xs.length 0 lo)
noncomputable def pk {α:Type}(xs:List α)(lo a st:Option Int):List α:=(Vc (rx lo a st xs.length).1 (rx lo a st xs.length).2.1 (rx lo a st xs.length).2.2).filterMap (xs[·]?)
theorem aE.cut {xs:List D}{vs:List V}(h:aE K F xs vs)(lo a:Option Int):aE K F (cut xs lo a) (zg vs lo a):=by
 unfold _3.cut zg;rw[h.length];exact(h.drop _).take _
theorem aE.places{xs:List D}{vs:List V}(h:aE K F xs vs):∀ b:List Nat,aE K F (b.filterMap (xs[·]?)) (b.filterMap (vs[·]?))
 | []=>rfl
 | j::b=>by
  have c:=h.places b;cases a:xs[j]? with
  | some x=>
   obtain⟨u,e,r⟩:=h.get a;simp only[td,a,e];exact⟨u,_,rfl,r,c⟩
  | none=>
   have d:vs[j]?=none:=by
    rw[Uc] at a ⊢;rw[h.length];exact a
   simp only[td,a,d];exact c
theorem aE.pk {xs:List D}{vs:List V}(h:aE K F xs vs)(lo a st:Option Int):aE K F (pk xs lo a st) (oA vs lo a st):=by
 unfold _3.pk oA;rw[h.length];exact h.places _
abbrev TO3:=G->(Option Int->G->Prop)->Prop
def Uj (K:Fg0)(t:TO)(d:TO3):Prop:=∀ (B:Bs) (F:Hp) (σ:_2.St) (H:Hp) (Γ:G) (Q:Option Int->G->Prop) (b:Option Int->Hp->Prop),En K B F σ H Γ->d Γ Q->(∀ o H',(∃ c a,aS F c/\En K B c σ H' a/\Q o a)->b o H')->t σ H b
structure P3O (K:Fg0) (X:Cx) (e:Option Expr) (t:TO) (t3:TO3):Prop where
 pe:PO X e t
 rf:Uj K t t3
def Me (Γ:G)(Q:Option Int->G->Prop):Prop:=Q none Γ
def L7 (b:TB3)(Γ:G)(Q:Option Int->G->Prop):Prop:=b Γ λx a=>∃ i,x.at a=some (.int i)/\Q (some i) a
theorem bP:P3O K X none D2 Me:=⟨Kg,λB F b H a Q c e q k=>k _ _ ⟨F,a,aS.refl F,e,q⟩⟩
theorem bg(h:P3B K X a ta a3):P3O K X (some a) (LZ ta) (L7 a3):=⟨Kf h.pe,by
 intro B F d H f Q o e q k;refine h.rf B F d H f _ _ e q (λv p Z=>?_);obtain⟨n,b,x,g,c,j,i,m,l⟩:=Z;have:v=.int i:=c.bo j m;exact⟨i,this,k _ _ ⟨n,b,g,c,l⟩⟩⟩
def sl3 (f:TB3)(d e:TO3)(Γ:G)(Q:RV->G->Prop):Prop:=f Γ λx c=>d c λlo b=>e b λhi a=>∃ xs,x.at a=some (.lst xs)/\Q (.fr (.lst (cut xs lo hi))) a
theorem de{tl h:TO}{m c:TO3}(D:X.K=K)(o:P3B K X a ta a3)(b:P3O K X lo tl m)(n:P3O K X hi h c):P3 K X (.Subscript a (.Slice lo hi none p2) pos) (tSl (Qq K) ta tl h) (sl3 a3 m c):=
 ⟨BQ (by subst D;exact JM) o.pe b.pe n.pe,by
 intro B F d H t Q R e q k;refine o.rf B F d H t _ _ e q (λv M Z=>?_);obtain⟨O,g,x,w,J,y,C⟩:=Z;refine b.rf B O d M g _ _ J C (λlo L Z=>?_);obtain⟨N,f,j,I,A⟩:=Z;refine n.rf B N d L f _ _ I A (λhi S Z=>?_);obtain⟨T,s,i,r,P,c,z⟩:=Z;obtain⟨p,u,rfl,G,E⟩:=r.bo (y.mono (j.trans i)) c;exact⟨p,u,rfl,SqL.of G,λl b=>k _ _ (Po.mono ((w.trans j).trans i) (j7 r b (E.cut lo hi) z))⟩⟩
def Qd (f:TB3)(d e:TO3)(Γ:G)(Q:RV->G->Prop):Prop:=f Γ λx c=>d c λlo b=>e b λhi a=>∃ xs,x.at a=some (.tup xs)/\¬ (_h.sIx xs.length 0 lo=0/\_h.sIx xs.length xs.length hi=xs.length)/\Q (.fz (.tup (cut xs lo hi))) a
theorem FC{tl i:TO}{n c:TO3}(G:X.K=K)(r:P3B K X a ta a3)(b:P3O K X lo tl n)(o:P3O K X hi i c):P3 K X (.Subscript a (.Slice lo hi none p2) pos) (tSl (Qp K) ta tl i) (Qd a3 n c):=
 ⟨BQ (by subst G;exact Nf) r.pe b.pe o.pe,by
 intro B F d H u Q S e q k;refine r.rf B F d H u _ _ e q (λv N Z=>?_);obtain⟨P,g,x,y,L,z,D⟩:=Z;refine b.rf B P d N g _ _ L D (λlo M Z=>?_);obtain⟨O,f,m,J,C⟩:=Z;refine o.rf B O d M f _ _ J C (λhi T Z=>?_);obtain⟨U,t,j,h,R,c,E,A⟩:=Z;obtain⟨p,w,rfl,I,s⟩:=h.bo (z.mono (m.trans j)) c;exact⟨p,w,rfl,.inl (.inl (h.sub _ _ I)),by rw[s.length];exact E,λl b=>k _ _ (Po.mono ((y.trans m).trans j) (AG h b (s.cut lo hi) A))⟩⟩
def Qe (h:TB3)(f g e:TO3)(Γ:G)(Q:RV->G->Prop):Prop:=h Γ λx d=>f d λlo c=>g c λhi b=>e b λst a=>st≠some 0/\∃ xs,x.at a=some (.lst xs)/\Q (.fr (.lst (pk xs lo hi st))) a
theorem lA{st:Expr}{tl m j:TO}{r w b:TO3}(M:X.K=K)(u:P3B K X a ta a3)(d:P3O K X lo tl r)(t:P3O K X hi m w)(s:P3O K X (some st) j b):P3 K X (.Subscript a (.Slice lo hi (some st) p2) pos) (P5 K ta tl m j) (Qe a3 r w b):=
 ⟨by subst M;exact Fx u.pe d.pe t.pe s.pe,by
 intro B F c H A Q QQ e q k;refine u.rf B F c H A _ _ e q (λv W Z=>?_);obtain⟨F1,h,x,D,T,E,L⟩:=Z;refine d.rf B F1 c W h _ _ T L (λlo V Z=>?_);obtain⟨F2,g,o,S,J⟩:=Z;refine t.rf B F2 c V g _ _ S J (λhi U Z=>?_);obtain⟨Y,f,b,R,I⟩:=Z;refine s.rf B Y c U f _ _ R I (λst H4 Z=>?_);obtain⟨F4,z,n,y,i,xs,P,G⟩:=Z;obtain⟨p,C,rfl,O,N⟩:=y.bo (E.mono ((o.trans b).trans n)) P;exact⟨i,p,C,rfl,SqL.of O,λl d=>k _ _ (Po.mono (((D.trans o).trans b).trans n) (j7 y d (N.pk lo hi st) G))⟩⟩
set_option backward.eqns.nonrecursive false in
noncomputable def x_:D->Option (List D)
 | .lst xs=>some xs
 | .tup xs=>some xs
 | .ktup xs=>some xs
 | .scr ns=>some (ns.map .int)
 | _=>none
theorem zI{d:D}{v:V}{xs:List D}(s:aS F H)(h:lT K F H d v)(a:x_ d=some xs):∃ p ys,v=.ref p/\(SqL K H p ys\/SqT K H p ys)/\aE K F xs ys:=by
 unfold x_ at a;split at a
 .cases a;obtain⟨p,c,rfl,b,e⟩:=h;exact⟨p,c,rfl,.inl (SqL.of b),e⟩
 .cases a;obtain⟨p,c,rfl,b,e⟩:=h;exact⟨p,c,rfl,.inr (.inl (.inl (s _ _ b))),e⟩
 .cases a;obtain⟨p,c,rfl,b,e⟩:=h;exact⟨p,c,rfl,.inr (SqT.same s b),e⟩
 .cases a;obtain⟨p,rfl,b⟩:=h;exact⟨p,_,rfl,.inl (s.seq b),aE.ints _⟩
 .cases a
set_option backward.eqns.nonrecursive false in
def Ib (ds:List D)(Γ:G)(Q:RV->G->Prop):Prop:=match ds with
 | [d]=>∃ xs,x_ d=some xs/\Q (.fr (.lst xs)) Γ
 | _=>False
theorem Pk(f:X.K=K):B3 K X (.type "list") (λxs H Q=>∃ p ys,xs=[.ref p]/\(SqL K H p ys\/SqT K H p ys)/\∀ l,H l=none->Q (.ref l) (upd H l (.lst ys))) Ib:=⟨by subst f;exact A_,by
 intro B F g H i j m Q n e r q k;unfold Ib at q;split at q
 .obtain⟨v,rfl,h⟩:=r.one;obtain⟨xs,b,q⟩:=q;obtain⟨p,ys,rfl,a,c⟩:=zI e.sub h b;exact⟨p,ys,rfl,a,λl d=>k _ _ (j7 e d c q)⟩
 .exact q.elim⟩
set_option backward.eqns.nonrecursive false in
def CQ (ds:List D)(Γ:G)(Q:RV->G->Prop):Prop:=match ds with
 | [.lst xs]=>Q (.fz (.tup xs)) Γ
 | _=>False
theorem Be(b:X.K=K):B3 K X (.type "tuple") (λxs H Q=>∃ p ys,xs=[.ref p]/\((SqL K H p ys/\∀ l,H l=none->Q (.ref l) (upd H l (.tup ys)))\/(SqT K H p ys/\Q (.ref p) H))) CQ:=⟨by subst b;exact zi,by
 intro B F f H g h i Q j e r q k;unfold CQ at q;split at q
 .obtain⟨v,rfl,p,ys,rfl,d,c⟩:=r.one;exact⟨p,ys,rfl,.inl ⟨SqL.of d,λl a=>k _ _ (AG e a c q)⟩⟩
 .exact q.elim⟩
set_option backward.eqns.nonrecursive false in
noncomputable def knD:D->Bool
 | .non=>true | .bl _=>true | .int _=>true | .str _=>true | .lst _=>true | .tup _=>true | .dct=>true | .dcs _ _=>true | _=>false
theorem Ig{d:D}{v:V}(s:aS F H)(h:lT K F H d v)(b:knD d=true):Kn H v:=by
 unfold knD at b;split at b
 .cases h;exact .non
 .cases h;exact .bl _
 .cases h;exact .int _
 .cases h;exact .str _
 .obtain⟨p,c,rfl,a,_⟩:=h;exact .lst a
 .obtain⟨p,c,rfl,a,_⟩:=h;exact .tup (s _ _ a)
 .obtain⟨p,rfl,a⟩:=h;exact .dK (s _ _ a)
 .obtain⟨p,rfl,a⟩:=h;exact .dK (s _ _ a)
 .cases b
set_option backward.eqns.nonrecursive false in
noncomputable def dB:D->Bool
 | .bl _=>true | _=>false
set_option backward.eqns.nonrecursive false in
noncomputable def dI:D->Bool
 | .bl _=>true | .int _=>true | _=>false
set_option backward.eqns.nonrecursive false in
noncomputable def dL:D->Bool
 | .lst _=>true | _=>false
set_option backward.eqns.nonrecursive false in
noncomputable def dT:D->Bool
 | .tup _=>true | _=>false
set_option backward.eqns.nonrecursive false in
def is3 (t:String)(f:D->Bool)(ds:List D)(Γ:G)(Q:RV->G->Prop):Prop:=match ds with
 | [d,.ty t']=>t'=t/\knD d=true/\Q (.fz (.bl (f d))) Γ
 | _=>False
theorem Jl{t:String}{f:D->Bool}{g:Hp->V->Bool}(h:eB X (.builtin "isinstance") (λxs H Q=>∃ x,xs=[x,.ty t]/\Kn H x/\Q (.bl (g H x)) H))(c:∀ {F H:Hp} {d:D} {v:V},aS F H->lT K F H d v->knD d=true->g H v=f d):B3 K X (.builtin "isinstance") (λxs H Q=>∃ x,xs=[x,.ty t]/\Kn H x/\Q (.bl (g H x)) H) (is3 t f):=⟨h,by
 intro B F j H l m n Q o e r q k;unfold is3 at q;split at q
 .obtain⟨v,w,rfl,b,i⟩:=r.two;obtain⟨rfl,a,q⟩:=q;cases i;exact⟨v,rfl,Ig e.sub b a,by rw[c e.sub b a];exact k _ _ (su e q)⟩
 .exact q.elim⟩
theorem Sy(T:i8 X.K):B3 K X (.builtin "isinstance") (λxs H Q=>∃ x,xs=[x,.ty "bool"]/\Kn H x/\Q (.bl (isB x)) H) (is3 "bool" dB):=Jl (g:=λ_ v=>isB v) (Jg T) λs h a=>by
 unfold knD at a;split at a
 .cases h;rfl
 .cases h;rfl
 .cases h;rfl
 .cases h;rfl
 .obtain⟨p,c,rfl,b,_⟩:=h;rfl
 .obtain⟨p,c,rfl,b,_⟩:=h;rfl
 .obtain⟨p,rfl,b⟩:=h;rfl
 .obtain⟨p,rfl,b⟩:=h;rfl
 .cases a
theorem Sx(T:i8 X.K):B3 K X (.builtin "isinstance") (λxs H Q=>∃ x,xs=[x,.ty "int"]/\Kn H x/\Q (.bl (isI x)) H) (is3 "int" dI):=Jl (g:=λ_ v=>isI v) (Je T) λs h a=>by
 unfold knD at a;split at a
 .cases h;rfl
 .cases h;rfl
 .cases h;rfl
 .cases h;rfl
 .obtain⟨p,c,rfl,b,_⟩:=h;rfl
 .obtain⟨p,c,rfl,b,_⟩:=h;rfl
 .obtain⟨p,rfl,b⟩:=h;rfl
 .obtain⟨p,rfl,b⟩:=h;rfl
 .cases a
theorem MQ(T:i8 X.K):B3 K X (.builtin "isinstance") (λxs H Q=>∃ x,xs=[x,.ty "list"]/\Kn H x/\Q (.bl (isL H x)) H) (is3 "list" dL):=Jl (Jd T) λs h b=>by
 unfold knD at b;split at b
 .cases h;rfl
 .cases h;rfl
 .cases h;rfl
 .cases h;rfl
 .obtain⟨p,c,rfl,a,_⟩:=h;exact EE a
 .obtain⟨p,c,rfl,a,_⟩:=h;exact ED (s _ _ a)
 .obtain⟨p,rfl,a⟩:=h;exact DE (s _ _ a)
 .obtain⟨p,rfl,a⟩:=h;exact DE (s _ _ a)
 .cases b
theorem Su(T:i8 X.K):B3 K X (.builtin "isinstance") (λxs H Q=>∃ x,xs=[x,.ty "tuple"]/\Kn H x/\Q (.bl (isT H x)) H) (is3 "tuple" dT):=Jl (Jb T) λs h b=>by
 unfold knD at b;split at b
 .cases h;rfl
 .cases h;rfl
 .cases h;rfl
 .cases h;rfl
 .obtain⟨p,c,rfl,a,_⟩:=h;exact EC a
 .obtain⟨p,c,rfl,a,_⟩:=h;exact EB (s _ _ a)
 .obtain⟨p,rfl,a⟩:=h;exact DD (s _ _ a)
 .obtain⟨p,rfl,a⟩:=h;exact DD (s _ _ a)
 .cases b
set_option backward.eqns.nonrecursive false in
def PC (ds:List D)(Γ:G)(Q:RV->G->Prop):Prop:=match ds with
 | [.lst xs]=>∃ a:List Bool,xs=a.map .bl/\Q (.fz (.bl (a.all id))) Γ
 | _=>False
theorem aE.EW:∀ {a:List Bool} {vs:List V},aE K F (a.map D.bl) vs->vs=a.map V.bl
 | [],_,h=>h
 | n::f,_,Z=>by
  obtain⟨v,e,d,c,b⟩:=Z;rw[d,aE.EW b];have:v=.bl n:=c;rw[this];rfl
theorem Jm(c:X.K=K)(b:X.calm=true):B3 K X (.builtin "all") (λxs H Q=>∃ (p:Addr) (a:List Bool),xs=[.ref p]/\SqL K H p (a.map V.bl)/\Q (.bl (a.all id)) H) PC:=⟨by subst c;exact Gu b,by
 intro B F g H h j l Q m e r q k;unfold PC at q;split at q
 .obtain⟨a,rfl,q⟩:=q;obtain⟨v,rfl,p,i,rfl,f,d⟩:=r.one;exact⟨p,a,rfl,SqL.of (by rw[f,d.EW]),k _ _ (su e q)⟩
 .exact q.elim⟩
noncomputable def flD:D->Bool
 | .non=>true | .bl _=>true | .int _=>true | .str _=>true | _=>false
noncomputable def toV:D->V
 | .bl b=>.bl b | .int i=>.int i | .str x=>.str x | _=>.non
theorem MH{d:D}{v:V}(h:lT K F H d v)(a:flD d=true):v=toV d/\qx v=true:=by
 unfold flD at a;split at a
 .cases h;exact⟨rfl,rfl⟩
 .cases h;exact⟨rfl,rfl⟩
 .cases h;exact⟨rfl,rfl⟩
 .cases h;exact⟨rfl,rfl⟩
 .cases a
theorem MG (s:aS F H):∀ {xs:List D} {vs:List V},aE K F xs vs->xs.all flD=true->vs=xs.map toV/\vs.all qx=true
 | [],_,h,_=>by cases h;exact⟨rfl,rfl⟩
 | x::xs,_,⟨v,j,i,g,f⟩,e=>by
  rw[Ve,ng] at e;obtain⟨a,b⟩:=MG s f e.2;obtain⟨c,d⟩:=MH (Rep.b s g) e.1;subst i a c;refine⟨rfl,?_⟩;rw[Ve,d,b];rfl
def in3 (a:Bool)(x y:D)(Γ:G)(Q:RV->G->Prop):Prop:=∃ xs,x_ y=some xs/\flD x=true/\xs.all flD=true/\Q (.fz (.bl (if a then !inV (toV x) (xs.map toV) else inV (toV x) (xs.map toV)))) Γ
theorem Rz(f:Bool):pQ K (rIn K f) (in3 f):=by
 intro B F o H r x y v u Q w e h g q k;obtain⟨t,j,n,m,q⟩:=q;obtain⟨p,s,rfl,i,l⟩:=zI e.sub g j;obtain⟨a,b⟩:=MG e.sub l m;obtain⟨c,d⟩:=MH h n;subst a c;exact⟨p,_,rfl,i,d,b,k _ _ (su e q)⟩
theorem nB(a:X.K=K):C3 K X .In (rIn K false) (in3 false):=⟨by subst a;exact FE,Rz false⟩
theorem aE.lookup:∀ {ns:Ls0} {xs:List D} {c:List (Str×V)} {f:Str} {d:D},c.map (·.1)=ns->aE K F xs (c.map (·.2))->(ns.zip xs).lookup f=some d->∃ v,c.lookup f=some v/\Rep K F d v
 | [],_,[],f,d,_,_,h=>by simp at h
 | n::ns,xs,(m,u)::c,f,d,b,g,a=>by
  simp only[sS,Wr] at b;obtain⟨rfl,b⟩:=b;cases xs with
  | nil=>simp at a
  | cons x xs=>
   obtain⟨v,i,e,r,g⟩:=g;simp only[sS,Wr] at e;obtain⟨rfl,rfl⟩:=e;rw[Xk,ek] at a;rw[ek];cases q:f == m with
   | true=>rw[q] at a;cases a;exact⟨_,rfl,r⟩
   | false=>rw[q] at a;exact aE.lookup b g a
end
set_option genInjectivity false in
structure E3 where
 nx:G->Prop
 rt:RV->G->Prop
 bk:G->Prop:=λ_=>False
 ct:G->Prop:=λ_=>False
abbrev TS3:=E3->G->Prop
structure E5 (K:Fg0) (B:Bs) (F:Hp) (D:Ends) (D3:E3):Prop where
 nx:∀ F' σ' H' Γ',aS F F'->En K B F' σ' H' Γ'->D3.nx Γ'->D.nx σ' H'
 rt:∀ F' σ' H' Γ' v r,aS F F'->En K B F' σ' H' Γ'->uj K B F' σ' H' Γ' v r->D3.rt r Γ'->D.rt v H'
 bk:∀ F' σ' H' Γ',aS F F'->En K B F' σ' H' Γ'->D3.bk Γ'->D.bk σ' H'
 ct:∀ F' σ' H' Γ',aS F F'->En K B F' σ' H' Γ'->D3.ct Γ'->D.ct σ' H'
theorem E5.mono{B:Bs}{F f:Hp}{D:Ends}{D3:E3}(h:E5 K B F D D3)(s:aS F f):E5 K B f D D3:=
 ⟨λe a d b c=>h.nx e a d b (s.trans c),λe a d b v r c=>h.rt e a d b v r (s.trans c),λe a d b c=>h.bk e a d b (s.trans c),λe a d b c=>h.ct e a d b (s.trans c)⟩
def LQ (K:Fg0)(t:TS)(b:TS3):Prop:=∀ (B:Bs) (F:Hp) (σ:_2.St) (H:Hp) (Γ:G) (D:Ends) (a:E3),En K B F σ H Γ->E5 K B F D a->b a Γ->t D σ H
structure P3S (K:Fg0) (X:Cx) (st:Stmt) (t:TS) (t3:TS3):Prop where
 pe:PS X st t
 rf:LQ K t t3
structure Bm (K:Fg0) (X:Cx) (st:List Stmt) (t:TS) (t3:TS3):Prop where
 pe:PSs X st t
 rf:LQ K t t3
section
variable {X:Cx}{B:Bs}{F H:Hp}{Γ:G}
noncomputable def TM:Option Sl->Bool
 | some (.ln _)=>false
 | _=>true
noncomputable def frB:G->Nat->Bool
 | s::_,0=>TM s
 | _::Γ,i + 1=>frB Γ i
 | [],_=>false
def bY (Γ:G)(i:Nat):Prop:=match Γ[i]? with
 | some (some (.ln _))=>False
 | some _=>True
 | none=>False
theorem A4:∀ {Γ:G} {i:Nat},frB Γ i=true->bY Γ i
 | [],_,h=>by cases h
 | s::_,0,h=>by rcases s with _ | s;trivial;cases s;trivial;trivial;cases h
 | _::Γ,i + 1,h=>A4 (Γ:=Γ) h
theorem oX(h:bY Γ i):i < Γ.length:=by
 unfold bY at h;split at h
 .exact h.elim
 .rename_i q;exact(gS0 q).1
 .exact h.elim
theorem a8{b:Type}{l:List b}{a:b}(h:i < l.length):(l.set i a)[i]?=some a:=by
 rw[VO,if_pos rfl,if_pos h]
theorem En.set(e:En K B F σ H Γ)(t:bY Γ i){v:V}{r:RV}(n:uj K B F σ H Γ v r)(s:autoParam (r.pl=true) wE):En K B F (σ.set i (some v)) H (Γ.set i (some r.sl)):=by
 have il:=oX t;have m:i < σ.length:=by rw[e.len];exact il
 have J:∀ d,Γ[i]?≠some (some (Sl.ln d)):=λd q=>by unfold bY at t;rw[q] at t;exact t
 have c:∀ {j:Nat},j≠i->(Γ.set i (some r.sl))[j]?=Γ[j]?/\(σ.set i (some v))[j]?=σ[j]?:=λh=>⟨cf (vk h),cf (vk h)⟩;have f:∀ {j x},Hld (Γ.set i (some r.sl)) j x->(j=i/\r=.fr x)\/(j≠i/\Hld Γ j x):=λ{j x} q=>by
  by_cases z:j=i
  .subst z
   left
   refine⟨rfl,?_⟩;rcases q with q | q <;> rw[a8 il] at q <;> cases r <;> first | (cases s;done) | (cases q;done) | (cases q;rfl)
  .right
   exact⟨z,by unfold Hld at q ⊢;rw[(c z).1] at q;exact q⟩
 refine⟨e.sub,by rw[Qh,Qh];exact e.len,?_,?_,?_,?_,?_,?_,e.keep,e.new,e.rest,e.dom⟩
 .intro j d q;by_cases z:j=i
  .subst z;rw[a8 il] at q;cases r with
   | fz x=>cases q;exact⟨v,a8 m,n⟩
   | fr x=>cases q
   | two N M=>cases s
   | rws G=>cases s
   | tol _ _ _=>cases s
  .rw[(c z).1] at q;rw[(c z).2];exact e.fz j d q
 .intro j d q;rcases f q with ⟨rfl,rfl⟩ | ⟨z,q⟩
  .obtain⟨p,rfl,y,w,u,o⟩:=n;exact⟨p,a8 m,y,w⟩
  .rw[(c z).2];exact e.hl j d q
 .intro j d p q a;rcases f (.inl q) with ⟨rfl,rfl⟩ | ⟨z,_⟩
  .obtain⟨E,rfl,y,w,u,o⟩:=n;rw[a8 m] at a;cases a;exact u
  .rw[(c z).1] at q;rw[(c z).2] at a;exact e.ow j d p q a
 .intro j d p q a;rcases f (.inr q) with ⟨rfl,rfl⟩ | ⟨z,_⟩
  .rw[a8 il] at q;cases q
  .rw[(c z).1] at q;rw[(c z).2] at a;exact e.ln j d p q a
 .intro j k d L p I D l g;rcases f I with ⟨rfl,rfl⟩ | ⟨z1,C⟩
  .rcases f D with ⟨rfl,h⟩ | ⟨z2,A⟩
   .rfl
   .obtain⟨E,rfl,y,w,u,o⟩:=n;rw[a8 m] at l;cases l;rw[(c z2).2] at g;exact absurd g (o k _ A)
  .rcases f D with ⟨rfl,h⟩ | ⟨z2,A⟩
   .subst h;obtain⟨E,rfl,y,w,u,o⟩:=n;rw[a8 m] at g;cases g;rw[(c z1).2] at l;exact absurd l (o j _ C)
   .rw[(c z1).2] at l;rw[(c z2).2] at g;exact e.dis j k d L p C A l g
 .intro j p q;obtain⟨a,d,b⟩:=e.par j p q;have z:j≠i:=λz=>by subst z;exact J d b
  rw[(c z).1,(c z).2];exact⟨a,d,b⟩
theorem En.forget(e:En K B F σ H Γ)(g:bY Γ i):En K B F σ H (Γ.set i none):=by
 have m:∀ d,Γ[i]?≠some (some (Sl.ln d)):=λd q=>by unfold bY at g;rw[q] at g;exact g
 have il:=oX g;have f:∀ {j:Nat} {s:Sl},(Γ.set i none)[j]?=some (some s)->j≠i/\Γ[j]?=some (some s):=λ{j s} q=>by
  by_cases z:j=i
  .subst z;rw[a8 il] at q;cases q
  .exact⟨z,by rw[cf (vk z)] at q;exact q⟩
 have c:∀ {j x},Hld (Γ.set i none) j x->Hld Γ j x:=λq=>q.imp (λq=>(f q).2) (λq=>(f q).2);exact⟨e.sub,by rw[Qh];exact e.len,λj d q=>e.fz j d (f q).2,λj d q=>e.hl j d (c q),λj d p q=>e.ow j d p (f q).2,λj d p q=>e.ln j d p (f q).2,λj k d n p l h=>e.dis j k d n p (c l) (c h),
  λj p q=>by
   obtain⟨a,d,b⟩:=e.par j p q;have z:i≠j:=λz=>by subst z;exact m d b
   exact⟨a,d,by rw[cf z];exact b⟩,e.keep,e.new,e.rest,e.dom⟩
set_option backward.eqns.nonrecursive false in
def JG (i:Nat)(Γ:G)(Q:RV->G->Prop):Prop:=match Γ[i]? with
 | some (some (.fz d))=>Q (.fz d) Γ
 | some (some (.ow d))=>Q (.fr d) (Γ.set i none)
 | _=>False
theorem Nx(i:Nat):Ref K (jj i) (JG i):=by
 intro B F o H g Q r e h k;unfold JG at h;split at h
 .rename_i d q;obtain⟨v,c,f⟩:=e.fz i d q;exact⟨v,c,k _ _ (j8 e f h)⟩
 .rename_i d q;obtain⟨p,c,f,m⟩:=e.hl i d (.inl q);have l:bY g i:=by unfold bY;rw[q];trivial
  have n:=e.forget l;refine⟨_,c,k _ _ ⟨F,_,.fr d,aS.refl F,n,⟨p,rfl,f,m,e.ow i d p q c,λj x hj=>?_⟩,h⟩⟩;intro a;have b:j≠i/\Hld g j x:=by
   by_cases z:j=i
   .subst z;rcases hj with hj | hj <;> rw[a8 (oX l)] at hj <;> cases hj
   .exact⟨z,by unfold Hld at hj ⊢;rw[cf (vk z)] at hj;exact hj⟩
  exact b.1 (e.dis j i x d p b.2 (.inl q) a c)
 .exact h.elim
theorem rB(i:Nat)(d:autoParam (X.N[i]?=some x) wE)(b:autoParam (Vis X.env.scope x) wq2)(c:autoParam ((x == ("__debug__":Str))=false) wP)(a:autoParam ((x == ("__classdict__":Str))=false) wP):P3 K X (.Name x pos) (jj i) (JG i):=⟨xH d b c a,Nx i⟩
variable {rest:List Stmt}{t u:TS}{t3 u3:TS3}{te:TE}{e3:TE3}
def Mf (D:E3)(Γ:G):Prop:=D.nx Γ
def Qk (t u:TS3)(D:E3)(Γ:G):Prop:=t { D with nx:=u D } Γ
def Qm (a:TE3)(D:E3)(Γ:G):Prop:=a Γ D.rt
def MJ (b:TE3)(D:E3)(Γ:G):Prop:=b Γ λ_ a=>D.nx a
theorem aQ:Bm K X [] L4 Mf:=⟨Kd,λB F a H b D c e k q=>k.nx F a H b (aS.refl F) e q⟩
theorem ah(f:P3S K X st t t3)(d:Bm K X rest u u3):Bm K X (st::rest) (P6 t u) (Qk t3 u3):=⟨Hl f.pe d.pe,λB F g H h D c e k q=>
 f.rf B F g H h _ { c with nx:=u3 c } e ⟨λm a l b s j i=>d.rf B m a l b _ c j (k.mono s) i,k.rt,k.bk,k.ct⟩ q⟩
theorem ai(a:P3S K X st t t3):Bm K X [st] t t3:=⟨Kc a.pe,a.rf⟩
theorem ar(h:P3 K X e te e3):P3S K X (.Return (some e) pos) (P7 te) (Qm e3):=⟨NJ h.pe,λB F b H c D l e k q=>
 h.rf B F b H c _ _ e q λv i ⟨j,a,r,s,g,d,f⟩=>k.rt j b i a v r s g d f⟩
theorem cz(h:P3 K X e te e3)(f:autoParam (UY e none pos.line X.env=pure false) wE):P3S K X (.Expr e pos) (L5 te) (MJ e3):=⟨Ke h.pe f,λB F b H c D m e k q=>
 h.rf B F b H c _ _ e q λv i ⟨j,a,r,s,g,l,d⟩=>k.nx j b i a s g d⟩
def bG (c:Bool)(t u:TS3)(a:E3)(Γ:G)(_:Tag (t,u,a)):Prop:=match c with
 | true=>t a Γ
 | false=>u a Γ
def RD (b:TT3)(t u:TS3)(D:E3)(Γ:G):Prop:=b Γ λc a=>bG c t u D a ⟨⟩
theorem br{c:Expr}{a b:List Stmt}{g:TT}{r:TT3}(i:P3T K X c g r)(l:Bm K X a t t3)(j:Bm K X b u u3):P3S K X (.If c a b pos) (P_ g t u) (RD r t3 u3):=⟨Qy i.pe l.pe j.pe,λB F f H v D p e k q=>
 i.rf B F f H v _ _ e q λc n Z=>by
  obtain⟨o,d,s,m,h⟩:=Z;cases c with
  | true=>exact DB (l.rf B o f n d D p m (k.mono s) h)
  | false=>exact DC (j.rf B o f n d D p m (k.mono s) h)⟩
theorem cy:P3S K X st GL (λ_ _=>False):=⟨Hn,λB F a H b D c e k q=>q⟩
def JR (i:Nat)(b:TE3)(D:E3)(Γ:G):Prop:=b Γ λr a=>bT (frB a i) (D.nx (a.set i (some r.sl))) False ⟨⟩ ⟨⟩
theorem Ed(h:Ref K te e3):LQ K (yS te (tE i)) (JR i e3):=λB F c H f D x e k q=>
 h B F c H f _ _ e q λv p Z=>by
  obtain⟨w,d,r,s,o,j,b⟩:=Z;obtain⟨hf,b⟩:=vb b;replace hf:=A4 hf;obtain⟨t,u,g,n,a,m,l⟩:=o.norm j;exact k.nx t _ p _ (s.trans g) (by have:=n.set hf a l;rw[m] at this;exact this) b
theorem aH(g:X.N.Nodup)(d:X.N[i]?=some x)(b:Loc X.env.scope x)(a:P3 K X e te e3)(c:autoParam (UY e (some (.Name x pos')) pos.line X.env=pure false) wE)(f:autoParam (X.fn x=true\/X.env.scope.names.lookup x=some .local) wq0) :
  P3S K X (.Assign [.Name x pos'] e pos) (yS te (tE i)) (JR i e3):=⟨NI g d b a.pe c f,Ed a.rf⟩
def QP (i j:Nat)(b:TA3)(D:E3)(Γ:G):Prop:=b Γ λds a=>∃ d d',ds=[d,d']/\bY a i/\bY (a.set i (some (.fz d))) j/\D.nx ((a.set i (some (.fz d))).set j (some (.fz d')))
theorem Nk{y:Str}{b:Expr}{ta:TA}{l:TA3}{c f:Pos}{kt k2 I}(O:X.calm=true)(P:X.N.Nodup)(N:X.N[i]?=some x)(M:X.N[j]?=some y)(g:i≠j)(G:X.env.scope.names.lookup x=some .local)(E:X.env.scope.names.lookup y=some .local)(h:P3A K X [a,b] ta l)(J:Ur [.Tuple [.Name x px,.Name y c] kt f] (.Tuple [a,b] k2 I) X.env=pure (some [x,y]))(L:autoParam (Uq [.Tuple [.Name x px,.Name y c] kt f] (.Tuple [a,b] k2 I) pos.line X.env=pure false) wE) :
  P3S K X (.Assign [.Tuple [.Name x px,.Name y c] kt f] (.Tuple [a,b] k2 I) pos) (M7 i j ta) (QP i j l):=⟨Hm O P N M g G E h.pe J L,λB F m H o D D3 e k q=>
 h.rf B F m H o _ _ e q λvs V Z=>by
  obtain⟨W,n,ds,s,T,t,d,U,S,R,Q,C⟩:=Z;subst S;obtain⟨v,Y,rfl,A,w,p,rfl,z,u⟩:=t;cases u;refine⟨v,w,rfl,k.nx W _ V _ s ?_ C⟩;exact(T.set (r:=.fz d) R A).set (r:=.fz U) Q z⟩
noncomputable def gives (Γ:G):List Nat->List D->Option G
 | [],[]=>some Γ
 | i::is,d::ds=>gives (Γ.set i (some (.fz d))) is ds
 | _,_=>none
noncomputable def frees (Γ:G):List Nat->List D->Prop
 | [],_=>True
 | i::is,d::ds=>bY Γ i/\frees (Γ.set i (some (.fz d))) is ds
 | _,_=>True
noncomputable def uT:List Nat->TGs
 | []=>R5
 | i::is=>MD (tE i) (uT is)
theorem yh:∀ {Γ:G} {σ:_2.St} {vs:List V} {ds:List D} {a:G} {QQ:_2.St->Hp->Prop},En K B F σ H Γ->aE K F ds vs->gives Γ is ds=some a->frees Γ is ds->(∀ σ',En K B F σ' H a->QQ σ' H)->uT is vs σ H QQ:=by
 induction is with
 | nil=>
  intro Γ σ vs ds a QQ e r g f k;cases ds with
  | nil=>cases g;cases r;exact⟨rfl,k σ e⟩
  | cons d ds=>cases g
 | cons i is j=>
  intro Γ σ vs ds a QQ e r g f k;cases ds with
  | nil=>cases g
  | cons d ds=>
   obtain⟨v,b,rfl,h,c⟩:=r;exact⟨v,b,rfl,j (e.set (r:=.fz d) f.1 h) c g f.2 k⟩
noncomputable def gvF:G->List Nat->List D->(G->Prop)->Prop
 | Γ,[],[],Q=>Q Γ
 | Γ,i::is,d::ds,Q=>bT (frB Γ i) (gvF (Γ.set i (some (.fz d))) is ds Q) False ⟨⟩ ⟨⟩
 | _,_,_,_=>False
theorem DG:∀ {is:List Nat} {ds:List D} {Γ:G} {Q:G->Prop},gvF Γ is ds Q->∃ d,gives Γ is ds=some d/\frees Γ is ds/\Q d
 | [],[],Γ,_,h=>⟨Γ,rfl,trivial,h⟩
 | [],_::_,_,_,h=>h.elim
 | _::_,[],_,_,h=>h.elim
 | _::_,_::_,_,_,h=>let ⟨a,b⟩:=vb h;let ⟨d,c,e,f⟩:=DG b;⟨d,c,⟨A4 a,e⟩,f⟩
theorem RY{Γ:G}{Q:G->Prop}:gvF Γ [] [] Q=Q Γ:=rfl
theorem RZ{Γ:G}{d:D}{ds:List D}{Q:G->Prop}:gvF Γ (i::is) (d::ds) Q=bT (frB Γ i) (gvF (Γ.set i (some (.fz d))) is ds Q) False ⟨⟩ ⟨⟩:=rfl
def L8 (is:List Nat)(b:TE3)(D:E3)(Γ:G):Prop:=b Γ λr a=>mL (GI r.d) (λds=>gvF a is ds D.nx) ⟨⟩
theorem zQ:∀ {Γ a:G} {ds:List D},gives Γ is ds=some a->ds.length=is.length:=by
 induction is with
 | nil=>intro Γ a ds h;cases ds with | nil=>rfl | cons=>cases h
 | cons i is b=>intro Γ a ds h;cases ds with | nil=>cases h | cons d ds=>simp [b h]
theorem eI{kt:Nat}{a:Pos}(E:X.K=K)(g:P3 K X e te e3)(A:PGs X es (uT is))(C:X.calm=true)(z:autoParam ((PD es X.env).length=is.length) wE)(d:autoParam ((PD es X.env).findIdx? (·.1)=none) wE)(y:autoParam (Uq [.Tuple es kt a] e pos.line X.env=pure false) wE)(x:autoParam (Ur [.Tuple es kt a] e X.env=pure none) wE)(h1:autoParam ((PD [.Tuple es kt a] X.env).map (·.2)=[assign (.Tuple es kt a) X.env]) wE) :
  P3S K X (.Assign [.Tuple es kt a] e pos) (yS te (O0 K is.length (uT is))) (L8 is e3):=⟨by subst E;exact Hr g.pe (HB C A z d) y x h1,λB F l H n D P e k q=>
 g.rf B F l H n _ _ e q λv N Z=>by
  obtain⟨O,m,r,s,J,u,Z⟩:=Z;obtain⟨M,h1,Z⟩:=uO.1 Z;replace h1:=tup_is h1;obtain⟨c,i,I,w⟩:=DG Z;obtain⟨L,t,j,f⟩:=J.frozen u;rw[h1] at f;obtain⟨p,o,rfl,G,h⟩:=f;refine⟨p,o,rfl,.inl (.inl (j.sub _ _ G)),by rw[h.length,zQ i],yh j h i I λb e3=>k.nx L b _ c (s.trans t) e3 w⟩⟩
set_option backward.eqns.nonrecursive false in
noncomputable def putD (Γ:G)(i:Nat)(d:D):G:=match Γ[i]? with
 | some (some (.ow _))=>Γ.set i (some (.ow d))
 | some (some (.ln _))=>Γ.set i (some (.ln d))
 | _=>Γ
set_option backward.eqns.nonrecursive false in
noncomputable def dF (Γ:G)(i:Nat):Option (List D):=match Γ[i]? with
 | some (some (.ow (.lst xs)))=>some xs
 | some (some (.ln (.lst xs)))=>some xs
 | _=>none
theorem zM{xs:List D}(h:dF Γ i=some xs):Hld Γ i (.lst xs):=by
 unfold dF at h;split at h
 .cases h;rename_i q;exact .inl q
 .cases h;rename_i q;exact .inr q
 .cases h
theorem En.Q8(e:En K B F σ H Γ){E m:D}(C:Hld Γ i E)(w:σ[i]?=some (some (V.ref p))){G:HO}(r:Own K F (upd H p G) p m):En K B F σ (upd H p G) (putD Γ i m):=by
 obtain⟨T,J,I,S⟩:=e.hl i _ C;rw[w] at J;cases J;obtain⟨o,U⟩:=S.some;have l:(Γ[i]?=some (some (Sl.ow E))/\putD Γ i m=Γ.set i (some (.ow m)))\/(Γ[i]?=some (some (Sl.ln E))/\putD Γ i m=Γ.set i (some (.ln m))):=by
  rcases C with q | q
  .exact .inl ⟨q,by unfold putD;rw[q]⟩
  .exact .inr ⟨q,by unfold putD;rw[q]⟩
 have il:i < Γ.length:=by rcases l with ⟨q,_⟩ | ⟨q,_⟩ <;> exact(gS0 q).1
 have f:∀ {j:Nat},j≠i->(putD Γ i m)[j]?=Γ[j]?:=λz=>by
  rcases l with ⟨_,q⟩ | ⟨_,q⟩ <;> rw[q,cf (vk z)]
 have same:∀ {s:Sl},(putD Γ i m)[i]?=some (some s)->(s=.ow m/\Γ[i]?=some (some (Sl.ow E)))\/(s=.ln m/\Γ[i]?=some (some (Sl.ln E))):=λ{s} q=>by
  rcases l with ⟨a,b⟩ | ⟨a,b⟩
  .rw[b,a8 il] at q;cases q;exact .inl ⟨rfl,a⟩
  .rw[b,a8 il] at q;cases q;exact .inr ⟨rfl,a⟩
 have A:∀ {j x},Hld (putD Γ i m) j x->(j=i/\x=m)\/(j≠i/\Hld Γ j x):=λ{j x} q=>by
  by_cases z:j=i
  .subst z
   left
   rcases q with q | q <;> rcases same q with ⟨h,_⟩ | ⟨h,_⟩ <;> cases h <;> exact⟨rfl,rfl⟩
  .right;exact⟨z,by unfold Hld at q ⊢;rw[f z] at q;exact q⟩
 have v:∀ {j x},Hld (putD Γ i m) j x->∃ y,Hld Γ j y:=λq=>by
  rcases A q with ⟨rfl,_⟩ | ⟨_,q⟩
  .exact⟨_,C⟩
  .exact⟨_,q⟩
 refine⟨?_,?_,?_,?_,?_,?_,?_,?_,e.keep,e.new,?_,?_⟩
 .intro b u q;have z:b≠p:=λz=>by subst z;rw[I] at q;cases q
  rw[au z];exact e.sub b u q
 .rcases l with ⟨_,q⟩ | ⟨_,q⟩ <;> rw[q,Qh] <;> exact e.len
 .intro j d q;by_cases z:j=i
  .subst z;rcases same q with ⟨h,_⟩ | ⟨h,_⟩ <;> cases h
  .rw[f z] at q;exact e.fz j d q
 .intro j d q;rcases A q with ⟨rfl,rfl⟩ | ⟨z,q⟩
  .exact⟨p,w,I,r⟩
  .obtain⟨t,a,b,c⟩:=e.hl j d q;have P:t≠p:=λy=>z (e.dis j i _ _ p q C (y ▸ a) w);exact⟨t,a,b,c.mono (aS.refl F) (au P)⟩
 .intro j d t q a;by_cases z:j=i
  .subst z;rcases same q with ⟨h,g⟩ | ⟨h,g⟩
   .exact e.ow j _ t g a
   .cases h
  .rw[f z] at q;exact e.ow j d t q a
 .intro j d t q a;by_cases z:j=i
  .subst z;rcases same q with ⟨h,g⟩ | ⟨h,g⟩
   .cases h
   .exact e.ln j _ t g a
  .rw[f z] at q;exact e.ln j d t q a
 .intro j k d W t O N;obtain⟨M,R⟩:=v O;obtain⟨L,Q⟩:=v N;exact e.dis j k M L t R Q
 .intro j t q;obtain⟨a,d,b⟩:=e.par j t q;refine⟨a,?_⟩;by_cases z:j=i
  .subst z;rcases l with ⟨c,_⟩ | ⟨_,c⟩
   .rw[b] at c;cases c
   .exact⟨_,by rw[c,a8 il]⟩
  .exact⟨d,by rw[f z];exact b⟩
 .intro b u q n;have z:b≠p:=λz=>by
   subst z;rcases C with g | g
   .rw[e.ow i _ _ g w] at q;cases q
   .exact n i (e.ln i _ _ g w)
  rw[au z];exact e.rest b u q n
 .intro b q;by_cases z:b=p
  .subst z;rw[az] at q;cases q
  .rw[au z] at q;exact e.dom b q
theorem En.mut(e:En K B F σ H Γ){xs b:List D}(h:dF Γ i=some xs)(c:σ[i]?=some (some (V.ref p))){a:List V}(r:aE K F b a):En K B F σ (upd H p (.lst a)) (putD Γ i (.lst b)):=
 e.Q8 (zM h) c ⟨a,az,r⟩
end
section
variable {X:Cx}{B:Bs}{F H:Hp}{Γ:G}
noncomputable def newD:On->G->Nat->Option D
 | some a::ls,s::cs,j=>if a=j then (match s with
   | some (.ln d)=>some d
   | _=>newD ls cs j) else newD ls cs j
 | none::ls,_::cs,j=>newD ls cs j
 | _,_,_=>none
theorem i9:∀ {ls:On} {cs:G} {j:Nat} {d:D},newD ls cs j=some d->∃ k:Nat,ls[k]?=some (some j)/\cs[k]?=some (some (Sl.ln d))
 | some c::ls,s::cs,j,d,h=>by
  unfold newD at h;split at h
  .rename_i e;subst e;split at h
   .cases h;exact⟨0,rfl,rfl⟩
   .obtain⟨k,a,b⟩:=i9 h;exact⟨k + 1,by simpa using a,by simpa using b⟩
  .obtain⟨k,a,b⟩:=i9 h;exact⟨k + 1,by simpa using a,by simpa using b⟩
 | none::ls,_::cs,j,d,h=>by
  unfold newD at h;obtain⟨k,a,b⟩:=i9 h;exact⟨k + 1,by simpa using a,by simpa using b⟩
 | [],_,_,_,h=>by unfold newD at h;cases h
 | some _::_,[],_,_,h=>by unfold newD at h;cases h
 | none::_,[],_,_,h=>by unfold newD at h;cases h
theorem w6:∀ {ls:On} {cs:G} {j k:Nat} {d:D},ls[k]?=some (some j)->cs[k]?=some (some (Sl.ln d))->∃ d',newD ls cs j=some d'
 | [],_,_,_,_,h,_=>by simp at h
 | _::_,[],_,_,_,_,h=>by simp at h
 | some b::ls,s::cs,j,0,d,h,a=>by
  simp at h a;subst h a;exact⟨d,by unfold newD;rw[if_pos rfl]⟩
 | none::ls,s::cs,j,0,d,h,a=>by simp at h
 | some b::ls,s::cs,j,k + 1,d,h,a=>by
  unfold newD;split
  .split
   .exact⟨_,rfl⟩
   .exact w6 (k:=k) (by simpa using h) (by simpa using a)
  .exact w6 (k:=k) (by simpa using h) (by simpa using a)
 | none::ls,s::cs,j,k + 1,d,h,a=>by
  unfold newD;exact w6 (k:=k) (by simpa using h) (by simpa using a)
noncomputable def ez (n:Option D):Option Sl->Option Sl
 | some (.ow d)=>some (.ow (n.getD d))
 | some (.ln d)=>some (.ln (n.getD d))
 | s=>s
noncomputable def y4:G->Nat->D->G
 | s::Γ,0,d=>ez (some d) s::Γ
 | s::Γ,i + 1,d=>s::y4 Γ i d
 | [],_,_=>[]
noncomputable def bh:On->G->G->G
 | [],Γ,_=>Γ
 | none::ls,Γ,cs=>bh ls Γ cs.tail
 | some i::ls,Γ,some (.ln d)::cs=>y4 (bh ls Γ cs) i d
 | some _::ls,Γ,cs=>bh ls Γ cs.tail
theorem ug(s:Option Sl):ez none s=s:=by
 rcases s with _|s;rfl;cases s<;>rfl
theorem BN {d:D}:∀ {Γ:G} {i j:Nat},(y4 Γ i d)[j]?=(Γ[j]?).map (ez (if i=j then some d else none))
 | [],_,_=>by simp [y4]
 | s::Γ,0,0=>rfl
 | s::Γ,0,j + 1=>by rw[if_neg (by lia),show ez none=id from funext ug,WX];rfl
 | s::Γ,i + 1,0=>by rw[if_neg (by lia),show ez none=id from funext ug,WX];rfl
 | s::Γ,i + 1,j + 1=>by
  have:=BN (d:=d) (Γ:=Γ) (i:=i) (j:=j);simpa [y4] using this
theorem sP:∀ {ls:On},newD ls [] j=none
 | []=>rfl
 | none::_=>rfl
 | some _::_=>rfl
theorem bS {j:Nat}:∀ {ls:On} {Γ cs:G},(bh ls Γ cs)[j]?=(Γ[j]?).map (ez (newD ls cs j))
 | [],Γ,cs=>by rw[show newD [] cs j=none from rfl,show ez none=id from funext ug,WX];rfl
 | none::ls,Γ,[]=>by rw[sP];exact(bS (ls:=ls) (cs:=[])).trans (by rw[sP])
 | none::ls,Γ,_::cs=>bS (ls:=ls) (cs:=cs)
 | some i::ls,Γ,[]=>by rw[sP];exact(bS (ls:=ls) (cs:=[])).trans (by rw[sP])
 | some i::ls,Γ,s::cs=>by
  have h:=bS (j:=j) (ls:=ls) (Γ:=Γ) (cs:=cs);have n:(∀ d,s≠some (.ln d))->(bh (some i::ls) Γ (s::cs))[j]?=(Γ[j]?).map (ez (newD (some i::ls) (s::cs) j)):=λw=>by
   have e:newD (some i::ls) (s::cs) j=newD ls cs j:=by
    rcases s with _|s
    .exact ite_self _
    cases s with
    | fz=>exact ite_self _
    | ow=>exact ite_self _
    | ln=>exact absurd rfl (w _)
   rw[e,<-h];rcases s with _|s;rfl;cases s;rfl;rfl;exact absurd rfl (w _)
  rcases s with _|s
  .exact n nofun
  cases s with
  | fz=>exact n nofun
  | ow=>exact n nofun
  | ln d=>
   show (y4 (bh ls Γ cs) i d)[j]?=_;rw[BN,h,Option.map_map]
   congr 1;funext s
   show ez (if i=j then some d else none) (ez (newD ls cs j) s)=ez (if i=j then some d else newD ls cs j) s;split
   .rcases s with _|s;rfl;cases s<;>rfl
   .exact ug _
theorem Gv{Γ cs:G}:(bh ls Γ cs).length=Γ.length:=Nat.le_antisymm
 (Nat.not_lt.1 λh=>by have:=bS (ls:=ls) (Γ:=Γ) (cs:=cs) (j:=Γ.length);rw[gE0 h,pa (ec _)] at this;cases this)
 (Nat.not_lt.1 λh=>by have:=bS (ls:=ls) (Γ:=Γ) (cs:=cs) (j:=(bh ls Γ cs).length);rw[gE0 h,pa (ec _)] at this;cases this)
theorem En.back{N E:Hp}{own':List (Nat×Addr)}{f:G}(e:En K B N σ E Γ)(g:En K ⟨N,E,own'⟩ F σc H f)(J:∀ k p,(k,p)∈own'->∃ j d,ls[k]?=some (some j)/\Hld Γ j d/\σ[j]?=some (some (V.ref p))):En K B F σ H (bh ls Γ f):=by
 have L:∀ {j d},(bh ls Γ f)[j]?=some (some (Sl.fz d))->Γ[j]?=some (some (Sl.fz d)):=λ{j d} q=>by
  rw[bS] at q;cases w:Γ[j]? with
  | none=>rw[w] at q;cases q
  | some s=>
   rw[w] at q;cases s with
   | none=>cases q
   | some s=>cases s <;> cases q;rfl
 have r:∀ {j d},(bh ls Γ f)[j]?=some (some (Sl.ow d))->∃ d0,Γ[j]?=some (some (Sl.ow d0))/\d=(newD ls f j).getD d0:=λ{j d} q=>by
  rw[bS] at q;cases w:Γ[j]? with
  | none=>rw[w] at q;cases q
  | some s=>
   rw[w] at q;cases s with
   | none=>cases q
   | some s=>cases s <;> cases q;exact⟨_,rfl,rfl⟩
 have t:∀ {j d},(bh ls Γ f)[j]?=some (some (Sl.ln d))->∃ d0,Γ[j]?=some (some (Sl.ln d0))/\d=(newD ls f j).getD d0:=λ{j d} q=>by
  rw[bS] at q;cases w:Γ[j]? with
  | none=>rw[w] at q;cases q
  | some s=>
   rw[w] at q;cases s with
   | none=>cases q
   | some s=>cases s <;> cases q;exact⟨_,rfl,rfl⟩
 have gh:∀ {j d},Hld (bh ls Γ f) j d->∃ d0,Hld Γ j d0/\d=(newD ls f j).getD d0:=λ{j d} q=>by
  rcases q with q | q
  .obtain⟨d0,a,b⟩:=r q;exact⟨d0,.inl a,b⟩
  .obtain⟨d0,a,b⟩:=t q;exact⟨d0,.inr a,b⟩
 refine⟨g.sub,by rw[Gv];exact e.len,?_,?_,?_,?_,?_,?_,e.keep.trans g.keep,?_,?_,?_⟩
 .intro j d q;obtain⟨v,a,b⟩:=e.fz j d (L q);exact⟨v,a,b.mono g.keep⟩
 .intro j d q;obtain⟨d0,O,rfl⟩:=gh q;obtain⟨p,a,b,c⟩:=e.hl j d0 O;obtain⟨o,C⟩:=c.some;have S:F p=none:=by
   cases w:F p with
   | none=>rfl
   | some u=>
    rcases g.new p u w with z | z
    .rw[show N p=some u from z] at b;cases b
    .rw[show E p=none from z] at C;cases C
  refine⟨p,a,S,?_⟩;cases w:newD ls f j with
  | some M=>
   obtain⟨k,x,y⟩:=i9 w;obtain⟨P,W,Z,U⟩:=g.hl k M (.inr y);obtain⟨I,Q,A,_,D⟩:=J k P (g.ln k M P y W);rw[x] at A;cases A;rw[a] at D;cases D;exact U
  | none=>
   have h:∀ k,(k,p)∉own':=λk h=>by
    obtain⟨I,Q,A,l,D⟩:=J k p h;obtain⟨_,Y,y⟩:=g.par k p h;have:I=j:=e.dis I j Q d0 p l O D a;subst this;obtain⟨X,z⟩:=w6 A y;rw[w] at z;cases z
   have R:H p=E p:=by rw[C];exact g.rest p o C h
   exact c.mono g.keep R
 .intro j d p q a;obtain⟨d0,q,_⟩:=r q;exact e.ow j d0 p q a
 .intro j d p q a;obtain⟨d0,q,_⟩:=t q;exact e.ln j d0 p q a
 .intro i j d M p m l;obtain⟨d0,m,_⟩:=gh m;obtain⟨T,l,_⟩:=gh l;exact e.dis i j d0 T p m l
 .intro j p q;obtain⟨a,d,b⟩:=e.par j p q;exact⟨a,_,by rw[bS,b];rfl⟩
 .intro b o q;rcases g.new b o q with z | z
  .exact e.new b o z
  .exact .inr (e.dom b z)
 .intro b o q n;have m:=e.rest b o q n;refine g.rest b o m λk h=>?_;obtain⟨j,d,x,y,a⟩:=J k b h;rcases y with y | y
  .rw[e.ow j d b y a] at q;cases q
  .exact n j (e.ln j d b y a)
 .intro b q;exact e.dom b (g.dom b q)
structure ItR (K:Fg0) (F:Hp) (J:It) (xs:List D):Prop where
 go:∀ i H',aS F H'->i < xs.length->J.go i H'
 stop:∀ i H',aS F H'->i=xs.length->J.stop i H'
 yld:∀ i H' x H'' d,aS F H'->xs[i]?=some d->J.yld i H' x H''->(H''=H'/\Rep K F d x)\/∃ t vs ds,H' t=none/\H''=upd H' t (.tup vs)/\x=.ref t/\aE K F ds vs/\d=.tup ds
abbrev TI3:=G->(List D->G->Prop)->Prop
def LR (K:Fg0)(t:TI)(c:TI3):Prop:=∀ (B:Bs) (F:Hp) (σ:_2.St) (H:Hp) (Γ:G) (Q:List D->G->Prop) (R:It->Hp->Prop),En K B F σ H Γ->c Γ Q->(∀ J H1 b a xs,aS F b->En K B b σ H1 a->ItR K b J xs->Q xs a->R J H1)->t σ H R
structure P3I (K:Fg0) (X:Cx) (tg iter:Expr) (t:TI) (i3:TI3):Prop where
 pe:PI X tg iter t
 rf:LR K t i3
abbrev TG3:=D->G->(G->Prop)->Prop
def Jx (K:Fg0)(g:TG)(c:TG3):Prop:=∀ (B:Bs) (F:Hp) (σ:_2.St) (H:Hp) (Γ:G) (v:V) (d:D) (Q:G->Prop) (b:_2.St->Hp->Prop),En K B F σ H Γ->Rep K F d v->c d Γ Q->(∀ σ' a,En K B F σ' H a->Q a->b σ' H)->g v σ H b
structure P3G (K:Fg0) (X:Cx) (tg:Expr) (g:TG) (g3:TG3):Prop where
 pe:PG X tg g
 rf:Jx K g g3
def tgN (i:Nat)(d:D)(Γ:G)(Q:G->Prop):Prop:=bT (frB Γ i) (Q (Γ.set i (some (.fz d)))) False ⟨⟩ ⟨⟩
def tgT (is:List Nat)(d:D)(Γ:G)(Q:G->Prop):Prop:=mL (GI d) (λds=>gvF Γ is ds Q) ⟨⟩
theorem aK(f:X.N.Nodup)(b:X.N[i]?=some x)(a:Loc X.env.scope x)(c:autoParam (X.fn x=true\/X.env.scope.names.lookup x=some .local) wq0):P3G K X (.Name x pos) (tE i) (tgN i):=
 ⟨ax f b a c,λB F g H h v d Q j e r q k=>k _ _ (e.set (r:=.fz d) (A4 (vb q).1) r) (vb q).2⟩
theorem gj{kt:Nat}(m:X.K=K)(j:PGs X es (uT is))(l:X.calm=true)(i:autoParam ((PD es X.env).length=is.length) wE)(c:autoParam ((PD es X.env).findIdx? (·.1)=none) wE) :
  P3G K X (.Tuple es kt pos) (O0 K is.length (uT is)) (tgT is):=⟨by subst m;exact HB l j i c,λB F u H w v d Q y e r q k=>by
 obtain⟨x,s,q⟩:=uO.1 q;cases tup_is s;obtain⟨b,g,o,q⟩:=DG q;obtain⟨p,h,rfl,n,f⟩:=r;exact⟨p,h,rfl,.inl (.inl (e.sub _ _ n)),by rw[f.length,zQ g],yh e f g o λa t=>k a b t q⟩⟩
theorem ItR.turn{J:It}{xs:List D}(R:ItR K F J xs){c f a:Hp}(s:aS F c)(e:En K B c σ f Γ){d:D}{x:V}(j:xs[i]?=some d)(y:J.yld i f x a):∃ g,aS c g/\En K B g σ a Γ/\Rep K g d x:=by
 rcases R.yld i f x a d (s.trans e.sub) j y with ⟨rfl,r⟩ | ⟨t,h,k,b,rfl,rfl,r,rfl⟩
 .exact⟨c,aS.refl c,e,r.mono s⟩
 .exact⟨upd c t (.tup h),bE (e.nof b),(e.alloc b _).freeze (e.nof b) az (e.dom _ b) (e.B7 b),t,h,rfl,az,r.mono (s.trans (bE (e.nof b)))⟩
def O9 (e:TI3)(f:TG3)(g:TS3)(D:E3)(Γ:G):Prop:=e Γ λxs b=>∃ a:Nat->G->Prop,a 0 b/\(∀ k d Γ,xs[k]?=some d->a k Γ->f d Γ λc=>g { D with nx:=a (k + 1),ct:=a (k + 1),bk:=D.nx } c)/\∀ Γ,a xs.length Γ->D.nx Γ
theorem gM{l:List Stmt}{M:TI}{P:TI3}{g:TG}{V:TG3}{N:TS}{W:TS3}(hp:PassesOwn (model X.prog X.w) X.A X.env X.xe)(hc:X.calm=true)(Q:P3I K X tg iter M P)(S:P3G K X tg g V)(U:Bm K X l N W)(hs:autoParam (∀ x,vl iter X.env x=pure x) wT) :
  P3S K X (.For tg iter l [] pos) (Qa M g N) (O9 P V W):=⟨NK hp hc Q.pe S.pe U.pe hs,λB F C H Γ D D3 e k q=>by
 refine Q.rf B F C H Γ _ _ e q λJ H1 L E o G e1 R Z=>?_;obtain⟨A,i0,it,ie⟩:=Z;refine⟨λi m C H=>m=o.length - i/\i<=o.length/\∃ h d,aS L h/\En K B h C H d/\A i d,⟨_,rfl,xt _,L,E,aS.refl _,e1,i0⟩,?_⟩;rintro i m p I ⟨rfl,a1,F2,j,t,w,O⟩;by_cases lt:i < o.length
 .refine .inr ⟨R.go i I (t.trans w.sub) lt,λf n=>∃ h d,aS L h/\En K B h f n d/\A (i + 1) d,λf n ⟨h,d,a,b,c⟩=>⟨o.length - (i + 1),by lia,rfl,lt,h,d,a,b,c⟩,λx Y y=>?_⟩;have T:o[i]?=some o[i]:=gE0 lt;obtain⟨F3,s3,e3,r3⟩:=R.turn t w T y;refine S.rf B F3 p Y j x _ _ _ e3 r3 (it i _ j T O) λf d e4 q4=>?_;have u:=t.trans s3;refine U.rf B F3 f Y d _ { D3 with nx:=A (i + 1),ct:=A (i + 1),bk:=D3.nx } e4 ⟨λh f n d s e q=>⟨h,d,u.trans s,e,q⟩,λh f n d v r s e rv q=>k.rt h f n d v r ((G.trans u).trans s) e rv q,λh f n d s e q=>k.nx h f n d ((G.trans u).trans s) e q,λh f n d s e q=>⟨h,d,u.trans s,e,q⟩⟩ q4
 .have z:i=o.length:=by lia
  subst z;exact .inl ⟨R.stop _ I (t.trans w.sub) rfl,k.nx F2 p I j (G.trans t) w (ie j O)⟩⟩
def iL3 (b:TE3)(Γ:G)(Q:List D->G->Prop):Prop:=b Γ λr a=>mL (Oq r.d) (λxs=>Q xs a) ⟨⟩
theorem bI{l:Expr}{tl:TE}{o:TE3}(G:X.K=K)(h:P3 K X l tl o):P3I K X tg l (Mr K tl) (iL3 o):=⟨by subst G;exact Kj h.pe,λB F u H w Q R e q k=>
 h.rf B F u H w _ _ e q λv L Z=>by
  obtain⟨S,j,r,s,J,C,Z⟩:=Z;obtain⟨z,hx,D⟩:=uO.1 Z;replace hx:=lst_is hx;obtain⟨M,A,t,n⟩:=J.frozen C;rw[hx] at n;obtain⟨p,a,rfl,g,m⟩:=n;refine⟨p,rfl,⟨a,SqL.of (t.sub _ _ g)⟩,k _ L M j z (s.trans A) t ⟨λi f b lt=>?_,λi f b N=>?_,λi f x P d b E y=>?_⟩ D⟩
  .rw[<- m.length] at lt;exact⟨a,a[i],SqL.of (b _ _ g),by simp [lt]⟩
  .exact⟨a,SqL.of (b _ _ g),by rw[m.length];lia⟩
  .obtain⟨I,y⟩:=y;obtain⟨O,c,r⟩:=m.Le (y a (SqL.of (b _ _ g)));rw[E] at c;cases c;exact .inl ⟨I,r⟩⟩
noncomputable def rng (lo:Int)(n:Nat):List D:=(ck n).map λ(k:Nat)=>D.int (lo + (k:Int))
theorem L9{lo:Int}:ItR K F (Itr lo n) (rng lo n):=by
 have a:(rng lo n).length=n:=by simp [rng]
 refine⟨λi c _ lt=>by rw[a] at lt;exact lt,λi c _ e=>by rw[a] at e;exact UJ e.symm,λi c x j d _ b y=>?_⟩;obtain⟨h,g⟩:=y;subst h g;refine .inl ⟨rfl,?_⟩;have f:i < n:=by have:=(gS0 b).1;rw[a] at this;exact this
 have:(rng lo n)[i]?=some (.int (lo + i)):=by unfold rng;rw[dV,yM f];rfl
 rw[this] at b;cases b
 rfl
def iR1 (b:TA3)(Γ:G)(Q:List D->G->Prop):Prop:=b Γ λds a=>mI (one? ds) (λj=>-(2 ^ 62)<=j/\j < 2 ^ 62/\Q (rng 0 j.toNat) a) ⟨⟩
def iR2 (b:TA3)(Γ:G)(Q:List D->G->Prop):Prop:=b Γ λds a=>∃ i j:Int,ds=[.int i,.int j]/\(-(2 ^ 62)<=i/\i < 2 ^ 62/\-(2 ^ 62)<=j/\j < 2 ^ 62)/\Q (rng i (j - i).toNat) a
theorem bB{ta:TA}{d:TA3}{p:Pos}(r:Gl X "range")(o:X.mg "range"=none)(c:P3A K X [a] ta d)(n:autoParam (eh [a] X.env=[(false,eval a X.env)]) wE):P3I K X tg (.Call (.Name "range" p) [a] [] pos) (Mp ta) (iR1 d):=⟨Fw r o c.pe n,λB F f H g Q R e q k=>
 c.rf B F f H g _ _ e q λC y Z=>by
  obtain⟨z,b,D,s,x,h,Z⟩:=Z;obtain⟨j,w,u,t,m⟩:=Ra Z;cases Od w;obtain⟨v,A,rfl,l,i⟩:=h;cases l;cases i;exact⟨j,rfl,u,t,k _ y z b _ s x L9 m⟩⟩
theorem zK{b:Expr}{ta:TA}{g:TA3}{p:Pos}(z:Gl X "range")(y:X.mg "range"=none)(f:P3A K X [a,b] ta g)(x:autoParam (eh [a,b] X.env=[(false,eval a X.env),(false,eval b X.env)]) wE)(d:autoParam (eh [b] X.env=[(false,eval b X.env)]) wE) :
  P3I K X tg (.Call (.Name "range" p) [a,b] [] pos) (Mo ta) (iR2 g):=⟨Fv z y f.pe x d,λB F h H l Q R e q k=>
 f.rf B F h H l _ _ e q λJ E Z=>by
  obtain⟨G,c,L,s,D,n,i,j,C,A,u⟩:=Z;subst C;obtain⟨v,I,rfl,t,w,m,rfl,r,o⟩:=n;cases t;cases r;cases o;exact⟨i,j,rfl,A,k _ E G c _ s D L9 u⟩⟩
noncomputable def ky (xs ys:List D):List D:=(xs.zip ys).map λp=>.tup [p.1,p.2]
def iZ3 (b:TA3)(Γ:G)(Q:List D->G->Prop):Prop:=b Γ λds a=>∃ xs ys,ds=[.lst xs,.lst ys]/\Q (ky xs ys) a
theorem xb{xs ys:List D}{d:D}(h:(ky xs ys)[i]?=some d):∃ x y,xs[i]?=some x/\ys[i]?=some y/\d=.tup [x,y]:=by
 unfold ky at h;rw[dV] at h;cases q:(xs.zip ys)[i]? with
 | none=>rw[q] at h;cases h
 | some p=>
  rw[q] at h;cases h;rw[Nn] at q;exact⟨_,_,q.1,q.2,rfl⟩
theorem oU{b:Expr}{ta:TA}{J:TA3}{kt:Nat}{p:Pos}(hg:Gl X "zip")(hm:X.mg "zip"=none)(I:P3A K X [a,b] ta J)(hs:autoParam (eh [a,b] X.env=[(false,eval a X.env),(false,eval b X.env)]) wE)(E:autoParam (eh [b] X.env=[(false,eval b X.env)]) wE) :
  P3I K X (.Tuple es kt tp) (.Call (.Name "zip" p) [a,b] [] pos) (RE ta) (iZ3 J):=⟨NO hg hm I.pe hs E,λB F N H O Q R e q k=>
 I.rf B F N H O _ _ e q λvs H' Z=>by
  obtain⟨F',o,ds,s,G,u,xs,ys,h1,V⟩:=Z;subst h1;obtain⟨v,ws,rfl,⟨Y,g,rfl,n,A⟩,w,T,rfl,⟨W,f,rfl,m,z⟩,U⟩:=u;cases U;refine⟨Y,W,g,f,rfl,G.sub _ _ n,G.sub _ _ m,k _ H' F' o _ s G ⟨λi h c lt=>?_,λi h c ei=>?_,λi h x H3 d c hd y=>?_⟩ V⟩
  .obtain⟨x,y,D,C,_⟩:=xb (gE0 lt);obtain⟨v,l,_⟩:=A.get D;obtain⟨w,j,_⟩:=z.get C;exact⟨g,f,v,w,c _ _ n,c _ _ m,l,j⟩
  .refine⟨g,f,c _ _ n,c _ _ m,?_⟩;subst ei;unfold ky;rw[lM0,Yd,A.length,z.length];lia
  .obtain⟨t,S,P,x1,y1,ht,M,L,b1,b2,rfl,rfl⟩:=y;rw[c _ _ n] at M;cases M;rw[c _ _ m] at L;cases L;obtain⟨dx,dy,D,C,rfl⟩:=xb hd;obtain⟨v,l,u⟩:=A.get D;obtain⟨w,j,r⟩:=z.get C;rw[b1] at l;cases l;rw[b2] at j;cases j;exact .inr ⟨t,_,[dx,dy],ht,rfl,rfl,⟨_,_,rfl,u,_,_,rfl,r,rfl⟩,rfl⟩⟩
noncomputable def yF (xs:List D):List D:=xs.mapIdx λi x=>.tup [.int i,x]
def iE3 (b:TA3)(Γ:G)(Q:List D->G->Prop):Prop:=b Γ λds a=>∃ xs,ds=[.lst xs]/\Q (yF xs) a
theorem u5{xs:List D}{d:D}(h:(yF xs)[i]?=some d):∃ x,xs[i]?=some x/\d=.tup [.int i,x]:=by
 unfold yF at h;rw[List.getElem?_mapIdx] at h;cases q:xs[i]? with
 | none=>rw[q] at h;cases h
 | some p=>rw[q] at h;cases h;exact⟨_,rfl,rfl⟩
theorem K_{ta:TA}{u:TA3}{kt:Nat}{p:Pos}(M:Gl X "enumerate")(L:X.mg "enumerate"=none)(o:P3A K X [a] ta u)(J:autoParam (eh [a] X.env=[(false,eval a X.env)]) wE) :
  P3I K X (.Tuple es kt tp) (.Call (.Name "enumerate" p) [a] [] pos) (Ms ta) (iE3 u):=⟨Kk M L o.pe J,λB F z H A Q R e q k=>
 o.rf B F z H A _ _ e q λvs U Z=>by
  obtain⟨V,j,ds,s,r,l,W,O,E⟩:=Z;subst O;obtain⟨v,ws,rfl,⟨G,b,rfl,h,m⟩,D⟩:=l;cases D;refine⟨G,b,rfl,r.sub _ _ h,k _ U V j _ s r ⟨λi f c lt=>?_,λi f c P=>?_,λi f x H3 d c N y=>?_⟩ E⟩
  .obtain⟨x,n,_⟩:=u5 (gE0 lt);obtain⟨v,g,_⟩:=m.get n;exact⟨b,v,c _ _ h,g⟩
  .refine⟨b,c _ _ h,?_⟩;subst P;unfold yF;rw[List.length_mapIdx,m.length];exact ec _
  .obtain⟨t,C,Y,I,w,T,rfl,rfl⟩:=y;rw[c _ _ h] at w;cases w;obtain⟨S,n,rfl⟩:=u5 N;obtain⟨v,g,l⟩:=m.get n;rw[T] at g;cases g;exact .inr ⟨t,_,[.int i,S],I,rfl,rfl,⟨_,_,rfl,rfl,_,_,rfl,l,rfl⟩,rfl⟩⟩
theorem DZ{vs:List V}(h:H p=some (.lst vs)):tyV K "list" (.ref p) H:=.inl ⟨rfl,_,SqL.of h⟩
theorem En.dF(e:En K B F σ H Γ){xs:List D}(h:dF Γ i=some xs):∃ p vs,σ[i]?=some (some (V.ref p))/\H p=some (.lst vs)/\aE K F xs vs:=by
 obtain⟨p,a,b,vs,c,d⟩:=e.hl i _ (zM h);exact⟨p,vs,a,c,d⟩
def Pr (i:Nat)(b:TE3)(Γ:G)(Q:RV->G->Prop):Prop:=mL (dF Γ i) (λ_=>b Γ λr a=>mL (dF a i) (λxs=>xs.length < sizeLine/\Q (.fz .non) (putD a i (.lst (xs++[r.d])))) ⟨⟩) ⟨⟩
theorem J6{te:TE}{g:TE3}(i:Nat)(h:Ref K te g):Ref K (tBM K "list" AE (jj i) (lq te rX)) (Pr i g):=by
 intro B F l H n Q L e q k;obtain⟨o,C,q⟩:=uO.1 q;obtain⟨p,t,d,E,_⟩:=e.dF C;refine⟨_,d,DZ E,h B F l H n _ _ e q λv M Z=>?_⟩;obtain⟨N,m,r,s,D,x,Z⟩:=Z;obtain⟨I,f,A,z⟩:=uO.1 Z;obtain⟨G,w,j,y⟩:=D.frozen x;obtain⟨J,u,a,b,c⟩:=j.dF f;rw[d] at a;cases a;exact⟨p,u,v,rfl,rfl,b,by rw[c.length];exact A,k _ _ ⟨G,_,.fz .non,s.trans w,j.mut f d (aE.append (ys:=[r.d]) c ⟨v,[],rfl,y,rfl⟩),rfl,z⟩⟩
def ext3 (i:Nat)(b:TB3)(Γ:G)(Q:RV->G->Prop):Prop:=(∃ xs,dF Γ i=some xs)/\b Γ λr a=>∃ xs ys,dF a i=some xs/\r.at a=some (.lst ys)/\xs.length + ys.length<=sizeLine/\Q (.fz .non) (putD a i (.lst (xs++ys)))
theorem J5{te:TE}{j:TB3}(i:Nat)(h:yO K te j):Ref K (tBM K "list" AD (jj i) (lq te rX)) (ext3 i j):=by
 intro B F m H o Q N e ⟨⟨t,E⟩,q⟩ k;obtain⟨p,w,f,G,_⟩:=e.dF E;refine⟨_,f,DZ G,h B F m H o _ _ e q λv O Z=>?_⟩;obtain⟨I,n,r,s,d,y,L,J,g,D,C,z⟩:=Z;obtain⟨A,u,rfl,b2,l⟩:=d.bo y D;obtain⟨M,x,a,b,c⟩:=d.dF g;rw[f] at a;cases a;exact⟨p,A,x,u,rfl,rfl,b,b2,by rw[c.length,l.length];exact C,k _ _ ⟨I,_,.fz .non,s,d.mut g f (c.append l),rfl,z⟩⟩
variable {te:TE}{e3:TE3}{eb:TB3}
theorem gN(i:Nat)(j:X.K=K)(h:P3B K X (.Name x px) (jj i) (bor i))(g:P3 K X e te e3)(c:autoParam (Ut (.Name x px) "append" X.env (eval (.Name x px) X.env)=eval (.Name x px) X.env) wE)(d:autoParam (((backTo cpos (eh [e] X.env)).all (λx=>!x.1) && (VX cpos (UF [] X.env)).all (λx=>x.1.isSome)
   && decide ([e].length + ([]:List XB).length + (if ([]:List XB).isEmpty then 0 else 1) < 30))=true) wE)(b:autoParam ((apos.endLine == cpos.line)=true) wE)(f:autoParam (eh [e] X.env=(false,eval e X.env)::eh [] X.env) wE)(a:autoParam ((backTo cpos (eh [] X.env)).any (·.1)=false) wE) :
  P3 K X (.Call (.Attribute (.Name x px) "append" apos) [e] [] cpos) (tBM K "list" AE (jj i) (lq te rX)) (Pr i e3):=
 ⟨by subst j;exact Mb Wb Wv PySem.F.type_list_append FO h.pe (g_ g.pe rA f) c d b f a,J6 i g.rf⟩
theorem uC(i:Nat)(j:X.K=K)(h:P3B K X (.Name x px) (jj i) (bor i))(g:P3B K X e te eb)(c:autoParam (Ut (.Name x px) "extend" X.env (eval (.Name x px) X.env)=eval (.Name x px) X.env) wE)(d:autoParam (((backTo cpos (eh [e] X.env)).all (λx=>!x.1) && (VX cpos (UF [] X.env)).all (λx=>x.1.isSome)
   && decide ([e].length + ([]:List XB).length + (if ([]:List XB).isEmpty then 0 else 1) < 30))=true) wE)(b:autoParam ((apos.endLine == cpos.line)=true) wE)(f:autoParam (eh [e] X.env=(false,eval e X.env)::eh [] X.env) wE)(a:autoParam ((backTo cpos (eh [] X.env)).any (·.1)=false) wE) :
  P3 K X (.Call (.Attribute (.Name x px) "extend" apos) [e] [] cpos) (tBM K "list" AD (jj i) (lq te rX)) (ext3 i eb):=
 ⟨by subst j;exact Mb Wb Ww PySem.F.type_list_extend FL h.pe (g_ g.pe rA f) c d b f a,J5 i g.rf⟩
def D7 (i:Nat)(d:TB3)(e:TE3)(D:E3)(Γ:G):Prop:=e Γ λr c=>(∃ xs,dF c i=some xs)/\d c λb a=>∃ xs k j,dF a i=some xs/\b.at a=some (.int k)/\ixN xs.length k=some j/\D.nx (putD a i (.lst (xs.set j r.d)))
theorem JW(i:Nat){k:Expr}{g:TE}{n:TB3}(h:P3B K X (.Name x px) (jj i) (bor i))(N:P3B K X k g n)(P:P3 K X e te e3)(L:PS X (.Assign [.Subscript (.Name x px) k p2] e pos) (yS te (Lf (jj i) g Ef))) :
  P3S K X (.Assign [.Subscript (.Name x px) k p2] e pos) (yS te (Lf (jj i) g Ef)) (D7 i n e3):=⟨L,λB F d H w D D3 e k q=>
 P.rf B F d H w _ _ e q λv T Z=>by
  obtain⟨F',f,r,s,S,E,⟨y,R⟩,J⟩:=Z;obtain⟨V,C,o,G⟩:=S.frozen E;obtain⟨p,z,l,b0,_⟩:=o.dF R;refine⟨_,l,N.rf B V d T f _ _ o J λu H2 Z=>?_⟩;obtain⟨U,t,bo,m,e3,rb,W,kk,j,h,Q,O,I⟩:=Z;obtain⟨Y,A,a,b,c⟩:=e3.dF h;rw[l] at a;cases a;have M:u=.int kk:=e3.bo rb Q;exact⟨p,A,kk,j,rfl,M,b,by rw[c.length];exact O,k.nx U d _ _ ((s.trans C).trans m) (e3.mut h l (aE.set (G.mono m) j c)) I⟩⟩
end
section
variable {X:Cx}{B:Bs}{F H:Hp}{Γ:G}
set_option backward.eqns.nonrecursive false in
noncomputable def lR:Option (Option Sl)->Option Sl
 | some (some (.fz d))=>some (.fz d)
 | some (some (.ow d))=>some (.ln d)
 | some (some (.ln d))=>some (.ln d)
 | _=>none
set_option backward.eqns.nonrecursive false in
noncomputable def zk (Γ:G):Bo->Option Sl
 | .d x=>some (.fz x)
 | .v i=>lR Γ[i]?
set_option backward.eqns.nonrecursive false in
noncomputable def cb:Option Bo->Option Nat
 | some (.v i)=>some i
 | _=>none
noncomputable def HQ (Γ:G)(σ:_2.St)(k:Nat):Option Bo->Option (Nat×Addr)
 | some (.v i)=>match Γ[i]?,σ[i]? with
  | some (some (.ow _)),some (some (.ref p))=>some (k,p)
  | some (some (.ln _)),some (some (.ref p))=>some (k,p)
  | _,_=>none
 | _=>none
noncomputable def ownOf (Γ:G)(σ:_2.St)(bs:List (Option Bo)):List (Nat×Addr):=(ck bs.length).filterMap λk=>(bs[k]?).bind (HQ Γ σ k)
theorem uD{bs:List (Option Bo)}:(k,p)∈ownOf Γ σ bs↔∃ i d,bs[k]?=some (some (Bo.v i))/\Hld Γ i d/\σ[i]?=some (some (V.ref p)):=by
 unfold ownOf;rw[Uz];constructor
 .rintro⟨b,_,h⟩;cases q:bs[b]? with
  | none=>rw[q] at h;cases h
  | some o=>
   rw[q] at h;change HQ Γ σ b o=some (k,p) at h;unfold HQ at h;split at h
   .rename_i i;split at h
    .rename_i d e a h2;cases h;exact⟨i,d,q,.inl a,h2⟩
    .rename_i d e a h2;cases h;exact⟨i,d,q,.inr a,h2⟩
    .cases h
   .cases h
 .rintro⟨i,d,a,h2,c⟩;refine⟨k,rk.mpr (gS0 a).1,?_⟩;rw[a];show HQ Γ σ k (some (Bo.v i))=_;unfold HQ;rcases h2 with h2 | h2
  .simp only[h2,c]
  .simp only[h2,c]
noncomputable def fK (Γ:G)(bs:List (Option Bo)):G:=bs.map λo=>o.bind (zk Γ)
theorem lS{bs:List (Option Bo)}{s:Sl}:(fK Γ bs)[k]?=some (some s)↔∃ a,bs[k]?=some (some a)/\zk Γ a=some s:=by
 unfold fK;rw[dV];constructor
 .intro h;cases q:bs[k]? with
  | none=>rw[q] at h;cases h
  | some o=>
   rw[q] at h;cases o with
   | none=>cases h
   | some a=>exact⟨a,rfl,by simpa using h⟩
 .rintro⟨a,c,b⟩;rw[c];simp [b]
theorem LL{bo:Bo}{d:D}(h:zk Γ bo=some (.ln d)):∃ i,bo=.v i/\Hld Γ i d:=by
 cases bo with
 | d x=>cases h
 | v i=>
  change lR Γ[i]?=_ at h;unfold lR at h;split at h
  .cases h
  .cases h;rename_i q;exact⟨i,rfl,.inl q⟩
  .cases h;rename_i q;exact⟨i,rfl,.inr q⟩
  .cases h
theorem LM{bo:Bo}{d:D}(h:zk Γ bo=some (.fz d)):bo=.d d\/∃ i,bo=.v i/\Γ[i]?=some (some (Sl.fz d)):=by
 cases bo with
 | d x=>cases h;exact .inl rfl
 | v i=>
  change lR Γ[i]?=_ at h;unfold lR at h;split at h
  .cases h;rename_i q;exact .inr ⟨i,rfl,q⟩
  .cases h
  .cases h
  .cases h
theorem Bi{bo:Bo}{d:D}:zk Γ bo≠some (.ow d):=by
 intro h;cases bo with
 | d x=>cases h
 | v i=>change lR Γ[i]?=_ at h;unfold lR at h;split at h <;> cases h
theorem p_{bs:List (Option Bo)}:∀ (k:Nat) (d:D),(fK Γ bs)[k]?≠some (some (Sl.ow d)):=λk d h=>by
 obtain⟨a,_,h⟩:=lS.mp h;exact Bi h
theorem En.inner(e:En K B F σ H Γ){bs:List (Option Bo)}(J:σc.length=bs.length)(m:∀ (k:Nat) (bo:Bo) (s:Sl),bs[k]?=some (some bo)->zk Γ bo=some s->∃ v,σc[k]?=some (some v)/\vZ K F σ bo v)(G:∀ (k t i:Nat),bs[k]?=some (some (Bo.v i))->bs[t]?=some (some (Bo.v i))->k=t):En K ⟨F,H,ownOf Γ σ bs⟩ F σc H (fK Γ bs):=by
 have f:∀ {k d},Hld (fK Γ bs) k d->∃ i p,bs[k]?=some (some (Bo.v i))/\Hld Γ i d/\σ[i]?=some (some (V.ref p))/\σc[k]?=some (some (V.ref p)):=λ{k d} q=>by
  rcases q with q | q
  .obtain⟨bo,g,h2⟩:=lS.mp q;exact absurd h2 Bi
  .obtain⟨bo,g,h2⟩:=lS.mp q;obtain⟨v,j,c⟩:=m k bo _ g h2;obtain⟨i,rfl,l⟩:=LL h2;obtain⟨p,n,_⟩:=e.hl i d l;rw[show σ[i]?=some (some v) from c] at n;cases n;exact⟨i,p,g,l,c,j⟩
 refine⟨e.sub,by unfold fK;rw[lM0];exact J,?_,?_,?_,?_,?_,?_,aS.refl F,λb o h=>.inl h,λb o h _=>h,λb h=>h⟩
 .intro k d q;obtain⟨bo,g,h2⟩:=lS.mp q;obtain⟨v,j,c⟩:=m k bo _ g h2;refine⟨v,j,?_⟩;rcases LM h2 with rfl | ⟨i,rfl,l⟩
  .exact c
  .obtain⟨u,n,w⟩:=e.fz i d l;rw[show σ[i]?=some (some v) from c] at n;cases n;exact w
 .intro k d q;obtain⟨i,p,g,h2,j,c⟩:=f q;obtain⟨E,l,n,w⟩:=e.hl i d h2;rw[j] at l;cases l;exact⟨p,c,n,w⟩
 .intro k d p q;obtain⟨bo,g,h2⟩:=lS.mp q;exact absurd h2 Bi
 .intro k d p q a;obtain⟨i,E,g,h2,j,c⟩:=f (.inr q);rw[a] at c;cases c;exact uD.mpr ⟨i,d,g,h2,j⟩
 .intro k t d L p D C N M;obtain⟨i,P,g,h2,j,c⟩:=f D;obtain⟨I,O,z,y,x,r⟩:=f C;rw[N] at c;cases c;rw[M] at r;cases r;have:=e.dis i I d L p h2 y j x;subst this;exact G k t i g z
 .intro k p q;obtain⟨i,d,g,h2,j⟩:=uD.mp q;have A:zk Γ (.v i)=some (.ln d):=by
   show lR Γ[i]?=_;rcases h2 with h2 | h2 <;> rw[h2] <;> rfl
  obtain⟨v,c,l⟩:=m k _ _ g A;rw[show σ[i]?=some (some v) from l] at j;cases j;exact⟨c,d,lS.mpr ⟨_,g,A⟩⟩
theorem xR{bs:List (Option Bo)}:∀ k p,(k,p)∈ownOf Γ σ bs->∃ j d,(bs.map cb)[k]?=some (some j)/\Hld Γ j d/\σ[j]?=some (some (V.ref p)):=λk p h=>by
 obtain⟨i,d,c,b,a⟩:=uD.mp h;exact⟨i,d,by rw[dV,c];rfl,b,a⟩
noncomputable def jP (a:On):List (Option Bo):=a.map λo=>o.map Bo.v
def Cz (g:On)(h:TI3)(i:TG3)(j:TE3)(Γ:G)(Q:RV->G->Prop):Prop:=h Γ λxs b=>xs.length < sizeLine/\∃ c:Nat->List D->G->Prop,c 0 [] (fK b (jP g))/\
 (∀ k d ys a,xs[k]?=some d->ys.length=k->c k ys a->i d a λf=>j f λr e=>c (k + 1) (ys++[r.d]) e)/\∀ ys a,ys.length=xs.length->c xs.length ys a->Q (.fr (.lst ys)) (bh g b a)
theorem Jo(h:(fr.filterMap id).Nodup):∀ (k k' i:Nat),(jP fr)[k]?=some (some (Bo.v i))->(jP fr)[k']?=some (some (Bo.v i))->k=k':=by
 unfold jP;have g:∀ (l:On),(l.filterMap id).Nodup->∀ (k k' i:Nat),l[k]?=some (some i)->l[k']?=some (some i)->k=k':=by
  intro l
  induction l with
  | nil=>intro _ k k' i h;simp at h
  | cons o l f=>
   intro a k k' i h d;cases o with
   | none=>
    rw[List.filterMap_cons_none rfl] at a;cases k with
    | zero=>simp at h
    | succ k=>
     cases k' with
     | zero=>simp at d
     | succ k'=>rw[f a k k' i (by simpa using h) (by simpa using d)]
   | some j=>
    rw[show Yt id (some j::l)=j::Yt id l from rfl,IR] at a;have e:∀ {k:Nat},l[k]?=some (some i)->i∈l.filterMap id:=λq=>Uz.mpr ⟨some i,fC q,rfl⟩;cases k with
    | zero=>
     simp at h;subst h;cases k' with
     | zero=>rfl
     | succ k'=>exact absurd (e (by simpa using d)) a.1
    | succ k=>
     cases k' with
     | zero=>
      simp at d;subst d;exact absurd (e (by simpa using h)) a.1
     | succ k'=>rw[f a.2 k k' i (by simpa using h) (by simpa using d)]
 intro k k' i c b;refine g fr h k k' i ?_ ?_
 .rw[dV] at c;cases q:fr[k]? with
  | none=>rw[q] at c;cases c
  | some o=>rw[q] at c;cases o with | none=>cases c | some j=>cases c;rfl
 .rw[dV] at b;cases q:fr[k']? with
  | none=>rw[q] at b;cases b
  | some o=>rw[q] at b;cases o with | none=>cases b | some j=>cases b;rfl
theorem Cd:(jP fr).map cb=fr:=by
 unfold jP;rw[oj]
 conv=>rhs;rw[<- List.map_id fr]
 refine Pg λo _=>?_;cases o <;> rfl
theorem En.blk(e:En K B F σ H Γ)(f:(fr.filterMap id).Nodup):En K ⟨F,H,ownOf Γ σ (jP fr)⟩ F (uf fr σ) H (fK Γ (jP fr)):=by
 refine e.inner (by unfold uf jP;simp) (λk bo s a b=>?_) (Jo f);unfold jP at a;rw[dV] at a;cases q:fr[k]? with
 | none=>rw[q] at a;cases a
 | some o=>
  rw[q] at a;cases o with
  | none=>cases a
  | some j=>
   cases a;have:∃ d,Gat Γ j=some d:=by
    change lR Γ[j]?=_ at b;unfold lR at b;unfold Gat
    split at b <;> first | (cases b;done) | (rename_i w;rw[w];exact⟨_,rfl⟩) | exact⟨_,rfl⟩
   obtain⟨d,g⟩:=this;obtain⟨v,c,_⟩:=e.get g;refine⟨v,?_,c⟩;unfold uf;rw[dV,q];simp [c]
theorem BI{I:TI}{P:TI3}{g:TG}{T:TG3}{te:TE}{U:TE3}(nd:(fr.filterMap id).Nodup)(hi:LR K I P)(hg:Jx K g T)(he:Ref K te U):Ref K (nZ fr I g (vY te)) (Cz fr P T U):=by
 intro B F σ H Γ Q QQ e q k;refine hi B F σ H Γ _ _ e q λJ H1 D c d Y V R Z=>?_;obtain⟨hz,Iv,i0,it,ie⟩:=Z;have eb:=V.blk nd;refine⟨λi m ys b H=>m=d.length - i/\i<=d.length/\∃ E h f,aS D E/\En K ⟨D,H1,ownOf c σ (jP fr)⟩ E b H h/\aE K E f ys/\f.length=i/\Iv i f h,⟨_,rfl,xt _,D,_,[],aS.refl _,eb,rfl,rfl,i0⟩,?_⟩;rintro i m ys b C ⟨rfl,a1,F2,a,f,j,o,u,n,O⟩;have G:ys.length < sizeLine:=by rw[u.length,n];lia
 by_cases lt:i < d.length
 .refine .inr ⟨R.go i C (j.trans o.sub) lt,λx W y=>?_⟩;have S:d[i]?=some d[i]:=gE0 lt;obtain⟨X,N,A,r3⟩:=R.turn j o S y;refine hg _ X b W a x _ _ _ A r3 (it i _ f a S n O) λp t e4 q4=>?_;refine⟨G,he _ X p W t _ _ e4 q4 λy H5 Z=>?_⟩;obtain⟨F5,s,r,M,e5,rv,v⟩:=Z;obtain⟨F6,L,e6,r6⟩:=e5.frozen rv;refine⟨d.length - (i + 1),by lia,rfl,lt,F6,s,f++[r.d],((j.trans N).trans M).trans L,e6,?_,by simp [n],v⟩;exact aE.append (ys:=[r.d]) (u.mono ((N.trans M).trans L)) ⟨y,[],rfl,r6,rfl⟩
 .have z:i=d.length:=by lia
  subst z;refine .inl ⟨R.stop _ C (j.trans o.sub) rfl,G,λl w=>k _ _ ?_⟩;have eo:En K B F2 σ C (bh fr c a):=V.back (ls:=fr) o (by have:=xR (Γ:=c) (σ:=σ) (bs:=jP fr);rw[Cd] at this;exact this);exact Po.mono (Y.trans j) (j7 eo w u (ie f a n O))
theorem bF{i:TI}{j:TI3}{g:TG}{o:TG3}{te:TE}{p:TE3}(s:X.calm=true)(k:P3I K X tg iter i j)(t:Blk X.N X.env.scope sc Nc fr)(l:∀ s₀ H₀ C ex f,P3G K (bZ X sc Nc s₀ H₀ C ex f) tg g o)(n:∀ s₀ H₀ C ex f,P3 K (bZ X sc Nc s₀ H₀ C ex f) elt te p)(q:autoParam ((fr.filterMap id).Nodup) wP)(r:autoParam (∀ x,vl iter X.env x=pure x) wT) :
  P3 K X (.ListComp elt [⟨tg,iter,[],0⟩] sc pos) (nZ fr i g (vY te)) (Cz fr j o p):=
 ⟨xI (m:=λD h=>Ac elt D h) s k.pe t (λa b c d e=>(l a b c d e).pe) (λa b c d e D=>wZ rfl (n a b c d e).pe) (λ_ _ _=>rfl) r,BI q k.rf (l X.s₀ X.H₀ 0 [] []).rf (n X.s₀ X.H₀ 0 [] []).rf⟩
theorem dW{f:Pos}{n:TI}{o:TI3}{g:TG}{s:TG3}{te:TE}{t:TE3}(z:X.N.Nodup)(k:X.N[i]?=some x)(v:X.env.scope.names.lookup x=some .local)(y:X.calm=true)(p:P3I K X tg iter n o)(A:Blk X.N X.env.scope sc Nc fr)(q:∀ s₀ H₀ C ex h,P3G K (bZ X sc Nc s₀ H₀ C ex h) tg g s)(r:∀ s₀ H₀ C ex h,P3 K (bZ X sc Nc s₀ H₀ C ex h) elt te t)(u:autoParam ((fr.filterMap id).Nodup) wP)(j:autoParam (UY (.ListComp elt [⟨tg,iter,[],0⟩] sc pos) (some (.Name x px)) f.line X.env=pure true) wE)(w:autoParam (∀ x,vl iter X.env x=pure x) wT) :
  P3S K X (.Assign [.Name x px] (.ListComp elt [⟨tg,iter,[],0⟩] sc pos) f) (yS (nZ fr n g (vY te)) (tE i)) (JR i (Cz fr o s t)):=
 ⟨BO (m:=λD l=>Ac elt D l) z k v y p.pe A (λa b c d e=>(q a b c d e).pe) (λa b c d e D=>wZ rfl (r a b c d e).pe) (λ_ _ _=>rfl) j w,Ed (BI u p.rf (q X.s₀ X.H₀ 0 [] []).rf (r X.s₀ X.H₀ 0 [] []).rf)⟩
abbrev S3:=G->(RV->G->Prop)->Prop
def sp3 (K:Fg0)(n:Nat)(S:S3):Sp:=λvs H Q _=>vs.length=n/\∃ F own a c,En K ⟨F,H,own⟩ F (vs.map some) H a/\(∀ (k:Nat) (d:D),a[k]?≠some (some (Sl.ow d)))/\S a c/\∀ r b,c r b->∀ v H' e,En K ⟨F,H,own⟩ e (vs.map some) H' b->uj K ⟨F,H,own⟩ e (vs.map some) H' b v r->Q v H'
noncomputable def b_:List Bo->List Nat
 | []=>[]
 | .d _::a=>b_ a
 | .v i::a=>i::b_ a
noncomputable def vm (i:Nat):List Nat->Bool->Bool
 | [],b=>b
 | j::a,b=>bif i == j then false else vm i a b
noncomputable def nE:List Bo->Nat->Bool
 | .d _::a,n + 1=>nE a n
 | .v i::a,n + 1=>vm i (b_ a) (nE a n)
 | [],0=>true
 | _,_=>false
theorem B6 {i:Nat}{b:Bool}:∀ {js:List Nat},vm i js b=true->i∉js/\b=true
 | [],h=>⟨by simp,h⟩
 | j::js,h=>by
  unfold vm at h;cases e:i == j with
  | true=>rw[e] at h;cases h
  | false=>
   rw[e] at h;obtain⟨a,b⟩:=B6 (js:=js) h;exact⟨by simp at e;simp [e,a],b⟩
theorem ui:∀ {bs:List Bo} {n:Nat},nE bs n=true->bs.length=n/\(b_ bs).Nodup
 | [],0,_=>⟨rfl,Yu⟩
 | [],_ + 1,h=>by cases h
 | .d _::_,0,h=>by cases h
 | .v _::_,0,h=>by cases h
 | .d _::bs,n + 1,h=>let ⟨a,b⟩:=ui (bs:=bs) h;⟨congrArg (· + 1) a,b⟩
 | .v i::bs,n + 1,h=>let ⟨x,y⟩:=B6 h;let ⟨a,b⟩:=ui y;⟨congrArg (· + 1) a,IR.2 ⟨x,b⟩⟩
theorem KN{b:Bool}:vm i [] b=b:=rfl
theorem KO{js:List Nat}{b:Bool}:vm i (j::js) b=bif i == j then false else vm i js b:=rfl
theorem LK:nE [] 0=true:=rfl
theorem LJ{d:D}{bs:List Bo}:nE (.d d::bs) (n + 1)=nE bs n:=rfl
theorem LI{bs:List Bo}:nE (.v i::bs) (n + 1)=vm i (b_ bs) (nE bs n):=rfl
def Bc (n:Nat)(S:S3)(d:dG)(Γ:G)(Q:RV->G->Prop):Prop:=d Γ λc a=>bT (nE c n) (S (fK a (c.map some)) λr b=>Q r (bh ((c.map some).map cb) a b)) False ⟨⟩ ⟨⟩
theorem Ic:∀ {bs:List Bo},(b_ bs).Nodup->∀ (k k' i:Nat),(bs.map some)[k]?=some (some (Bo.v i))->(bs.map some)[k']?=some (some (Bo.v i))->k=k':=by
 intro bs h k k' i f e;have a:((((bs.map some).map cb)).filterMap id)=b_ bs:=by
  clear h f e
  induction bs with
  | nil=>rfl
  | cons b bs c=>cases b with
   | d x=>simpa [cb,b_] using c
   | v j=>simpa [cb,b_] using c
 rw[<- a] at h;refine Jo h k k' i ?_ ?_
 .unfold jP;rw[dV,dV,f];rfl
 .unfold jP;rw[dV,dV,e];rfl
theorem bD.get{F:Hp}:∀ {h:List Bo} {vs:List V},bD K F σ h vs->∀ {k:Nat} {bo:Bo},h[k]?=some bo->∃ v,vs[k]?=some v/\vZ K F σ bo v
 | [],_,_,k,bo,e=>by simp at e
 | x::j,_,⟨v,l,c,g,f⟩,0,d,e=>by subst c;simp at e;subst e;exact⟨v,rfl,g⟩
 | x::j,_,⟨v,l,c,g,f⟩,i + 1,d,e=>by
  subst c;obtain⟨u,a,b⟩:=bD.get f (k:=i) (bo:=d) (by simpa using e);exact⟨u,by simpa using a,b⟩
theorem bD.length{F:Hp}:∀ {a:List Bo} {vs:List V},bD K F σ a vs->vs.length=a.length
 | [],_,h=>by cases h;rfl
 | _::_,_,Z=>by obtain⟨v,d,c,e,b⟩:=Z;subst c;simp [bD.length b]
theorem En.args(e:En K B F σ H Γ){bs:List Bo}{vs:List V}(r:bD K F σ bs vs)(d:(b_ bs).Nodup):En K ⟨F,H,ownOf Γ σ (bs.map some)⟩ F (vs.map some) H (fK Γ (bs.map some)):=by
 refine e.inner (by simp [r.length]) (λk bo s c f=>?_) (Ic d);rw[dV] at c;cases q:bs[k]? with
 | none=>rw[q] at c;cases c
 | some b=>
  rw[q] at c;cases c;obtain⟨v,a,b⟩:=r.get q;exact⟨v,by rw[dV,a];rfl,b⟩
theorem En.called(e:En K B F σ H Γ){u A:Hp}{bs:List (Option Bo)}{f:G}{v:V}{r:RV}(L:En K ⟨F,H,ownOf Γ σ bs⟩ u σc A f)(n:uj K ⟨F,H,ownOf Γ σ bs⟩ u σc A f v r) :
  aS F u/\En K B u σ A (bh (bs.map cb) Γ f)/\uj K B u σ A (bh (bs.map cb) Γ f) v r:=by
 have T:=e.back L xR;refine⟨L.keep,T,?_⟩;have nw:∀ {p:Addr},H p=none->∀ (i:Nat) (x:D),Hld (bh (bs.map cb) Γ f) i x->σ[i]?≠some (some (V.ref p)):=λ{p} I i x hx R=>by
  obtain⟨d0,w⟩:∃ d0,Hld Γ i d0:=by
   rcases hx with hx | hx <;> rw[bS] at hx
   .cases w:Γ[i]? with
    | none=>rw[w] at hx;cases hx
    | some s=>rw[w] at hx;cases s with
     | none=>cases hx
     | some s=>cases s with
      | fz d=>cases hx
      | ow d=>exact⟨d,.inl w⟩
      | ln d=>cases hx
   .cases w:Γ[i]? with
    | none=>rw[w] at hx;cases hx
    | some s=>rw[w] at hx;cases s with
     | none=>cases hx
     | some s=>cases s with
      | fz d=>cases hx
      | ow d=>cases hx
      | ln d=>exact⟨d,.inr w⟩
  obtain⟨U,a,b,c⟩:=e.hl i d0 w;rw[R] at a;cases a;obtain⟨o,J⟩:=c.some;rw[I] at J;cases J
 cases r with
 | fz d=>exact n
 | fr d=>
  obtain⟨p,m,l,k,j,y⟩:=n;exact⟨p,m,l,k,e.dom p j,nw j⟩
 | two O M=>
  obtain⟨t,p,q,C,P,m,l,k,j,y,E,S,h⟩:=n;exact⟨t,p,q,C,P,m,l,k,j,y,E,S,λz g=>⟨(h z g).1,e.dom z (h z g).2.1,nw (h z g).2.1⟩⟩
 | tol x O M=>
  obtain⟨p,q,w,C,m,l,k,j,y,E,h⟩:=n;exact⟨p,q,w,C,m,l,k,j,y,E,λz g=>⟨(h z g).1,e.dom z (h z g).2.1,nw (h z g).2.1⟩⟩
 | rws N=>
  obtain⟨p,Q,m,l,k,j,h⟩:=n;exact⟨p,Q,m,l,k,j,λz g=>⟨(h z g).1,e.dom z (h z g).2.1,nw (h z g).2.1⟩⟩
theorem BJ{t:TA}{d:dG}{S:S3}{E:XK}(h:yP K t d):Ref K (Bt (sp3 K n S) [] E t) (Bc n S d):=by
 intro B F i H m Q A e q k;refine h B F i H m _ _ e q λo C Z=>?_;obtain⟨G,l,J,p,g,f,Z⟩:=Z;obtain⟨z,u⟩:=vb Z;obtain⟨x,w⟩:=ui z;show sp3 K n S (o++[]) C A E;rw[tq];refine⟨by rw[f.length];exact x,G,_,_,_,g.args f w,p_,u,λr j q v D I y s=>?_⟩;obtain⟨a,b,c⟩:=g.called y s;exact k v D ⟨I,_,r,p.trans a,b,c,q⟩
noncomputable def N3:Option (Option Sl)->D->Option Sl
 | some (some (.ln d)),_=>some (.ln d)
 | _,d=>some (.ln d)
noncomputable def QX (x:Option (Option Sl)):Option Sl->Option Sl
 | some (.ln d)=>N3 x d
 | s=>s
noncomputable def iZ:G->G->G
 | [],_=>[]
 | s::Γ,a=>QX a.head? s::iZ Γ a.tail
theorem sD:∀ {Γ Γ':G} {k:Nat},(iZ Γ Γ')[k]?=(Γ[k]?).map (QX Γ'[k]?)
 | [],_,_=>rfl
 | _::_,[],0=>rfl
 | _::_,_::_,0=>rfl
 | _::Γ,[],k + 1=>sD (Γ:=Γ) (Γ':=[]) (k:=k)
 | _::Γ,_::Γ',k + 1=>sD (Γ:=Γ) (Γ':=Γ') (k:=k)
theorem BU:∀ {Γ a:G},(iZ Γ a).length=Γ.length
 | [],_=>rfl
 | _::Γ,_=>congrArg (· + 1) (BU (Γ:=Γ))
theorem QU{Γ':G}:iZ [] Γ'=[]:=rfl
theorem QW{Γ Γ':G}:iZ (none::Γ) Γ'=none::iZ Γ Γ'.tail:=rfl
theorem QS{Γ Γ':G}{d:D}:iZ (some (.fz d)::Γ) Γ'=some (.fz d)::iZ Γ Γ'.tail:=rfl
theorem QV{Γ Γ':G}{d d':D}:iZ (some (.ln d)::Γ) (some (.ln d')::Γ')=some (.ln d')::iZ Γ Γ':=rfl
theorem KC{a Γ':G}{d:D}(h:a[k]?=some (some (Sl.ln d))){d':D}(h':Γ'[k]?=some (some (Sl.ln d'))):(iZ a Γ')[k]?=some (some (Sl.ln d')):=by
 rw[sD,h,h'];rfl
theorem sC{a Γ':G}{s:Sl}(h:(iZ a Γ')[k]?=some (some s)):(∃ d d',a[k]?=some (some (Sl.ln d))/\s=.ln d')\/(a[k]?=some (some s)/\∀ d,s≠.ln d):=by
 rw[sD] at h;cases w:a[k]? with
 | none=>rw[w] at h;cases h
 | some o=>
  rw[w] at h;cases o with
  | none=>cases h
  | some b=>
   cases b with
   | fz d=>cases h;exact .inr ⟨rfl,λd z=>by cases z⟩
   | ow d=>cases h;exact .inr ⟨rfl,λd z=>by cases z⟩
   | ln d=>
    left
    have h:N3 Γ'[k]? d=some s:=nS h;unfold N3 at h;split at h <;> cases h <;> exact⟨_,_,rfl,rfl⟩
theorem En.out{Q P Y X:Hp}{i:List (Nat×Addr)}{l A:_2.St}{f Γ':G}(N:En K ⟨Q,P,i⟩ Q l P f)(T:∀ (k:Nat) (d:D),f[k]?≠some (some (Sl.ow d)))(B:En K ⟨Q,P,i⟩ Y A X Γ'){v:V}{r:RV}(R:uj K ⟨Q,P,i⟩ Y A X Γ' v r) :
  En K ⟨Q,P,i⟩ Y l X (iZ f Γ')/\uj K ⟨Q,P,i⟩ Y l X (iZ f Γ') v r:=by
 have S:∀ {k:Nat} {d:D},f[k]?=some (some (Sl.ln d))->∃ p C,(k,p)∈i/\l[k]?=some (some (V.ref p))/\A[k]?=some (some (V.ref p))/\Γ'[k]?=some (some (Sl.ln C))/\(iZ f Γ')[k]?=some (some (Sl.ln C)):=λ{k d} h=>by
  obtain⟨p,a,b,c⟩:=N.hl k d (.inr h);have m:=N.ln k d p h a;obtain⟨e,C,j⟩:=B.par k p m;exact⟨p,C,m,a,e,j,KC h j⟩
 have g:∀ {k:Nat} {d:D},Hld (iZ f Γ') k d->∃ p L,f[k]?=some (some (Sl.ln L))/\(k,p)∈i/\l[k]?=some (some (V.ref p))/\A[k]?=some (some (V.ref p))/\Γ'[k]?=some (some (Sl.ln d)):=λ{k d} h=>by
  rcases h with h | h
  .rcases sC h with ⟨O,W,_,z⟩ | ⟨z,_⟩
   .cases z
   .exact absurd z (T k d)
  .rcases sC h with ⟨O,W,z,_⟩ | ⟨_,z⟩
   .obtain⟨p,C,m,a,e,j,s⟩:=S z;rw[h] at s;cases s;exact⟨p,O,z,m,a,e,j⟩
   .exact absurd rfl (z d)
 refine⟨⟨B.sub,?_,?_,?_,?_,?_,?_,?_,B.keep,B.new,B.rest,B.dom⟩,?_⟩
 .rw[BU];exact N.len
 .intro k d q;rcases sC q with ⟨O,W,_,z⟩ | ⟨z,_⟩
  .cases z
  .obtain⟨u,a,b⟩:=N.fz k d z;exact⟨u,a,b.mono B.keep⟩
 .intro k d q;obtain⟨p,L,_,m,a,e,b⟩:=g q;obtain⟨M,x,y,z⟩:=B.hl k d (.inr b);rw[e] at x;cases x;exact⟨p,a,y,z⟩
 .intro k d p q;rcases sC q with ⟨O,W,_,z⟩ | ⟨z,_⟩
  .cases z
  .exact absurd z (T k d)
 .intro k d p q a;obtain⟨M,L,_,m,e,_⟩:=g (.inr q);rw[a] at e;cases e;exact m
 .intro k k' d C p q1 q2 a1 a2;obtain⟨p1,O,z1,_⟩:=g q1;obtain⟨p2,W,z2,_⟩:=g q2;exact N.dis k k' O W p (.inr z1) (.inr z2) a1 a2
 .intro k p q;obtain⟨a,d,b⟩:=N.par k p q;obtain⟨M,C,m,e,_,_,c⟩:=S b;exact⟨a,C,c⟩
 .cases r with
  | fz d=>exact R
  | fr d=>
   obtain⟨p,J,I,H,F,U⟩:=R;refine⟨p,J,I,H,F,λk x E a=>?_⟩;obtain⟨M,L,_,m,e,j,s⟩:=g E;rw[a] at e;cases e;exact U k x (.inr s) j
  | two xs ys=>
   obtain⟨t,p,q,Z,ws,J,I,H,F,U,h6,h7,o⟩:=R;refine⟨t,p,q,Z,ws,J,I,H,F,U,h6,h7,λz n=>⟨(o z n).1,(o z n).2.1,λk x E a=>?_⟩⟩;obtain⟨M,L,_,m,e,j,s⟩:=g E;rw[a] at e;cases e;exact(o z n).2.2 k x (.inr s) j
  | tol x xs ys=>
   obtain⟨p,q,w,Z,J,I,H,F,U,h6,o⟩:=R;refine⟨p,q,w,Z,J,I,H,F,U,h6,λz n=>⟨(o z n).1,(o z n).2.1,λk x E a=>?_⟩⟩;obtain⟨M,L,_,m,e,j,s⟩:=g E;rw[a] at e;cases e;exact(o z n).2.2 k x (.inr s) j
  | rws a4=>
   obtain⟨p,qs,J,I,H,F,o⟩:=R;refine⟨p,qs,J,I,H,F,λz n=>⟨(o z n).1,(o z n).2.1,λk x E a=>?_⟩⟩;obtain⟨M,L,_,m,e,j,s⟩:=g E;rw[a] at e;cases e;exact(o z n).2.2 k x (.inr s) j
end
noncomputable def jk (N:Ls0)(a:G):G:=a++hP (N.length - a.length) none
section
variable {mg:SV0}
theorem En.start{B:Bs}{F H:Hp}{vs:List V}{c:G}(e:En K B F (vs.map some) H c)(v:c.length<=N.length):En K B F (_2.start N vs) H (jk N c):=by
 have len:=e.len;rw[lM0] at len;have f:∀ {i:Nat},i < c.length->(_2.start N vs)[i]?=(vs.map some)[i]?:=λ{i} h=>by
  unfold _2.start;rw[iv (by rw[lM0];lia)]
 have g:∀ {i:Nat} {s:Sl},(jk N c)[i]?=some (some s)->i < c.length/\c[i]?=some (some s):=λ{i s} h=>by
  unfold jk at h;by_cases lt:i < c.length
  .rw[iv lt] at h;exact⟨lt,h⟩
  .rw[mm (by lia)] at h;have:=fC h;rw[Xl] at this;cases this.2
 have m:∀ {i:Nat} {d:D},Hld (jk N c) i d->i < c.length/\Hld c i d:=λh=>by
  rcases h with h | h
  .exact⟨(g h).1,.inl (g h).2⟩
  .exact⟨(g h).1,.inr (g h).2⟩
 refine⟨e.sub,?_,?_,?_,?_,?_,?_,?_,e.keep,e.new,e.rest,e.dom⟩
 .unfold _2.start jk;simp only[el,lM0,zz];lia
 .intro i d q;obtain⟨lt,q⟩:=g q;rw[f lt];exact e.fz i d q
 .intro i d q;obtain⟨lt,q⟩:=m q;rw[f lt];exact e.hl i d q
 .intro i d p q a;obtain⟨lt,q⟩:=g q;rw[f lt] at a;exact e.ow i d p q a
 .intro i d p q a;obtain⟨lt,q⟩:=g q;rw[f lt] at a;exact e.ln i d p q a
 .intro i j d u p l k o n;obtain⟨t,l⟩:=m l;obtain⟨r,k⟩:=m k;rw[f t] at o;rw[f r] at n;exact e.dis i j d u p l k o n
 .intro i p q;obtain⟨a,d,b⟩:=e.par i p q;have lt:i < c.length:=(gS0 b).1;refine⟨by rw[f lt];exact a,d,?_⟩;unfold jk;rw[iv lt];exact b
theorem ok3{S:S3}(F:Fun K x qual st f fd)(O:ak N ps (af st))(M:autoParam (ps.length<=N.length) wP)(hbody:∀ (g:Value) (A:Around) (outer:List Env) (s:Shared) (H:Hp) (E:XK),cK k (A.deeper (envOfC qual (af st) s.heap.objs.size f g))->
   ∃ t t3,Bm K (Cv CX0 P w K mg base N qual (af st) f g A outer s H E).nox (cj st) t t3/\∀ c Q,S c Q->c.length=ps.length->t3 { nx:=λd=>Q (.fz .non) (iZ c d),rt:=λr d=>Q r (iZ c d) } (jk N c)) :
  aC P w K mg base CX0 (k + 1) f fd ps (sp3 K ps.length S):=by
 refine F.ok O (λB H Q E h=>h.1) λg A outer s H B Q E I h=>?_;obtain⟨J,y,m,c,o,e,i,L,u⟩:=h;obtain⟨t,t3,p,G⟩:=hbody g A outer s H E I;have j:c.length=ps.length:=by rw[<- e.len,lM0];exact J
 refine⟨t,p.pe,p.rf ⟨y,H,m⟩ y _ H _ _ { nx:=λd=>o (.fz .non) (iZ c d),rt:=λr d=>o r (iZ c d) } (e.start (N:=N) (by rw[j];exact M)) ⟨?_,?_,λ_ _ _ _ _ _ z=>sr z,λ_ _ _ _ _ _ z=>sr z⟩ (G c o L j)⟩
 .intro T l R d C n q;obtain⟨a,b⟩:=e.out i n (v:=.non) (r:=.fz .non) rfl;exact u _ _ q _ _ _ a b
 .intro T l R d v r C n D q;obtain⟨a,b⟩:=e.out i n D;exact u _ _ q _ _ _ a b
end
section
variable {X:Cx}{C:Addr}{m:Str}{p:Pos}{ta:TE}{t:TA}{t3:dG}{o3:TB3}{S:S3}
theorem aj(m:X.K=K)(F:aC X.prog X.w X.K X.mg X.base CX0 k f fd ps (sp3 K n S))(d:cK k X.A)(i:Gl X x)(g:X.mg x=some (.ref f))(h:ox X.K (.ref f)=true)(l:Binds X.K fd ps [])(c:yQ K X (e::es) t t3)(b:autoParam ((x == ("__debug__":Str))=false) wP)(j:autoParam (eh (e::es) X.env=(false,eval e X.env)::eh es X.env) wE)(a:autoParam ((backTo pos (eh es X.env)).any (·.1)=false) wE) :
  P3 K X (.Call (.Name x p) (e::es) [] pos) (Bt (sp3 K n S) [] E0 t) (Bc n S t3):=⟨Kq F d i g h l .nil xJ c.pe b j a,BJ c.rf⟩
theorem HP(h:X.K=K)(F:aC X.prog X.w X.K X.mg X.base CX0 k f fd ps (sp3 K n S))(b:cK k X.A)(e:Gl X x)(c:X.mg x=some (.ref f))(d:ox X.K (.ref f)=true)(g:Binds X.K fd ps [])(a:autoParam ((x == ("__debug__":Str))=false) wP) :
  P3 K X (.Call (.Name x p) [] [] pos) (Bt (sp3 K n S) [] E0 rX) (Bc n S KP):=⟨HJ F b e c d g .nil xJ a,BJ (ab (X:=X)).rf⟩
def lC (C:Addr)(m:Str)(n:Nat)(S:S3)(f:TB3)(e:dG)(Γ:G)(Q:RV->G->Prop):Prop:=f Γ λx b=>(∃ ns xs,x.at b=some (.ins C ns xs)/\m∉ns)/\e b λd a=>bT (nE (x::d) n) (S (fK a ((x::d).map some)) λr c=>Q r (bh (((x::d).map some).map cb) a c)) False ⟨⟩ ⟨⟩
theorem FT{c:Ls0}:∀ {b:List (Str×V)} {m:Str},b.map (·.1)=c->m∉c->b.lookup m=none:=by
 induction c with
 | nil=>intro b m h _;cases b with | nil=>rfl | cons=>cases h
 | cons a c e=>
  intro b m h d;cases b with
  | nil=>cases h
  | cons g b=>
   simp only[sS,Wr] at h;obtain⟨rfl,h⟩:=h;rw[hF,not_or] at d;obtain⟨f,i⟩:=g;rw[ek,show (m == f)=false from beq_eq_false_iff_ne.mpr d.1];exact e h d.2
theorem BG(J:yO K ta o3)(N:yP K t t3):Ref K (Bq C m (sp3 K n S) [] E0 ta t) (lC C m n S o3 t3):=by
 intro B F d H w Q QQ e q G;refine J B F d H w _ _ e q λv H0 Z=>?_;obtain⟨F0,f,Y,x,l,j,⟨ns,xs,I,M⟩,D⟩:=Z;obtain⟨p,U,R,rfl,P,O,h3⟩:=l.bo j I;refine⟨p,U,R,rfl,P,FT O M,N B F0 d H0 f _ _ l D λg H1 Z=>?_⟩;obtain⟨o,u,X,h,k,z,Z⟩:=Z;obtain⟨W,A⟩:=vb Z;obtain⟨L,E⟩:=ui W;show sp3 K n S (V.ref p::(g++[])) H1 QQ E0;rw[tq];have i:bD K o d (Y::X) (V.ref p::g):=⟨_,_,rfl,j.mono h,z⟩;refine⟨by rw[i.length];exact L,o,_,_,_,k.args i E,p_,A,λr s q v H' F' T y=>?_⟩;obtain⟨a,b,c⟩:=k.called T y;exact G v H' ⟨F',_,r,(x.trans h).trans a,b,c,q⟩
theorem aG{pl:Sem Bool}(p:X.K=K)(d:P3B K X o ta o3)(c:Cls X.K C)(j:Meth X.K C m f)(F:aC X.prog X.w X.K X.mg X.base CX0 k f fd ps (sp3 K n S))(i:cK k X.A)(l:Binds X.K fd ps [])(g:yQ K X (e::es) t t3)(a:autoParam (eh (e::es) X.env=(false,eval e X.env)::eh es X.env) wE)(b:autoParam ((backTo pos (eh es X.env)).any (·.1)=false) wE)(h:autoParam (eval (.Call (.Attribute o m apos) (e::es) [] pos) X.env=(do
   let I <- eval o X.env
   SZ apos.atName
   let (f,first) <- holding [I] (VV I m pl)
   Yn pos f first (backTo pos (eh (e::es) X.env)) (VX pos (UF [] X.env)))) wE) :
  P3 K X (.Call (.Attribute o m apos) (e::es) [] pos) (Bq C m (sp3 K n S) [] E0 ta t) (lC C m n S o3 t3):=⟨Kl d.pe c j F i l .nil xJ g.pe a b h,BG d.rf g.rf⟩
theorem aD{pl:Sem Bool}(h:X.K=K)(a:P3B K X o ta o3)(c:Cls X.K C)(e:Meth X.K C m f)(F:aC X.prog X.w X.K X.mg X.base CX0 k f fd ps (sp3 K n S))(d:cK k X.A)(g:Binds X.K fd ps [])(b:autoParam (eval (.Call (.Attribute o m apos) [] [] pos) X.env=(do
   let I <- eval o X.env
   SZ apos.atName
   let (f,first) <- holding [I] (VV I m pl)
   Yn pos f first (backTo pos (eh [] X.env)) (VX pos (UF [] X.env)))) wE) :
  P3 K X (.Call (.Attribute o m apos) [] [] pos) (Bq C m (sp3 K n S) [] E0 ta rX) (lC C m n S o3 KP):=⟨HC a.pe c e F d g .nil xJ b,BG a.rf (ab (X:=X)).rf⟩
theorem P3.or{t t':TE}{c b:TE3}(h:P3 K X e t c)(h':P3 K X e t' b):P3 K X e (λσ H Q=>t σ H Q\/t' σ H Q) (λΓ Q=>c Γ Q\/b Γ Q):=
 ⟨λa s σ H Q I q=>q.elim (h.pe a s σ H Q I) (h'.pe a s σ H Q I),λB F σ H Γ Q d e q k=>q.imp (λq=>h.rf B F σ H Γ Q d e q k) (λq=>h'.rf B F σ H Γ Q d e q k)⟩
theorem pZ(M:Mk0 X.K C)(j:Gl X x)(i:X.mg x=some (.ref C))(c:autoParam ((x == ("__debug__":Str))=false) wP):P3 K X (.Call (.Name x p) [] [] pos) (D4 C) (λΓ Q=>Q (.fr (.ins C [] [])) Γ):=
 ⟨Fy M j i c,λB F l H Γ Q m e q k=>λy g f b h=>k _ _ (by
  have d:=e.alloc b (.own y);have a:(upd H g (.own y)) y=none:=by rw[au (vk h)];exact f
  exact⟨F,Γ,.fr (.ins C [] []),aS.refl F,d.alloc a _,⟨y,rfl,d.nof a,⟨g,[],az,rfl,rfl⟩,e.dom _ f,d.B7 a⟩,q⟩)⟩
end
section
variable {X:Cx}{B:Bs}{F H:Hp}{Γ:G}{p:Pos}
theorem zE{n:String}(d:Gl X x)(c:X.mg x=none)(a:AC x=some (.type n))(b:autoParam (x≠"__name__") wP)(e:autoParam ((x == ("__debug__":Str))=false) wP):P3 K X (.Name x pos) (tC (.ty n)) (t3C (.ty n)):=
 ⟨Kr (v:=.ty n) d c a rfl b e,zC λ_=>rfl⟩
theorem BD(i:Nat){y:Str}{k:Expr}{a te:TE}{b:TB3}{g:TE3}(c:P3B K X (.Name y px) (jj i) (bor i))(d:P3B K X k a b)(f:P3 K X e te g)(l:autoParam (∀ v,assign (.Subscript (.Name y px) k p2) X.env v=(do
   let I <- holding [v] (eval (.Name y px) X.env)
   let O <- holding [v,I] (eval k X.env)
   SZ p2
   holding [v,I,O] (setItem I O v)
   release [v,I,O] [])) wT)(j:autoParam (Uq [.Subscript (.Name y px) k p2] e pos.line X.env=pure false) wE)(h:autoParam (Ur [.Subscript (.Name y px) k p2] e X.env=pure none) wE)(m:autoParam ((PD [.Subscript (.Name y px) k p2] X.env).map (·.2)=[assign (.Subscript (.Name y px) k p2) X.env]) wE) :
  P3S K X (.Assign [.Subscript (.Name y px) k p2] e pos) (yS te (Lf (jj i) a Ef)) (D7 i b g):=JW i c d f (Hr f.pe (NT c.pe d.pe set_list l) j h m)
theorem En.grow(e:En K B F σ H Γ){g:Hp}(s:aS H g)(S:Addr)(l:H S=none):∃ j,aS F j/\En K B j σ g Γ/\j S=none/\∀ b o,b≠S->H b=none->g b=some o->j b=some o:=by
 refine⟨λb=>if H b=none/\b≠S then g b else F b,?_,?_,?_,?_⟩
 .intro b o h;show (if _ then _ else _)=_;have:=e.sub b o h;rw[if_neg (by rw[this];simp)];exact h
 .refine⟨?_,e.len,?_,?_,e.ow,e.ln,e.dis,e.par,?_,?_,λb o h n=>s b o (e.rest b o h n),λb h=>e.dom b (s.free h)⟩
  .intro b o h;change (if _ then _ else _)=_ at h;split at h
   .exact h
   .exact s b o (e.sub b o h)
  .intro i d h;obtain⟨v,a,b⟩:=e.fz i d h;refine⟨v,a,b.mono λb o h=>?_⟩;show (if _ then _ else _)=_;have:=e.sub b o h;rw[if_neg (by rw[this];simp)];exact h
  .intro i d h;obtain⟨q,a,b,c⟩:=e.hl i d h;obtain⟨o,k⟩:=c.some;refine⟨q,a,?_,c.mono (λb o h=>?_) (by rw[k];exact s _ _ k)⟩
   .show (if _ then _ else _)=_;rw[if_neg (by rw[k];simp)];exact b
   .show (if _ then _ else _)=_;have:=e.sub b o h;rw[if_neg (by rw[this];simp)];exact h
  .intro b o h;have f:=e.keep b o h;show (if _ then _ else _)=_;have:=e.sub b o f;rw[if_neg (by rw[this];simp)];exact f
  .intro b o h;change (if _ then _ else _)=_ at h;split at h
   .rename_i q;exact .inr (e.dom b q.1)
   .exact e.new b o h
 .show (if _ then _ else _)=_;rw[if_neg (by simp)];exact e.nof l
 .intro b o n h f;show (if _ then _ else _)=_;rw[if_pos ⟨h,n⟩];exact f
def lz3 (b:dG)(Γ:G)(Q:RV->G->Prop):Prop:=b Γ λc a=>∃ xs ys,ats a c=some [.lst xs,.lst ys]/\min xs.length ys.length < sizeLine/\Q (.fr (.lst (ky xs ys))) a
theorem Eb {F:Hp}:∀ {ds:List D} {vs:List V},vs.length=ds.length->(∀ (i:Nat) d v,ds[i]?=some d->vs[i]?=some v->Rep K F d v)->aE K F ds vs
 | [],vs,h,_=>by cases vs with | nil=>rfl | cons=>simp at h
 | d::ds,vs,h,k=>by
  cases vs with
  | nil=>simp at h
  | cons v vs=>exact⟨v,vs,rfl,k 0 d v rfl rfl,Eb (by simpa using h) λi d v b a=>k (i + 1) d v (by simpa using b) (by simpa using a)⟩
theorem GA{xs ys:List D}:(ky xs ys).length=min xs.length ys.length:=by unfold ky;rw[lM0,Yd]
theorem De{b:Expr}{ta:TA}{T:dG}{p c:Pos}(hc:X.calm=true)(hg:Gl X "list")(hm:X.mg "list"=none)(L:Gl X "zip")(G:X.mg "zip"=none)(U:yQ K X [a,b] ta T)(hs:autoParam (eh [a,b] X.env=[(false,eval a X.env),(false,eval b X.env)]) wE)(E:autoParam (eh [b] X.env=[(false,eval b X.env)]) wE)(D:autoParam (eh [Expr.Call (.Name "zip" p2) [a,b] [] c] X.env=[(false,eval (.Call (.Name "zip" p2) [a,b] [] c) X.env)]) wE) :
  P3 K X (.Call (.Name "list" p) [.Call (.Name "zip" p2) [a,b] [] c] [] pos) (Br ta) (lz3 T):=⟨C9 hc hg hm L G U.pe hs E D,by
 intro B F Y H Γ Q QQ e q k;refine U.rf B F Y H Γ _ _ e q λvs H1 Z=>?_;obtain⟨F1,r,bs,s1,o,r0,xs,ys,M,hz,q1⟩:=Z;obtain⟨v,w,rfl,⟨p1,n,rfl,g1,y⟩,⟨p2,l,rfl,g2,x⟩⟩:=(o.bos r0 M).two;refine⟨p1,p2,n,l,rfl,g1,g2,by rw[y.length,x.length];exact hz,λS R H' O sm W P V h4=>k _ _ ?_⟩;obtain⟨F2,s,e2,f2,g⟩:=o.grow sm S O;have N:∀ t∈R,t≠S:=λt h z=>by
  subst z;obtain⟨j,J,I⟩:=FB h;have C:j < n.length:=by rw[P] at J;lia
  have A:j < l.length:=by rw[P] at J;lia
  have:=V j t _ _ (by rw[<- I];exact gE0 J) (gE0 C) (gE0 A);rw[W] at this;cases this
 refine⟨F2,r,.fr (.lst (ky xs ys)),s1.trans s,e2,⟨S,rfl,f2,⟨_,W,?_⟩,o.dom _ O,o.B7 O⟩,q1⟩;refine Eb (by rw[lM0,P,GA,y.length,x.length]) λi d v M f=>?_;obtain⟨dx,dy,C,A,rfl⟩:=xb M;rw[dV] at f;cases h:R[i]? with
 | none=>rw[h] at f;cases f
 | some t=>
  rw[h] at f;cases f;obtain⟨v,f,rv⟩:=y.get C;obtain⟨w,hw,u⟩:=x.get A;have m:=fC h;exact⟨t,_,rfl,g t _ (N t m) (h4 t m) (V i t v w h f hw),⟨_,_,rfl,rv.mono s,_,_,rfl,u.mono s,rfl⟩⟩⟩
end
theorem SM{b:Type}{a:b}{l:List b}:atI (a::l) 0=some a:=by
 unfold _2.atI ixN;simp
theorem SK{c:Type}{a b:c}{l:List c}:atI (a::b::l) 1=some b:=by
 have:ixN (a::b::l).length 1=some 1:=by
  unfold ixN;rw[if_pos (by decide),if_pos (by simp;lia)];rfl
 unfold _2.atI;rw[this];rfl
theorem SJ{d:Type}{a b c:d}{l:List d}:atI (a::b::c::l) 2=some c:=by
 have:ixN (a::b::c::l).length 2=some 2:=by
  unfold ixN;rw[if_pos (by decide),if_pos (by simp;lia)];rfl
 unfold _2.atI;rw[this];rfl
theorem SI{e:Type}{a b c d:e}{l:List e}:atI (a::b::c::d::l) 3=some d:=by
 have:ixN (a::b::c::d::l).length 3=some 3:=by
  unfold ixN;rw[if_pos (by decide),if_pos (by simp;lia)];rfl
 unfold _2.atI;rw[this];rfl
theorem OI:ixN 3 0=some 0:=rfl
theorem OH:ixN 3 1=some 1:=rfl
theorem OG:ixN 3 2=some 2:=rfl
theorem cG{a:Type}{xs:List a}{k:Int}{d:a}(h:0<=k)(e:xs[k.toNat]?=some d):atI xs k=some d:=by
 obtain⟨j,rfl⟩:∃ j:Nat,k=(j:Int):=⟨k.toNat,by lia⟩;exact LG (by simpa using e)
theorem EZ{k:Int}(a:0<=k)(b:k < (ns.length:Int)):atI (ns.map D.int) k=some (.int (ns.getD k.toNat 0)):=by
 refine cG a ?_;have:k.toNat < ns.length:=by lia
 rw[dV,gE0 this];simp [rp,this]
theorem LD{k:Int}(a:0<=k)(b:k < (ns.length:Int)):atI ns k=some (ns.getD k.toNat 0):=by
 refine cG a ?_;have:k.toNat < ns.length:=by lia
 rw[gE0 this];simp [rp,this]
theorem LH{a:Type}{xs:List a}{k:Int}(b:0<=k)(c:k < (xs.length:Int)):∃ d,atI xs k=some d/\d∈xs:=by
 have:k.toNat < xs.length:=by lia
 exact⟨xs[k.toNat],cG b (gE0 this),Jt this⟩
theorem jN(h:1<=ns.length):atI (ns.map D.int) (-1)=some (.int (ns.getD (ns.length - 1) 0)):=by
 have e:ixN (ns.map D.int).length (-1)=some (ns.length - 1):=by
  unfold ixN;rw[lM0,if_neg (by decide),if_pos (by lia)]
  congr 1
  lia
 unfold _2.atI;rw[e];have:ns.length - 1 < ns.length:=by lia
 show (ns.map D.int)[ns.length - 1]?=_;rw[dV,gE0 this];simp [rp,this]
section
variable {mg:SV0}
def Mj (n:Nat):S3:=λΓ Q=>∃ ns:Li0,Γ=[some (.fz (.scr ns))]/\ns.length<=n/\∀ a,Q (.fz (.bl true)) a
theorem Ov(F:aC P w K mg base CX0 k f fd ps (sp3 K 1 (Mj n))) :
  aC P w K mg base CX0 k f fd ps (λvs H Q _=>∃ (p:Addr) (ns:Li0),vs=[.ref p]/\SqL K H p (ns.map V.int)/\ns.length<=n/\∀ H',Q (.bl true) H'):=by
 refine F.imp λvs H Q E h=>?_;obtain⟨p,ns,rfl,l,m,q⟩:=h;have a:∀ {i:Nat} {s:Sl},([some (Sl.fz (.scr ns))]:G)[i]?=some (some s)->i=0/\s=.fz (.scr ns):=λ{i s} h=>by
  cases i with
  | zero=>cases h;exact⟨rfl,rfl⟩
  | succ i=>cases h
 refine⟨rfl,H,[],[some (.fz (.scr ns))],λr _=>r=.fz (.bl true),⟨aS.refl H,rfl,?_,?_,?_,?_,?_,?_,aS.refl H,λb o h=>.inl h,λb o h _=>h,λb h=>h⟩,?_,⟨ns,rfl,m,λ_=>rfl⟩,?_⟩
 .intro i d h;obtain⟨rfl,e⟩:=a h;cases e;exact⟨_,rfl,p,rfl,l⟩
 .intro i d h;rcases h with h | h <;> cases (a h).2
 .intro i d p h;cases (a h).2
 .intro i d p h;cases (a h).2
 .intro i j d e p h;rcases h with h | h <;> cases (a h).2
 .intro i p h;cases h
 .intro k d h;cases (a h).2
 .intro r c e v H' t _ g;subst e;have:v=.bl true:=g;subst this;exact q H'
end
open PySem _2 PySem.Spec PySem.SeqAt
noncomputable def b2 (b:Bool):Int:=if b then 1 else 0
mutual
noncomputable def eqN:Nat->D->D->Option Bool
 | _,.non,.non=>some true
 | _,.bl a,.bl b=>some (a == b)
 | _,.int a,.int b=>some (a == b)
 | _,.str a,.str b=>some (a == b)
 | n + 1,.lst xs,.lst ys=>iF n xs ys
 | n + 1,.tup xs,.tup ys=>iF n xs ys
 | _,_,_=>none
noncomputable def iF:Nat->List D->List D->Option Bool
 | _,[],[]=>some true
 | n,x::xs,y::ys=>match eqN n x y,iF n xs ys with
  | some a,some b=>some (a && b)
  | _,_=>none
 | _,_,_=>some false
end
section
variable {F H:Hp}
theorem Ct {n:Nat}:∀ {xs ys:List D} {k:Bool},iF n xs ys=some k->xs.length≠ys.length->k=false
 | [],[],_,_,h=>absurd rfl h
 | x::xs,[],_,e,_=>by unfold iF at e;cases e;rfl
 | [],y::ys,_,e,_=>by unfold iF at e;cases e;rfl
 | x::xs,y::ys,k,e,h=>by
  unfold iF at e;split at e
  .rename_i a b d c;cases e;rw[Ct c (by simpa using h),WG]
  .cases e
theorem yE {n:Nat}:∀ {xs ys:List D} {k:Bool},iF n xs ys=some k->∃ e:Nat->Bool,(∀ (j:Nat) x y,xs[j]?=some x->ys[j]?=some y->eqN n x y=some (e j))/\k=((ck (min xs.length ys.length)).all e && xs.length == ys.length)
 | [],[],k,h=>by unfold iF at h;cases h;exact⟨λ_=>true,λj x y h=>by simp at h,by simp⟩
 | x::xs,[],k,h=>by unfold iF at h;cases h;exact⟨λ_=>true,λj x y _ h=>by simp at h,by simp⟩
 | [],y::ys,k,h=>by unfold iF at h;cases h;exact⟨λ_=>true,λj x y h=>by simp at h,by simp⟩
 | x::xs,y::ys,k,h=>by
  unfold iF at h;split at h
  .rename_i a b m l;cases h;obtain⟨e,p,o⟩:=yE l;refine⟨λj=>match j with | 0=>a | j + 1=>e j,λj g f d c=>?_,?_⟩
   .cases j with
    | zero=>simp at d c;subst d c;exact m
    | succ j=>exact p j g f (by simpa using d) (by simpa using c)
   .subst o;have i:min (x::xs).length (y::ys).length=min xs.length ys.length + 1:=by simp [Nat.succ_min_succ]
    rw[i,List.range_succ_eq_map,Ve,List.all_map];simp only[ro,Function.comp_def,Bool.and_assoc]
    congr 1
    congr 1
    simp
  .cases h
theorem z9 {n:Nat}(l:∀ {d d':D} {v:V} {k:Bool},Rep K F d v->Rep K F d' v->eqN n d d'=some k->k=true):∀ {xs ys:List D} {vs:List V} {k:Bool},aE K F xs vs->aE K F ys vs->iF n xs ys=some k->k=true
 | [],[],_,k,_,_,e=>by unfold iF at e;cases e;rfl
 | x::xs,[],_,k,⟨v,j,c,_⟩,s,e=>by cases s;cases c
 | [],y::ys,_,k,h,⟨v,j,c,_⟩,e=>by cases h;cases c
 | x::xs,y::ys,_,k,⟨v,j,c,r,q⟩,⟨t,m,i,g,f⟩,e=>by
  subst c;cases i;unfold iF at e;split at e
  .rename_i a b p o;cases e;rw[l r g p,z9 l q f o];rfl
  .cases e
theorem EM:∀ {d d':D} {v:V} {k:Bool},Rep K F d v->Rep K F d' v->eqN n d d'=some k->k=true:=by
 induction n using Nat.strongRecOn with
 | ind n m=>
  intro d d' v k h c e;unfold eqN at e;split at e <;> first
   | (cases e;rfl)
   | (cases e;cases h;cases c;simp;done)
   | (cases e;cases h;cases c;done)
   | (cases e;cases h;obtain⟨_,_,z,_⟩:=c;cases z;done)
   | (cases e;cases c;obtain⟨_,_,z,_⟩:=h;cases z;done)
   | (obtain⟨p,j,rfl,a,b⟩:=h;obtain⟨l,g,q,f,i⟩:=c;cases q;rw[a] at f;cases f;exact z9 (m _ (Py _)) b i e)
   | (obtain⟨p,j,rfl,a,b⟩:=h;obtain⟨l,g,q,f,i⟩:=c;cases q;rw[a] at f;cases f;done)
   | (cases e;done)
end
section
variable {X:Cx}{F H:Hp}{pins:Pn0}{s:Shared}
theorem Vals.at'{xs:List V}(r:Vals xs us)(h:j < us.toArray.size):∃ v,xs[j]?=some v/\RelV v (us.toArray[j]):=by
 have b:j < xs.length:=by rw[r.length];simpa using h
 obtain⟨u,d,c⟩:=r.get (gE0 b);refine⟨_,gE0 b,?_⟩;have:us.toArray[j]=u:=by
  have e:j < us.length:=by simpa using h
  have a:us[j]?=some us[j]:=gE0 e;rw[d] at a;cases a;simp
 rw[this];exact c
theorem Ik(I:Inv X pins σ H s){vs:List V}(h:H p=some (.lst vs)):∃ its:Lv0,Vals vs its/\s.heap.IsList p its.toArray:=by
 obtain⟨its,n,r,e,_⟩:=I.lst h;exact⟨its,r,_,e,rfl,n,rfl⟩
theorem Ij(I:Inv X pins σ H s){vs:List V}(h:H p=some (.tup vs)):∃ its:Lv0,Vals vs its/\s.heap.IsTuple p its.toArray:=by
 obtain⟨its,r,⟨o,e,b,n,d⟩,_⟩:=I.tuple (a:=p) (xs:=vs) (.inl (.inl h));exact⟨its,r,o,e,b,n,d⟩
theorem IP{xs ys:List D}{vs f:List V}{zs:Lv0}{e:Nat->Bool}(r:∀ {d d':D} {v g:V} {u h:Value} {k:Bool},Rep K F d v->Rep K F d' g->RelV v u->RelV g h->eqN n d d'=some k->EqAt A s u h k)(o:aE K F xs vs)(m:aE K F ys f)(q:Vals vs us)(p:Vals f zs)(B:∀ (j:Nat) x y,xs[j]?=some x->ys[j]?=some y->eqN n x y=some (e j)) :
  ∀ j (h1:j < us.toArray.size) (h2:j < zs.toArray.size),EqAt A s us.toArray[j] zs.toArray[j] (e j):=λj h1 h2=>by
 obtain⟨v,z,i⟩:=Vals.at' q h1;obtain⟨w,t,a⟩:=Vals.at' p h2;obtain⟨d,C,l⟩:=o.Le z;obtain⟨d',c,b⟩:=m.Le t;exact r l b i a (B j d d' C c)
theorem BK{q:Addr}{xs ys:List D}{vs l:List V}{k:Bool}(I:Inv X pins σ H s)(J:∀ {d d':D} {v m:V} {u r:Value} {k:Bool},Rep K F d v->Rep K F d' m->RelV v u->RelV m r->eqN n d d'=some k->EqAt A.in1 s u r k)(M:H p=some (.lst vs))(L:H q=some (.lst l))(y:aE K F xs vs)(x:aE K F ys l)(E:iF n xs ys=some k)(h:A.units < cLine):RcAt A s (.ref p) (.ref q) k/\RcNeAt A s (.ref p) (.ref q) (!k):=by
 obtain⟨o,C,f⟩:=Ik I M;obtain⟨j,B,c⟩:=Ik I L;have b:o.toArray.size=xs.length:=by rw[<- y.length,C.length];simp
 have i:j.toArray.size=ys.length:=by rw[<- x.length,B.length];simp
 by_cases a:xs.length=ys.length
 .obtain⟨e,g,rfl⟩:=yE E;have G:=IP J y x C B g;have w:=RcAt.lists f c (by rw[b,i,a]) h G;have t:=RcNeAt.lists f c (by rw[b,i,a]) h G;rw[b,a] at w t;rw[a,Nat.min_self,beq_self_eq_true,Bool.and_true];exact⟨w,t⟩
 .rw[Ct E a];have z:(o.toArray.size != j.toArray.size)=true:=by rw[b,i,bne_iff_ne];exact a
  exact⟨RcAt.lists_lengths f c z h,RcNeAt.lists_lengths f c z h⟩
theorem zD{q:Addr}{xs ys:List D}{vs a:List V}{k:Bool}(I:Inv X pins σ H s)(C:∀ {d d':D} {v b:V} {u c:Value} {k:Bool},Rep K F d v->Rep K F d' b->RelV v u->RelV b c->eqN n d d'=some k->EqAt A.in1 s u c k)(J:H p=some (.tup vs))(G:H q=some (.tup a))(j:aE K F xs vs)(i:aE K F ys a)(E:iF n xs ys=some k)(t:A.units < cLine):RcAt A s (.ref p) (.ref q) k/\RcNeAt A s (.ref p) (.ref q) (!k):=by
 obtain⟨y,m,r⟩:=Ij I J;obtain⟨x,l,o⟩:=Ij I G;have B:y.toArray.size=xs.length:=by rw[<- j.length,m.length];simp
 have z:x.toArray.size=ys.length:=by rw[<- i.length,l.length];simp
 obtain⟨e,g,rfl⟩:=yE E;have w:=IP C j i m l g;have h:=RcAt.tuples r o t w;have f:=RcNeAt.tuples r o t w;rw[B,z] at h f;exact⟨h,f⟩
theorem IL(I:Inv X pins σ H s)(l:aS F H):∀ (n:Nat) {A:Around} {d d':D} {v i:V} {u j:Value} {k:Bool},A.units + n < cLine->Rep K F d v->Rep K F d' i->RelV v u->RelV i j->eqN n d d'=some k->EqAt A s u j k:=by
 intro n
 induction n with
 | zero=>
  intro A d d' v i u j k O r b q a e;unfold eqN at e;split at e <;> (try (cases e;done)) <;> (try (rename_i h;cases h;done)) <;> cases r <;> cases b
  .cases e;cases q;cases a;exact Wd _
  .cases e;cases q;cases a;exact .bool_bool _ _
  .cases e;obtain⟨t,rfl⟩:=q;obtain⟨o,rfl⟩:=a;exact .int_int _ _ _ _
  .cases e;obtain⟨t,rfl⟩:=q;obtain⟨o,rfl⟩:=a;exact .str_str _ _ _ _
 | succ n E=>
  intro A d d' v i u j k O r b q a e;have g:A.units < cLine:=by lia
  have f:A.in1.units + n < cLine:=by show A.units + 1 + n < cLine;lia
  have G:=e;unfold eqN at e;split at e
  .cases r;cases b;cases e;cases q;cases a;exact Wd _
  .cases r;cases b;cases e;cases q;cases a;exact .bool_bool _ _
  .cases r;cases b;cases e;obtain⟨t,rfl⟩:=q;obtain⟨o,rfl⟩:=a;exact .int_int _ _ _ _
  .cases r;cases b;cases e;obtain⟨t,rfl⟩:=q;obtain⟨o,rfl⟩:=a;exact .str_str _ _ _ _
  ·
   rename_i N L J h;cases h;have w:=r;have c:=b;obtain⟨p,M,rfl,C,y⟩:=r;obtain⟨x,m,rfl,B,b2⟩:=b;cases q;cases a;by_cases z:p=x
   .subst z;rw[EM w c G];exact Wd _
   .exact .of_refs z (BK I (λr b q a e=>E f r b q a e) (l _ _ C) (l _ _ B) y b2 e g).1
  ·
   rename_i N L J h;cases h;have w:=r;have c:=b;obtain⟨p,M,rfl,C,y⟩:=r;obtain⟨x,m,rfl,B,b2⟩:=b;cases q;cases a;by_cases z:p=x
   .subst z;rw[EM w c G];exact Wd _
   .exact .of_refs z (zD I (λr b q a e=>E f r b q a e) (l _ _ C) (l _ _ B) y b2 e g).1
  .cases e
def Hj (K:Fg0)(n:Nat)(a:Bool):R2:=λx y H Q=>∃ F d d' k,aS F H/\lT K F H d x/\lT K F H d' y/\eqN (n + 1) d d'=some k/\Q (.bl (a ^^ k)) H
theorem Ma(I:Inv X pins σ H s)(g:aS F H)(n:Nat){d d':D}{v w:V}{i:Value}{k:Bool}(G:A.units + n + 1 < cLine)(r:lT K F H d v)(a:lT K F H d' w)(q:RelV v u)(b:RelV w i)(e:eqN (n + 1) d d'=some k):RcAt A s u i k/\RcNeAt A s u i (!k):=by
 have f:A.units < cLine:=by lia
 have c:A.in1.units + n < cLine:=by show A.units + 1 + n < cLine;lia
 unfold eqN at e;split at e
 .cases r;cases a;cases e;cases q;cases b;exact⟨.none_none,.none_none⟩
 .cases r;cases a;cases e;cases q;cases b;exact⟨.bool_bool _ _,.bool_bool _ _⟩
 .cases r;cases a;cases e;obtain⟨t,rfl⟩:=q;obtain⟨B,rfl⟩:=b;exact⟨.int_int _ _ _ _,.int_int _ _ _ _⟩
 .cases r;cases a;cases e;obtain⟨t,rfl⟩:=q;obtain⟨B,rfl⟩:=b;exact⟨.str_str _ _ _ _,.str_str _ _ _ _⟩
 .rename_i E y x j;cases j;obtain⟨p,z,rfl,o,l⟩:=r;obtain⟨C,h,rfl,m,b2⟩:=a;cases q;cases b;exact BK I (λr a q b e=>IL I g _ c r a q b e) o m l b2 e f
 .rename_i E y x j;cases j;obtain⟨p,z,rfl,o,l⟩:=r;obtain⟨C,h,rfl,m,b2⟩:=a;cases q;cases b;exact zD I (λr a q b e=>IL I g _ c r a q b e) (g _ _ o) (g _ _ m) l b2 e f
 .cases e
theorem N_(l:X.K=K)(i:X.A.units + n + 1 < cLine):OpR X (Px .Eq) (Hj K n false):=by
 intro a s j H x y v u Q I f c h;obtain⟨F,d,m,k,b,r,g,e,q⟩:=h;refine(Ma I b n i r g f c e).1 _ _ _ _ (IC I q (by simp))
def Lk (n:Nat)(a:Bool)(x y:D)(Γ:G)(Q:RV->G->Prop):Prop:=∃ k,eqN (n + 1) x y=some k/\Q (.fz (.bl (a ^^ k))) Γ
theorem IM{a:Bool}:pQ K (Hj K n a) (Lk n a):=by
 intro B F i H j x y h g Q l e d c q k;obtain⟨b,f,q⟩:=q;exact⟨F,h,g,b,e.sub,d,c,f,k _ _ (su e q)⟩
theorem gY(b:X.K=K)(a:cK k X.A):C3 K X .Eq (Hj K 20 false) (Lk 20 false):=⟨N_ b (by have:=a.un;lia),IM⟩
theorem N7(l:X.K=K)(i:X.A.units + n + 1 < cLine):OpR X (Px .NotEq) (Hj K n true):=by
 intro a s j H x y v u Q I f c h;obtain⟨F,d,m,k,b,r,g,e,q⟩:=h;refine(Ma I b n i r g f c e).2 _ _ _ _ (IC I q (by simp))
theorem pG(b:X.K=K)(a:cK k X.A):C3 K X .NotEq (Hj K 20 true) (Lk 20 true):=⟨N7 b (by have:=a.un;lia),IM⟩
theorem Aa {n:Nat}:∀ (xs ys:Li0),iF n (xs.map .int) (ys.map .int)=some (decide (xs=ys))
 | [],[]=>by simp [iF]
 | x::xs,[]=>by simp [iF]
 | [],y::ys=>by simp [iF]
 | x::xs,y::ys=>by
  simp only[sS,iF,Aa xs ys,eqN]
  congr 1
  rw[Bool.eq_iff_iff];simp
theorem yD(xs ys:Li0):eqN (n + 1) (.lst (xs.map .int)) (.lst (ys.map .int))=some (decide (xs=ys)):=by
 unfold eqN;exact Aa xs ys
end
noncomputable abbrev qo:=List D->G->(List D->G->Prop)->Prop
noncomputable def PoL (K:Fg0)(B:Bs)(F:Hp)(Q:List D->G->Prop):List V->_2.St->Hp->Prop:=λc σ' H'=>∃ d a b,aS F d/\En K B d σ' H' a/\aE K d b c/\Q b a
def v8 (K:Fg0)(t:TB)(c:qo):Prop:=∀ (B:Bs) (F:Hp) (σ:_2.St) (H:Hp) (Γ:G) (ys:List V) (ds:List D) (Q:List D->G->Prop) (b:List V->_2.St->Hp->Prop),En K B F σ H Γ->aE K F ds ys->c ds Γ Q->(∀ a σ' H',PoL K B F Q a σ' H'->b a σ' H')->t ys σ H b
structure PJ (K:Fg0) (Y:Cx) (D:Addr) (m:Sem Fin->Sem Fin) (t:TB) (b3:qo):Prop where
 pe:PB RL Y D m t
 rf:v8 K t b3
def Cu (b:TE3)(ys:List D)(Γ:G)(Q:List D->G->Prop):Prop:=ys.length < sizeLine/\b Γ λr a=>Q (ys++[r.d]) a
set_option backward.eqns.nonrecursive false in
def Lv (c:TT3)(d:qo)(ys:List D)(Γ:G)(Q:List D->G->Prop):Prop:=c Γ λb a=>match b with
 | true=>d ys a Q
 | false=>Q ys a
def Ew (xs:List D)(c:TG3)(e:qo)(ys:List D)(Γ:G)(Q:List D->G->Prop):Prop:=∃ a:Nat->List D->G->Prop,a 0 ys Γ/\(∀ k d ys Γ,xs[k]?=some d->a k ys Γ->c d Γ λb=>e ys b (a (k + 1)))/\∀ ys Γ,a xs.length ys Γ->Q ys Γ
def Ea (b:TI3)(c:TG3)(d:qo)(ys:List D)(Γ:G)(Q:List D->G->Prop):Prop:=b Γ λxs a=>Ew xs c d ys a Q
def yG (c:On)(d:TI3)(e:TG3)(f:qo)(Γ:G)(Q:RV->G->Prop):Prop:=d Γ λxs a=>Ew xs e f [] (fK a (jP c)) λys b=>ys.length < sizeLine/\Q (.fr (.lst ys)) (bh c a b)
section
variable {X Y:Cx}{Da:Addr}
theorem xD{te:TE}{d:TE3}(h:Ref K te d):v8 K (vY te) (Cu d):=by
 intro B F f H g ys p Q u e r ⟨m,q⟩ k;refine⟨by rw[r.length];exact m,h B F f H g _ _ e q λv w ⟨x,a,c,s,o,i,l⟩=>k _ _ _ ?_⟩;obtain⟨t,b,n,j⟩:=o.frozen i;exact⟨t,a,p++[c.d],s.trans b,n,aE.append (ys:=[c.d]) (r.mono (s.trans b)) ⟨v,[],rfl,j,rfl⟩,l⟩
theorem Ee{f:TT}{l:TT3}{t:TB}{m:qo}(x:wM K f l)(h:v8 K t m):v8 K (bIf f t) (Lv l m):=by
 intro B F d H p v j Q z e r q k;refine x B F d H p _ _ e q λb A Z=>?_;obtain⟨n,a,s,i,g⟩:=Z;cases b with
 | true=>exact DB (h B n d A a v j Q z i (r.mono s) g λu o D ⟨C,c,y,w,rest⟩=>k _ _ _ ⟨C,c,y,s.trans w,rest⟩)
 | false=>exact DC (k _ _ _ ⟨n,a,j,s,i,r.mono s,g⟩)
theorem BH{J:It}{xs:List D}{g:TG}{E:TG3}{t:TB}{I:qo}(Y:Jx K g E)(h:v8 K t I){B:Bs}{F:Hp}{H:Hp}{Γ:G}{ys:List V}{ds:List D}{Q:List D->G->Prop}{QQ:List V->_2.St->Hp->Prop}(R:ItR K F J xs)(e:En K B F σ H Γ)(r:aE K F ds ys)(q:Ew xs E I ds Γ Q)(k:∀ d σ' H',PoL K B F Q d σ' H'->QQ d σ' H'):Aj J g t ys σ H QQ:=by
 obtain⟨Iv,X,U,W⟩:=q;refine⟨λi m ys σ H=>m=xs.length - i/\i<=xs.length/\∃ s b ds,aS F s/\En K B s σ H b/\aE K s ds ys/\Iv i ds b,⟨_,rfl,xt _,F,Γ,ds,aS.refl F,e,r,X⟩,?_⟩;rintro i m o l M ⟨rfl,hi,F2,a,c,f,j,w,A⟩;by_cases lt:i < xs.length
 .refine .inr ⟨R.go i M (f.trans j.sub) lt,λx L y=>?_⟩;have C:xs[i]?=some xs[i]:=gE0 lt;obtain⟨N,v,e3,S⟩:=R.turn f j C y;refine Y B N l L a x _ _ _ e3 S (U i _ c a C A) λσ' b e4 T=>?_;exact h B N σ' L b o c _ _ e4 (w.mono v) T λd u H4 ⟨F4,n,d4,O,Z,P,p⟩=>⟨xs.length - (i + 1),by lia,rfl,lt,F4,n,d4,(f.trans v).trans O,Z,P,p⟩
 .have z:i=xs.length:=by lia
  subst z;exact .inl ⟨R.stop _ M (f.trans j.sub) rfl,k _ _ _ ⟨F2,a,c,f,j,w,W c a A⟩⟩
theorem Hd{b:TI}{d:TI3}{g:TG}{f:TG3}{t:TB}{i:qo}(u:LR K b d)(v:Jx K g f)(h:v8 K t i):v8 K (Ju b g t) (Ea d f i):=by
 intro B F l H n z C Q D e r q k;refine u B F l H n _ _ e q λJ G I m A c w R s=>?_;exact BH v h R w (r.mono c) s λo j E ⟨y,a,x,p,rest⟩=>k _ _ _ ⟨y,a,x,c.trans p,rest⟩
theorem zA{d:TI}{i:TI3}{g:TG}{j:TG3}{t:TB}{n:qo}(v:(fr.filterMap id).Nodup)(x:LR K d i)(y:Jx K g j)(h:v8 K t n):Ref K (nZ fr d g t) (yG fr i j n):=by
 intro B F σ H Γ Q L e q k;refine x B F σ H Γ _ _ e q λJ M N a G r m R u=>?_;refine BH y h R (m.blk v) (ds:=[]) rfl u λE o C ⟨D,b,I,p,A,f,w,s⟩=>⟨by rw[f.length];exact w,λl c=>k _ _ ?_⟩;have z:En K B D σ C (bh fr a b):=m.back (ls:=fr) A (by have:=xR (Γ:=a) (σ:=σ) (bs:=jP fr);rw[Cd] at this;exact this);exact Po.mono (r.trans p) (j7 z c f s)
theorem Ly{te:TE}{b:TE3}(c:Y.xe=λ_ _=>False)(a:P3 K Y elt te b):PJ K Y Da (Ac elt Da Y.env) (vY te) (Cu b):=⟨wZ c a.pe,xD a.rf⟩
theorem SD{c:Expr}{a:TT}{e:TT3}{m:Sem Fin->Sem Fin}{t:TB}{f:qo}(g:Y.xe=λ_ _=>False)(d:P3T K Y c a e)(b:PJ K Y Da m t f):PJ K Y Da (ifK c Y.env m) (bIf a t) (Lv e f):=⟨QN g d.pe b.pe,Ee d.rf b.rf⟩
theorem sA{c:Expr}{i:TI}{k:TI3}{g:TG}{q:TG3}{te:TE}{r:TE3}{j:TT}{s:TT3}(v:X.calm=true)(n:P3I K X tg iter i k)(w:Blk X.N X.env.scope sc Nc fr)(o:∀ s₀ H₀ C ex f,P3G K (bZ X sc Nc s₀ H₀ C ex f) tg g q)(l:∀ s₀ H₀ C ex f,P3T K (bZ X sc Nc s₀ H₀ C ex f) c j s)(p:∀ s₀ H₀ C ex f,P3 K (bZ X sc Nc s₀ H₀ C ex f) elt te r)(t:autoParam ((fr.filterMap id).Nodup) wP)(u:autoParam (∀ x,vl iter X.env x=pure x) wT) :
  P3 K X (.ListComp elt [⟨tg,iter,[c],0⟩] sc pos) (nZ fr i g (bIf j (vY te))) (yG fr k q (Lv s (Cu r))):=
 ⟨xI (m:=λD h=>ifK c h (Ac elt D h)) v n.pe w (λa b c d e=>(o a b c d e).pe) (λa b c d e D=>(SD rfl (l a b c d e) (Ly rfl (p a b c d e))).pe) (λ_ _ _=>rfl) u,zA t n.rf (o X.s₀ X.H₀ 0 [] []).rf (Ee (l X.s₀ X.H₀ 0 [] []).rf (xD (p X.s₀ X.H₀ 0 [] []).rf))⟩
theorem xO{l k i j:Expr}{p:TI}{r:TI3}{g:TG}{A:TG3}{h:TI}{q:TI3}{B:TG}{z:TG3}{te:TE}{E:TE3}(y:X.calm=true)(t:P3I K X k l p r)(H:Blk X.N X.env.scope sc Nc fr)(v:∀ s₀ H₀ C ex f,P3G K (bZ X sc Nc s₀ H₀ C ex f) k g A)(s:∀ s₀ H₀ C ex f,P3I K (bZ X sc Nc s₀ H₀ C ex f) j i h q)(u:∀ s₀ H₀ C ex f,P3G K (bZ X sc Nc s₀ H₀ C ex f) j B z)(w:∀ s₀ H₀ C ex f,P3 K (bZ X sc Nc s₀ H₀ C ex f) elt te E)(n:∀ s₀ H₀ C ex f x,vl i (bZ X sc Nc s₀ H₀ C ex f).env x=pure x:=by intros;rfl)(F:autoParam ((fr.filterMap id).Nodup) wP)(G:autoParam (∀ x,vl l X.env x=pure x) wT) :
  P3 K X (.ListComp elt [⟨k,l,[],0⟩,⟨j,i,[],0⟩] sc pos) (nZ fr p g (Ju h B (vY te))) (yG fr r A (Ea q z (Cu E))):=
 ⟨xI (m:=λD o=>L_ false elt [⟨k,l,[],0⟩,⟨j,i,[],0⟩] sc pos 1 i D o) y t.pe H (λa b c d e=>(v a b c d e).pe)
  (λa b c d e D=>Ks (b:=false) (m:=Ac elt D _) rfl y (by rfl) (s a b c d e).pe (u a b c d e).pe (wZ rfl (w a b c d e).pe) (λ_=>rfl) (n a b c d e)) (λ_ _ _=>rfl) G,
  zA F t.rf (v X.s₀ X.H₀ 0 [] []).rf (Hd (s X.s₀ X.H₀ 0 [] []).rf (u X.s₀ X.H₀ 0 [] []).rf (xD (w X.s₀ X.H₀ 0 [] []).rf))⟩
end
theorem Si{a b:Int}:eqN n (.int a) (.int b)=some (a == b):=by cases n <;> rfl
theorem Sg{a b:Str}:eqN n (.str a) (.str b)=some (a == b):=by cases n <;> rfl
theorem Sj{a b:Bool}:eqN n (.bl a) (.bl b)=some (a == b):=by cases n <;> rfl
noncomputable def fo (s:Option D):Option Sl:=s.map Sl.fz
theorem O4{s:Option Sl}{Γ:G}:bY (s::Γ) (i + 1)=bY Γ i:=rfl
theorem O6{Γ:G}:bY (none::Γ) 0=True:=rfl
theorem O1{d:D}{Γ:G}:bY (some (.fz d)::Γ) 0=True:=rfl
theorem O2{d:D}{Γ:G}:bY (some (.ow d)::Γ) 0=True:=rfl
theorem R_{s:Option Sl}{Γ:G}:frB (s::Γ) (i + 1)=frB Γ i:=rfl
theorem Sb{Γ:G}:frB (none::Γ) 0=true:=rfl
theorem R7{d:D}{Γ:G}:frB (some (.fz d)::Γ) 0=true:=rfl
theorem R8{d:D}{Γ:G}:frB (some (.ow d)::Γ) 0=true:=rfl
theorem Sa{s:Option D}{Γ:G}:frB (fo s::Γ) 0=true:=by cases s <;> rfl
theorem O5{s:Option D}{Γ:G}:bY (fo s::Γ) 0=True:=by cases s <;> rfl
end _3
variable {ns:Ls0}{e a body:UX}{C0 C₀:TC}{px p:XI}{m z q y nm:UU}{l clos:List (UU×TC)}{rest ss:List Yj}{L:Nat}{σ':_2.St}{qs own Cs:La0}{vs:Lv0}
universe u
namespace _3
open PySem _2 PySem.Spec
def MN (c:On)(a:TI3)(b:TG3)(d:TE3)(Γ:G)(Q:RV->G->Prop)(_:Tag (c,a,b,d))(_:Tag Q):Prop:=Cz c a b d Γ Q
def O7 (a:TI3)(b:TG3)(c:TS3)(D:E3)(Γ:G)(_:Tag (a,b,c))(_:Tag D):Prop:=O9 a b c D Γ
def IY (c:On)(a:TI3)(b:TG3)(d:qo)(Γ:G)(Q:RV->G->Prop)(_:Tag (c,a,b,d))(_:Tag Q):Prop:=yG c a b d Γ Q
theorem IZ{a:TI3}{b:TG3}{c:qo}{Γ:G}{Q:RV->G->Prop}:yG fr a b c Γ Q=IY fr a b c Γ Q ⟨⟩ ⟨⟩:=rfl
theorem Lo{a:TI3}{b:TG3}{c:TE3}{Γ:G}{Q:RV->G->Prop}:Cz fr a b c Γ Q=MN fr a b c Γ Q ⟨⟩ ⟨⟩:=rfl
theorem O8{a:TI3}{b:TG3}{c:TS3}{D:E3}{Γ:G}:O9 a b c D Γ=O7 a b c D Γ ⟨⟩ ⟨⟩:=rfl
section
variable {op:D->D->TE3}{a3 b3:TB3}{Γ:G}{Q:RV->G->Prop}
theorem GP:uo op a3 b3 Γ Q=(a3 Γ λx b=>b3 b λy a=>m1 (x.at a) (λdx=>m1 (y.at a) (λc=>op dx c a Q) ⟨⟩) ⟨⟩):=rfl
theorem Na{b:D->TE3}:GO b a3 Γ Q=(a3 Γ λx a=>m1 (x.at a) (λdx=>b dx a Q) ⟨⟩):=rfl
theorem Mm{xs:List D}{i:Int}:ix3 (.lst xs) (.int i) Γ Q=m1 (atI xs i) (λd=>Q (.fz d) Γ) ⟨⟩:=rfl
theorem Ru{xs:List D}{i:Int}:ix3 (.tup xs) (.int i) Γ Q=m1 (atI xs i) (λd=>Q (.fz d) Γ) ⟨⟩:=rfl
theorem Lr{c:List D->TE3}{b:dG}:EU c b Γ Q=(b Γ λd a=>mL (ats a d) (λds=>c ds a Q) ⟨⟩):=rfl
def mN (o:Option Nat)(k:Nat->Prop)(_:Tag k):Prop:=match o with
 | some d=>k d
 | none=>False
theorem KS{d:Nat}{k:Nat->Prop}{t:Tag k}:mN (some d) k t=k d:=rfl
theorem JP{g:TB3}{f:TE3}{D:E3}:D7 i g f D Γ=(f Γ λr c=>(∃ xs,dF c i=some xs)/\g c λb a=>mL (dF a i) (λxs=>mI (b.at a) (λk=>mN (ixN xs.length k) (λj=>D.nx (putD a i (.lst (xs.set j r.d)))) ⟨⟩) ⟨⟩) ⟨⟩):=by
 unfold D7
 congr;funext r c;congr;funext b a
 refine propext ⟨λ⟨xs,k,j,o,n,m,q⟩=>?_,λh=>?_⟩
 .rw[o,n];show mN (ixN xs.length k) _ ⟨⟩;rw[m];exact q
 .cases e:dF a i with
  | none=>rw[e] at h;exact h.elim
  | some xs=>
   rw[e] at h;replace h:mI (b.at a) (λk=>mN (ixN xs.length k) (λj=>D.nx (putD a i (.lst (xs.set j r.d)))) ⟨⟩) ⟨⟩:=h;cases l:b.at a with
   | none=>rw[l] at h;exact h.elim
   | some d=>
    rw[l] at h;cases d with
    | int k=>
     replace h:mN (ixN xs.length k) (λj=>D.nx (putD a i (.lst (xs.set j r.d)))) ⟨⟩:=h;cases f:ixN xs.length k with
     | none=>rw[f] at h;exact h.elim
     | some j=>rw[f] at h;exact⟨xs,k,j,rfl,rfl,f,h⟩
    | _=>exact h.elim
end
section
variable {B:Bs}{F:Hp}{H:Hp}{Γ:G}
theorem Ci{c:Type}{l:List c}{a b:c}(h:(l++[a])[i]?=some b):l[i]?=some b\/(i=l.length/\b=a):=by
 rcases YQ i l.length with q | q
 .rw[iv q] at h;exact .inl h
 .have d:i=l.length:=by
   have:=(gS0 h).1;rw[el,UR] at this;lia
  subst d;rw[mm (ec _),Vs] at h;exact .inr ⟨rfl,(nS h).symm⟩
theorem jB{c:Type}{l:List c}{a b:c}(h:l[i]?=some b):(l++[a])[i]?=some b:=by
 rw[iv (gS0 h).1];exact h
theorem oV{b:Type}{l:List b}{a:b}:(l++[a])[l.length]?=some a:=by
 rw[mm (ec _),Vs];rfl
theorem En.push(e:En K B F σ H Γ){x:Addr}{d:D}(y:uj K B F σ H Γ (.ref x) (.fr d)):En K B F (σ++[some (V.ref x)]) H (Γ++[some (Sl.ow d)]):=by
 obtain⟨p,G,C,A,E,t⟩:=y;cases G;have u:=e.len;have o:∀ {i:Nat} {s:Sl},(Γ++[some (Sl.ow d)])[i]?=some (some s)->Γ[i]?=some (some s)\/(i=Γ.length/\s=.ow d):=λh=>by
  rcases Ci h with q | ⟨q,m⟩
  .exact .inl q
  .cases m;exact .inr ⟨q,rfl⟩
 have n:∀ {i:Nat} {s:Option Sl},Γ[i]?=some s->(σ++[some (V.ref x)])[i]?=σ[i]?:=λh=>by
  have lt:=(gS0 h).1;rw[iv (by lia)]
 have f:(σ++[some (V.ref x)])[Γ.length]?=some (some (V.ref x)):=by rw[<- u];exact oV
 have r:∀ {i:Nat} {c:D},Hld (Γ++[some (Sl.ow d)]) i c->Hld Γ i c\/(i=Γ.length/\c=d):=λh=>by
  rcases h with h | h
  .rcases o h with q | ⟨q,m⟩
   .exact .inl (.inl q)
   .cases m;exact .inr ⟨q,rfl⟩
  .rcases o h with q | ⟨q,m⟩
   .exact .inl (.inr q)
   .cases m
 have g:∀ {i:Nat} {c:D},Hld Γ i c->(σ++[some (V.ref x)])[i]?=σ[i]?:=λh=>by
  rcases h with h | h <;> exact n h
 refine⟨e.sub,by simp [u],?_,?_,?_,?_,?_,?_,e.keep,e.new,e.rest,e.dom⟩
 .intro i c h;rcases o h with q | ⟨_,q⟩
  .rw[n q];exact e.fz i c q
  .cases q
 .intro i c h;rcases r h with q | ⟨rfl,rfl⟩
  .rw[g q];exact e.hl i c q
  .exact⟨x,f,C,A⟩
 .intro i c q h a;rcases o h with z | ⟨rfl,z⟩
  .rw[n z] at a;exact e.ow i c q z a
  .rw[f] at a;cases a;exact E
 .intro i c q h a;rcases o h with z | ⟨_,z⟩
  .rw[n z] at a;exact e.ln i c q z a
  .cases z
 .intro i j c w q h v a k;rcases r h with z | ⟨rfl,rfl⟩
  .rw[g z] at a;rcases r v with l | ⟨rfl,rfl⟩
   .rw[g l] at k;exact e.dis i j c w q z l a k
   .rw[f] at k;cases k;exact absurd a (t i c z)
  .rw[f] at a;cases a;rcases r v with l | ⟨rfl,rfl⟩
   .rw[g l] at k;exact absurd k (t j w l)
   .rfl
 .intro i q h;obtain⟨a,c,b⟩:=e.par i q h;exact⟨by rw[n b];exact a,c,jB b⟩
theorem En.pop{x:Addr}{d:D}(e:En K B F (σ++[some (V.ref x)]) H (Γ++[some (Sl.ow d)])):En K B F σ H Γ/\uj K B F σ H Γ (.ref x) (.fr d):=by
 have m:σ.length=Γ.length:=by have:=e.len;simpa using this
 have g:(σ++[some (V.ref x)])[Γ.length]?=some (some (V.ref x)):=by rw[<- m];exact oV
 have k:∀ {i:Nat} {s:Option Sl},Γ[i]?=some s->(σ++[some (V.ref x)])[i]?=σ[i]?:=λh=>by
  have lt:=(gS0 h).1;rw[iv (by lia)]
 have n:Hld (Γ++[some (Sl.ow d)]) Γ.length d:=.inl oV;have l:∀ {i:Nat} {c:D},Hld Γ i c->Hld (Γ++[some (Sl.ow d)]) i c:=λh=>h.imp jB jB;have f:∀ {i:Nat} {c:D},Hld Γ i c->(σ++[some (V.ref x)])[i]?=σ[i]?:=λh=>by
  rcases h with h | h <;> exact k h
 obtain⟨p,a,b,c⟩:=e.hl _ _ n;rw[g] at a;cases a;refine⟨⟨e.sub,m,?_,?_,?_,?_,?_,?_,e.keep,e.new,e.rest,e.dom⟩,x,rfl,b,c,e.ow _ _ _ oV g,?_⟩
 .intro i c h;have:=e.fz i c (jB h)
  rwa [k h] at this
 .intro i c h;have:=e.hl i c (l h)
  rwa [f h] at this
 .intro i c q h a;exact e.ow i c q (jB h) (by rw[k h];exact a)
 .intro i c q h a;exact e.ln i c q (jB h) (by rw[k h];exact a)
 .intro i j c r q h o a u;exact e.dis i j c r q (l h) (l o) (by rw[f h];exact a) (by rw[f o];exact u)
 .intro i q h;obtain⟨a,c,t⟩:=e.par i q h;rcases Ci t with z | ⟨_,z⟩
  .exact⟨by rw[<- k z];exact a,c,z⟩
  .cases z
 .intro i c h q;have lt:i < Γ.length:=by rcases h with h | h <;> exact(gS0 h).1
  have:=e.dis i _ c d x (l h) n (by rw[f h];exact q) g
  lia
set_option backward.eqns.nonrecursive false in
noncomputable def yc (Γ:G)(i:Nat):Option (Addr×Ls0×List D):=match Γ[i]? with
 | some (some (.ow (.ins C ns xs)))=>some (C,ns,xs)
 | some (some (.ln (.ins C ns xs)))=>some (C,ns,xs)
 | _=>none
theorem zN{xs:List D}(h:yc Γ i=some (C,ns,xs)):Hld Γ i (.ins C ns xs):=by
 unfold yc at h;split at h
 .cases h;rename_i q;exact .inl q
 .cases h;rename_i q;exact .inr q
 .cases h
theorem BM {f:Str}{v:V}:∀ {fs:List (Str×V)},f∉fs.map (·.1)->oz f v fs=fs++[(f,v)]
 | [],_=>rfl
 | (g,x)::r,h=>by
  simp only[sS,hF,not_or] at h;show (if g=f then _ else _)=_;rw[if_neg (vk h.1),BM h.2];rfl
theorem aE.snoc{xs:List D}{vs:List V}(r:aE K F xs vs){d:D}{v:V}(q:Rep K F d v):aE K F (xs++[d]) (vs++[v]):=r.append ⟨v,[],rfl,q,rfl⟩
def oI (o:Option (Addr×Ls0×List D))(k:Addr->Ls0->List D->Prop):Prop:=match o with
 | some (C,ns,xs)=>k C ns xs
 | none=>False
def GX (C0:Addr)(i:Nat)(f:Str)(b:TE3)(D:E3)(Γ:G):Prop:=b Γ λr a=>oI (yc a i) λC ns xs=>C=C0/\(f∉ns/\ns.length < 1000)/\D.nx (putD a i (.ins C (ns++[f]) (xs++[r.d])))
variable {X:Cx}{te:TE}{e3:TE3}
theorem Hc{f:Str}(M:Cls K C0)(J:gr K C0 f)(h:Ref K te e3):LQ K (Nj K (jj i) te f) (GX C0 i f e3):=by
 intro B F o H x D R en k q;refine h B F o H x _ _ en q λv Q Z=>?_;obtain⟨T,c,r,z,N,A,G⟩:=Z;obtain⟨u,y,s,E⟩:=N.frozen A;have d:oI (yc c i) λC e j=>C=C0/\(f∉e/\e.length < 1000)/\R.nx (putD c i (.ins C (e++[f]) (j++[r.d]))):=G;cases w:yc c i with
 | none=>rw[w] at d;exact d.elim
 | some t=>
  obtain⟨C,e,j⟩:=t;rw[w] at d;obtain⟨rfl,⟨L,S⟩,d⟩:=d;obtain⟨p,a,b,m,g,P,n,O⟩:=s.hl i _ (zN w);refine⟨_,a,p,C,m,g,rfl,P,M,J,?_,?_⟩
  .have:=congrArg Zc n;rw[lM0] at this;lia
  .have l:f∉g.map (·.1):=by rw[n];exact L
   rw[BM l];have I:Own K u (upd Q p (.ins C m (g++[(f,v)]))) p (.ins C (e++[f]) (j++[r.d])):=⟨m,g++[(f,v)],az,by rw[ih,n];rfl,by rw[ih];exact O.snoc E⟩;exact k.nx u o _ _ (z.trans y) (s.Q8 (zN w) a I) d
theorem wW(i:Nat){f:Str}(g:X.K=K)(h:Cls K C0)(d:gr K C0 f)(b:P3B K X (.Name x px) (jj i) (bor i))(a:P3 K X e te e3)(c:autoParam (UY e (some (.Attribute (.Name x px) f p2)) pos.line X.env=pure false) wE) :
  P3S K X (.Assign [.Attribute (.Name x px) f p2] e pos) (Nj K (jj i) te f) (GX C0 i f e3):=⟨by subst g;exact NL b.pe a.pe c,Hc h d a.rf⟩
end
section
variable {B:Bs}{F:Hp}{H:Hp}{Γ:G}{X:Cx}
theorem bD.push{x:V}:∀ {a:List Bo} {vs:List V},bD K F σ a vs->bD K F (σ++[some x]) a vs
 | [],_,h=>h
 | .d d::a,_,⟨v,b,f,e,c⟩=>⟨v,b,f,e,bD.push c⟩
 | .v i::a,_,⟨v,b,f,e,c⟩=>⟨v,b,f,jB e,bD.push c⟩
theorem bD.ds:∀ {ds:List D} {vs:List V},aE K F ds vs->bD K F σ (ds.map Bo.d) vs
 | [],_,h=>h
 | _::_,_,⟨v,a,d,c,b⟩=>⟨v,a,d,c,bD.ds b⟩
theorem Cc:∀ ds:List D,b_ (ds.map Bo.d)=[]
 | []=>rfl
 | _::ds=>Cc ds
theorem LN(ds:List D)(Γ:G):fK Γ ((ds.map Bo.d).map some)=ds.map λd=>some (Sl.fz d):=by
 unfold fK;rw[oj,oj];rfl
theorem Em {cs:G}{j:Nat}:∀ ds:List D,newD (((ds.map Bo.d).map some).map cb) cs j=none
 | []=>by cases cs <;> rfl
 | _::ds=>by
  cases cs with
  | nil=>rfl
  | cons c cs=>exact Em (cs:=cs) ds
def R6 (a:G)(k:D->Prop):Prop:=match a with
 | some (.ln d)::_=>k d
 | _=>False
def H_ (C:Addr)(n:Nat)(S:S3)(c:TA3)(Γ:G)(Q:RV->G->Prop):Prop:=c Γ λds b=>ds.length + 1=n/\
 S (some (.ln (.ins C [] []))::ds.map λd=>some (.fz d)) λr a=>r=.fz .non/\R6 a λd=>Q (.fr d) b
theorem He{S:S3}{E:XK}{t:TA}{G:TA3}(h:SS K t G):Ref K (GN C (sp3 K n S) [] E t) (H_ C n S G):=by
 intro B F g H O Q QQ e q k;refine h B F g H O _ _ e q λD A Z=>?_;obtain⟨m,Γ1,b,R,w,I,Y,U⟩:=Z;intro y f J u W;rw[tq];have x:=w.alloc u (.own y);have c:(upd A f (.own y)) y=none:=by rw[au (vk W)];exact J
 have e2:En K B m g (upd (upd A f (.own y)) y (.ins C f [])) Γ1:=x.alloc c _;have T:uj K B m g (upd (upd A f (.own y)) y (.ins C f [])) Γ1 (.ref y) (.fr (.ins C [] [])):=⟨y,rfl,x.nof c,⟨f,[],az,rfl,rfl⟩,w.dom _ J,x.B7 c⟩;have M:=e2.push T;have hl:g.length=Γ1.length:=w.len;have rb:bD K m (g++[some (V.ref y)]) (Bo.v Γ1.length::b.map Bo.d) (.ref y::D):=⟨_,_,rfl,by rw[<- hl];exact oV,(bD.ds I).push⟩;have X:(b_ (Bo.v Γ1.length::b.map Bo.d)).Nodup:=by
  show (Γ1.length::b_ (b.map Bo.d)).Nodup;rw[Cc];simp
 have eG:fK (Γ1++[some (Sl.ow (.ins C [] []))]) ((Bo.v Γ1.length::b.map Bo.d).map some)=some (.ln (.ins C [] []))::b.map λd=>some (.fz d):=by
  rw[sS,<- LN b (Γ1++[some (Sl.ow (.ins C [] []))])];show (some (Bo.v Γ1.length)).bind (zk _)::_=_
  congr 1
  show lR (Γ1++[some (Sl.ow (.ins C [] []))])[Γ1.length]?=_;rw[oV];rfl
 have len:(V.ref y::D).length=n:=by rw[<- Y,ro,I.length]
 refine⟨len,m,_,_,_,M.args rb X,p_,by rw[eG];exact U,λr o a v H' F' e3 l=>?_⟩;obtain⟨rfl,a⟩:=a;obtain⟨P,N,_⟩:=M.called e3 l;have ev:v=.non:=l;cases o with
 | nil=>exact a.elim
 | cons s i=>
  cases s with
  | none=>exact a.elim
  | some s=>
   cases s with
   | fz d=>exact a.elim
   | ow d=>exact a.elim
   | ln d=>
    have a:Q (.fr d) Γ1:=a;have eq:bh (((Bo.v Γ1.length::b.map Bo.d).map some).map cb) (Γ1++[some (Sl.ow (.ins C [] []))]) (some (.ln d)::i)=Γ1++[some (Sl.ow d)]:=by
     refine Tz λj=>?_;rw[bS];show Option.map (ez (if Γ1.length=j then some d else newD (((b.map Bo.d).map some).map cb) i j)) _=_;by_cases L:Γ1.length=j
     .subst L;rw[if_pos rfl,oV,oV];rfl
     .rw[if_neg L,Em];have:(Γ1++[some (Sl.ow d)])[j]?=(Γ1++[some (Sl.ow (.ins C [] []))])[j]?:=by
       rcases YQ j Γ1.length with z | z
       .rw[iv z,iv z]
       .rw[pa (by simp;lia),pa (by simp;lia)]
      rw[this];cases (Γ1++[some (Sl.ow (.ins C [] []))])[j]? with
      | none=>rfl
      | some s=>cases s with
       | none=>rfl
       | some s=>cases s <;> rfl
    rw[eq] at N;obtain⟨e5,p⟩:=N.pop;exact⟨ev,k _ _ ⟨F',Γ1,.fr d,R.trans P,e5,p,a⟩⟩
end
section
variable {B:Bs}{F:Hp}{H:Hp}{Γ:G}{X:Cx}{S:S3}{t:TA}{t3:TA3}{te:TE}{e3:TE3}
theorem p4(M:Mk X.K C f)(F:aC X.prog X.w X.K X.mg X.base CX0 k f fd ps (sp3 K n S))(d:cK (k + 1) X.A)(h:Gl X x)(g:X.mg x=some (.ref C))(j:Binds X.K fd ps [])(c:P3A K X (e::es) t t3)(b:autoParam ((x == ("__debug__":Str))=false) wP)(i:autoParam (eh (e::es) X.env=(false,eval e X.env)::eh es X.env) wE)(a:autoParam ((backTo pos (eh es X.env)).any (·.1)=false) wE) :
  P3 K X (.Call (.Name x p) (e::es) [] pos) (GN C (sp3 K n S) [] E0 t) (H_ C n S t3):=⟨Km M F d h g j .nil xJ c.pe b i a,He c.rf⟩
end
section
variable {B:Bs}{F:Hp}{H:Hp}{Γ:G}{X:Cx}
noncomputable def signs (z:Str):List D:=z.cps.toList.map λc=>D.str (sgn c)
def oS (d:D)(k:Str->Prop):Prop:=match d with
 | .str z=>k z
 | _=>False
theorem Q7{d:D}{k:Str->Prop}(h:oS d k):∃ z,d=.str z/\k z:=by
 cases d <;> first | exact h.elim | exact⟨_,rfl,h⟩
noncomputable def asc (z:Str):Bool:=z.cps.all (· < 128)
def iS3 (b:TE3)(Γ:G)(Q:List D->G->Prop):Prop:=b Γ λr a=>oS r.d λz=>asc z=true/\Q (signs z) a
theorem zu(z:Str):(signs z).length=z.cps.size:=by simp [signs]
theorem Qc:ItR K F (Its z) (signs z):=by
 refine⟨λi b _ lt=>by rw[zu] at lt;exact lt,λi b _ e=>by rw[zu] at e;exact UJ e.symm,λi b x h d _ a y=>?_⟩;obtain⟨g,c,f,rfl⟩:=y;refine .inl ⟨g,?_⟩;unfold signs at a;rw[dV,Array.getElem?_toList,f] at a;cases a;rfl
theorem ON{l:Expr}{tl:TE}{d:TE3}(h:P3 K X l tl d):P3I K X tg l (RG tl) (iS3 d):=⟨NQ h.pe,λB F f H g Q R e q k=>
 h.rf B F f H g _ _ e q λv t Z=>by
  obtain⟨w,a,r,s,p,j,b⟩:=Z;obtain⟨z,m,n,b⟩:=Q7 b;obtain⟨u,i,o,c⟩:=p.frozen j;rw[m] at c;exact⟨z,c,n,k _ t u a _ (s.trans i) o Qc b⟩⟩
noncomputable def xC (lo c:Int)(n:Nat):List D:=(ck n).map λ(k:Nat)=>D.int (lo + (k:Int) * c)
theorem G6{lo c:Int}:ItR K F (LW lo c n) (xC lo c n):=by
 have a:(xC lo c n).length=n:=by simp [xC]
 refine⟨λi f _ lt=>by rw[a] at lt;exact lt,λi f _ e=>by rw[a] at e;exact UJ e.symm,λi f x k d _ b y=>?_⟩;obtain⟨j,h⟩:=y;subst j h;refine .inl ⟨rfl,?_⟩;have g:i < n:=by have:=(gS0 b).1;rw[a] at this;exact this
 have:(xC lo c n)[i]?=some (.int (lo + i * c)):=by unfold xC;rw[dV,yM g];rfl
 rw[this] at b;cases b
 rfl
def RI (b:TA3)(Γ:G)(Q:List D->G->Prop):Prop:=b Γ λds a=>∃ j:Int,ds=[.int j]/\(0<=j/\j < 2 ^ 62)/\Q (xC (j - 1) (-1) j.toNat) a
theorem OO{ta:TA}{i:TA3}{u b:Pos}(g:Gl X "reversed")(f:X.mg "reversed"=none)(y:Gl X "range")(x:X.mg "range"=none)(h:P3A K X [a] ta i)(w:autoParam (eh [a] X.env=[(false,eval a X.env)]) wE)(d:autoParam (eh [.Call (.Name "range" p) [a] [] pos] X.env=[(false,eval (.Call (.Name "range" p) [a] [] pos) X.env)]) wE) :
  P3I K X tg (.Call (.Name "reversed" u) [.Call (.Name "range" p) [a] [] pos] [] b) (RJ ta) (RI i):=⟨NS g f y x h.pe w d,λB F l H m Q R e q k=>
 h.rf B F l H m _ _ e q λJ E Z=>by
  obtain⟨G,c,L,s,D,n,j,C,⟨A,z⟩,t⟩:=Z;subst C;obtain⟨v,I,rfl,r,o⟩:=n;cases r;cases o;exact⟨j,rfl,A,z,k _ E G c _ s D G6 t⟩⟩
end
section
variable {B:Bs}{F:Hp}{H:Hp}{Γ:G}{X:Cx}{b f:Expr}{ta tb te tf to:TE}{a3 b3:TB3}{e3 f3:TE3}
set_option backward.eqns.nonrecursive false in
noncomputable def dS:D->Bool
 | .str _=>true
 | _=>false
theorem Sv(T:TyS X.K):B3 K X (.builtin "isinstance") (λxs H Q=>∃ x,xs=[x,.ty "str"]/\Kn H x/\Q (.bl (isS x)) H) (is3 "str" dS):=Jl (g:=λ_ v=>isS v) (Jc T) λs h a=>by
 rename_i F H d v;cases d <;> first
  | (cases h;rfl)
  | (cases a;done)
  | (obtain⟨p,b,rfl,_⟩:=h;rfl)
  | (obtain⟨p,rfl,_⟩:=h;rfl)
  | (obtain⟨p,e,c,rfl,_⟩:=h;rfl)
end
mutual
noncomputable def dt:D->PyData
 | .non=>.none
 | .bl b=>.bool b
 | .int i=>.int i
 | .str x=>.str x
 | .lst xs=>.list (dtL xs)
 | .tup xs=>.tuple (dtL xs)
 | .dct=>.dict []
 | .dcs k i=>.dict [(.str k,.int i)]
 | _=>.none
noncomputable def dtL:List D->List PyData
 | []=>[]
 | x::xs=>dt x::dtL xs
end
inductive Sh:Nat->Nat->D->Prop where
 | non:Sh 100 1 .non
 | bl (b:Bool):Sh 100 1 (.bl b)
 | int {i:Int} (h:i.natAbs < 10 ^ 60):Sh 100 1 (.int i)
 | str {x:Str} {n:Nat} (h:(YR (.str x)).length<=n):Sh n 1 (.str x)
 | dct:Sh 100 1 .dct
 | dcs {k:Str} {i:Int} {n:Nat} (h:i.natAbs < 10 ^ 60) (hn:(YR (.dict [(.str k,.int i)])).length<=n):Sh n 1 (.dcs k i)
 | lst {n k l:Nat} {xs:List D} (h:∀ x∈xs,Sh n k x) (hl:xs.length<=l):Sh (l * (n + 2) + 3) (k + 1) (.lst xs)
 | tup {n k l:Nat} {xs:List D} (h:∀ x∈xs,Sh n k x) (hl:xs.length<=l):Sh (l * (n + 2) + 3) (k + 1) (.tup xs)
 | up {n k n' k':Nat} {d:D} (h:Sh n k d) (h1:n<=n') (h2:k<=k'):Sh n' k' d
set_option backward.eqns.nonrecursive false in
noncomputable def Qj:D->Bool
 | .lst _=>true
 | .tup _=>true
 | _=>false
section
variable {B:Bs}{F:Hp}{H:Hp}{Γ:G}{X:Cx}{f:Expr}{ta te tf:TE}{a3:TB3}{e3 f3:TE3}
set_option backward.eqns.nonrecursive false in
def IA (C0:Addr)(f:Str)(x:D)(Γ:G)(Q:RV->G->Prop):Prop:=match x with
 | .ins C ns xs=>C=C0/\m1 ((ns.zip xs).lookup f) (λd=>Q (.fz d) Γ) ⟨⟩
 | _=>False
theorem dD{f:Str}(o:X.K=K)(c:P3B K X a ta a3)(s:Cls K C0)(l:gr K C0 f)(n:autoParam (Ut a f X.env (eval a X.env)=eval a X.env) wE) :
  P3 K X (.Attribute a f pos) (Qb K ta f) (GO (IA C0 f) a3):=⟨by subst o;exact NZ c.pe n,C4 (r:=λx h Q=>∃ a C b g v,x=.ref a/\h a=some (.ins C b g)/\Cls K C/\gr K C f/\g.lookup f=some v/\Q v h) (ta:=ta) (by
 intro B F z H A x b Q D e i q k;unfold IA at q;split at q
 .obtain⟨rfl,q⟩:=q;obtain⟨d,m,q⟩:=bX.mp q;obtain⟨p,b,y,rfl,w,u,t⟩:=i;obtain⟨v,j,r⟩:=aE.lookup u t m;exact⟨p,_,b,y,v,rfl,w,s,l,j,k _ _ (j8 e r q)⟩
 .exact q.elim) c.rf⟩
noncomputable def kt (zs:Ls0):D:=.ktup (zs.map .str)
structure PN (K:Fg0) (mg:SV0) (x:Str) (p:Addr) (zs:Ls0):Prop where
 mg:mg x=some (.ref p)
 sq:∀ F:Hp,SqT K F p (zs.map V.str)
theorem aE.strs:∀ (zs:Ls0),aE K F (zs.map D.str) (zs.map V.str)
 | []=>rfl
 | z::zs=>⟨_,_,rfl,rfl,aE.strs zs⟩
theorem fe{zs:Ls0}{p:Addr}(b:Gl X x)(a:PN K X.mg x p zs)(c:autoParam ((x == ("__debug__":Str))=false) wP):P3 K X (.Name x pos) (tC (.ref p)) (t3C (kt zs)):=
 ⟨wY b a.mg rfl c,zC λF=>⟨p,_,rfl,a.sq F,aE.strs zs⟩⟩
end
def oIt (o:Option (Addr×Ls0×List D))(k:Addr->Ls0->List D->Prop)(_:Tag k):Prop:=oI o k
theorem HV{xs:List D}{k:Addr->Ls0->List D->Prop}{t:Tag k}:oIt (some (C,ns,xs)) k t=k C ns xs:=rfl
def oSt (o:D)(k:Str->Prop)(_:Tag k):Prop:=oS o k
theorem KL{k:Str->Prop}{t:Tag k}:oSt (.str z) k t=k z:=rfl
def ME (o:G)(k:D->Prop)(_:Tag k):Prop:=R6 o k
theorem Lg{d:D}{Γ:G}{k:D->Prop}{t:Tag k}:ME (some (.ln d)::Γ) k t=k d:=rfl
section
variable {Γ:G}{Q:RV->G->Prop}{QI:List D->G->Prop}{f:Str}{S:S3}{e3:TE3}{a3:TB3}{t3:TA3}{D1:E3}{k1 k2:Str}{d1 d2 d0:D}{l3 h3:TO3}
theorem JQ:GX C0 i f e3 D1 Γ=(e3 Γ λr a=>oIt (yc a i) (λC ns xs=>C=C0/\(f∉ns/\ns.length < 1000)/\D1.nx (putD a i (.ins C (ns++[f]) (xs++[r.d])))) ⟨⟩):=rfl
theorem RH:iS3 e3 Γ QI=(e3 Γ λr a=>oSt r.d (λz=>asc z=true/\QI (signs z) a) ⟨⟩):=rfl
end
theorem MT{c:Bool}{p q:Prop}{s:Tag p}{t:Tag q}(b:c=true->p)(a:c=false->q):bT c p q s t:=by
 cases c with
 | true=>exact b rfl
 | false=>exact a rfl
section
variable {Γ:G}{Q:RV->G->Prop}{QB:Bo->G->Prop}{QT:Bool->G->Prop}{QA:List D->G->Prop}{QL:List Bo->G->Prop}{QO:Option Int->G->Prop}{QG:G->Prop}{is:List Nat}{D1:E3}{t u:TS3}{e3 f3:TE3}{a3 b3 c3:TB3}{A3 B3:TT3}{t3:TA3}{tb:dG}{d:D}{l3 h3 s3:TO3}{bb:qo}{ys:List D}
theorem Mx:Qk t u D1 Γ=t { D1 with nx:=u D1 } Γ:=rfl
theorem OV:Mf D1 Γ=D1.nx Γ:=rfl
theorem Mw:JR i e3 D1 Γ=(e3 Γ λr a=>bT (frB a i) (D1.nx (a.set i (some r.sl))) False ⟨⟩ ⟨⟩):=rfl
theorem My:Qm e3 D1 Γ=e3 Γ D1.rt:=rfl
theorem OW:MJ e3 D1 Γ=(e3 Γ λ_ a=>D1.nx a):=rfl
theorem RQ:tst e3 Γ QT=(e3 Γ λx a=>match x.d with | .bl k=>QT k a | _=>False):=rfl
theorem MB:bor i Γ QB=m1 (Gat Γ i) (λ_=>QB (.v i) Γ) ⟨⟩:=rfl
theorem MC:bof e3 Γ QB=(e3 Γ λx a=>QB (.d x.d) a):=rfl
theorem EG:ML a3 tb Γ QL=(a3 Γ λx b=>tb b λxs a=>QL (x::xs) a):=rfl
theorem Iq:KP Γ QL=QL [] Γ:=rfl
theorem Ir:qQ e3 t3 Γ QA=(e3 Γ λx b=>t3 b λxs a=>QA (x.d::xs) a):=rfl
theorem Mz:HY Γ QA=QA [] Γ:=rfl
theorem h_c:t3C d Γ Q=Q (.fz d) Γ:=rfl
theorem RX:Pu A3 B3 Γ QT=(A3 Γ λc a=>bT c (B3 a QT) (QT false a) ⟨⟩ ⟨⟩):=rfl
theorem TH:or3 A3 B3 Γ QT=(A3 Γ λc a=>bT c (QT true a) (B3 a QT) ⟨⟩ ⟨⟩):=rfl
theorem RS:Of A3 Γ QT=(A3 Γ λc a=>QT (!c) a):=rfl
theorem TJ:if3 A3 e3 f3 Γ Q=(A3 Γ λc a=>bT c (e3 a Q) (f3 a Q) ⟨⟩ ⟨⟩):=rfl
theorem MA:Ro t3 Γ Q=(t3 Γ λxs a=>xs.length<=sizeLine/\Q (.fr (.lst xs)) a):=rfl
theorem Mv:GJ t3 Γ Q=(t3 Γ λxs a=>xs.length<=sizeLine/\Q (.fz (.tup xs)) a):=rfl
theorem RW:Pr i e3 Γ Q=mL (dF Γ i) (λ_=>e3 Γ λr a=>mL (dF a i) (λxs=>xs.length < sizeLine/\Q (.fz .non) (putD a i (.lst (xs++[r.d])))) ⟨⟩) ⟨⟩:=rfl
theorem OR:L8 is e3 D1 Γ=(e3 Γ λr a=>mL (GI r.d) (λds=>gvF a is ds D1.nx) ⟨⟩):=rfl
theorem OQ:L7 a3 Γ QO=(a3 Γ λx a=>∃ i,x.at a=some (.int i)/\QO (some i) a):=rfl
theorem OU:Me Γ QO=QO none Γ:=rfl
abbrev hI (a:Nat->G->Prop)(k:Nat)(Γ:G)(_:Tag a):Prop:=a k Γ
def Mg (xs:List D)(c:G)(f:TG3)(g:TS3)(b:E3)(_:Tag (f,g,b)):Prop:=∃ a:Nat->G->Prop,a 0 c/\(∀ k d Γ,xs[k]?=some d->a k Γ->f d Γ λe=>g { b with nx:=a (k + 1),ct:=a (k + 1),bk:=b.nx } e)/\∀ Γ,a xs.length Γ->b.nx Γ
theorem RU{b:TI3}{g3:TG3}{c:TS3}{e:Tag (b,g3,c)}{d:Tag D1}:O7 b g3 c D1 Γ e d=(b Γ λxs a=>Mg xs a g3 c D1 ⟨⟩):=rfl
theorem cA{xs:List D}{b:G}{f:TG3}{b3:TS3}{c:E3}{t:Tag (f,b3,c)}(a:Nat->G->Prop)(i:a 0 b)(g:∀ k d Γ,xs[k]?=some d->a k Γ->f d Γ λe=>b3 { c with nx:=λΓ=>hI a (k + 1) Γ ⟨⟩,ct:=λΓ=>hI a (k + 1) Γ ⟨⟩,bk:=c.nx } e)(h:∀ Γ,a xs.length Γ->c.nx Γ):Mg xs b f b3 c t:=⟨a,i,g,h⟩
abbrev hJ (a:Nat->List D->G->Prop)(k:Nat)(ys:List D)(Γ:G)(_:Tag a):Prop:=a k ys Γ
def MM (xs:List D)(b:G)(g:On)(h:TG3)(i:TE3)(Q:RV->G->Prop)(_:Tag (g,h,i,Q)):Prop:=∃ c:Nat->List D->G->Prop,c 0 [] (fK b (jP g))/\
 (∀ k d ys a,xs[k]?=some d->ys.length=k->c k ys a->h d a λf=>i f λr e=>c (k + 1) (ys++[r.d]) e)/\∀ ys a,ys.length=xs.length->c xs.length ys a->Q (.fr (.lst ys)) (bh g b a)
theorem OX{i3:TI3}{g3:TG3}{c:Tag (fr,i3,g3,e3)}{b:Tag Q}:MN fr i3 g3 e3 Γ Q c b=(i3 Γ λxs a=>xs.length < sizeLine/\MM xs a fr g3 e3 Q ⟨⟩):=rfl
theorem aO{xs:List D}{b:G}{g3:TG3}{e3:TE3}{Q:RV->G->Prop}{t:Tag (fr,g3,e3,Q)}(c:Nat->List D->G->Prop)(i:c 0 [] (fK b (jP fr)))(g:∀ k d ys a,xs[k]?=some d->ys.length=k->c k ys a->g3 d a λf=>e3 f λr e=>hJ c (k + 1) (ys++[r.d]) e ⟨⟩)(h:∀ ys a,ys.length=xs.length->c xs.length ys a->Q (.fr (.lst ys)) (bh fr b a)):MM xs b fr g3 e3 Q t:=⟨c,i,g,h⟩
def IX (xs:List D)(a:G)(c:On)(d:TG3)(e:qo)(Q:RV->G->Prop)(_:Tag (c,d,e,Q)):Prop:=Ew xs d e [] (fK a (jP c)) λys b=>ys.length < sizeLine/\Q (.fr (.lst ys)) (bh c a b)
theorem Ld{i3:TI3}{g3:TG3}{c:Tag (fr,i3,g3,bb)}{b:Tag Q}:IY fr i3 g3 bb Γ Q c b=(i3 Γ λxs a=>IX xs a fr g3 bb Q ⟨⟩):=rfl
theorem gW{xs:List D}{a:G}{g3:TG3}{b3:qo}{Q:RV->G->Prop}{t:Tag (fr,g3,b3,Q)}(c:Nat->List D->G->Prop)(h:c 0 [] (fK a (jP fr)))(f:∀ k d ys Γ,xs[k]?=some d->c k ys Γ->g3 d Γ λe=>b3 ys e λys Γ=>hJ c (k + 1) ys Γ ⟨⟩)(g:∀ ys b,c xs.length ys b->ys.length < sizeLine/\Q (.fr (.lst ys)) (bh fr a b)):IX xs a fr g3 b3 Q t:=⟨c,h,f,g⟩
theorem Pb{xs:List D}:eqN (n + 1) (.lst xs) (.lst [])=some xs.isEmpty:=by cases n <;> cases xs <;> rfl
theorem Pc{a b c:Int}:eqN (n + 1) (.lst [.int a,.int b,.int c]) (.lst [.int a,.int b,.int c])=some true:=by
 have:=yD (n:=n) [a,b,c] [a,b,c];rw[decide_eq_true rfl] at this;exact this
def Mt (S:S3)(A:G)(L:On)(b:G)(Q:RV->G->Prop)(_:Tag Q):Prop:=S A (λr a=>Q r (bh L b a))
def RN (S:S3)(A:G)(b:G)(Q:RV->G->Prop)(_:Tag Q):Prop:=S A (λr a=>r=.fz .non/\ME a (λd=>Q (.fr d) b) ⟨⟩)
theorem ET{S:S3}{c:dG}:Bc n S c Γ Q=(c Γ λb a=>bT (nE b n) (Mt S (fK a (b.map some)) ((b.map some).map cb) a Q ⟨⟩) False ⟨⟩ ⟨⟩):=rfl
theorem Ol{S:S3}{e:TB3}{d:dG}:lC C m n S e d Γ Q=(e Γ λx b=>(∃ ns xs,x.at b=some (.ins C ns xs)/\m∉ns)/\d b λc a=>bT (nE (x::c) n) (Mt S (fK a ((x::c).map some)) (((x::c).map some).map cb) a Q ⟨⟩) False ⟨⟩ ⟨⟩):=rfl
theorem Om{S:S3}{b:TA3}:H_ C n S b Γ Q=(b Γ λds a=>ds.length + 1=n/\RN S (some (.ln (.ins C [] []))::ds.map λd=>some (.fz d)) a Q ⟨⟩):=rfl
theorem T_{s:Tag (t,u,D1)}:bG true t u D1 Γ s=t D1 Γ:=rfl
theorem Ua{s:Tag (t,u,D1)}:bG false t u D1 Γ s=u D1 Γ:=rfl
theorem pO{c:Bool}{s:Tag (t,u,D1)}(b:c=true->t D1 Γ)(a:c=false->u D1 Γ):bG c t u D1 Γ s:=by
 cases c with
 | true=>exact b rfl
 | false=>exact a rfl
theorem RT:RD A3 t u D1 Γ=(A3 Γ λc a=>bG c t u D1 a ⟨⟩):=rfl
theorem TK{e:D}:qQ (t3C e) t3 Γ QA=(t3 Γ λxs a=>QA (e::xs) a):=rfl
theorem Mu{d e:D}:GJ (qQ (t3C d) (qQ (t3C e) HY)) Γ Q=Q (.fz (.tup [d,e])) Γ:=by
 show (2<=sizeLine/\Q (.fz (.tup [d,e])) Γ)=_;exact propext ⟨λh=>h.2,λh=>⟨by rw[gp];decide,h⟩⟩
theorem TL{d e:D}:qQ (GJ (qQ (t3C d) (qQ (t3C e) HY))) t3 Γ QA=(t3 Γ λxs a=>QA (.tup [d,e]::xs) a):=by
 show GJ (qQ (t3C d) (qQ (t3C e) HY)) Γ (λx b=>t3 b λxs a=>QA (x.d::xs) a)=_;rw[Mu];rfl
end
theorem ln0{a:Type}{us:List a}(h:us.length=0):us=[]:=List.eq_nil_of_length_eq_zero h
theorem ln1{b:Type}{us:List b}(h:us.length=1):∃ a,us=[a]:=by
 match us,h with
 | [a],_=>exact⟨a,rfl⟩
theorem ln2{c:Type}{us:List c}(h:us.length=2):∃ a b,us=[a,b]:=by
 match us,h with
 | [a,b],_=>exact⟨a,b,rfl⟩
theorem ln3{d:Type}{us:List d}(h:us.length=3):∃ a b c,us=[a,b,c]:=by
 match us,h with
 | [a,b,c],_=>exact⟨a,b,c,rfl⟩
theorem ln4{e:Type}{us:List e}(h:us.length=4):∃ a b c d,us=[a,b,c,d]:=by
 match us,h with
 | [a,b,c,d],_=>exact⟨a,b,c,d,rfl⟩
theorem ln5{f:Type}{us:List f}(h:us.length=5):∃ a b c d e,us=[a,b,c,d,e]:=by
 match us,h with
 | [a,b,c,d,e],_=>exact⟨a,b,c,d,e,rfl⟩
section
variable {B:Bs}{F:Hp}{H:Hp}{Γ:G}{X:Cx}
noncomputable def Bs.hid (B:Bs)(p:Addr)(o:HO):Bs:=⟨B.F,upd B.H p o,B.own⟩
theorem En.hide(e:En K B F σ H Γ){p:Addr}{o:HO}(j:F p=none)(f:H p=some o)(g:∀ (i:Nat) (d:D),Hld Γ i d->σ[i]?≠some (some (V.ref p))):En K (B.hid p o) F σ H Γ where
 sub:=e.sub
 len:=e.len
 fz:=e.fz
 hl:=e.hl
 ow:=λi d c h a=>by
  have z:c≠p:=λz=>g i d (.inl h) (z ▸ a);show upd B.H p o c=none;rw[au z];exact e.ow i d c h a
 ln:=e.ln
 dis:=e.dis
 par:=e.par
 keep:=e.keep
 new:=λb u h=>by
  rcases e.new b u h with q | q
  .exact .inl q
  .have z:b≠p:=λz=>by subst z;rw[j] at h;cases h
   exact .inr (by show upd B.H p o b=none;rw[au z];exact q)
 rest:=λb u h n=>by
  by_cases z:b=p
  .subst z;have h:upd B.H b o b=some u:=h;rw[az] at h;cases h;exact f
  .have h:upd B.H p o b=some u:=h;rw[au z] at h;exact e.rest b u h n
 dom:=λb h=>by
  have z:b≠p:=λz=>by subst z;rw[f] at h;cases h
  show upd B.H p o b=none;rw[au z];exact e.dom b h
theorem En.GD{p:Addr}{o:HO}(e:En K (B.hid p o) F σ H Γ)(l:B.H p=none)(k:B.F p=none)(j:∀ i,(i,p)∉B.own) :
  En K B F σ H Γ/\H p=some o/\F p=none/\∀ (i:Nat) (d:D),Hld Γ i d->σ[i]?≠some (some (V.ref p)):=by
 have c:(B.hid p o).H p=some o:=az;have g:∀ {b:Addr},b≠p->(B.hid p o).H b=B.H b:=λz=>au z;have f:∀ {b:Addr},(B.hid p o).H b=none->B.H b=none:=λ{b} h=>by
  have z:b≠p:=λz=>by subst z;rw[c] at h;cases h
  rw[<- g z];exact h
 refine⟨⟨e.sub,e.len,e.fz,e.hl,λi d q h a=>f (e.ow i d q h a),e.ln,e.dis,e.par,e.keep,λb u h=>(e.new b u h).imp id f,λb u h n=>e.rest b u ?_ n,λb h=>f (e.dom b h)⟩,e.rest p o c j,?_,λi d h a=>?_⟩
 .have z:b≠p:=λz=>by subst z;rw[l] at h;cases h
  rw[g z];exact h
 .cases q:F p with
  | none=>rfl
  | some u=>
   rcases e.new p u q with z | z
   .rw[show (B.hid p o).F p=B.F p from rfl,k] at z;cases z
   .rw[c] at z;cases z
 .rcases h with h | h
  .have z:=e.ow i d p h a;rw[c] at z;cases z
  .exact j i (e.ln i d p h a)
set_option backward.eqns.nonrecursive false in
def frL (r:RV)(k:List D->Prop):Prop:=match r with
 | .fr (.lst xs)=>k xs
 | _=>False
theorem yi{r:RV}{k:List D->Prop}(h:frL r k):∃ xs,r=.fr (.lst xs)/\k xs:=by
 cases r with
 | fz d=>exact h.elim
 | two _ _=>exact h.elim
 | rws _=>exact h.elim
 | tol _ _ _=>exact h.elim
 | fr d=>cases d <;> first | exact h.elim | exact⟨_,rfl,h⟩
def P0 (e d:TE3)(Γ:G)(Q:RV->G->Prop):Prop:=e Γ λr b=>frL r λxs=>d b λc a=>frL c λys=>Q (.two xs ys) a
variable {b:Expr}{ta tb:TE}{a3 b3:TE3}
theorem HL{U}(L:P3 K X a ta a3)(J:P3 K X b tb b3)(hs:autoParam (eh [a,b] X.env=(false,eval a X.env)::eh [b] X.env) wE)(u:autoParam (eh [b] X.env=(false,eval b X.env)::eh [] X.env) wE):P3 K X (.Tuple [a,b] U pos) (JF (lq ta (lq tb rX))) (P0 a3 b3):=⟨C8 (g_ L.pe (g_ J.pe rA u) hs),by
 intro B F D H R Q QQ e q k;refine L.rf B F D H R _ _ e q λv H1 Z=>?_;obtain⟨F1,m,r,W,A,Y,t⟩:=Z;obtain⟨T,rfl,t⟩:=yi t;obtain⟨p,rfl,O,⟨g,h1,r1⟩,P,I⟩:=Y;have bf:B.F p=none:=by
  cases z:B.F p with
  | none=>rfl
  | some o=>have:=A.keep _ _ z;rw[O] at this;cases this
 have no:∀ i,(i,p)∉B.own:=λi z=>by
  obtain⟨x,d,y⟩:=A.par i p z;exact I i d (.inr y) x
 refine J.rf (B.hid p (.lst g)) F1 D H1 m _ _ (A.hide O h1 I) t λw H2 Z=>?_;obtain⟨F2,j,r',E,e2,n,s⟩:=Z;obtain⟨S,rfl,s⟩:=yi s;obtain⟨f,rfl,f2,⟨V,N,r2⟩,b2,n2⟩:=n;have G:f≠p:=λz=>by
  have b2:upd B.H p (.lst g) f=none:=b2;rw[z,az] at b2;cases b2
 have C:B.H f=none:=by
  have b2:upd B.H p (.lst g) f=none:=b2;rw[au G] at b2;exact b2
 obtain⟨h,M,f3,n3⟩:=e2.GD P bf no;refine⟨by show 2<=sizeLine;rw[gp];lia,λl c=>k _ _ ⟨F2,j,.two T S,W.trans E,h.alloc c _,⟨l,p,f,g,V,rfl,az,?_,?_,r1.mono E,r2,vk G,λz hz=>?_⟩,s⟩⟩
 .rw[au (aM M c)];exact M
 .rw[au (aM N c)];exact N
 .rcases hz with rfl | rfl | rfl
  .exact⟨h.nof c,h.dom _ c,h.B7 c⟩
  .exact⟨f3,P,n3⟩
  .exact⟨f2,C,n2⟩⟩
def iT3 (b:TE3)(Γ:G)(Q:List D->G->Prop):Prop:=b Γ λr a=>∃ xs,r.d=.tup xs/\Q xs a
theorem OM{l:Expr}{tl:TE}{o:TE3}(I:X.K=K)(h:P3 K X l tl o):P3I K X tg l (RF K tl) (iT3 o):=⟨by subst I;exact NP h.pe,λB F u H w Q R e q k=>
 h.rf B F u H w _ _ e q λv M Z=>by
  obtain⟨T,j,r,s,L,C,z,E,D⟩:=Z;obtain⟨N,A,t,n⟩:=L.frozen C;rw[E] at n;obtain⟨p,a,rfl,g,m⟩:=n;refine⟨p,rfl,⟨a,SqT.of (t.sub _ _ g)⟩,k _ M N j z (s.trans A) t ⟨λi f b lt=>?_,λi f b O=>?_,λi f x S d b G y=>?_⟩ D⟩
  .rw[<- m.length] at lt;exact⟨a,a[i],SqT.of (b _ _ g),by simp [lt]⟩
  .exact⟨a,SqT.of (b _ _ g),by rw[m.length];lia⟩
  .obtain⟨J,y⟩:=y;obtain⟨P,c,r⟩:=m.Le (y a (SqT.of (b _ _ g)));rw[G] at c;cases c;exact .inl ⟨J,r⟩⟩
end
open PySem _2 PySem.Spec PyProof.Rows
section
variable {B:Bs}{F:Hp}{H:Hp}{Γ:G}{X:Cx}
def Mc (i j:Nat)(e d:TE3)(D:E3)(Γ:G):Prop:=e Γ λr b=>frL r λxs=>d b λc a=>frL c λys=>bY a i/\bY (a.set i (some (.ow (.lst xs)))) j/\D.nx ((a.set i (some (.ow (.lst xs)))).set j (some (.ow (.lst ys))))
theorem JX{b:Expr}{ta M:TE}{Y V:TE3}{t u:Pos}{kt k2 I}(hc:X.calm=true)(hN:X.N.Nodup)(hi:X.N[i]?=some x)(hj:X.N[j]?=some y)(G:i≠j)(hx:X.env.scope.names.lookup x=some .local)(hy:X.env.scope.names.lookup y=some .local)(R:P3 K X a ta Y)(Q:P3 K X b M V)(hw:Ur [.Tuple [.Name x px,.Name y t] kt u] (.Tuple [a,b] k2 I) X.env=pure (some [x,y]))(hs:autoParam (Uq [.Tuple [.Name x px,.Name y t] kt u] (.Tuple [a,b] k2 I) pos.line X.env=pure false) wE)(C:autoParam (eh [a,b] X.env=(false,eval a X.env)::eh [b] X.env) wE)(A:autoParam (eh [b] X.env=(false,eval b X.env)::eh [] X.env) wE) :
  P3S K X (.Assign [.Tuple [.Name x px,.Name y t] kt u] (.Tuple [a,b] k2 I) pos) (M7 i j (lq ta (lq M rX))) (Mc i j Y V):=⟨Hm hc hN hi hj G hx hy (g_ R.pe (g_ Q.pe rA A) C) hw hs,λB F g H Γ D D3 e k q=>by
 refine R.rf B F g H Γ _ _ e q λv H1 Z=>?_;obtain⟨F1,h,r,s1,J,rv,s⟩:=Z;obtain⟨xs,rfl,s⟩:=yi s;obtain⟨p,rfl,T,⟨f,h1,r1⟩,W,P⟩:=rv;have bf:B.F p=none:=by
  cases z:B.F p with
  | none=>rfl
  | some o=>have:=J.keep _ _ z;rw[T] at this;cases this
 have no:∀ i,(i,p)∉B.own:=λi z=>by
  obtain⟨x,d,y⟩:=J.par i p z;exact P i d (.inr y) x
 refine Q.rf (B.hid p (.lst f)) F1 g H1 h _ _ (J.hide T h1 P) s λw H2 Z=>?_;obtain⟨F2,a1,r',N,e2,l,n⟩:=Z;obtain⟨ys,rfl,S,g2,n⟩:=yi n;obtain⟨c,rfl,f2,⟨ws,h2,r2⟩,b2,n2⟩:=l;have O:c≠p:=λz=>by
  have b2:upd B.H p (.lst f) c=none:=b2;rw[z,az] at b2;cases b2
 have L:B.H c=none:=by
  have b2:upd B.H p (.lst f) c=none:=b2;rw[au O] at b2;exact b2
 obtain⟨U,h3,f3,n3⟩:=e2.GD W bf no;have il:=oX S;have is:i < g.length:=by rw[U.len];exact il
 have e4:=U.set (v:=.ref p) (r:=.fr (.lst xs)) S ⟨p,rfl,f3,⟨f,h3,r1.mono N⟩,W,n3⟩;have e5:=e4.set (v:=.ref c) (r:=.fr (.lst ys)) g2 ⟨c,rfl,f2,⟨ws,h2,r2⟩,L,λm d E a=>by
  by_cases z:m=i
  .subst z;rw[a8 is] at a;cases a;exact O rfl
  .rw[cf (vk z)] at a;exact n2 m d (by unfold Hld at E ⊢;rw[cf (vk z)] at E;exact E) a⟩
 exact⟨_,_,rfl,k.nx F2 _ H2 _ (s1.trans N) e5 n⟩⟩
def LY (i:Nat)(c:TE3)(Γ:G)(Q:RV->G->Prop):Prop:=(∃ d,Gat Γ i=some d)/\c Γ λb a=>frL b λys=>∃ xs,a[i]?=some (some (Sl.ow (.lst xs)))/\Q (.two xs ys) (a.set i none)
theorem Kw(i:Nat){b:Expr}{y:TE}{J:TE3}{U}(f:P3B K X (.Name x px) (jj i) (bor i))(E:P3 K X b y J)(hs:autoParam (eh [.Name x px,b] X.env=(false,eval (.Name x px) X.env)::eh [b] X.env) wE)(t:autoParam (eh [b] X.env=(false,eval b X.env)::eh [] X.env) wE):P3 K X (.Tuple [.Name x px,b] U pos) (JF (lq (jj i) (lq y rX))) (LY i J):=⟨C8 (g_ f.pe (g_ E.pe rA t) hs),by
 intro B F M H N Q QQ e ⟨⟨d,hd⟩,q⟩ k;obtain⟨v,m,_⟩:=e.get hd;refine⟨v,m,E.rf B F M H N _ _ e q λw H2 Z=>?_⟩;obtain⟨F2,c,r',T,o,r,s⟩:=Z;obtain⟨O,rfl,P,f,s⟩:=yi s;obtain⟨q',rfl,f2,⟨R,G,V⟩,b2,A⟩:=r;obtain⟨p,L,f1,S,I,W⟩:=o.hl i _ (.inl f);rw[m] at L;cases L;have C:bY c i:=by unfold bY;rw[f];trivial
 have n:=o.forget C;have Y:p≠q':=λz=>A i _ (.inl f) (z ▸ m);have u:∀ {j:Nat} {d:D},Hld (c.set i none) j d->j≠i/\Hld c j d:=λ{j d} h=>by
  by_cases z:j=i
  .subst z;rcases h with h | h <;> rw[a8 (oX C)] at h <;> cases h
  .exact⟨z,by unfold Hld at h ⊢;rw[cf (vk z)] at h;exact h⟩
 refine⟨by show 2<=sizeLine;rw[gp];lia,λl g=>k _ _ ⟨F2,_,.two P O,T,n.alloc g _,⟨l,p,q',S,R,rfl,az,?_,?_,W,V,Y,λz hz=>?_⟩,s⟩⟩
 .rw[au (aM I g)];exact I
 .rw[au (aM G g)];exact G
 .rcases hz with rfl | rfl | rfl
  .exact⟨n.nof g,n.dom _ g,n.B7 g⟩
  .exact⟨f1,o.ow i _ _ f m,λj d h a=>(u h).1 (o.dis j i d _ _ (u h).2 (.inl f) a m)⟩
  .exact⟨f2,b2,λj d h=>A j d (u h).2⟩⟩
end
theorem RC{S i:S3}(h:∀ Γ Q,i Γ Q->S Γ Q)(vs:List V)(H:Hp)(Q:VK)(E:XK)(q:sp3 K n i vs H Q E):sp3 K n S vs H Q E:=by
 obtain⟨a,F,g,f,j,b,c,d,e⟩:=q;exact⟨a,F,g,f,j,b,c,h _ _ d,e⟩
abbrev rd2 (f:Li0->Sl)(C:Li0->Int->Prop)(g:Li0->Int->Li0):S3:=λΓ Q=>∃ (ns:Li0) (m:Int),Γ=[some (f ns),some (.fz (.int m))]/\C ns m/\Q (.fr (.lst ((g ns m).map .int))) Γ
section
variable {mg:SV0}
theorem Mi{C:Li0->Int->Prop}{g:Li0->Int->Li0}(F:aC P w K mg base CX0 k f fd ps (sp3 K 2 (rd2 (λns=>.fz (.lst (ns.map .int))) C g))):aC P w K mg base CX0 k f fd ps (sp3 K 2 (rd2 (λns=>.ln (.lst (ns.map .int))) C g)):=by
 refine F.imp λS H Q E h=>?_;obtain⟨hl,G,a2,X,Q3,e,a4,⟨ns,m,rfl,hC,hq⟩,hQ⟩:=h;obtain⟨Y,T,rfl⟩:∃ a b,S=[a,b]:=by
  match S,hl with
  | [a,b],_=>exact⟨a,b,rfl⟩
 obtain⟨c,R,f0,Z,N,L⟩:=e.hl 0 _ (.inr rfl);have R:some (some Y)=some (some (V.ref c)):=R;cases R;have L:=L.ya;subst L;have A:=e.ln 0 _ c rfl rfl;obtain⟨u1,O,J⟩:=e.fz 1 _ rfl;have O:some (some T)=some (some u1):=O;cases O;have J:T=.int m:=J;subst J;have l:∀ {i:Nat} {s:Sl} {x y:Sl},[some x,some y][i]?=some (some s)->(i=0/\s=x)\/(i=1/\s=y):=λ{i s x y} h=>by
  match i,h with
  | 0,h=>cases h;exact .inl ⟨rfl,rfl⟩
  | 1,h=>cases h;exact .inr ⟨rfl,rfl⟩
  | n + 2,h=>simp at h
 have nh:∀ {i:Nat} {d x y:D},¬ Hld [some (Sl.fz x),some (Sl.fz y)] i d:=λ{i d x y} h=>by
  rcases h with h | h <;> rcases l h with ⟨rfl,q⟩ | ⟨rfl,q⟩ <;> cases q
 have B:∀ {i:Nat} {d x y:D},Hld [some (Sl.ln x),some (Sl.fz y)] i d->i=0/\d=x:=λ{i d x y} h=>by
  rcases h with h | h <;> rcases l h with ⟨rfl,q⟩ | ⟨rfl,q⟩ <;> cases q
  exact⟨rfl,rfl⟩
 have sm:aS (upd G c (.lst (ns.map V.int))) H:=λb o h=>by
  by_cases z:b=c
  .subst z;rw[az] at h;cases h;exact N
  .rw[au z] at h;exact e.sub b o h
 refine⟨rfl,upd G c (.lst (ns.map V.int)),[],_,λr u=>r=.fr (.lst ((g ns m).map .int))/\u=[some (.fz (.lst (ns.map .int))),some (.fz (.int m))],⟨sm,rfl,?_,λi d h=>absurd h nh,λi d p h=>absurd (gs h) nh,λi d p h=>absurd (Ny h) nh,λi j d d' p h=>absurd h nh,λi p h=>(by cases h),λb o h=>h,λb o h=>.inl h,λb o h _=>h,λb h=>h⟩,?_,⟨ns,m,rfl,hC,rfl,rfl⟩,?_⟩
 .intro i d h;rcases l h with ⟨rfl,q⟩ | ⟨rfl,q⟩ <;> cases q
  .exact⟨_,rfl,c,_,rfl,az,aE.ints ns⟩
  .exact⟨_,rfl,rfl⟩
 .intro i d h;rcases l h with ⟨rfl,q⟩ | ⟨rfl,q⟩ <;> cases q
 .rintro r u ⟨rfl,rfl⟩ v W F' U ⟨q,rfl,fq,⟨us,M,I⟩,t,_⟩;have I:=I.ya;subst I;have t:H q=none:=t;have rest:∀ b o,H b=some o->W b=some o:=λb o h=>U.rest b o h (λi hi=>by cases hi);have nq:G q=none:=by
   cases z:G q with
   | none=>rfl
   | some o=>have:=e.sub _ _ z;rw[t] at this;cases this
  refine hQ _ _ hq _ W G ⟨λb o h=>rest b o (e.sub b o h),rfl,?_,?_,?_,?_,?_,?_,λb o h=>h,λb o h=>.inl h,λb o h n=>rest b o h,λb h=>U.dom b h⟩ ⟨q,rfl,nq,⟨_,M,aE.ints _⟩,t,λi d h a=>?_⟩
  .intro i d h;rcases l h with ⟨rfl,q⟩ | ⟨rfl,q⟩ <;> cases q
   exact⟨_,rfl,rfl⟩
  .intro i d h;obtain⟨rfl,rfl⟩:=B h;exact⟨c,rfl,f0,_,rest _ _ N,aE.ints ns⟩
  .intro i d p h;rcases l h with ⟨rfl,q⟩ | ⟨rfl,q⟩ <;> cases q
  .intro i d p h a;obtain⟨rfl,rfl⟩:=B (.inr h);have a:some (some (V.ref c))=some (some (V.ref p)):=a;cases a;exact A
  .intro i j d d' p q1 q2 _ _;rw[(B q1).1,(B q2).1]
  .intro i p h;obtain⟨x,d,y⟩:=e.par i p h;rcases l y with ⟨rfl,q⟩ | ⟨rfl,q⟩ <;> cases q
   exact⟨x,_,rfl⟩
  .obtain⟨rfl,rfl⟩:=B h;have a:some (some (V.ref c))=some (some (V.ref q)):=a;cases a;rw[N] at t;cases t
end
noncomputable def wd (i:Int):List Nat:=(toString i).toList.map Char.toNat
noncomputable def tl:Li0->List Nat
 | []=>[93]
 | i::is=>44::32::(wd i++tl is)
noncomputable def lt:Li0->List Nat
 | []=>[91,93]
 | i::is=>91::(wd i++tl is)
structure XD where
 C:Addr
 ns:Ls0
 xs:List D
noncomputable abbrev S3X:=G->(RV->G->Prop)->(XD->G->Prop)->Prop
end _3
namespace _2
open PySem PySem.Spec PyProof.Rows
section
variable {X:Cx}
theorem Jf:eB X (.builtin "isinstance") (λxs H Q=>∃ x c t b,xs=[x,c]/\qm X.K H x t/\isC c=true/\bq X.K t (vv c)=some b/\Q (.bl b) H):=by
 intro d s i H xs l Q I r h;obtain⟨x,c,t,b,rfl,e,g,k,q⟩:=h;obtain⟨u,j,rfl,f,a⟩:=vals2 r;obtain rfl:=PZ g a;exact zJ I f e k λm=>⟨.bl b,H,I.tok _,rfl,q⟩
end
end _2
namespace _3
open PySem _2
section
variable {B:Bs}{F:Hp}{H:Hp}{Γ:G}{X:Cx}{b:Expr}{to te ta:TE}{e3 o3 a3:TE3}{b3:TB3}
theorem Ky(b:Gl X x)(a:X.mg x=some (.ref C))(c:autoParam ((x == ("__debug__":Str))=false) wP):P3 K X (.Name x pos) (tC (.ref C)) (t3C (.adr C)):=
 ⟨wY b a rfl c,λB F f H g Q h e q k=>k _ _ (j8 (d:=.adr C) e rfl q)⟩
structure MW (K:Fg0) (C:Addr):Prop where
 cl:Cls K C
 ha:ew K (.ref C) "__class__"=some (some (.builtin "object.__class__"))
 hn:VL K (.builtin "object.__class__") "__get__"=some (some (.builtin "getset_descriptor.__get__"))
 ht:Wp K (.builtin "object.__class__")=some true
 hm:WV K C (.type "object")=some true
 o:bq K (.ref C) (.ref C)=some true
 b:bq K (.type "bool") (.ref C)=some false
 i:bq K (.type "int") (.ref C)=some false
 n:bq K (.type "NoneType") (.ref C)=some false
 s:bq K (.type "str") (.ref C)=some false
 l:bq K (.type "list") (.ref C)=some false
 t:bq K (.type "tuple") (.ref C)=some false
 d:bq K (.type "dict") (.ref C)=some false
noncomputable def N2 (C:Addr):D->Option Bool
 | .ins a _ _=>if a=C then some true else none
 | d=>if knD d=true then some false else none
theorem KA{d:D}(h:knD d=true):N2 C d=some false:=by
 cases d <;> first | rfl | cases h
set_option backward.eqns.nonrecursive false in
def OJ (C:Addr)(ds:List D)(Γ:G)(Q:RV->G->Prop):Prop:=match ds with
 | [d,.adr a]=>a=C/\∃ b,N2 C d=some b/\Q (.fz (.bl b)) Γ
 | _=>False
theorem Sw(o:X.K=K)(c:MW K C):B3 K X (.builtin "isinstance") (λxs H Q=>∃ x c t b,xs=[x,c]/\qm K H x t/\isC c=true/\bq K t (vv c)=some b/\Q (.bl b) H) (OJ C):=⟨by subst o;exact Jf,by
 intro B F y H A D J Q L e r q k;unfold OJ at q;split at q
 .rename_i d i;obtain⟨rfl,b,f,q⟩:=q;obtain⟨v,w,rfl,j,s⟩:=r.two;cases s;have u:∃ t,qm K H v t/\bq K t (.ref i)=some b:=by
   by_cases h:knD d=true
   .rw[KA h] at f;cases f;cases Ig e.sub j h with
    | non=>exact⟨_,.non,c.n⟩
    | bl x=>exact⟨_,.bl x,c.b⟩
    | int x=>exact⟨_,.int x,c.i⟩
    | str x=>exact⟨_,.str x,c.s⟩
    | lst x=>exact⟨_,.lst x,c.l⟩
    | tup x=>exact⟨_,.tup x,c.t⟩
    | dK x=>exact⟨_,.dK x,c.d⟩
   .cases d with
    | ins l E xs=>
     have a:(if l=i then some true else none)=some b:=f;by_cases z:l=i
     .rw[if_pos z] at a;cases a;subst z;obtain⟨p,I,G,rfl,g,_⟩:=j;exact⟨_,.ins g c.cl c.ha c.hn c.ht c.hm,c.o⟩
     .rw[if_neg z] at a;cases a
    | _=>first | exact absurd rfl h | cases f
  obtain⟨t,m,n⟩:=u;exact⟨v,_,t,b,rfl,m,rfl,n,k _ _ (su e q)⟩
 .exact q.elim⟩
end
noncomputable def dg (m:Nat):List Nat:=(Nat.toDigits 10 m).map Char.toNat
def fz3 (b:TE3)(Γ:G)(Q:RV->G->Prop):Prop:=b Γ λr a=>Q (.fz r.d) a
theorem iI{X:Cx}{te:TE}{b:TE3}(h:P3 K X e te b):P3 K X e te (fz3 b):=⟨h.pe,λB F c H d Q p en q k=>h.rf B F c H d _ _ en q λv n Z=>by
 obtain⟨t,a,r,s,m,g,j⟩:=Z;obtain⟨o,f,l,i⟩:=m.frozen g;exact k v n ⟨o,a,.fz r.d,s.trans f,l,i,j⟩⟩
end _3
namespace _2
open PySem PySem.Spec PyProof.Rows
theorem DV{a b:Int}{x y:Tok}{c:Value}(l:Lv0)(h:YH l)(e:Vu pos (l++[.int a x,.int b y,c])=some v):Vu pos l=some v\/v=c:=by
 fun_induction YH l with
 | case1=>
  right
  simp only[Vj,Vu] at e;split at e
  .exact(nS e).symm
  .cases e
 | case2 i _ j _ d rest f=>
  simp only[Vd,Vu] at e ⊢;split
  .rename_i q;rw[if_pos q] at e;exact .inl e
  .rename_i q;rw[if_neg q] at e;exact f h e
 | case3=>exact h.elim
noncomputable abbrev qp (q:Str)(a:Arguments)(d:Expr)(scope:Scope)(b:List (Str×Addr))(e:Value)(c:Addr)(f:Value):Obj:=PySem.W.kla_obj "<lambda>" q a d scope b e c f
def M9 (q:Str)(a:Arguments)(d:Expr)(scope:Scope)(b:List (Str×Addr))(e:Value):TE:=λ_ H Q=>
 ∀ f c g h H1,(H1=H\/(H c=none/\H1=upd H c (.frz g (.ext λ_=>True))))->H1 f=none->v_ H1 (.ref c) q->Q (.ref f) (upd H1 f (.frz (qp q a d scope b e c h) (.cod c q)))
section
variable {X:Cx}
theorem NY{c P:Addr}{f:Arguments}(w:X.env.code=.ref c)(hC:∀ h:Heap,X.K.In h->UP h c P)(hT:mQ X.base P (X.env.qual++"<lambda>"))(a1:Wl scope X.env=pure clos)(Y:autoParam (defaultsOf f X.env=([],[])) wE) :
  PE X (.Lambda f body scope pos) (M9 (X.env.qual++"<lambda>") f body scope clos ((X.mg "__name__").getD .none)):=by
 intro a7 s σ H Q I h;refine PySem.W.kla_eval Y ?_;obtain⟨ps,t,M,N⟩:=I.tb P _ hT;obtain⟨q',t',qs,E,D,B,p⟩:=I.hok P _ M;obtain⟨rfl,rfl⟩:X.env.qual++"<lambda>"=q'/\t=t':=by
  rw[N] at E;simpa using E
 have C:s.heap.Ns mainGlobals X.mg:=I.mod.glob.keeps I.bk;obtain⟨bm,ob,b1,b2,b3,b4,b5,b6⟩:=I.mod.bm;have a2:mainGlobals≠P:=λz=>by
  obtain⟨o,es,ep,e,G,_⟩:=C;rw[z,D] at e;cases e;cases G
 have a5:bm≠P:=λz=>by
  have e:=I.bk _ _ b3;rw[z,D] at e;cases e;cases b4
 have a6:bm≠mainGlobals:=λz=>by
  obtain⟨o,es,ep,e,G,_⟩:=C;have A:=I.bk _ _ b3;rw[z,e] at A;cases A;rw[G] at b6;cases b6
 have hB:s.heap.BuiltinsAt X.mg P:=⟨bm,ob,b1,b2,a6,a5,I.bk _ _ b3,b4,b5,b6⟩;cases J:Vu pos qs.toList with
 | none=>
  refine PySem.W.kla_makeFunction a1 I.ok.glob C w (hC _ I.kIn) D B J a2 hB λc' L j tk hx F V T R=>?_;obtain⟨a9,x,vs,t2,e2,U,G,hv⟩:=T;cases e2;have K:H c'=none:=I.hok.fresh F;have Z:s.heap.objs.size<=j.objs.size:=SY (Nat.lt_of_le_of_lt F V);have l:H j.objs.size=none:=I.hok.fresh Z;have W:j.objs.size≠c':=Wh V
  let H1:=upd H c' (.frz x (.ext λ_=>True))
  have a4:H1 j.objs.size=none:=by show upd H c' _ _=none;rw[au W];exact l
  have a':P≠c':=aM M K;have a0:P≠j.objs.size:=aM M l;have m:∀ H':Hp,H' c'=some (.frz x (.ext λ_=>True))->v_ H' (.ref c') (X.env.qual++"<lambda>"):=λH' z=>⟨c',x,vs,t2,_,rfl,z,G,hv⟩;have q:=h j.objs.size c' x L H1 (.inr ⟨K,rfl⟩) a4 (m H1 az);have i:∀ b o,b≠P->s.heap.get? b=some o->(j.push (qp (X.env.qual++"<lambda>") f body scope clos ((X.mg "__name__").getD .none) c' L)).get? b=some o:=λb o nb e=>cm _ (hx b o nb e);have nP:∀ b,H b=none->b≠P:=λb n z=>by rw[z,M] at n;cases n
  have k:∀ {b:Addr} {u:HO},H b=some u->upd H1 j.objs.size (.frz (qp (X.env.qual++"<lambda>") f body scope clos ((X.mg "__name__").getD .none) c' L) (.cod c' (X.env.qual++"<lambda>"))) b=some u:=λ{b u} e=>by
   rw[au (aM e l)];show upd H c' _ b=_;rw[au (aM e K)];exact e
  have cN:upd H1 j.objs.size (.frz (qp (X.env.qual++"<lambda>") f body scope clos ((X.mg "__name__").getD .none) c' L) (.cod c' (X.env.qual++"<lambda>"))) c'=some (.frz x (.ext λ_=>True)):=by
   rw[au (vk W)];exact az
  refine⟨.ref j.objs.size,_,I.un ⟨λb o e n _ _=>i b o (nP b n) e,λb o e n _ _=>⟨o.slots,i b o (nP b n) e⟩,λb o e n _=>?_,λb o e _=>?_,λb xs e=>k e,λb o u e=>k e,λb ps e=>⟨#[],by rw[Array.append_empty];exact k e⟩⟩ (λb u e=>?_),rfl,q⟩
  .have lt:=hH e;rw[au (ov (kl lt Z))];show upd H c' _ b=_;rw[au (ov (kl lt F))];exact n
  .by_cases z:b=P
   .subst z;exact⟨_,cm _ R⟩
   .exact⟨o,i b o z e⟩
  .by_cases zf:b=j.objs.size
   .subst zf;rw[az] at e;cases e;exact⟨hY _ rfl,⟨_,hY _ rfl⟩,m _ cN⟩
   .rw[au zf] at e;by_cases zc:b=c'
    .subst zc;have A:upd H b (.frz x (.ext λ_=>True)) b=some u:=e;rw[az] at A;cases A;exact⟨cm _ U,trivial,⟨_,cm _ U⟩,λ_ _ _ _=>trivial⟩
    .have A:upd H c' (.frz x (.ext λ_=>True)) b=some u:=e;rw[au zc] at A;by_cases zP:b=P
     .subst zP;rw[M] at A;cases A;refine⟨_,t,_,N,cm _ R,?_,λO v r=>?_⟩
      .rw[WS];exact TriplesOk_snoc _ _ _ _ B
      .rw[WS] at r;rcases DV _ B r with r | rfl
       .exact(p O v r).mono λ_ _ _ z=>k z
       .exact m _ cN
     .refine(I.hok b u A).Am (λd o G g=>i d o (λz=>?_) g) (λ_ z=>k z) (λ_ _ z=>k z) λ_ _ _ z=>k z;rcases G with y | y
      .exact zP (y.symm.trans z)
      .rw[z,M] at y;cases y
 | some v=>
  obtain⟨c',x,vs,t2,φ,rfl,e1,e2,e3⟩:=p pos v J;refine PySem.W.kla_makeFunctionHit a1 I.ok.glob C w (hC _ I.kIn) D B J hB λL j tk hk S=>?_;have l:H j.objs.size=none:=I.hok.fresh S;have m:v_ H (.ref c') (X.env.qual++"<lambda>"):=⟨c',x,vs,t2,φ,rfl,e1,e2,e3⟩;refine⟨.ref j.objs.size,_,I.laid (a:=j.objs.size) (o:=.frz (qp (X.env.qual++"<lambda>") f body scope clos ((X.mg "__name__").getD .none) c' L) (.cod c' (X.env.qual++"<lambda>"))) (t':=tk) (λb u e=>cm _ (hk b u e)) S
   ⟨hY _ rfl,⟨_,hY _ rfl⟩,m.mono λb o φ z=>by rw[au (aM z l)];exact z⟩,rfl,h j.objs.size c' x L H (.inl rfl) l m⟩
end
noncomputable def f_ (n:Nat)(g:Addr->Option Obj)(m:Addr->Option Str):Heap:={ objs:=Array.ofFn (n:=n) λi=>(g i.1).getD { cls:=(m i.1).elim .none λq=>.str q 0,data:=.freed } }
section
variable {g:Addr->Option Obj}{m:Addr->Option Str}{b:Addr}{o:Obj}
theorem yf(e:h.get? b=some o):o.data≠.freed:=by
 unfold YL at e;cases q:h.objs[b]? with
 | none=>rw[q] at e;cases e
 | some x=>
  rw[q] at e;obtain⟨c,d,dt,a⟩:=x;cases dt with
  | freed=>cases e
  | _=>cases e;intro y;cases y
theorem kc:(f_ n g m).objs.size=n:=by unfold f_;exact Ye
theorem p7(a:b < n):(f_ n g m).objs[b]?=some ((g b).getD { cls:=(m b).elim .none λq=>.str q 0,data:=.freed }):=by
 unfold f_;rw[Array.getElem?_eq_getElem (by rw[Ye];exact a),Array.getElem_ofFn]
theorem xX(h:b < n)(f:g b=some o)(e:o.data≠.freed):(f_ n g m).get? b=some o:=by
 unfold YL;rw[p7 h,f];obtain⟨c,d,dt,a⟩:=o;show (match some (Obj.mk c d dt a) with | some ⟨_,_,.freed,_⟩=>none | o=>o)=_;split
 .rename_i z;cases z;exact absurd rfl e
 .rfl
theorem uJ(e:(f_ n g m).get? b=some o):b < n/\g b=some o:=by
 have a:b < n:=by have:=hH e;rw[kc] at this;exact this
 refine⟨a,?_⟩;have d:=yf e;unfold YL at e;rw[p7 a] at e;cases q:g b with
 | none=>rw[q] at e;cases e
 | some c=>
  rw[q] at e;split at e
  .cases e
  .cases e;rfl
theorem Dm(d:b < n)(c:g b=none)(a:m b=some q):mQ (f_ n g m) b q:=by
 unfold mQ;rw[p7 d,c,a]
 rfl
theorem B4(h:∀ o,g b=some o->o.data≠.freed)(e:mQ (f_ n g m) b q):g b=none/\m b=some q:=by
 unfold mQ at e;have i:b < n:=by
  obtain⟨z,_⟩:=Vy.mp e;rw[kc] at z;exact z
 rw[p7 i] at e;cases c:g b with
 | some o=>
  rw[c] at e;have a:o={ cls:=.str q 0,data:=.freed }:=nS e;exact absurd (by rw[a]) (h o c)
 | none=>
  refine⟨rfl,?_⟩;rw[c] at e;have a:=nS e;cases d:m b with
  | none=>rw[d] at a;have:=congrArg Obj.cls a;cases this
  | some f=>
   rw[d] at a;have:=congrArg Obj.cls a;have y:Vt f 0=Vt q 0:=this;cases y
   rfl
end
noncomputable def pick (h:Heap)(p:Addr->Bool):Heap:=f_ h.objs.size (λb=>if p b=true then h.get? b else none) λ_=>none
section
variable {p:Addr->Bool}{b:Addr}{o:Obj}
theorem Fu:(pick h p).objs.size=h.objs.size:=kc
theorem sx(e:h.get? b=some o)(a:p b=true):(pick h p).get? b=some o:=xX (hH e) (by rw[if_pos a];exact e) (yf e)
theorem w5(e:(pick h p).get? b=some o):h.get? b=some o/\p b=true:=by
 have z:=(uJ e).2;split at z
 .rename_i y;exact⟨z,y⟩
 .cases z
theorem Hz(e:mQ (pick h p) b q):False:=by
 have z:=(B4 (λo e=>by
  split at e
  .exact yf e
  .cases e) e).2
 cases z
end
theorem vq {h base:Heap}{p:Addr->Bool}:∀ {l:List Env},h.FunFrames base l->(∀ b∈frs l,p b=false)->h.FunFrames (pick h p) l
 | [],_,_=>trivial
 | env::r,⟨k,⟨L,o,a,g,e,f⟩,d⟩,q=>by
  have m:L∈frs (env::r):=by unfold frs;rw[td,a];exact ly
  refine⟨k,⟨L,o,a,?_,e,f⟩,vq d λb c=>q b ?_⟩
  .cases z:(pick h p).get? L with
   | none=>rfl
   | some u=>
    have y:=q L m;rw[(w5 z).2] at y;cases y
  .unfold frs at c ⊢;rw[td,a];exact ic _ c
section
variable {X:Cx}{pins:Pn0}{σ:St}{H:Hp}{s:Shared}
theorem Inv.Sk{p:Addr->Bool}(I:Inv X pins σ H s)(i:∀ b o,X.base.get? b=some o->p b=true)(g:∀ b o,s.heap.get? b=some o->p b=true->Kpt H b o)(h:∀ b∈frs X.stack,p b=false) :
  CK X.prog X.w X.K X.mg (pick s.heap p) X.A X.stack s H:=by
 have k:∀ b o,X.base.get? b=some o->(pick s.heap p).get? b=some o:=λb o e=>sx (I.bk b o e) (i b o e);refine⟨I.ok.frames,⟨I.mod.kin.keeps k,I.mod.glob.keeps k,let ⟨f,c,a⟩:=I.mod.blt;⟨f,c.keeps k,a⟩,I.mod.nolimit.keeps k,let ⟨m,d,c,a,l,j⟩:=I.mod.bm;⟨m,d,c,a,k _ _ l,j⟩⟩,λb o e=>⟨(w5 e).1,g b o (w5 e).1 (w5 e).2⟩,UJ Fu,vq I.stack h,I.wQ,I.hok,I.bare,λP q z=>(Hz z).elim⟩
end
def v9 (base:Heap)(q:Str)(a:Arguments)(b:Expr)(scope:Scope)(nm:Str)(o:Obj)(f:Addr)(v:V):Prop:=
 ∃ c d pm g u e vs t,o=qp q a b scope [(nm,c)] pm d g/\base.get? f=some o/\base.IsCell c (some u)/\RelV v u/\base.get? d=some e/\e.data=.fields vs/\vs[1]?=some (.str q t)
section
variable {X:Cx}{g:Addr}{t:TA}{params:Arguments}
def CS (X:Cx)(q:Str)(a:Arguments)(b:Expr)(scope:Scope)(nm:Str)(i j:Nat)(sp:Obj->Addr->V->Sp)(t:TA):TE:=λσ H Q=>t σ H λvs H1=>
 ∃ f c d pm e v,vs[j]?=some (.ref f)/\H1 f=some (.frz (qp q a b scope [(nm,c)] pm d e) (.cod d q))/\X.env.cells.lookup nm=some c/\σ[i]?=some (some v)/\sp (qp q a b scope [(nm,c)] pm d e) f v vs H1 Q E0
theorem HG{sp:Obj->Addr->V->Sp}(F:∀ (base:Heap) (o:Obj) (f:Addr) (v:V),v9 base q params body scope nm o f v->aC X.prog X.w X.K X.mg base CX0 k g fd ps (sp o f v))(hr:cK k X.A)(hg:Gl X x)(hm:X.mg x=some (.ref g))(hk:ox X.K (.ref g)=true)(hb:Binds X.K fd ps [])(hN:X.N[i]?=some nm)(hv:X.env.scope.names.lookup nm=some .cell)(U:X.fn nm=true)(ha:PA X (e::es) t)(Y:autoParam ((x == ("__debug__":Str))=false) wP)(he:autoParam (eh (e::es) X.env=(false,eval e X.env)::eh es X.env) wE)(O:autoParam ((backTo pos (eh es X.env)).any (·.1)=false) wE) :
  PE X (.Call (.Name x p) (e::es) [] pos) (CS X q params body scope nm i j sp t):=by
 intro C s σ H Q I h;refine vB (p8 I hg hm ?_ Y);refine UB (h₀:=X.base) I.ok.mod.kin hk (thn (ha pos C s σ H _ I h) λB G ⟨vs,H1,l,r,z⟩=>⟨l.kIn,?_⟩) he O;obtain⟨f,c,d,pm,ct,v,_,W,J,N,D⟩:=z;obtain⟨m,hn,hl⟩:=l.loc;obtain⟨u,rv,lk⟩:=hl i nm v hN N (.inr (.inl hv));have n:G.heap.IsCell c (some u):=by
  rcases lk with ⟨k1,_⟩ | ⟨_,c2,e2,z⟩
  .have k2:X.env.scope.names.lookup nm=some .local:=k1;rw[hv] at k2;cases k2
  .rw[J] at e2;cases e2;exact z
 obtain⟨of,_,y⟩:=l.hok f _ W;obtain⟨d',oc,ws,t2,φ,e1,Z,e3,e4⟩:=y;cases e1;obtain⟨od,_⟩:=l.hok d _ Z
 let P:Addr->Bool:=λb=>(X.base.get? b).isSome || (decide (b=f) || (decide (b=c) || decide (b=d)))
 have pf:P f=true:=by simp [P]
 have pc:P c=true:=by simp [P]
 have pd:P d=true:=by simp [P]
 have a6:=l.ok.cab nm c U J;have L:v9 (pick G.heap P) q params body scope nm (qp q params body scope [(nm,c)] pm d ct) f v:=by
  obtain⟨M,a4,a5⟩:=n;exact⟨c,d,pm,ct,u,oc,ws,t2,rfl,sx of pf,⟨M,sx a4 pc,a5⟩,rv,sx od pd,e3,e4⟩
 have e0:=l.Sk (p:=P) (λb o A=>by simp [P,A]) (λb o A S=>?_) λb w=>?_
 .have Fn:=F _ _ _ _ L;have K:Vals (vs++[]) (B++[]):=r.append .nil;rw[tq,tq] at K;have T:(B++[]).length=ps.length:=by rw[tq,<- K.length];exact Fn.len _ _ _ _ D
  have bt:=hb G B l.kIn T;rw[tq] at bt;refine Xe (UL (Fn.run X.A X.stack G H1 ⟨B,[]⟩ B vs Q E0 hr e0 bt K D) λr s' E=>?_);cases r with
  | error e=>exact sr E
  | ok fl=>
   cases fl with
   | ret u=>exact l.after E
   | next=>exact sr E
   | brk=>exact sr E
   | cont=>exact sr E
 .have R:(X.base.get? b).isSome=true\/b=f\/b=c\/b=d:=by simpa [P] using S
  rcases R with S | rfl | rfl | rfl
  .obtain⟨o',e'⟩:=Rw.mp S;obtain⟨a1,a2⟩:=l.bs b o' e';rw[A] at a1;cases a1;exact a2
  .rw[of] at A;cases A;exact .inr ⟨⟨_,W⟩,λv z=>by cases z⟩
  .exact .inl (l.freeC nm b J)
  .rw[od] at A;cases A;exact .inr ⟨⟨_,Z⟩,λv z=>by rw[e3] at z;cases z⟩
 .have a:=l.wQ b w;have nb:X.base.get? b=none:=(l.stack.mem w).1;have n1:b≠f:=λz=>by rw[z,W] at a;cases a
  have n2:b≠d:=λz=>by rw[z,Z] at a;cases a
  have n3:b≠c:=λz=>by
   rcases hF.mp (l.xh b w) with y | y
   .exact l.cne nm c J (z.symm.trans y)
   .obtain⟨_,o,ho,_⟩:=l.ok.rM.mem y;have:=hH ho;rw[z] at this;exact absurd (kl this a6) (sk _)
  simp [P,nb,n1,n2,n3]
def um (i:Nat)(f:Addr)(sp:Sp)(t:TA):TE:=λσ H Q=>σ[i]?=some (some (.ref f))/\t σ H λvs H1=>sp vs H1 Q E0
theorem HF{o:Obj}{sp:Sp}(K:X.base.get? f=some o)(J:o.data=.func fd)(F:aC X.prog X.w X.K X.mg X.base CX0 k f fd ps sp)(G:cK k X.A)(M:Binds X.K fd ps [])(O:X.N[i]?=some x)(E:Vis X.env.scope x)(N:PA X (e::es) t)(j:autoParam ((x == ("__debug__":Str))=false) wP)(l:autoParam ((x == ("__classdict__":Str))=false) wP)(L:autoParam (eh (e::es) X.env=(false,eval e X.env)::eh es X.env) wE)(d:autoParam ((backTo pos (eh es X.env)).any (·.1)=false) wE) :
  PE X (.Call (.Name x p) (e::es) [] pos) (um i f sp t):=by
 intro a s m H Q I ⟨R,P⟩;have c:∀ {h:Heap},(∀ b o,X.base.get? b=some o->h.get? b=some o)->YS f h:=λ{h} k=>by
  have e:=k _ _ K;obtain⟨D,C,dt,y⟩:=o;have g:dt=.func fd:=J;subst g;exact⟨D,C,fd,y,e⟩
 refine vB (thn (xH (i:=i) O E j l a s m H (λv w=>v=.ref f/\w=H) I ⟨_,R,rfl,rfl⟩) λu A Z=>?_);obtain⟨v,w,q,B,T,S⟩:=Z;subst T;subst S;obtain rfl:u=.ref f:=B;refine Xm (c q.bk) (thn (N pos a A m _ _ q P) λV W ⟨U,Y,n,r,z⟩=>⟨c n.bk,?_⟩) L d;exact uA (dvs:=[]) (ds:=[]) F G M .nil xJ n r (by rw[tq];exact z)
end
structure pR (ps:Ls0) (nm:Str) (sc:Scope):Prop where
 kind:sc.kind=.function
 co:sc.isCoroutine=false
 gen:sc.isGenerator=false
 nd:(ps++[nm]).Nodup
 par:∀ x∈ps,sc.names.lookup x=some .local
 fre:sc.names.lookup nm=some .free
 only:∀ y∈sc.names,y.2=.free->y.1=nm
 nocell:∀ y∈sc.names,y.2≠.cell
noncomputable def IT (P:OT)(w:World)(K:Fg0)(mg:SV0)(base:Heap)(ps:Ls0)(q:Str)(scope:Scope)(nm:Str)(f c d:Addr)(A:Around)(outer:List Env)(s:Shared)(H:Hp):Cx where
 prog:=P
 w:=w
 K:=K
 mg:=mg
 base:=base
 A:=A.deeper (UQ q scope s.heap.objs.size f (.ref d) [(nm,c)])
 N:=ps++[nm]
 s₀:=s
 H₀:=H
 env:=UQ q scope s.heap.objs.size f (.ref d) [(nm,c)]
 outer:=outer
 stack:=UQ q scope s.heap.objs.size f (.ref d) [(nm,c)]::outer
 ex:=[]
 calm:=true
 fn:=λ_=>false
 pn:=[]
 xe:=λ_ _=>False
theorem Ex {b:Type}{x:Str}{v:b}:∀ {l:List (Str×b)},(l.map (·.1)).Nodup->(x,v)∈l->l.lookup x=some v
 | [],_,h=>by cases h
 | (y,u)::l,a,h=>by
  rw[sS,IR] at a;rw[ek];rcases hF.mp h with e | h2
  .cases e;rw[beq_self_eq_true]
  .have c:(x == y)=false:=by
    rw[beq_eq_false_iff_ne];rintro rfl;exact a.1 (ry.mpr ⟨_,h2,rfl⟩)
   rw[c];exact Ex a.2 h2
theorem DY {a:Type}:∀ (P:Ls0) (us:List a),((P.zip us).map (·.1)).Sublist P
 | [],_=>by simp
 | _::_,[]=>by simp
 | p::P,u::us=>by
  rw[Xk,sS];exact(DY P us).cons₂ p
theorem FU:∀ {P:Ls0} {us:Lv0} {i:Nat},P.Nodup->P[i]?=some x->us[i]?=some v->(P.zip us).reverse.lookup x=some v:=by
 intro P us i a d c;have b:(x,v)∈P.zip us:=fC (i:=i) (by rw[Nn];exact⟨d,c⟩);refine Ex ?_ (List.mem_reverse.mpr b);rw[List.map_reverse];refine List.pairwise_reverse.mpr (Zj (λz=>vk z) ?_);exact Xn (DY _ _) a
section
variable {mg:SV0}{params:Arguments}{o:Obj}{v:V}{sp:Sp}
theorem Ow(L:v9 base q params body scope nm o f v)(S:pR ps nm scope)(len:∀ vs H Q E,sp vs H Q E->vs.length=ps.length + 1)(hbody:∀ (c d:Addr) (A:Around) (outer:List Env) (s:Shared) (H:Hp) (vs:List V) (Q:VK),cK k (A.deeper (UQ q scope s.heap.objs.size f (.ref d) [(nm,c)]))->sp vs H Q E0->
   ∃ t,PE (IT P w K mg base ps q scope nm f c d A outer s H) body t/\t (vs.map some) H Q)(a6:∀ (clos:List (Str×Addr)) (pm:Value) (d:Addr) (ct:Value) (us:Lv0),us.length=ps.length->WD (Yv "<lambda>" q params body scope clos pm (.ref d) ct) ⟨us,[]⟩=pure (ps.zip us)) :
  ∃ fd,base.get? f=some o/\o.data=.func fd/\Binds K fd ps []/\aC P w K mg base CX0 (k + 1) f fd ps (λvs H Q _=>sp (vs++[v]) H Q E0):=by
 obtain⟨c,d,pm,ct,u,oc,ws,t,rfl,hf,⟨N,G,M⟩,rv,hd,a4,hv⟩:=L;refine⟨_,hf,rfl,.all (a6 _ _ _ _),λvs H Q E h=>?_,λA outer s H args us vs Q E hr g hb r O=>?_⟩
 .have:=len _ _ _ _ h;rw[el] at this;simpa using this
 have T:vs.length=ps.length:=by
  have:=len _ _ _ _ O;rw[el] at this;simpa using this
 have Y:s.heap.NoLimit:=g.mod.nolimit.keeps λb o e=>(g.bs b o e).1;refine PySem.W.kla_callFunE hr.depth (g.bs _ _ hf).1 rfl S.co S.gen rfl ⟨d,oc,ws,t,rfl,(g.bs _ _ hd).1,a4,hv⟩ (hb _ _ _ _ ?_);refine wpAny_newFunctionEnv S.nocell (λy hy=>S.par y.1 (Vi (a:=y.1) (b:=y.2) hy).1) (λC a1 R=>⟨Y.fresh _ R,?_⟩) S.kind;show Pv _ _ (.expr body (UQ q scope s.heap.objs.size f (.ref d) [(nm,c)])) _ _;have U:∀ b o,s.heap.get? b=some o->C.get? b=some o:=λb o e=>R.extBut b o (ov (hH e)) (cm _ e);refine PySem.W.kla_codeExpr ?_;obtain⟨tt,ht,hq⟩:=hbody c d A outer s H (vs++[v]) Q (hr.deeper _) O;have B:∀ x l,[(nm,c)].lookup x=some l->x=nm/\l=c:=λx l e=>by
  rw[ek] at e;split at e
  .rename_i z;cases e;exact⟨by simpa using z,rfl⟩
  .cases e
 have a5:H c=none:=by
  rcases(g.bs _ _ G).2 with z | ⟨_,z⟩
  .exact z
  .exact absurd M (z _)
 have D:∀ b:Addr,b∉([]:La0):=λb z=>absurd z (by simp);have I:Inv (IT P w K mg base ps q scope nm f c d A outer s H) [] ((vs++[v]).map some) H { s with heap:=C,toks:=s.toks + (ps.zip us).length }:=by
  refine⟨⟨g.mod,S.kind,rfl,rfl,ec _,λy z l j m=>(B y l j).1.trans (B z l m).1.symm,λy hy=>?_,λy l z _=>(by cases z),λ_=>hr.hd,WE g.frames,.inr ⟨rfl,rfl⟩,λb z=>absurd z (D b),g.bs,g.bsz,λb _ _=>D b,λb z=>absurd z (D b),g.rM,g.frf,g.tb⟩,
   rfl,g.bare,Un.kept U,⟨_,a1,λi y v' j m h3=>?_⟩,λy l h=>?_,g.hok.fresh (ec _),λy l h=>?_,λp hp=>absurd (show p∈([]:Pn0) from hp) (by simp),g.hok.kept U,?_⟩
  .have hy:scope.names.lookup y=some .cell\/scope.names.lookup y=some .free:=hy;rcases hy with hy | hy
   .exact absurd rfl (S.nocell _ (Fl hy))
   .have e:=S.only _ (Fl hy) rfl;subst e;exact⟨c,by show [(y,c)].lookup y=some c;rw[ek,beq_self_eq_true]⟩
  .have j:(ps++[nm])[i]?=some y:=j;by_cases W:i < ps.length
   .rw[iv W] at j;rw[dV,iv (by rw[T];exact W)] at m;cases F:vs[i]? with
    | none=>rw[F] at m;cases m
    | some a=>
     rw[F] at m;cases m;obtain⟨u',Z,ru⟩:=r.get F;exact⟨u',ru,.inl ⟨S.par y (fC j),FU (Xn (List.sublist_append_left _ _) S.nd) j Z⟩⟩
   .rw[mm (Vb W)] at j;rw[dV,mm (by rw[T];exact Vb W),T] at m;have a2:i - ps.length=0:=by
     cases z:i - ps.length with
     | zero=>rfl
     | succ n=>rw[z] at j;simp at j
    rw[a2] at j m;cases j;cases m;exact⟨u,rv,.inr ⟨.inr S.fre,c,by show [(nm,c)].lookup nm=some c;rw[ek,beq_self_eq_true],⟨N,U _ _ (g.bs _ _ G).1,M⟩⟩⟩
  .obtain⟨_,rfl⟩:=B y l h;exact⟨_,N,U _ _ (g.bs _ _ G).1,M⟩
  .obtain⟨_,rfl⟩:=B y l h;exact a5
  .show ((vs++[v]).map some).length=(ps++[nm]).length;simp [T]
 exact Pz (ht [] _ _ H _ I hq) (λu' s' ⟨v',H',J,X,z⟩=>⟨v',H',J.os,J.bare,J.base,J.hok,X,z⟩) λe s' hs=>sr hs
end
end _2
namespace _3
open PySem _2
section
variable {B:Bs}{F:Hp}{H:Hp}{Γ:G}{X:Cx}{b:Expr}{rest:List Expr}{to te ta tb:TE}{e3 o3 a3 b3:TE3}
def okR (d:D):Prop:=(Qj d=true\/d=.dct)/\Sh 10000000 20 d\/d=.non\/(∃ c,d=.bl c)\/(∃ i,d=.int i/\i.natAbs < 10 ^ 60)\/∃ z,d=.str z/\(reprText z).length<=sizeLine
end
open PySem _2 PySem.Spec PyProof.Rows
section
variable {X:Cx}{F:Hp}{b:Expr}{ta tb:TE}{a3 b3:TB3}
theorem aE.times{xs:List D}{vs:List V}(r:aE K F xs vs):∀ n:Nat,aE K F (hP n xs).flatten (hP n vs).flatten
 | 0=>rfl
 | n + 1=>by
  rw[yv,yv,KM,KM];exact r.append (aE.times r n)
set_option backward.eqns.nonrecursive false in
def Ep (x y:D)(Γ:G)(Q:RV->G->Prop):Prop:=match x,y with
 | .lst xs,.int n=>(0<=n/\n<=1000/\xs.length * n.toNat<=sizeLine)/\Q (.fr (.lst (hP n.toNat xs).flatten)) Γ
 | _,_=>False
theorem KQ:pQ K Nz Ep:=by
 intro B F h H i x y o n Q s e c b q k;unfold Ep at q;split at q
 .obtain⟨⟨m,j,f⟩,q⟩:=q;cases b;obtain⟨p,a,rfl,g,r⟩:=c;exact⟨p,_,a,rfl,rfl,g,by lia,by lia,by rw[r.length];exact f,λl d=>k _ _ (j7 e d (r.times _) q)⟩
 .exact q.elim
theorem Ek(d:P3B K X a ta a3)(c:P3B K X b tb b3):P3 K X (.BinOp a .Mult b pos) (tOp Nz ta tb) (uo Ep a3 b3):=⟨sy N6 d.pe c.pe,jv KQ d.rf c.rf⟩
end
open PySem _2 PySem.Spec PyProof.Rows
theorem Jq{xs:List D}:bare (.lst xs)=.lst xs:=rfl
theorem Jr{xs:List D}:bare (.ins C ns xs)=.ins C ns xs:=rfl
theorem Js{q:Addr}{xs:List D}:bare (.cel q xs)=.lst xs:=rfl
noncomputable def tlG (T:G):G:=T
noncomputable def nn (m:Nat):G:=hP m none
section
variable {Γ cs T:G}{ls:On}{s:Option Sl}
theorem T3:bh [] Γ cs=Γ:=rfl
theorem T1:bh (none::ls) Γ cs=bh ls Γ cs.tail:=rfl
theorem T2{d:D}:bh (some k::ls) Γ (some (.ln d)::cs)=y4 (bh ls Γ cs) k d:=rfl
theorem TY{d:D}:bh (some k::ls) Γ (some (.fz d)::cs)=bh ls Γ cs:=rfl
theorem TZ{d:D}:bh (some k::ls) Γ (some (.ow d)::cs)=bh ls Γ cs:=rfl
theorem Ta{d:D}:y4 (s::Γ) 0 d=ez (some d) s::Γ:=rfl
theorem S_{d:D}:y4 (s::Γ) (k + 1) d=s::y4 Γ k d:=rfl
theorem S1:List.tail (s::Γ)=Γ:=rfl
theorem Tr{b c:Type}{f:b->c}{a:b}{l:List b}:Tu f (a::l)=f a::Tu f l:=rfl
theorem Tq{b a:Type}{f:b->a}:Tu f []=[]:=rfl
end
section
variable {i3:TI3}{g3:TG3}{e3:TE3}{o3 k3:TB3}{b3 u3 t3:TS3}{Γ:G}{Q:RV->G->Prop}{D1:E3}
abbrev hR (a:Nat->List (List D)->G->Prop)(k:Nat)(ys:List (List D))(Γ:G)(_:Tag a):Prop:=a k ys Γ
end
noncomputable def gh (c:D->Sl)(p:Addr)(ds:List D)(qs:La0)(a:List (List D)):G:=some (c (.cel p ds))::List.zipWith (λq xs=>some (c (.cel q xs))) qs a
section
variable {c:D->Sl}{p q:Addr}{ds:List D}{xs ys:List D}{xss:List (List D)}{T T' pre:G}{g m y:Nat}
theorem Nt{R:LL0}:Tu D.lst (Tu (λr=>Tu D.int r) R)=Tu (λns=>D.lst (ns.map D.int)) R:=by rw[oj];rfl
theorem M5:(tlG (gh c p ds qs xss++T))[0]?=some (some (c (.cel p ds))):=rfl
end
section
variable {c:D->Sl}{p q:Addr}{ds:List D}{xs ys:List D}{xss:List (List D)}{T T' T0 A Z pre Γ:G}{g m y:Nat}
def hX (L:Nat)(A T:G)(m:Nat)(p:Addr)(qs:La0)(a:Nat->G->List (List D)->Prop)(k:Nat)(Γ:G)(_:Tag a):Prop:=∃ pre X,pre.length=L/\X.length=qs.length/\a k pre X/\Γ=pre++tlG (A++(gh .ow p (qs.map .adr) qs X++(nn (m - (qs.length + 1))++T)))
end
end _3
namespace _2
open PySem PySem.Spec PyProof.Rows
theorem tu {c:Type}{a:Addr}{v:c}:∀ {l:List (Addr×c)},l.lookup a=some v->(a,v)∈l
 | [],h=>by cases h
 | (b,u)::l,h=>by
  rw[ek] at h;cases q:a == b with
  | true=>
   rw[q] at h;cases h;have e:a=b:=by simpa using q
   rw[e];exact ly
  | false=>rw[q] at h;exact ic _ (tu h)
def SQ (K:Fg0)(h:Heap)(P:Addr):Prop:=h.get? P=some { cls:=.none,data:=.fields #[] }/\K.lookup P=none/\∃ c a vs,h.get? c=some a/\a.cls=.type "code"/\a.data=.fields vs/\vs[11]?=some (.ref P)
theorem FW{R mb:SV0}{CX:CXT}{fa a:Addr}{sp:Sp}{s₁:Shared}{S:Li0}{f:List (Addr×Str)}(KX:K.In s₁.heap)(U:s₁.heap.Ns mainGlobals R)(l:s₁.heap.Ns UW mb)(a7:∀ x:Str,x≠"__name__"->mb x=AC x)(W:s₁.heap.NoLimit)(a6:∃ Z C,R "__builtins__"=some (.ref Z)/\Z≠UW/\s₁.heap.get? Z=some C/\C.cls=.type "module"/\C.dict=some UW/\C.data=.plain)(hg:s₁.gens=#[])(Q:s₁.heap.get? a=some { cls:=.type "list",data:=.seq vs.toArray })(hi:Yi vs S)(hl:S.length<=sizeLine)(hr:cK k WQ)(hT:∀ p∈f,SQ K s₁.heap p.1)(F:∀ base:Heap,K.In base->base.Ns mainGlobals R->(∀ P q,f.lookup P=some q->mQ base P q)->aC P w K R base CX k fa fd [x] sp)(O:∀ (s:Shared) (u:Value),Xz s fd ⟨[u],[]⟩ [(x,u)])(a5:∀ H:Hp,PK H->SqL K H a (S.map V.int)->sp [.ref a] H (λv _=>v=.bl true) λ_ _ _=>False)(a9:∀ H e s',CX [] H s₁ (λ_ _ _=>False) e s'->False) :
  Pv (model P w) WQ (.call (.ref fa) ⟨[.ref a],[]⟩) (λr s'=>r=.ok (.ret (.bool true))/\OldK s₁.heap s'.heap/\s'.os=s₁.os/\VI s'.gens) s₁:=by
 have rv:=zl hi;have T:=hi.length;have j:∀ {b:Addr} {q:Str},f.lookup b=some q->s₁.heap.get? b=some { cls:=.none,data:=.fields #[] }:=λ{b q} e=>(hT _ (tu e)).1;have B:f.lookup a=none:=by
  cases q:f.lookup a with
  | none=>rfl
  | some y=>have z:=j q;rw[Q] at z;cases z
 have J:∀ H:Hp,PK H->SqL K H a (S.map V.int)->HOk P w H s₁.heap->(∀ b u,H b=some u->b=a\/∃ q,f.lookup b=some q)->(H a≠none->K.lookup a=none)->(∀ b q,f.lookup b=some q->H b=some (.tbl #[.str q 0]))->
   Pv (model P w) WQ (.call (.ref fa) ⟨[.ref a],[]⟩) (λr s'=>r=.ok (.ret (.bool true))/\OldK s₁.heap s'.heap/\s'.os=s₁.os/\VI s'.gens) s₁:=by
  intro H hO hS N hA hK X;have i:∀ {b:Addr} {o:Obj},s₁.heap.get? b=some o->H b=none->(f_ s₁.heap.objs.size (λb=>if (H b).isNone then s₁.heap.get? b else none) λb=>f.lookup b).get? b=some o:=λe n=>xX (hH e) (by rw[n];exact e) (yf e);have a1:∀ {b:Addr} {o:Obj},s₁.heap.get? b=some o->o.cls≠.type "list"->o≠{ cls:=.none,data:=.fields #[] }->H b=none:=λ{b o} e d1 d2=>by
   cases q:H b with
   | none=>rfl
   | some u=>
    rcases hA b u q with z | ⟨y,z⟩
    .subst z;rw[Q] at e;cases e;exact absurd rfl d1
    .rw[j z] at e;cases e;exact absurd rfl d2
  have a2:∀ {b:Addr} {o:Obj} {es:Array DictEntry} {ep:Nat},s₁.heap.get? b=some o->o.data=.dict es ep->H b=none:=λ{b o es ep} e d=>by
   cases q:H b with
   | none=>rfl
   | some u=>
    rcases hA b u q with z | ⟨y,z⟩
    .subst z;rw[Q] at e;cases e;cases d
    .rw[j z] at e;cases e;cases d
  have A:∀ {b:Addr} {m:SV0},s₁.heap.Ns b m->(f_ s₁.heap.objs.size (λb=>if (H b).isNone then s₁.heap.get? b else none) λb=>f.lookup b).Ns b m:=λ{b m} ⟨o,es,ep,e,d,r⟩=>⟨o,es,ep,i e (a2 e d),d,r⟩;have Y:K.In (f_ s₁.heap.objs.size (λb=>if (H b).isNone then s₁.heap.get? b else none) λb=>f.lookup b):=λb o e=>by
   refine i (KX b o e) ?_;cases q:H b with
   | none=>rfl
   | some u=>
    rcases hA b u q with z | ⟨y,z⟩
    .subst z;rw[hK (by rw[q];simp)] at e;cases e
    .have z2:=(hT _ (tu z)).2.1;rw[z2] at e;cases e
  have M:∀ {b:Addr} {o:Obj},(if (H b).isNone then s₁.heap.get? b else none)=some o->s₁.heap.get? b=some o/\H b=none:=λ{b o} e=>by
   split at e
   .rename_i z;exact⟨e,by simpa using z⟩
   .cases e
  have hM:Mod K R (f_ s₁.heap.objs.size (λb=>if (H b).isNone then s₁.heap.get? b else none) λb=>f.lookup b):=⟨Y,A U,⟨mb,A l,a7⟩,let ⟨mc,h1,h2⟩:=W;⟨mc,A h1,h2⟩,let ⟨Z,C,h1,h2,h3,h4,h5⟩:=a6;⟨Z,C,h1,h2,i h3 (a1 h3 (by rw[h4];decide) (by intro z;rw[z] at h4;cases h4)),h4,h5⟩⟩;have e0:CK P w K R (f_ s₁.heap.objs.size (λb=>if (H b).isNone then s₁.heap.get? b else none) λb=>f.lookup b) WQ [] s₁ H:=⟨rfl,hM,λb o e=>⟨(M (uJ e).2).1,.inl (M (uJ e).2).2⟩,UJ kc,trivial,λb l=>absurd (show b∈([]:La0) from l) (by simp),N,.of_eq hg,
   λP q z=>⟨_,0,X P q (B4 (λo e=>yf (M e).1) z).2,rfl⟩⟩
  refine UL ((F _ Y (A U) λP q z=>Dm (hH (j z)) (by rw[X P q z];rfl) z).run WQ [] s₁ H ⟨[.ref a],[]⟩ [.ref a] [.ref a] _ _ hr e0 (O s₁ (.ref a)) (.cons rfl .nil) (a5 H hO hS)) λr s' h=>?_;cases r with
  | error e=>exact(a9 H e s' h).elim
  | ok fl=>
   cases fl with
   | next=>exact sr h
   | brk=>exact sr h
   | cont=>exact sr h
   | ret u=>
    obtain⟨v,H',os,bare,un,G,r',q⟩:=h;have q':v=.bl true:=q;subst q';obtain rfl:u=We true:=r';refine⟨rfl,⟨λb o e=>?_,λb o e=>un.there b o e (by simp)⟩,os,bare⟩;cases q:H b with
    | none=>exact .inl (un.keep b o e q (by intro z;exact absurd (show b∈([]:La0) from z) (by simp)) (by simp))
    | some u=>
     rcases hO b with z | ⟨C,xs,z⟩ | ⟨ps,z⟩
     .rw[q] at z;cases z
     .have z2:=un.frzs b C _ z;obtain⟨I,_⟩:=N b _ z;obtain⟨e2,_⟩:=G b _ z2;rw[e] at I;cases I;exact .inl e2
     .rcases hA b u q with y | ⟨y,hy⟩
      .subst y;obtain⟨_,_,_,_,I,_⟩:=N b _ z;rw[Q] at I;cases I
      .obtain⟨m,z2⟩:=un.tbls b ps z;obtain⟨_,_,qs,_,e2,_⟩:=G b _ z2;have I:=j hy;rw[e] at I;cases I;obtain⟨c,oc,ws,c1,c2,c3,c4⟩:=(hT _ (tu hy)).2.2;exact .inr (.inl ⟨⟨c,oc,ws,c1,c2,c3,c4⟩,rfl,#[],qs,rfl,by rw[Array.empty_append];exact e2⟩)
 let L:Hp:=λb=>(f.lookup b).map λq=>.tbl #[.str q 0]
 have D:∀ {b:Addr} {u:HO} {H:Hp},L b=some u->e7 P w H s₁.heap b u:=λ{b u H} z=>by
  cases q:f.lookup b with
  | none=>have t:(f.lookup b).map (λq=>HO.tbl #[.str q 0])=some u:=z;rw[q] at t;cases t
  | some y=>
   have t:(f.lookup b).map (λq=>HO.tbl #[.str q 0])=some u:=z;rw[q] at t;cases t;exact⟨y,0,#[],rfl,j q,trivial,λ_ _ r=>by simp [Vu] at r⟩
 have g:∀ {b:Addr} {u:HO},L b=some u->∃ q,f.lookup b=some q/\u=.tbl #[.str q 0]:=λ{b u} z=>by
  have t:(f.lookup b).map (λq=>HO.tbl #[.str q 0])=some u:=z;cases q:f.lookup b with
  | none=>rw[q] at t;cases t
  | some y=>rw[q] at t;cases t;exact⟨y,rfl,rfl⟩
 have a4:L a=none:=by show (f.lookup a).map _=none;rw[B];rfl
 have E:∀ b q,f.lookup b=some q->L b=some (.tbl #[.str q 0]):=λb q z=>by show (f.lookup b).map _=_;rw[z];rfl
 cases hk:K.lookup a with
 | some o=>
  have e:=KX a o hk;rw[Q] at e;cases e;refine J L (λb=>?_) (.inr ⟨_,vs.toArray,_,hk,rfl,rfl,rfl,by rw[hL,T];exact hl,by simpa using rv⟩) (λb u z=>D z) (λb u z=>.inr (let ⟨q,h,_⟩:=g z;⟨q,h⟩)) (λz=>absurd a4 z) E;cases z:L b with
  | none=>exact .inl rfl
  | some u=>obtain⟨q,_,rfl⟩:=g z;exact .inr (.inr ⟨_,rfl⟩)
 | none=>
  refine J (upd L a (.frz { cls:=.type "list",data:=.seq vs.toArray } (.lst (S.map V.int)))) (λb=>?_) (.inl (.inr ⟨{ cls:=.type "list",data:=.seq vs.toArray },az⟩)) (λb u z=>?_) (λb u z=>?_) (λ_=>hk) λb q z=>?_
  .by_cases l:b=a
   .subst l;exact .inr (.inl ⟨_,_,az⟩)
   .rw[au l];cases z:L b with
    | none=>exact .inl rfl
    | some u=>obtain⟨q,_,rfl⟩:=g z;exact .inr (.inr ⟨_,rfl⟩)
  .by_cases l:b=a
   .subst l;rw[az] at z;cases z;exact⟨Q,by rw[lM0];exact hl,vs,_,rv,Q⟩
   .rw[au l] at z;exact D z
  .by_cases l:b=a
   .exact .inl l
   .rw[au l] at z;exact .inr (let ⟨q,h,_⟩:=g z;⟨q,h⟩)
  .rw[au (λy=>by rw[y,B] at z;cases z)];exact E b q z
theorem GC{l:Vf}{q:OT}{i:Ls0}{XP:(SV0)->Heap->Prop}{J:World->Heap->Prop}{d:DefRec}{K:Params->Fg0}{CX:World->CXT}{sp:Fg0->Sp}{E:La0}(O:l.most=some n)(A:n<=sizeLine)(C:d.params.defaults=[])(M:cK k WQ)(T:∀ (w:World) (h:Heap),J w h->(K w.params).In h/\∀ P∈E,h.get? P=some (Yw #[]))(F:∀ (w:World) (mg:SV0) (t:Addr) (h:Heap),(K w.params).In h->h.Ns mainGlobals mg->mg d.name=some (.ref t)->
   ∃ (fd:ej) (b:List (Addr×Str)),(∀ (s:Shared) (u:Value),Xz s fd ⟨[u],[]⟩ [(x,u)])/\(∀ p∈b,p.1∈E/\(K w.params).lookup p.1=none/\∃ c,UP h c p.1)/\
    ∀ base:Heap,(K w.params).In base->base.Ns mainGlobals mg->(∀ P q,b.lookup P=some q->mQ base P q)->aC l.prog w (K w.params) mg base (CX w) k t fd [x] (sp (K w.params)))(z:∀ (K:Fg0) (H:Hp) (a:Addr) (ns:Li0),ns.length<=n->PK H->SqL K H a (ns.map V.int)->sp K [.ref a] H (λv _=>v=.bl true) λ_ _ _=>False)(D:∀ (w:World) (H:Hp) (s:Shared) (e:Value) (s':Shared),CX w [] H s (λ_ _ _=>False) e s'->False) :
  YD q i XP J l.row.toRowW d [] (λf vs=>Yr f vs):=by
 refine _a.CH O C λw I m mg mb t o pm cd a1 a vs ns G Y ho hd R B r j g Q=>?_;obtain⟨L,y⟩:=T w _ Y;obtain⟨fd,b,S,U,Z⟩:=F w mg t _ L G.T.g B;refine FW L G.T.g G.T.b G.T.builtins G.T.nolimit G.T.bmain Q r j (Ht g A) M (λp N=>?_) Z S (λH X W=>z _ H a ns g X W) λH e s'=>D w H m e s';obtain⟨h1,h2,c,o,vs,_,_,_,_,_,_,_,c1,c2,c3,c4,_⟩:=U p N;exact⟨y _ h1,h2,c,o,vs,c1,c2,c3,c4⟩
end _2
namespace _3
open PySem _2 PySem.Spec PyProof.Rows
section
variable {X:Cx}{B:Bs}{F:Hp}{H:Hp}{Γ:G}{params:Arguments}{pm:Value}
def Ie (O:(Unit->Obj)->Prop)(Γ:G)(Q:RV->G->Prop):Prop:=∀ o f,O o->Q (.fz (.fn o f .non .non)) Γ
def LV (q:Str)(a:Arguments)(c:Expr)(scope:Scope)(b:List (Str×Addr))(o:Unit->Obj):Prop:=∃ pm d e,o ()=qp q a c scope b pm d e
theorem J4:Ref K (M9 q params body scope clos pm) (Ie (LV q params body scope clos)):=by
 intro B F r H Γ Q C e h k f c A j y v b n;have g:En K B F r y Γ:=by
  rcases v with rfl | ⟨t,rfl⟩
  .exact e
  .exact e.alloc t _
 have o:F f=none:=g.sub.free b;have w:=(g.alloc b (.frz (qp q params body scope clos pm c j) (.cod c q))).freeze (l:=f) o az (g.dom f b) λi d s z=>by
  obtain⟨p,a,_,x⟩:=g.hl i d s;rw[z] at a;cases a;obtain⟨u,m⟩:=x.some;rw[b] at m;cases m
 exact k _ _ ⟨_,Γ,.fz (.fn (λ_=>qp q params body scope clos pm c j) f .non .non),bE o,w,⟨rfl,⟨c,q,az,⟨_,rfl,rfl,rfl⟩⟩,rfl⟩,h (λ_=>qp q params body scope clos pm c j) f ⟨pm,c,j,rfl⟩⟩
theorem Dg{c P:Addr}(a:X.env.code=.ref c)(f:∀ h:Heap,X.K.In h->UP h c P)(e:mQ X.base P (X.env.qual++"<lambda>"))(d:Wl scope X.env=pure clos)(b:autoParam (defaultsOf params X.env=([],[])) wE) :
  P3 K X (.Lambda params body scope pos) (M9 (X.env.qual++"<lambda>") params body scope clos ((X.mg "__name__").getD .none)) (Ie (LV (X.env.qual++"<lambda>") params body scope clos)):=⟨NY a f e d b,J4⟩
def yH (O:(Unit->Obj)->Prop)(i j n:Nat)(S:(Unit->Obj)->Addr->V->S3)(d:dG)(Γ:G)(Q:RV->G->Prop):Prop:=d Γ λb a=>b.length=n/\(b_ b).Nodup/\∃ o f r,b[j]?=some (.d (.fn o f .non .non))/\O o/\a[i]?=some (some (.fz r))/\
 ∀ v,S o f v (fK a ((b.set j (.d (.fn o f v r))).map some)) λx c=>Q x (bh (((b.set j (.d (.fn o f v r))).map some).map cb) a c)
theorem uQ:∀ {a:List Bo} {j:Nat} {x y:D},a[j]?=some (.d x)->b_ (a.set j (.d y))=b_ a
 | [],_,_,_,h=>by simp at h
 | .d _::_,0,_,_,_=>rfl
 | .v _::_,0,_,_,h=>by simp at h
 | .d _::a,j + 1,x,y,h=>by
  rw[UC];show b_ (a.set j _)=b_ a;exact uQ (by simpa using h)
 | .v i::a,j + 1,x,y,h=>by
  rw[UC];show i::b_ (a.set j _)=i::b_ a;rw[uQ (by simpa using h)]
theorem bD.set:∀ {d:List Bo} {vs:List V} {j:Nat} {x:D} {v:V},bD K F σ d vs->vs[j]?=some v->Rep K F x v->bD K F σ (d.set j (.d x)) vs
 | [],_,_,_,_,h,e,_=>by cases h;simp at e
 | _::_,_,0,x,v,⟨u,a,c,f,b⟩,e,r=>by
  subst c;simp at e;subst e;exact⟨_,a,rfl,r,b⟩
 | _::d,_,j + 1,x,v,⟨u,a,c,f,b⟩,e,r=>by
  subst c;rw[UC];exact⟨u,a,rfl,f,bD.set b (by simpa using e) r⟩
theorem Fo{c:Addr}{S:(Unit->Obj)->Addr->V->S3}{t:TA}{s:dG}(hc:X.env.cells.lookup nm=some c)(h:yP K t s) :
  Ref K (CS X q params body scope nm i j (λo f v=>sp3 K n (S (λ_=>o) f v)) t) (yH (LV q params body scope [(nm,c)]) i j n S s):=by
 intro B F p H J Q QQ e P k;refine h B F p H J _ _ e P λvs H1 Z=>?_;obtain⟨E,I,D,L,l,w,W,T,o,f,r,A,⟨g,d,ct,z⟩,hi,R⟩:=Z;obtain⟨x,y,M⟩:=w.get A;obtain⟨rfl,⟨c2,q2,C,fd,z1,z2,z3⟩,_⟩:=M;obtain⟨v,U,O⟩:=l.fz i r hi;rw[z] at z1;cases z1;cases z2;cases z3;have m:o=λ_=>qp q params body scope [(nm,c)] g d ct:=funext λ_=>z;subst m;have Y:(D.set j (.d (.fn (λ_=>qp q params body scope [(nm,c)] g d ct) f v r))).length=n:=by rw[Qh];exact W
 have u:bD K E p (D.set j (.d (.fn (λ_=>qp q params body scope [(nm,c)] g d ct) f v r))) vs:=w.set y ⟨rfl,⟨d,q,C,⟨_,rfl,rfl,rfl⟩⟩,O⟩;refine⟨f,c,d,g,ct,v,y,l.sub _ _ C,hc,U,?_⟩;refine⟨by rw[u.length];exact Y,E,_,_,_,l.args u (by rw[uQ A];exact T),p_,R v,λr G q v H' F' e2 N=>?_⟩;obtain⟨a,b,c⟩:=l.called e2 N;exact k v H' ⟨F',_,r,L.trans a,b,c,q⟩
theorem xP{c g:Addr}{S:(Unit->Obj)->Addr->V->S3}{t:TA}{h:dG}(F:∀ (base:Heap) (o:Unit->Obj) (f:Addr) (v:V),v9 base q params body scope nm (o ()) f v->aC X.prog X.w X.K X.mg base CX0 k g fd ps (sp3 K n (S o f v)))(r:cK k X.A)(w:Gl X x)(s:X.mg x=some (.ref g))(u:ox X.K (.ref g)=true)(A:Binds X.K fd ps [])(B:X.N[i]?=some nm)(m:X.env.scope.names.lookup nm=some .cell)(b:X.fn nm=true)(z:X.env.cells.lookup nm=some c)(l:yQ K X (e::es) t h)(d:autoParam ((x == ("__debug__":Str))=false) wP)(y:autoParam (eh (e::es) X.env=(false,eval e X.env)::eh es X.env) wE)(a:autoParam ((backTo pos (eh es X.env)).any (·.1)=false) wE) :
  P3 K X (.Call (.Name x p) (e::es) [] pos) (CS X q params body scope nm i j (λo f v=>sp3 K n (S (λ_=>o) f v)) t) (yH (LV q params body scope [(nm,c)]) i j n S h):=
 ⟨HG (λbase o f v L=>F base (λ_=>o) f v L) r w s u A B m b l.pe d y a,Fo z l.rf⟩
def Jh (i n:Nat)(o:Unit->Obj)(f:Addr)(v:V)(S:S3)(d:dG)(Γ:G)(Q:RV->G->Prop):Prop:=∃ r,Γ[i]?=some (some (.fz (.fn o f v r)))/\d Γ λb a=>b.length=n/\(b_ b).Nodup/\a[i]?=some (some (.fz (.fn o f v r)))/\
 S (fK a ((b++[Bo.d r]).map some)) λx c=>Q x (bh (((b++[Bo.d r]).map some).map cb) a c)
theorem uR {r:D}:∀ {a:List Bo},b_ (a++[Bo.d r])=b_ a
 | []=>rfl
 | .d _::a=>by show b_ (a++_)=_;exact uR
 | .v i::a=>by show i::b_ (a++_)=i::b_ a;rw[uR]
theorem bD.app{r:D}{v:V}(h:Rep K F r v):∀ {a:List Bo} {vs:List V},bD K F σ a vs->bD K F σ (a++[Bo.d r]) (vs++[v])
 | [],_,e=>by cases e;exact⟨v,[],rfl,h,rfl⟩
 | _::a,_,Z=>by obtain⟨u,b,f,d,c⟩:=Z;subst f;exact⟨u,b++[v],rfl,d,bD.app h c⟩
theorem Fm{o:Unit->Obj}{v:V}{S:S3}{t:TA}{j:dG}(h:yP K t j):Ref K (um i f (λvs H Q _=>sp3 K (n + 1) S (vs++[v]) H Q E0) t) (Jh i n o f v S j):=by
 intro B F m H u Q R e ⟨r,J,C⟩ k;obtain⟨x,G,rfl,_,_⟩:=e.fz i _ J;refine⟨G,h B F m H u _ _ e C λvs T Z=>?_⟩;obtain⟨N,s,P,w,g,A,I,E,d,D⟩:=Z;obtain⟨_,_,_,_,z⟩:=g.fz i _ d;have l:=bD.app z A;refine⟨by rw[l.length,el,I];rfl,N,_,_,_,g.args l (by rw[uR];exact E),p_,D,λr p q v M O L y=>?_⟩;obtain⟨a,b,c⟩:=g.called L y;exact k v M ⟨O,_,r,w.trans a,b,c,q⟩
theorem BS{o:Unit->Obj}{v:V}{S:S3}{t:TA}{d:dG}(m:X.base.get? f=some (o ()))(l:(o ()).data=.func fd)(F:aC X.prog X.w X.K X.mg X.base CX0 k f fd ps (λvs H Q _=>sp3 K (n + 1) S (vs++[v]) H Q E0))(j:cK k X.A)(r:Binds X.K fd ps [])(s:X.N[i]?=some x)(h:Vis X.env.scope x)(g:yQ K X (e::es) t d)(b:autoParam ((x == ("__debug__":Str))=false) wP)(c:autoParam ((x == ("__classdict__":Str))=false) wP)(q:autoParam (eh (e::es) X.env=(false,eval e X.env)::eh es X.env) wE)(a:autoParam ((backTo pos (eh es X.env)).any (·.1)=false) wE) :
  P3 K X (.Call (.Name x p) (e::es) [] pos) (um i f (λvs H Q _=>sp3 K (n + 1) S (vs++[v]) H Q E0) t) (Jh i n o f v S d):=⟨HF m l F j r s h g.pe b c q a,Fm g.rf⟩
theorem okL{l:SV0}{o:Unit->Obj}{v:V}{S:S3}(L:v9 base q params body scope nm (o ()) f v)(C:pR ps nm scope)(hbody:∀ (c d:Addr) (A:Around) (outer:List Env) (s:Shared) (H:Hp),cK k (A.deeper (UQ q scope s.heap.objs.size f (.ref d) [(nm,c)]))->
   ∃ t t3,P3 K (IT P w K l base ps q scope nm f c d A outer s H) body t t3/\∀ Γ Q,Γ.length=ps.length + 1->S Γ Q->t3 Γ Q)(j:∀ (clos:List (Str×Addr)) (pm:Value) (d:Addr) (I:Value) (us:Lv0),us.length=ps.length->WD (Yv "<lambda>" q params body scope clos pm (.ref d) I) ⟨us,[]⟩=pure (ps.zip us)) :
  ∃ fd,base.get? f=some (o ())/\(o ()).data=.func fd/\Binds K fd ps []/\aC P w K l base CX0 (k + 1) f fd ps (λvs H Q _=>sp3 K (ps.length + 1) S (vs++[v]) H Q E0):=by
 refine Ow L C (λvs H Q E h=>h.1) (λc d A outer s H vs Q u i=>?_) j;obtain⟨t,t3,h,y⟩:=hbody c d A outer s H u;obtain⟨x,F,g,a,m,e,_,p,z⟩:=i;exact⟨t,h.pe,h.rf ⟨F,H,g⟩ F _ H a m Q e (y a m (by rw[<- e.len,lM0];exact x) p) λv D ⟨G,b,r,_,B,n,q⟩=>z r b q v D G B n⟩
theorem okM{u:SV0}{S:S3}(F:Fun K x qual st f fd)(V:ak N ps (af st))(T:autoParam (ps.length<=N.length) wP)(hbody:∀ (g:Value) (A:Around) (outer:List Env) (s:Shared) (H:Hp) (E:XK),g=fd.code->cK k (A.deeper (envOfC qual (af st) s.heap.objs.size f g))->
   ∃ t t3,Bm K (Cv CX0 P w K u base N qual (af st) f g A outer s H E).nox (cj st) t t3/\∀ c Q,S c Q->c.length=ps.length->t3 { nx:=λd=>Q (.fz .non) (iZ c d),rt:=λr d=>Q r (iZ c d) } (jk N c)) :
  aC P w K u base CX0 (k + 1) f fd ps (sp3 K ps.length S):=by
 obtain⟨oc,Z,kV,U,Y,an,g,ct,L,rfl,lk,n⟩:=F.ex;refine MF lk n V (λD H Q E h=>h.1) λA outer s H D Q E M h=>?_;obtain⟨O,C,m,c,p,e,i,R,B⟩:=h;obtain⟨t,t3,y,J⟩:=hbody g A outer s H E rfl M;have j:c.length=ps.length:=by rw[<- e.len,lM0];exact O
 refine⟨t,y.pe.nox,y.rf ⟨C,H,m⟩ C _ H _ _ { nx:=λd=>p (.fz .non) (iZ c d),rt:=λr d=>p r (iZ c d) } (e.start (N:=N) (by rw[j];exact T)) ⟨?_,?_,λ_ _ _ _ _ _ z=>sr z,λ_ _ _ _ _ _ z=>sr z⟩ (J c p R j)⟩
 .intro X l W d G o q;obtain⟨a,b⟩:=e.out i o (v:=.non) (r:=.fz .non) rfl;exact B _ _ q _ _ _ a b
 .intro X l W d v r G o I q;obtain⟨a,b⟩:=e.out i o I;exact B _ _ q _ _ _ a b
end
end _3
namespace _2
open PySem
structure FN (K:Fg0) (x q:Str) (st:Stmt) (f:Addr) (d:ej):Prop where
 n:jM K mainGlobals x=some (some (.ref f))
 F:Fun K x q st f d
structure FM (K:Fg0) (C:Addr) (x q:Str) (st:Stmt) (f:Addr) (d:ej):Prop where
 m:ew K (.ref C) x=some (some (.ref f))
 i:Wj K (.ref f)=true
 F:Fun K x q st f d
structure FY (K:Fg0) (x q:Str) (st:Stmt) (f:Addr) (d:ej) (ps:Ls0):Prop where
 F:Fun K x q st f d
 b:Binds K d ps []
structure FX (K:Fg0) (mg:SV0) (x q:Str) (st:Stmt) (f:Addr) (d:ej) (ps:Ls0):Prop where
 F:Fun K x q st f d
 b:Binds K d ps []
 m:mg x=some (.ref f)
section
variable {mg:SV0}{d:ej}
theorem fx(X:K.In h)(G:h.Ns mainGlobals mg)(F:FN K x q st f d)(b:∀ (kV a pm:Value) (g:Option Addr) (c e:Value) (us:Lv0),us.length=ps.length->WD (Fk x q (eO st) (cj st) (af st) .none kV a pm g c e) ⟨us,[]⟩=pure (ps.zip us)):FX K mg x q st f d ps:=⟨F.F,F.F.binds b,pL X G F.n⟩
theorem fy(F:FM K C x q st f d)(b:∀ (kV a pm:Value) (g:Option Addr) (c e:Value) (us:Lv0),us.length=ps.length->WD (Fk x q (eO st) (cj st) (af st) .none kV a pm g c e) ⟨us,[]⟩=pure (ps.zip us)):FY K x q st f d ps:=⟨F.F,F.F.binds b⟩
theorem cK.dn(r:cK k A)(h:autoParam (j<=k) wP):cK j A:=r.mono h
theorem FM.me(F:FM K C x q st f d):Meth K C x f:=⟨F.m,F.i,F.F.kp⟩
end
open PySem PySem.Spec PyProof.Rows
noncomputable def CI (K:Fg0)(d:Addr):List (Str×Addr)->Prop
 | []=>True
 | p::l=>jM K d p.1=some (some (.ref p.2))/\CI K d l
theorem CI.at {K:Fg0}{d:Addr}{k:Str}{f:Addr}:∀ {l:List (Str×Addr)},CI K d l->l.lookup k=some f->jM K d k=some (some (.ref f))
 | [],_,h=>nomatch h
 | (y,g)::l,⟨b,a⟩,h=>by
  rw[ek] at h;by_cases e:k=y
  .subst e;rw[beq_self_eq_true] at h;cases h;exact b
  .rw[show (k == y)=false from beq_eq_false_iff_ne.mpr e] at h;exact CI.at a h
structure PR (K:Fg0) (P:Params) (mg:SV0) (x:Str) (d:Addr) (l:List (Str×Addr)):Prop where
 mg:mg x=some (.ref d)
 ex:∃ es n,K.lookup d=some ⟨.type "dict",none,.dict es n,#[]⟩/\Yf P es.toList
 it:CI K d l
section
variable {X:Cx}{d:Addr}{i:Expr}{ty:TE}{t:TA}
def NA (l:List (Str×Addr))(y:V)(H:Hp)(Q:VK):Prop:=∃ k f,y=.str k/\l.lookup k=some f/\Q (.ref f) H
theorem Ko(z:Gl X x)(D:PR X.K X.w.params X.mg x d l)(r:PE X i ty)(o:PM i)(A:autoParam ((x == ("__debug__":Str))=false) wP):PE X (.Subscript (.Name x p) i pos) (λσ H Q=>ty σ H λy H1=>NA l y H1 Q):=by
 intro a s σ H Q I h;refine JI PySem.F.slot_dict_getitem.lookup o (thn (wY (v:=.ref d) z D.mg rfl A a s σ H (λv K=>v=.ref d/\K=H) I ⟨rfl,rfl⟩) λu e Z=>?_);obtain⟨v,H1,G,j,F,E⟩:=Z;subst F;subst E;obtain rfl:u=.ref d:=j;refine thn (r a e σ _ _ G h) λM L Z=>?_;obtain⟨y,J,c,g,k,f,B,C,q⟩:=Z;subst B;obtain⟨t,rfl⟩:=g;obtain⟨N,n,lk,m⟩:=D.ex;have b:=PySem.W.mapOf_K (prog:=X.prog) (w:=X.w) c.kIn lk m;exact⟨b.typeIs,wpAny_getItem_of (strKind_is X.prog X.w k t) b (PySem.W.find_K lk (D.it.at C)) ⟨.ref f,J,c.tok _,rfl,q⟩⟩
theorem HI{sp:Sp}(lk:∃ d c b,X.K.lookup f=some ⟨d,c,.func fd,b⟩)(F:aC X.prog X.w X.K X.mg X.base CX0 k f fd ps sp)(D:cK k X.A)(G:Binds X.K fd ps [])(K:X.N[j]?=some x)(C:Vis X.env.scope x)(J:PA X (e::es) t)(l:autoParam ((x == ("__debug__":Str))=false) wP)(m:autoParam ((x == ("__classdict__":Str))=false) wP)(E:autoParam (eh (e::es) X.env=(false,eval e X.env)::eh es X.env) wE)(g:autoParam ((backTo pos (eh es X.env)).any (·.1)=false) wE) :
  PE X (.Call (.Name x p) (e::es) [] pos) (um j f sp t):=by
 intro a s n H Q I ⟨M,L⟩;obtain⟨d,c,b,lk⟩:=lk;have o:∀ {h:Heap},X.K.In h->YS f h:=λ{h} z=>⟨d,c,fd,b,z _ _ lk⟩;refine vB (thn (xH (i:=j) K C l m a s n H (λv y=>v=.ref f/\y=H) I ⟨_,M,rfl,rfl⟩) λu A Z=>?_);obtain⟨v,y,w,B,O,N⟩:=Z;subst O;subst N;obtain rfl:u=.ref f:=B;refine Xm (o w.kIn) (thn (J pos a A n _ _ w L) λR S ⟨P,T,q,r,z⟩=>⟨o q.kIn,?_⟩) E g;exact uA (dvs:=[]) (ds:=[]) F D G .nil xJ q r (by rw[tq];exact z)
end
end _2
namespace _3
open PySem _2 PySem.Spec PyProof.Rows
section
variable {X:Cx}{d:Addr}{b:Expr}{ta tb:TE}{a3 b3:TB3}{t:TA}{t3:dG}{S:S3}
theorem Kz(d:P3B K X a ta a3)(c:P3B K X b tb b3):P3 K X (.BinOp a .BitAnd b pos) (tOp (rI0 λi j=>.int (VB i j)) ta tb) (uo (i2' λi j=>.int (VB i j)) a3 b3):=⟨sy Ob d.pe c.pe,jv (y6 λ_ _ _=>rfl) d.rf c.rf⟩
def TR (l:List (Str×Addr))(y:D)(Γ:G)(Q:RV->G->Prop):Prop:=∃ k f,y=.str k/\l.lookup k=some f/\Q (.fz (.adr f)) Γ
theorem Kx(i:Gl X x)(D:PR X.K X.w.params X.mg x d l)(b:P3B K X a ta a3)(h:PM a:=by intro _ _;rfl)(j:autoParam ((x == ("__debug__":Str))=false) wP):P3 K X (.Subscript (.Name x p) a pos) (λσ H Q=>ta σ H λy H1=>NA l y H1 Q) (GO (TR l) a3):=
 ⟨Ko i D b.pe h j,C4 (r:=NA l) (by
  intro B F σ H o x s Q t e c ⟨k,f,n,m,q⟩ g;subst n;cases c;exact⟨k,f,rfl,m,g _ _ (j8 (d:=.adr f) e rfl q)⟩) b.rf⟩
def Ji (j n:Nat)(f:Addr)(S:S3)(d:dG)(Γ:G)(Q:RV->G->Prop):Prop:=Γ[j]?=some (some (.fz (.adr f)))/\d Γ λb a=>b.length=n/\(b_ b).Nodup/\S (fK a (b.map some)) λr c=>Q r (bh ((b.map some).map cb) a c)
theorem Fp(h:yP K t t3):Ref K (um j f (sp3 K n S) t) (Ji j n f S t3):=by
 intro B F i H m Q N e ⟨D,u⟩ z;obtain⟨y,A,p⟩:=e.fz j _ D;obtain rfl:y=.ref f:=p;refine⟨A,h B F i H m _ _ e u λL O Z=>?_⟩;obtain⟨I,l,M,o,g,d,C,x,w⟩:=Z;refine⟨by rw[d.length];exact C,I,_,_,_,g.args d x,p_,w,λr k q v G J E s=>?_⟩;obtain⟨a,b,c⟩:=g.called E s;exact z v G ⟨J,_,r,o.trans a,b,c,q⟩
theorem xQ(u:Fun X.K y q st f fd)(F:aC X.prog X.w X.K X.mg X.base CX0 k f fd ps (sp3 K n S))(m:cK k X.A)(r:Binds X.K fd ps [])(s:X.N[j]?=some x)(l:Vis X.env.scope x)(d:yQ K X (e::es) t t3)(b:autoParam ((x == ("__debug__":Str))=false) wP)(c:autoParam ((x == ("__classdict__":Str))=false) wP)(o:autoParam (eh (e::es) X.env=(false,eval e X.env)::eh es X.env) wE)(a:autoParam ((backTo pos (eh es X.env)).any (·.1)=false) wE) :
  P3 K X (.Call (.Name x p) (e::es) [] pos) (um j f (sp3 K n S) t) (Ji j n f S t3):=⟨HI (by obtain⟨i,h,_,_,_,_,_,_,g,_,lk,_⟩:=u.ex;exact⟨i,h,g,lk⟩) F m r s l d.pe b c o a,Fp d.rf⟩
end
end _3
namespace _2
open PySem PySem.Spec PyProof.Rows
noncomputable abbrev PQ:=Addr×Addr×List Key×Int
noncomputable def Qw (m:List (List Key×V))(q:PQ):List (List Key×V):=putK m q.2.2.1 (.int q.2.2.2)
noncomputable def mkD (qs:List PQ):List (List Key×V):=qs.foldl Qw []
open PySem PySem.Spec PyProof.Rows
section
variable {m:Nat}{h:Int}
noncomputable def fw (m x:Nat):Nat:=(x * 5 + 1) % (m + 1)
end
open PySem PySem.Spec PyProof.Rows
section
variable {X:Cx}
def Mq (ta:TA):TI:=λσ H R=>ta σ H λvs H1=>∃ j:Int,vs=[.int 0,.int j]/\0<=j/\j < 2 ^ 62/\R (LW (j - 1) (-1) j.toNat) H1
theorem Ki{b:Expr}{ta:TA}{E d:Pos}(n:Gl X "reversed")(m:X.mg "reversed"=none)(J:Gl X "range")(G:X.mg "range"=none)(L:PA X [a,b] ta)(F:autoParam (eh [a,b] X.env=[(false,eval a X.env),(false,eval b X.env)]) wE)(g:autoParam (eh [b] X.env=[(false,eval b X.env)]) wE)(i:autoParam (eh [.Call (.Name "range" p) [a,b] [] pos] X.env=[(false,eval (.Call (.Name "range" p) [a,b] [] pos) X.env)]) wE) :
  PI X tg (.Call (.Name "reversed" E) [.Call (.Name "range" p) [a,b] [] pos] [] d) (Mq ta):=by
 intro f s v H R I h;refine Call_ (gO I n m (by decide +kernel:AC "reversed"=some (.type "reversed")) (mC ?_ i rfl));rw[i];show wpAny _ _ (spliced ((false,eval (.Call (.Name "range" p) [a,b] [] pos) X.env)::backTo d [])) _ _ s;refine UA (Call_ (gO I J G Xd (mC (thn (L pos f s v H _ I h) λP c ⟨O,y,N,z,C⟩=>?_) (by rw[F,g]) (by rw[g];rfl))));obtain⟨j,e,D,B,q⟩:=C;subst e;cases z with
 | cons r l=>
 cases l with
 | cons A l=>
 cases l;obtain⟨w,rfl⟩:=r;obtain⟨t,rfl⟩:=A;refine call_range_2 (UK ?_);have u:Inv X f v y { c with heap:=c.heap.push { cls:=.type "range",data:=.fields #[.int 0 w,.int j t,.int 1 c.toks] },toks:=c.toks + 1 }:=N.kept λb o e=>cm _ e;refine iM (XX ..) D B ?_;refine Th (x:=j - 1) (left:=j) (step:=-1) (hY _ rfl) ?_;refine⟨_,_,_,_,y,rfl,u.kept (t':=c.toks + 1) λb o e=>cm _ e,vd _ (j - 1) (-1) j.toNat,?_,λb K=>?_,q⟩
 .show VJ _ _ (j - 1 + ((0:Nat):Int) * (-1)) (((j.toNat:Nat):Int) - ((0:Nat):Int)) (-1);rw[show j - 1 + ((0:Nat):Int) * (-1)=j - 1 by simp,show ((j.toNat:Nat):Int) - ((0:Nat):Int)=j by simp;lia];exact hY _ rfl
 .have M:b=c.heap.objs.size + 1:=by simpa using K
  have k:(c.heap.push { cls:=.type "range",data:=.fields #[.int 0 w,.int j t,.int 1 c.toks] }).objs.size<=b:=by rw[NB,M];exact ec _
  exact u.uV k (u.hok.fresh k)
end
end _2
namespace _3
open PySem _2
def Mn (b:TA3)(Γ:G)(Q:List D->G->Prop):Prop:=b Γ λds a=>∃ j:Int,ds=[.int 0,.int j]/\(0<=j/\j < 2 ^ 62)/\Q (xC (j - 1) (-1) j.toNat) a
section
variable {X:Cx}
theorem K9{b:Expr}{ta:TA}{m:TA3}{z c:Pos}(i:Gl X "reversed")(h:X.mg "reversed"=none)(D:Gl X "range")(C:X.mg "range"=none)(l:P3A K X [a,b] ta m)(A:autoParam (eh [a,b] X.env=[(false,eval a X.env),(false,eval b X.env)]) wE)(f:autoParam (eh [b] X.env=[(false,eval b X.env)]) wE)(g:autoParam (eh [.Call (.Name "range" p) [a,b] [] pos] X.env=[(false,eval (.Call (.Name "range" p) [a,b] [] pos) X.env)]) wE) :
  P3I K X tg (.Call (.Name "reversed" z) [.Call (.Name "range" p) [a,b] [] pos] [] c) (Mq ta) (Mn m):=⟨Ki i h D C l.pe A f g,λB F n H o Q R e q k=>
 l.rf B F n H o _ _ e q λO L Z=>by
  obtain⟨M,d,S,s,J,t,j,I,⟨G,E⟩,y⟩:=Z;subst I;obtain⟨v,N,rfl,x,P,r,rfl,w,u⟩:=t;cases x;cases w;cases u;exact⟨j,rfl,G,E,k _ L M d _ s J G6 y⟩⟩
end
end _3
set_option maxHeartbeats 4000000
namespace _k
open PySem _2 _3
local macro_rules|`(tactic|walk_at "s0")=>`(tactic|exact ⟨rfl,rfl,rfl,by decide +kernel,rfl,by decide +kernel,by decide +kernel⟩)
local macro_rules|`(tactic|walk_at "s1")=>`(tactic|exact ⟨rfl,by decide +kernel,by decide +kernel,by decide +kernel,by decide +kernel,rfl,by decide +kernel⟩)
local macro_rules|`(tactic|walk_at "s2")=>`(tactic|first | exact Or.inl rfl | exact Or.inr (Or.inl rfl) | exact Or.inr (Or.inr rfl))
noncomputable def fw (b:Option D):Option Sl:=b.map Sl.ow
theorem O3{s:Option D}{Γ:G}:bY (fw s::Γ) 0=True:=by cases s <;> rfl
theorem R9{s:Option D}{Γ:G}:frB (fw s::Γ) 0=true:=by cases s <;> rfl
theorem SF{n:Option D}:ez n none=none:=rfl
theorem T6{n:Option D}{d:D}:ez n (some (.fz d))=some (.fz d):=rfl
theorem T7{n:Option D}{d:D}:ez n (some (.ow d))=some (.ow (n.getD d)):=rfl
theorem SG{n:Option D}{d:D}:ez n (some (.ln d))=some (.ln (n.getD d)):=rfl
theorem T9{n:Option D}{s:Option D}:ez n (fo s)=fo s:=by cases s <;> rfl
theorem T8{n:Option D}{s:Option D}:ez n (fw s)=fw (s.map λd=>n.getD d):=by cases s <;> rfl
noncomputable def rG:G->Bool
 | []=>true
 | some (.ln _)::_=>false
 | _::Γ=>rG Γ
theorem Og:rG []=true:=rfl
theorem Tg{Γ:G}:rG (none::Γ)=rG Γ:=rfl
theorem Td{Γ:G}{d:D}:rG (some (.fz d)::Γ)=rG Γ:=rfl
theorem Te{Γ:G}{d:D}:rG (some (.ow d)::Γ)=rG Γ:=rfl
theorem Tf{Γ:G}{s:Option D}:rG (fo s::Γ)=rG Γ:=by cases s <;> rfl
theorem AW:∀ {cs:G} {k:Nat} {d:D},rG cs=true->cs[k]?≠some (some (Sl.ln d))
 | [],_,_,_,h=>by simp at h
 | s::cs,0,d,a,h=>by
  simp at h;subst h;cases a
 | s::cs,k + 1,d,a,h=>by
  have b:rG cs=true:=by
   cases s with
   | none=>exact a
   | some s=>cases s with
    | fz _=>exact a
    | ow _=>exact a
    | ln _=>cases a
  exact AW (cs:=cs) (k:=k) b (by simpa using h)
theorem DU{ls:On}{Γ cs:G}(h:rG cs=true):bh ls Γ cs=Γ:=by
 apply Tz;intro j;rw[bS];have:newD ls cs j=none:=by
  cases q:newD ls cs j with
  | none=>rfl
  | some d=>
   obtain⟨k,_,b⟩:=i9 q;exact absurd b (AW h)
 rw[this];cases Γ[j]? with
 | none=>rfl
 | some s=>cases s with
  | none=>rfl
  | some s=>cases s <;> rfl
theorem FK{ls:On}{cs:G}(h:rG cs=true):newD ls cs j=none:=by
 cases q:newD ls cs j with
 | none=>rfl
 | some d=>
  obtain⟨k,_,b⟩:=i9 q;exact absurd b (AW h)
theorem Sd{e:TI3}{g3:TG3}{f:TS3}{D:E3}{Γ:G}{h:Tag (e,g3,f)}{g:Tag D}:O7 e g3 f D Γ h g=(e Γ λxs b=>∃ a:Nat->G->Prop,a 0 b/\(∀ k d Γ,xs[k]?=some d->a k Γ->g3 d Γ λc=>f { D with nx:=a (k + 1),ct:=a (k + 1),bk:=D.nx } c)/\∀ Γ,a xs.length Γ->D.nx Γ):=rfl
inductive Lt where
 | r | p | b
deriving DecidableEq
noncomputable def Lt.c:Lt->Nat
 | .r=>114 | .p=>112 | .b=>98
noncomputable def Lt.s (l:Lt):Str:=sgn l.c
theorem Lt.sp:Lt.s .p=("p":Str):=by decide +kernel
theorem Lt.sb:Lt.s .b=("b":Str):=by decide +kernel
noncomputable def wy (ls:List Lt):Str:=⟨(ls.map Lt.c).toArray⟩
theorem Bp(ls:List Lt):signs (wy ls)=ls.map λl=>D.str l.s:=by
 unfold signs wy;rw[oj]
 rfl
theorem MY(ls:List Lt):asc (wy ls)=true:=by
 unfold asc wy;rw[Array.all_eq_true_iff_forall_mem];intro x a;simp only[List.mem_toArray,ry] at a;obtain⟨l,_,rfl⟩:=a;cases l <;> decide
theorem jh(ls:List Lt):(wy ls).length=ls.length:=by simp [Str.length,wy]
noncomputable def nh (l:Lt)(h:Int):Int:=if l=.r then h else (h + 1) / 2
noncomputable def nw (l:Lt)(w:Int):Int:=if l=.p then w else (w + 1) / 2
noncomputable def nN (h w:Int):List Lt->List (Int×Int)
 | []=>[(h,w)]
 | l::ls=>(h,w)::nN (nh l h) (nw l w) ls
theorem pE (h w:Int):∀ ls:List Lt,(nN h w ls).length=ls.length + 1
 | []=>rfl
 | l::ls=>by rw[nN,ro,pE];rfl
noncomputable def cD (c:Int×Int):D:=.tup [.int c.1,.int c.2]
def Can (l:Lt)(h w:Int):Prop:=(l≠.p->2<=w)/\(l≠.r->2<=h)
noncomputable def Good (h w:Int):List Lt->Prop
 | []=>True
 | l::ls=>Can l h w/\Good (nh l h) (nw l w) ls
structure nU (h w:Int):Prop where
 h1:1<=h
 w1:1<=w
 h2:h<=64
 w2:w<=64
 m:h * w<=512
noncomputable def cat (h w:Int)(ls:List Lt)(k:Nat):Int×Int:=(nN h w ls).getD k (0,0)
theorem ES{h w:Int}{ls:List Lt}(a:k<=ls.length):(nN h w ls)[k]?=some (cat h w ls k):=by
 unfold cat
 have:k < (nN h w ls).length:=by rw[pE];lia
 rw[lj,gE0 this];rfl
theorem MO{h w:Int}{ls:List Lt}(a:k<=ls.length):((nN h w ls).map cD)[k]?=some (cD (cat h w ls k)):=by rw[dV,ES a];rfl
theorem t6(h w:Int)(ls:List Lt):cat h w ls 0=(h,w):=by cases ls <;> rfl
theorem CB{h w:Int}{l:Lt}{ls:List Lt}:cat h w (l::ls) (k + 1)=cat (nh l h) (nw l w) ls k:=rfl
theorem t5:∀ {ls:List Lt} {h w:Int} {k:Nat} {l:Lt},ls[k]?=some l->cat h w ls (k + 1)=(nh l (cat h w ls k).1,nw l (cat h w ls k).2)
 | [],_,_,k,l,e=>by simp at e
 | l0::ls,h,w,0,l,e=>by
  have:l0=l:=by simpa using e
  subst this;rw[CB,t6,t6]
 | l0::ls,h,w,k + 1,l,e=>by
  rw[CB,CB];exact t5 (by simpa using e)
theorem p9:∀ {ls:List Lt} {h w:Int} {k:Nat} {l:Lt},Good h w ls->ls[k]?=some l->Can l (cat h w ls k).1 (cat h w ls k).2
 | [],_,_,k,l,_,e=>by simp at e
 | l0::ls,h,w,0,l,g,e=>by
  have:l0=l:=by simpa using e
  subst this;rw[t6];exact g.1
 | l0::ls,h,w,k + 1,l,g,e=>by
  rw[CB];exact p9 g.2 (by simpa using e)
theorem Lp{l:Lt}{h w:Int}(c:Can l h w)(b:1<=h)(a:1<=w):1<=nh l h/\1<=nw l w/\nh l h<=h/\nw l w<=w:=by
 cases l <;> simp [nh,nw] <;> lia
theorem kq:∀ {ls:List Lt} {h w:Int} {k:Nat},Good h w ls->1<=h->1<=w->k<=ls.length->1<=(cat h w ls k).1/\1<=(cat h w ls k).2/\(cat h w ls k).1<=h/\(cat h w ls k).2<=w
 | ls,h,w,0,_,i,e,_=>by rw[t6];exact⟨i,e,UH _,UH _⟩
 | [],_,_,k + 1,_,_,_,f=>by simp at f
 | l::ls,h,w,k + 1,g,i,e,f=>by
  rw[CB];obtain⟨a,b,c,d⟩:=Lp g.1 i e;obtain⟨o,n,m,j⟩:=kq (k:=k) g.2 a b (by simpa using f);exact⟨o,n,XF m c,XF j d⟩
theorem uh{h w:Int}{ls:List Lt}(a:k<=ls.length):atI ((nN h w ls).map cD) (k:Int)=some (cD (cat h w ls k)):=cG (by lia) (by rw[ey];exact MO a)
theorem LF{a:Type}{xs:List a}{d:a}(e:xs[xs.length - 1]?=some d):atI xs (-1)=some d:=by
 have lt:=(gS0 e).1;have b:ixN xs.length (-1)=some (xs.length - 1):=by
  unfold ixN;rw[if_neg (by decide),if_pos (by lia)]
  congr 1
  lia
 unfold _2.atI;rw[b];exact e
theorem RA{l:Lt}:inV (V.str l.s) [V.str "r",V.str "b"]=!(l == .p):=by cases l <;> decide +kernel
theorem RB{l:Lt}:inV (V.str l.s) [V.str "p",V.str "b"]=!(l == .r):=by cases l <;> decide +kernel
theorem Rx{l:Lt}{Γ:G}{Q:RV->G->Prop}:in3 false (.str l.s) (kt ["r","b"]) Γ Q=Q (.fz (.bl (!(l == .p)))) Γ:=by
 refine propext ⟨λ⟨a,b,_,_,q⟩=>?_,λq=>⟨_,rfl,rfl,rfl,?_⟩⟩
 .have e:a=[D.str "r",D.str "b"]:=(nS b).symm;subst e;have q:Q (.fz (.bl (inV (V.str l.s) [V.str "r",V.str "b"]))) Γ:=q;rw[RA] at q;exact q
 .show Q (.fz (.bl (inV (V.str l.s) [V.str "r",V.str "b"]))) Γ;rw[RA];exact q
theorem Ry{l:Lt}{Γ:G}{Q:RV->G->Prop}:in3 false (.str l.s) (kt ["p","b"]) Γ Q=Q (.fz (.bl (!(l == .r)))) Γ:=by
 refine propext ⟨λ⟨a,b,_,_,q⟩=>?_,λq=>⟨_,rfl,rfl,rfl,?_⟩⟩
 .have e:a=[D.str "p",D.str "b"]:=(nS b).symm;subst e;have q:Q (.fz (.bl (inV (V.str l.s) [V.str "p",V.str "b"]))) Γ:=q;rw[RB] at q;exact q
 .show Q (.fz (.bl (inV (V.str l.s) [V.str "p",V.str "b"]))) Γ;rw[RB];exact q
theorem Jw{b a:Type}{f:b->a}{xs:List b}{i:Int}{c:a}(e:atI (xs.map f) i=some c):∃ l,atI xs i=some l/\c=f l:=by
 unfold _2.atI at e ⊢;rw[lM0] at e;cases q:ixN xs.length i with
 | none=>rw[q] at e;cases e
 | some j=>
  rw[q] at e;have e:(xs.map f)[j]?=some c:=e;rw[dV] at e;cases z:xs[j]? with
  | none=>rw[z] at e;cases e
  | some l=>rw[z] at e;cases e;exact⟨l,z,rfl⟩
def MZ (ls:List Lt)(i:Int)(k:Lt->Prop)(_:Tag k):Prop:=(wy ls).length<=sizeLine/\∃ l,atI ls i=some l/\k l
theorem Rt{ls:List Lt}{i:Int}{Γ:G}{Q:RV->G->Prop}:ix3 (.str (wy ls)) (.int i) Γ Q=MZ ls i (λl=>Q (.fz (.str l.s)) Γ) ⟨⟩:=by
 refine propext ⟨λ⟨b,c,a,q⟩=>⟨b,?_⟩,λ⟨b,l,a,q⟩=>⟨b,l.c,?_,q⟩⟩
 .obtain⟨l,d,rfl⟩:=Jw (f:=Lt.c) (xs:=ls) (by simpa [wy] using a);exact⟨l,d,q⟩
 .have:=EY (f:=Lt.c) a;simpa [wy] using this
theorem atL{ls:List Lt}{l:Lt}(h:ls[k]?=some l):atI ls (k:Int)=some l:=cG (by lia) (by rw[ey];exact h)
theorem sEb{l:Lt}:(l.s == ("b":Str))=(l == .b):=by cases l <;> decide +kernel
theorem sEr{l:Lt}:(l.s == ("r":Str))=(l == .r):=by cases l <;> decide +kernel
theorem sEp{l:Lt}:(l.s == ("p":Str))=(l == .p):=by cases l <;> decide +kernel
theorem TU{a b c d e f:D}:cut [a,b,c,d,e,f] (some 2) none=[c,d,e,f]:=rfl
theorem Tp:(("corners":Str) == ("chosen":Str))=false:=by decide +kernel
theorem Tn:(("letters":Str) == ("chosen":Str))=false:=by decide +kernel
theorem Ti:(("letters":Str) == ("corners":Str))=false:=by decide +kernel
theorem Rb:(Lt.r == Lt.r)=true:=rfl
theorem Rc:(Lt.r == Lt.p)=false:=rfl
theorem Rg:(Lt.p == Lt.r)=false:=rfl
theorem Rh:(Lt.p == Lt.p)=true:=rfl
theorem Rj:(Lt.b == Lt.r)=false:=rfl
theorem Rk:(Lt.b == Lt.p)=false:=rfl
theorem Rf:(Lt.r == Lt.b)=false:=rfl
theorem Ri:(Lt.p == Lt.b)=false:=rfl
theorem Rm:(Lt.b == Lt.b)=true:=rfl
theorem SH{c:Bool}{x y:D}:atI [x,y] (if c=true then 1 else 0)=some (if c=true then y else x):=by cases c <;> rfl
theorem SR:lh "rpb"=wy [.r,.p,.b]:=by decide +kernel
set_option bootstrap.genMatcherCode true in
def mkL(s:String):Lean.MacroM (Array (Lean.TSyntax [`Lean.Parser.Tactic.simpStar,`Lean.Parser.Tactic.simpErase,`Lean.Parser.Tactic.simpLemma])):=do
 let mut xs:=#[]
 for w in s.splitOn " " do
  let n:=(w.dropWhile (·=='↓')).toString.toName
  let i:=match (<-Lean.Macro.resolveGlobalName n) with
   |(c,[])::_=>Lean.mkCIdent c
   |_=>Lean.mkIdent n
  let t<-if w.startsWith "↓" then `(Lean.Parser.Tactic.simpLemma|↓$i:ident) else `(Lean.Parser.Tactic.simpLemma|$i:ident)
  xs:=xs.push ⟨t.raw⟩
 return xs
set_option bootstrap.genMatcherCode true in
local macro_rules | `(tactic| walk_at "w")=>do `(tactic| try simp -dsimp only [$(<-mkL "jk T3 T1 T2 TY TZ Ta S_ S1 Tr Tq QU QW QS QV R_ Sb R7 R8 Sa LK LJ LI KN KO cond_false Nat.reduceBEq Rn Q5 P1 RY RZ List.length_cons List.length_nil Nat.reduceAdd Nat.reduceSub Nat.zero_add List.replicate List.cons_append List.nil_append List.append_nil ↓Mx ↓OV ↓Mw ↓My ↓OW ↓RT ↓T_ ↓Ua ↓T4 ↓T5 QP ↓OR ↓GP ↓Na wO ↓MB ↓MC ↓Lr ↓EG ↓Iq ↓Mu ↓TL ↓TK ↓Ir ↓Mz ↓h_c D5 JG ↓RQ ↓RX ↓TH ↓RS MU QY ↓MA ↓Mv Gat Bo.at ats RV.d RV.sl LP i2 i2' I_ ↓Mm ↓Ru Eu KU KS KW Ot K2 mx3 OK Oh O4 O6 O1 O2 O5 sl3 Qe ↓OU ↓OQ Ib x_ CQ is3 knD dB dI dL dT ↓RW beq_self_eq_true Ea IA List.zip_cons_cons List.lookup_cons List.lookup_nil ↓JQ HV yc ↓Om Lg ↓RH KL dS Qj RV.fz.injEq ↓JP dF putD tgN tgT iL3 iR1 iZ3 iE3 lz3 PC ↓ET ↓Lo ↓IZ ↓O8 List.isEmpty_nil List.isEmpty_cons ↓OX ↓Ld Pb Pc ↓RU ↓Ol fK zk lR b_ cb Option.bind_some Option.bind_none List.nodup_nil List.nodup_cons List.getElem?_cons_zero List.getElem?_cons_succ List.getElem?_nil List.set_cons_zero List.set_cons_succ exists_eq_left' exists_eq_left exists_eq' exists_eq exists_and_left exists_and_right Option.some.injEq D.int.injEq D.lst.injEq D.str.injEq D.tup.injEq D.bl.injEq D.ins.injEq D.ty.injEq List.cons.injEq and_true true_and and_false false_and true_or false_or or_false or_true and_assoc List.not_mem_nil not_false_eq_true Cu Lv Lk Si Sg Sj yD Bool.false_xor Bool.not_true Bool.not_false Bool.true_xor Nat.reduceLT decide_true Jq Jr Js ite_self Option.getD_some Option.getD_none SM SK SJ SI OI OH OG if_pos if_true if_false List.all_cons List.all_nil Option.isNone_none Bool.and_true Bool.true_and decide_eq_true_eq not_true not_false_iff reduceCtorEq eq_self Bool.false_eq_true reduceIte Int.reduceEq SF T6 T7 SG T9 T8 O3 P0 LY frL Mc iT3 Nat.reduceEqDiff OJ ↓fz3 D.exc.injEq D.adr.injEq Nt M5 ↓Rt sEb sEr sEp TU ↓Rx ↓Ry Tp Tn Ti Rb Rc Rg Rh Rj Rk Rf Ri Rm SH SR Qd iR2 RI ext3 Ep ↓TJ Ea Md ↓DU Og Tg Td Te Tf D.mp.injEq Mn R9"),*])
noncomputable def top (i:Nat):Stmt:=UT.main.body.getD i (.Pass ⟨0,0,0,0⟩)
noncomputable abbrev q8:Stmt:=top 18
noncomputable abbrev n8:Stmt:=top 19
noncomputable abbrev sj:Stmt:=top 20
noncomputable abbrev mn:Stmt:=top 21
noncomputable abbrev uz:Stmt:=top 22
noncomputable abbrev fV:Stmt:=top 23
noncomputable abbrev jn:Stmt:=top 25
noncomputable abbrev eH:Stmt:=inClass (top 26) 0
noncomputable abbrev ju:Stmt:=inClass (top 26) 1
noncomputable abbrev kN:Stmt:=inClass (top 26) 2
noncomputable abbrev iY:Stmt:=inClass (top 26) 3
noncomputable abbrev fX:Stmt:=inClass (top 26) 5
noncomputable abbrev gL:Stmt:=inClass (top 26) 6
noncomputable abbrev rj:Stmt:=inClass (top 26) 7
noncomputable abbrev ux:Stmt:=top 30
noncomputable abbrev kF:Stmt:=top 31
noncomputable abbrev ml:Stmt:=top 32
noncomputable abbrev jm:Stmt:=top 33
noncomputable abbrev ix:Stmt:=top 34
noncomputable abbrev iy:Stmt:=top 35
noncomputable abbrev qX:Stmt:=top 37
noncomputable abbrev pY:Stmt:=top 38
noncomputable abbrev om:Stmt:=inClass (top 39) 0
noncomputable abbrev kJ:Stmt:=inClass (top 39) 1
noncomputable abbrev oo:Stmt:=inClass (top 39) 2
noncomputable abbrev kH:Stmt:=inClass (top 39) 3
noncomputable abbrev kI:Stmt:=inClass (top 39) 4
noncomputable abbrev fW:Stmt:=inClass (top 39) 5
noncomputable abbrev kG:Stmt:=inClass (top 39) 6
noncomputable abbrev fm:Stmt:=inClass (top 39) 7
noncomputable abbrev ft:Stmt:=inClass (top 39) 8
noncomputable abbrev jo:Stmt:=inClass (top 39) 9
noncomputable abbrev jq:Stmt:=inClass (top 39) 10
noncomputable abbrev kM:Stmt:=inClass (top 40) 0
noncomputable abbrev dR:Stmt:=inClass (top 40) 1
noncomputable abbrev dU:Stmt:=inClass (top 40) 2
noncomputable abbrev gJ:Stmt:=inClass (top 40) 3
noncomputable abbrev gK:Stmt:=inClass (top 40) 4
noncomputable abbrev CZ:Stmt:=top 42
noncomputable abbrev Az:Stmt:=top 43
noncomputable abbrev pX:Stmt:=top 44
noncomputable abbrev wR:Stmt:=top 45
noncomputable abbrev wU:Stmt:=top 46
noncomputable abbrev jt:Stmt:=inClass (top 47) 0
noncomputable abbrev cR:Stmt:=inClass (top 47) 1
noncomputable abbrev cS:Stmt:=inClass (top 47) 2
noncomputable abbrev jr:Stmt:=inClass (top 48) 0
noncomputable abbrev eE:Stmt:=inClass (top 48) 1
noncomputable abbrev eF:Stmt:=inClass (top 48) 2
noncomputable abbrev oa:Stmt:=top 49
noncomputable abbrev uy:Stmt:=top 50
noncomputable abbrev n_:Stmt:=top 54
noncomputable abbrev mj:Stmt:=top 55
noncomputable abbrev j1:Stmt:=top 56
noncomputable abbrev iz:Stmt:=inClass (top 57) 0
noncomputable abbrev kK:Stmt:=inClass (top 57) 1
noncomputable abbrev mq:Stmt:=inClass (top 57) 2
noncomputable abbrev oq:Stmt:=inClass (top 57) 3
noncomputable abbrev rh:Stmt:=inClass (top 57) 4
noncomputable abbrev mr:Stmt:=inClass (top 57) 5
noncomputable abbrev kL:Stmt:=inClass (top 57) 6
noncomputable abbrev mv:Stmt:=inClass (top 57) 7
noncomputable abbrev dQ:Stmt:=inClass (top 57) 8
noncomputable abbrev iX:Stmt:=inClass (top 57) 9
noncomputable abbrev sf:Stmt:=top 59
noncomputable abbrev n9:Stmt:=top 60
noncomputable abbrev qZ:Stmt:=top 61
noncomputable abbrev iW:Stmt:=top 62
noncomputable abbrev j4:Stmt:=top 63
noncomputable abbrev mi:Stmt:=top 64
noncomputable abbrev kE:Stmt:=top 65
noncomputable abbrev n6:Stmt:=top 66
noncomputable abbrev mh:Stmt:=top 67
noncomputable abbrev dP:Stmt:=top 68
noncomputable abbrev qW:Stmt:=top 69
noncomputable abbrev da:Stmt:=top 70
noncomputable abbrev G1:Stmt:=top 73
noncomputable abbrev g8:Stmt:=top 74
noncomputable abbrev fU:Stmt:=top 75
noncomputable abbrev c_:Stmt:=top 76
noncomputable abbrev fc:Stmt:=top 77
noncomputable abbrev qY:Stmt:=top 79
noncomputable abbrev eD:Stmt:=top 80
noncomputable abbrev sg:Stmt:=top 81
noncomputable abbrev oi:Stmt:=top 83
noncomputable abbrev q_:Stmt:=top 84
noncomputable abbrev og:Stmt:=top 85
noncomputable abbrev oh:Stmt:=top 86
noncomputable abbrev q9:Stmt:=top 87
noncomputable abbrev j5:Stmt:=top 88
noncomputable abbrev g9:Stmt:=top 89
noncomputable abbrev cM:Stmt:=top 90
noncomputable abbrev cx:Stmt:=top 91
noncomputable abbrev G0:Stmt:=top 92
theorem Bz:ak ["thing","low","high"] ["thing","low","high"] (af q8):=by walk_at "s0"
theorem Ar:ak ["thing"] ["thing"] (af n8):=by walk_at "s0"
theorem Fh:ak ["thing","least"] ["thing","least"] (af sj):=by walk_at "s0"
noncomputable def wK:Scope:={ kind:=.function,names:=[(".0",.local),("number",.local),("is_number",.globalImplicit)],isGenerator:=false,isCoroutine:=false,more:=[] }
theorem ub:Blk ["thing","least"] (af sj) wK ["number"] [none]:=by walk_at "s1"
theorem yW:ak ["sums","differences"] ["sums","differences"] (af mn):=by walk_at "s0"
theorem CV:ak ["height","width"] ["height","width"] (af uz):=by walk_at "s0"
theorem qV:ak ["thing","height","width"] ["thing","height","width"] (af fV):=by walk_at "s0"
theorem vg:ak ["thing","width"] ["thing"] (af jn):=by walk_at "s0"
noncomputable def ue:Scope:={ kind:=.function,names:=[(".0",.local),("row",.local),("len",.globalImplicit),("width",.free)],isGenerator:=false,isCoroutine:=false,more:=[] }
theorem pM:Blk ["thing","width"] (af jn) ue ["row","width"] [none,some 1]:=by walk_at "s1"
noncomputable def ud:Scope:={ kind:=.function,names:=[(".0",.local),("row",.local),("is_row",.globalImplicit)],isGenerator:=false,isCoroutine:=false,more:=[] }
theorem pK:Blk ["thing","width"] (af jn) ud ["row"] [none]:=by walk_at "s1"
theorem se:ak ["self","rows"] ["self","rows"] (af eH):=by walk_at "s0"
noncomputable def lQ:Scope:={ kind:=.function,names:=[(".0",.local),("row",.local),("tuple",.globalImplicit)],isGenerator:=false,isCoroutine:=false,more:=[] }
theorem ik:Blk ["self","rows"] (af eH) lQ ["row"] [none]:=by walk_at "s1"
theorem wk:ak ["self"] ["self"] (af ju):=by walk_at "s0"
theorem xy:ak ["self"] ["self"] (af kN):=by walk_at "s0"
theorem y3:ak ["self"] ["self"] (af iY):=by walk_at "s0"
noncomputable def ql:Scope:={ kind:=.function,names:=[(".0",.local),("row",.local),("list",.globalImplicit)],isGenerator:=false,isCoroutine:=false,more:=[] }
theorem lP:Blk ["self"] (af iY) ql ["row"] [none]:=by walk_at "s1"
theorem wj:ak ["self"] ["self"] (af fX):=by walk_at "s0"
noncomputable def nR:Scope:={ kind:=.function,names:=[(".0",.local),("y",.local),("x",.local),("range",.globalImplicit),("self",.free)],isGenerator:=false,isCoroutine:=false,more:=[] }
theorem fE:Blk ["self"] (af fX) nR ["y","x","self"] [none,none,some 0]:=by walk_at "s1"
theorem sd:ak ["self","thing"] ["self","thing"] (af gL):=by walk_at "s0"
theorem n5:ak ["self","place","y","x"] ["self","place"] (af rj):=by walk_at "s0"
theorem CU:ak ["thing"] ["thing"] (af ux):=by walk_at "s0"
theorem xp:ak ["thing"] ["thing"] (af kF):=by walk_at "s0"
theorem yV:ak ["plan","thing"] ["plan","thing"] (af ml):=by walk_at "s0"
theorem mS:ak ["field","low","high","place"] ["field","low","high"] (af jm):=by walk_at "s0"
theorem uu:ak ["plan","thing"] ["plan","thing"] (af ix):=by walk_at "s0"
theorem uv:ak ["plan","thing"] ["plan","thing"] (af iy):=by walk_at "s0"
theorem By:ak ["row"] ["row"] (af qX):=by walk_at "s0"
theorem CY:ak ["row"] ["row"] (af pY):=by walk_at "s0"
noncomputable def va:Scope:={ kind:=.function,names:=[(".0",.local),("first",.local),("second",.local)],isGenerator:=false,isCoroutine:=false,more:=[] }
theorem kW:Blk ["row"] (af pY) va ["first","second"] [none,none]:=by walk_at "s1"
theorem Aw:ak ["self"] ["self"] (af om):=by walk_at "s0"
theorem xu:ak ["self","row"] ["self","row"] (af kJ):=by walk_at "s0"
theorem Ax:ak ["self","sums","differences"] ["self","sums","differences"] (af oo):=by walk_at "s0"
theorem xq:ak ["self","row"] ["self","row"] (af kH):=by walk_at "s0"
theorem xr:ak ["self","sums","differences"] ["self","sums","differences"] (af kI):=by walk_at "s0"
theorem mT:ak ["self","row","sums"] ["self","row"] (af fW):=by walk_at "s0"
noncomputable def nQ:Scope:={ kind:=.function,names:=[(".0",.local),("first",.local),("second",.local),("self",.free)],isGenerator:=false,isCoroutine:=false,more:=[] }
theorem fB:Blk ["self","row","sums"] (af fW) nQ ["first","second","self"] [none,none,some 0]:=by walk_at "s1"
theorem fQ:ak ["self","sums","gaps","row","total","gap"] ["self","sums","gaps"] (af kG):=by walk_at "s0"
theorem qa:ak ["self","first","second"] ["self","first","second"] (af fm):=by walk_at "s0"
theorem qb:ak ["self","number"] ["self","number"] (af ft):=by walk_at "s0"
theorem mU:ak ["self","total","gap","first"] ["self","total","gap"] (af jo):=by walk_at "s0"
theorem wc:ak ["self","total"] ["self","total"] (af jq):=by walk_at "s0"
theorem xx:ak ["self"] ["self"] (af kM):=by walk_at "s0"
theorem nF:ak ["self","first","second"] ["self","first","second"] (af dR):=by walk_at "s0"
theorem nG:ak ["self","number"] ["self","number"] (af dU):=by walk_at "s0"
theorem j0:ak ["self","total","gap","first"] ["self","total","gap"] (af gJ):=by walk_at "s0"
theorem r_:ak ["self","total"] ["self","total"] (af gK):=by walk_at "s0"
theorem JS:ak ["numbers","at"] ["numbers","at"] (af CZ):=by walk_at "s0"
theorem rZ:ak ["firsts","seconds","row","first","second"] ["firsts","seconds"] (af Az):=by walk_at "s0"
theorem CW:ak ["firsts","many"] ["firsts","many"] (af pX):=by walk_at "s0"
noncomputable def u_:Scope:={ kind:=.function,names:=[(".0",.local),("at",.local),("near",.globalImplicit),("firsts",.free)],isGenerator:=false,isCoroutine:=false,more:=[] }
theorem qT:Blk ["firsts","many"] (af pX) u_ ["at","firsts"] [none,some 0]:=by walk_at "s1"
theorem GY:ak ["differences","many"] ["differences","many"] (af wR):=by walk_at "s0"
noncomputable def yI:Scope:={ kind:=.function,names:=[(".0",.local),("at",.local),("near",.globalImplicit),("differences",.free)],isGenerator:=false,isCoroutine:=false,more:=[] }
theorem vV:Blk ["differences","many"] (af wR) yI ["at","differences"] [none,some 0]:=by walk_at "s1"
theorem GZ:ak ["sums","many"] ["sums","many"] (af wU):=by walk_at "s0"
noncomputable def yJ:Scope:={ kind:=.function,names:=[(".0",.local),("at",.local),("near",.globalImplicit),("sums",.free)],isGenerator:=false,isCoroutine:=false,more:=[] }
theorem vW:Blk ["sums","many"] (af wU) yJ ["at","sums"] [none,some 0]:=by walk_at "s1"
theorem wg:ak ["self"] ["self"] (af jt):=by walk_at "s0"
theorem dC:ak ["self","row","firsts","seconds","differences","sums"] ["self","row"] (af cR):=by walk_at "s0"
noncomputable def lM:Scope:={ kind:=.function,names:=[(".0",.local),("first",.local),("lift",.local)],isGenerator:=false,isCoroutine:=false,more:=[] }
theorem ee:Blk ["self","row","firsts","seconds","differences","sums"] (af cR) lM ["first","lift"] [none,none]:=by walk_at "s1"
noncomputable def lL:Scope:={ kind:=.function,names:=[(".0",.local),("second",.local),("guess",.local)],isGenerator:=false,isCoroutine:=false,more:=[] }
theorem ed:Blk ["self","row","firsts","seconds","differences","sums"] (af cR) lL ["second","guess"] [none,none]:=by walk_at "s1"
theorem fR:ak ["self","sums","differences","firsts","seconds"] ["self","sums","differences"] (af cS):=by walk_at "s0"
noncomputable def lO:Scope:={ kind:=.function,names:=[(".0",.local),("less",.local),("guess",.local)],isGenerator:=false,isCoroutine:=false,more:=[] }
theorem eu:Blk ["self","sums","differences","firsts","seconds"] (af cS) lO ["less","guess"] [none,none]:=by walk_at "s1"
noncomputable def lN:Scope:={ kind:=.function,names:=[(".0",.local),("total",.local),("lift",.local)],isGenerator:=false,isCoroutine:=false,more:=[] }
theorem eg:Blk ["self","sums","differences","firsts","seconds"] (af cS) lN ["total","lift"] [none,none]:=by walk_at "s1"
theorem we:ak ["self"] ["self"] (af jr):=by walk_at "s0"
theorem jY:ak ["self","row","sums","gaps"] ["self","row"] (af eE):=by walk_at "s0"
noncomputable def lJ:Scope:={ kind:=.function,names:=[(".0",.local),("gap",.local),("lean",.local)],isGenerator:=false,isCoroutine:=false,more:=[] }
theorem dZ:Blk ["self","row","sums","gaps"] (af eE) lJ ["gap","lean"] [none,none]:=by walk_at "s1"
theorem jZ:ak ["self","sums","differences","gaps"] ["self","sums","differences"] (af eF):=by walk_at "s0"
noncomputable def lK:Scope:={ kind:=.function,names:=[(".0",.local),("less",.local),("lean",.local)],isGenerator:=false,isCoroutine:=false,more:=[] }
theorem d_:Blk ["self","sums","differences","gaps"] (af eF) lK ["less","lean"] [none,none]:=by walk_at "s1"
theorem Au:ak [] [] (af oa):=by walk_at "s0"
theorem xn:ak ["word","rule"] ["word"] (af uy):=by walk_at "s0"
theorem As:ak ["letter","height","width"] ["letter","height","width"] (af n_):=by walk_at "s0"
theorem eW:ak ["height","width","way","corners","letter"] ["height","width","way"] (af mj):=by walk_at "s0"
theorem fP:ak ["part","top","left","height","width"] ["part"] (af j1):=by walk_at "s0"
noncomputable def rP:Scope:={ kind:=.function,names:=[(".0",.local),("y",.local),("x",.local),("range",.globalImplicit),("left",.free),("width",.free)],isGenerator:=false,isCoroutine:=false,more:=[] }
theorem iG:Blk ["part","top","left","height","width"] (af j1) rP ["y","x","left","width"] [none,none,some 2,some 4]:=by walk_at "s1"
theorem uw:ak ["self","height","width","word","way"] ["self","height","width","word","way"] (af iz):=by walk_at "s0"
theorem xv:ak ["self"] ["self"] (af kK):=by walk_at "s0"
theorem yX:ak ["self"] ["self"] (af mq):=by walk_at "s0"
theorem Ay:ak ["self"] ["self"] (af oq):=by walk_at "s0"
theorem BB:ak ["self"] ["self"] (af rh):=by walk_at "s0"
theorem yY:ak ["self"] ["self"] (af mr):=by walk_at "s0"
theorem xw:ak ["self","step"] ["self","step"] (af kL):=by walk_at "s0"
theorem eX:ak ["self","height","width","parts","step"] ["self"] (af mv):=by walk_at "s0"
theorem ba:ak ["self","step","height","width","many_down","many_along","letter","parts"] ["self","step"] (af dQ):=by walk_at "s0"
theorem yZ:ak ["self"] ["self"] (af iX):=by walk_at "s0"
noncomputable def qk:Scope:={ kind:=.function,names:=[(".0",.local),("part",.local),("place",.local),("places_of",.globalImplicit)],isGenerator:=false,isCoroutine:=false,more:=[] }
theorem gZ:Blk ["self"] (af iX) qk ["part","place"] [none,none]:=by walk_at "s1"
theorem Fg:ak ["rows"] ["rows"] (af sf):=by walk_at "s0"
noncomputable def wG:Scope:={ kind:=.function,names:=[(".0",.local),("x",.cell),("rows",.free)],isGenerator:=false,isCoroutine:=false,more:=[] }
theorem t9:Blk ["rows"] (af sf) wG ["x","rows"] [none,some 0]:=by walk_at "s1"
noncomputable def wF:Scope:={ kind:=.function,names:=[(".0",.local),("x",.cell),("rows",.cell)],isGenerator:=false,isCoroutine:=false,more:=[] }
noncomputable def wD:Scope:={ kind:=.function,names:=[(".0",.local),("row",.local),("x",.free)],isGenerator:=false,isCoroutine:=false,more:=[] }
theorem t8:Blk ["x","rows"] (wF) wD ["row","x"] [none,some 0]:=by walk_at "s1"
theorem md:ak ["part","row","many","sums","differences"] ["part","row","many"] (af n9):=by walk_at "s0"
theorem vf:ak ["join","row","many","middle"] ["join","row","many"] (af qZ):=by walk_at "s0"
theorem yU:ak ["part","rows","height","width"] ["part","rows","height","width"] (af iW):=by walk_at "s0"
noncomputable def qj:Scope:={ kind:=.function,names:=[(".0",.local),("row",.local),("halve_row",.globalImplicit),("part",.free),("width",.free)],isGenerator:=false,isCoroutine:=false,more:=[] }
theorem lI:Blk ["part","rows","height","width"] (af iW) qj ["row","part","width"] [none,some 0,some 3]:=by walk_at "s1"
theorem Aq:ak ["join","rows","height","width"] ["join","rows","height","width"] (af j4):=by walk_at "s0"
noncomputable def rQ:Scope:={ kind:=.function,names:=[(".0",.local),("row",.local),("join_row",.globalImplicit),("join",.free),("width",.free)],isGenerator:=false,isCoroutine:=false,more:=[] }
theorem nC:Blk ["join","rows","height","width"] (af j4) rQ ["row","join","width"] [none,some 0,some 3]:=by walk_at "s1"
theorem dj:ak ["plan","part","rows","step","height","width","letter"] ["plan","part","rows","step"] (af mi):=by walk_at "s0"
theorem jl:ak ["plan","part","rows","step"] ["plan","part","rows"] (af kE):=by walk_at "s0"
theorem eC:ak ["plan","join","rows","step","height","width","letter"] ["plan","join","rows","step"] (af n6):=by walk_at "s0"
theorem kD:ak ["plan","join","rows","step","later"] ["plan","join","rows","step"] (af mh):=by walk_at "s0"
theorem zw:ak ["plan","picture","rule"] ["plan","picture"] (af dP):=by walk_at "s0"
theorem Bw:ak ["plan","numbers"] ["plan","numbers"] (af qW):=by walk_at "s0"
theorem lz:ak ["plan","numbers","step","height","width","rule","rows"] ["plan","numbers","step"] (af da):=by walk_at "s0"
noncomputable def wL:Scope:={ kind:=.function,names:=[(".0",.local),("row",.local),("width",.free)],isGenerator:=false,isCoroutine:=false,more:=[] }
theorem uc:Blk ["plan","numbers","step","height","width","rule","rows"] (af da) wL ["row","width"] [none,some 4]:=by walk_at "s1"
theorem Nh:ak ["marks","at"] ["marks","at"] (af G1):=by walk_at "s0"
theorem xo:ak ["row"] ["row"] (af g8):=by walk_at "s0"
noncomputable def pI:Scope:={ kind:=.function,names:=[(".0",.local),("first",.local),("second",.local)],isGenerator:=false,isCoroutine:=false,more:=[] }
theorem gn:Blk ["row"] (af g8) pI ["first","second"] [none,none]:=by walk_at "s1"
theorem wb:ak ["row"] ["row"] (af fU):=by walk_at "s0"
noncomputable def nO:Scope:={ kind:=.function,names:=[(".0",.local),("first",.local),("second",.local)],isGenerator:=false,isCoroutine:=false,more:=[] }
theorem fA:Blk ["row"] (af fU) nO ["first","second"] [none,none]:=by walk_at "s1"
theorem gI:ak ["row","differences","sums"] ["row"] (af c_):=by walk_at "s0"
noncomputable def mP:Scope:={ kind:=.function,names:=[(".0",.local),("at",.local),("first",.local),("has",.globalImplicit),("differences",.free)],isGenerator:=false,isCoroutine:=false,more:=[] }
theorem eS:Blk ["row","differences","sums"] (af c_) mP ["at","first","differences"] [none,none,some 1]:=by walk_at "s1"
noncomputable def mO:Scope:={ kind:=.function,names:=[(".0",.local),("at",.local),("has",.globalImplicit),("row",.free)],isGenerator:=false,isCoroutine:=false,more:=[] }
theorem iO:Blk ["row","differences","sums"] (af c_) mO ["at","row"] [none,some 0]:=by walk_at "s1"
theorem lu:ak ["row","sums"] ["row"] (af fc):=by walk_at "s0"
noncomputable def mM:Scope:={ kind:=.function,names:=[(".0",.local),("at",.local),("has",.globalImplicit),("sums",.free)],isGenerator:=false,isCoroutine:=false,more:=[] }
theorem iN:Blk ["row","sums"] (af fc) mM ["at","sums"] [none,some 1]:=by walk_at "s1"
theorem ve:ak ["word","row","deed"] ["word","row"] (af qY):=by walk_at "s0"
theorem r8:ak ["plan","word","marks","rows"] ["plan"] (af eD):=by walk_at "s0"
noncomputable def yL:Scope:={ kind:=.function,names:=[(".0",.local),("y",.local),("x",.local),("rows",.free)],isGenerator:=false,isCoroutine:=false,more:=[] }
theorem pJ:Blk ["plan","word","marks","rows"] (af eD) yL ["y","x","rows"] [none,none,some 3]:=by walk_at "s1"
noncomputable def yK:Scope:={ kind:=.function,names:=[(".0",.local),("line",.local),("plan",.free)],isGenerator:=false,isCoroutine:=false,more:=[] }
theorem vX:Blk ["plan","word","marks","rows"] (af eD) yK ["line","plan"] [none,some 0]:=by walk_at "s1"
theorem zv:ak ["height","width","start","along","down","number"] ["height","width","start","along","down"] (af sg):=by walk_at "s0"
noncomputable def wJ:Scope:={ kind:=.function,names:=[(".0",.local),("y",.cell),("range",.globalImplicit),("along",.free),("down",.free),("start",.free),("width",.free)],isGenerator:=false,isCoroutine:=false,more:=[] }
theorem ua:Blk ["height","width","start","along","down","number"] (af sg) wJ ["y","along","down","start","width"] [none,some 3,some 4,some 2,some 1]:=by walk_at "s1"
noncomputable def wI:Scope:={ kind:=.function,names:=[(".0",.local),("y",.cell),("range",.globalImplicit),("along",.cell),("down",.cell),("start",.cell),("width",.cell)],isGenerator:=false,isCoroutine:=false,more:=[] }
noncomputable def wH:Scope:={ kind:=.function,names:=[(".0",.local),("x",.local),("along",.free),("down",.free),("start",.free),("y",.free)],isGenerator:=false,isCoroutine:=false,more:=[] }
theorem t_:Blk ["y","along","down","start","width"] (wI) wH ["x","along","down","start","y"] [none,some 1,some 2,some 3,some 0]:=by walk_at "s1"
theorem Av:ak ["_law_script","_law_k"] ["_law_script","_law_k"] (af oi):=by walk_at "s0"
theorem BA:ak ["_law_cell_here"] ["_law_cell_here"] (af q_):=by walk_at "s0"
theorem iV:ak ["_law_box_here","_law_many","_law_digit","_law_number"] ["_law_box_here","_law_many"] (af og):=by walk_at "s0"
theorem r9:ak ["_law_box_here","_law_height"] ["_law_box_here"] (af oh):=by walk_at "s0"
theorem cv:ak ["_law_box_here","_law_size_here","_law_height","_law_width","_law_way_here","_law_lap","_law_letter"] ["_law_box_here","_law_size_here"] (af q9):=by walk_at "s0"
theorem mf:ak ["_law_plan","_law_places","_law_height","_law_width"] ["_law_plan","_law_places"] (af j5):=by walk_at "s0"
noncomputable def rR:Scope:={ kind:=.function,names:=[(".0",.local),("_law_place",.local),("_law_height",.free),("_law_width",.free)],isGenerator:=false,isCoroutine:=false,more:=[] }
theorem nD:Blk ["_law_plan","_law_places","_law_height","_law_width"] (af j5) rR ["_law_place","_law_height","_law_width"] [none,some 2,some 3]:=by walk_at "s1"
theorem n4:ak ["_law_plan","_law_field","_law_places","_law_numbers"] ["_law_plan","_law_field","_law_places"] (af g9):=by walk_at "s0"
noncomputable def pN:Scope:={ kind:=.function,names:=[(".0",.local),("_law_place",.local),("_law_numbers",.free)],isGenerator:=false,isCoroutine:=false,more:=[] }
theorem ku:Blk ["_law_plan","_law_field","_law_places","_law_numbers"] (af g9) pN ["_law_place","_law_numbers"] [none,some 3]:=by walk_at "s1"
theorem aN:ak ["_law_box_here","_law_size_here","_law_way_here","_law_flat","_law_start","_law_along","_law_down","_law_field","_law_several","_law_word","_law_plan","_law_places"] ["_law_box_here","_law_size_here","_law_way_here","_law_flat"] (af cM):=by walk_at "s0"
noncomputable def jL:Scope:={ kind:=.function,names:=[(".0",.local),("_law_y",.cell),("range",.globalImplicit),("_law_along",.free),("_law_down",.free),("_law_size_here",.free),("_law_start",.free)],isGenerator:=false,isCoroutine:=false,more:=[] }
theorem fJ:Blk ["_law_box_here","_law_size_here","_law_way_here","_law_flat","_law_start","_law_along","_law_down","_law_field","_law_several","_law_word","_law_plan","_law_places"] (af cM) jL ["_law_y","_law_along","_law_down","_law_size_here","_law_start"] [none,some 5,some 6,some 1,some 4]:=by walk_at "s1"
noncomputable def jK:Scope:={ kind:=.function,names:=[(".0",.local),("_law_y",.cell),("range",.globalImplicit),("_law_along",.cell),("_law_down",.cell),("_law_size_here",.cell),("_law_start",.cell)],isGenerator:=false,isCoroutine:=false,more:=[] }
noncomputable def jJ:Scope:={ kind:=.function,names:=[(".0",.local),("_law_x",.local),("_law_along",.free),("_law_down",.free),("_law_start",.free),("_law_y",.free)],isGenerator:=false,isCoroutine:=false,more:=[] }
theorem fI:Blk ["_law_y","_law_along","_law_down","_law_size_here","_law_start"] (jK) jJ ["_law_x","_law_along","_law_down","_law_start","_law_y"] [none,some 1,some 2,some 4,some 0]:=by walk_at "s1"
theorem aY:ak ["_law_box_here","_law_size_here","_law_way_here","_law_along","_law_bent","_law_rows","_law_y","_law_start","_law_plan","_law_numbers","_law_places"] ["_law_box_here","_law_size_here","_law_way_here"] (af cx):=by walk_at "s0"
noncomputable def kY:Scope:={ kind:=.function,names:=[(".0",.local),("_law_place",.local),("_law_bent",.free),("_law_numbers",.free)],isGenerator:=false,isCoroutine:=false,more:=[] }
theorem gB:Blk ["_law_box_here","_law_size_here","_law_way_here","_law_along","_law_bent","_law_rows","_law_y","_law_start","_law_plan","_law_numbers","_law_places"] (af cx) kY ["_law_place","_law_bent","_law_numbers"] [none,some 4,some 9]:=by walk_at "s1"
noncomputable def kX:Scope:={ kind:=.function,names:=[(".0",.local),("_law_x",.local),("_law_along",.free),("_law_bent",.free),("_law_start",.free)],isGenerator:=false,isCoroutine:=false,more:=[] }
theorem gA:Blk ["_law_box_here","_law_size_here","_law_way_here","_law_along","_law_bent","_law_rows","_law_y","_law_start","_law_plan","_law_numbers","_law_places"] (af cx) kX ["_law_x","_law_along","_law_bent","_law_start"] [none,some 3,some 4,some 7]:=by walk_at "s1"
theorem ur:ak ["_law_script","_law_k","_law_box_here","_law_size_here","_law_flat","_law_way_here"] ["_law_script"] (af G0):=by walk_at "s0"
set_option genInjectivity false in
set_option genSizeOf false in
structure Ad where
 a9:Addr
 bH:Addr
 iU:Addr
 aI:Addr
 aB:Addr
 aF:Addr
 aA:Addr
 aV:Addr
 a_:Addr
 yx:Addr
 vz:ej
 vJ:Addr
 tI:ej
 Cp:Addr
 zW:ej
 tZ:Addr
 qE:ej
 zZ:Addr
 yn:ej
 kn:Addr
 jC:ej
 yy:Addr
 vA:ej
 gU:Addr
 km:ej
 jH:Addr
 ny:ej
 kU:Addr
 pv:ej
 mK:Addr
 qL:ej
 jG:Addr
 nv:ej
 gT:Addr
 kj:ej
 rO:Addr
 vF:ej
 zX:Addr
 yj:ej
 qO:Addr
 o6:ej
 tY:Addr
 qD:ej
 pz:Addr
 m8:ej
 nz:Addr
 lF:ej
 nA:Addr
 lG:ej
 yt:Addr
 vw:ej
 z8:Addr
 yq:ej
 pA:Addr
 tQ:ej
 dv:Addr
 pb:ej
 fH:Addr
 tR:ej
 hV:Addr
 o9:ej
 hW:Addr
 o_:ej
 cV:Addr
 m9:ej
 du:Addr
 o8:ej
 c7:Addr
 iJ:ej
 c8:Addr
 iK:ej
 gk:Addr
 m_:ej
 gm:Addr
 nj:ej
 kT:Addr
 pq:ej
 cC:Addr
 gy:ej
 cF:Addr
 gz:ej
 eM:Addr
 kf:ej
 eN:Addr
 kg:ej
 IG:Addr
 EJ:ej
 EK:Addr
 Cm:ej
 z7:Addr
 yp:ej
 A6:Addr
 yl:ej
 A7:Addr
 ym:ej
 jF:Addr
 nu:ej
 gR:Addr
 kh:ej
 gS:Addr
 ki:ej
 jE:Addr
 nk:ej
 gP:Addr
 kd:ej
 gQ:Addr
 ke:ej
 vM:Addr
 tL:ej
 zY:Addr
 yk:ej
 vL:Addr
 tK:ej
 tX:Addr
 qB:ej
 vH:Addr
 tG:ej
 iE:Addr
 lH:ej
 kR:Addr
 ph:ej
 mE:Addr
 qF:ej
 pB:Addr
 tS:ej
 rN:Addr
 vE:ej
 mF:Addr
 qG:ej
 kS:Addr
 pj:ej
 mG:Addr
 qJ:ej
 dY:Addr
 gx:ej
 mJ:Addr
 qK:ej
 Cn:Addr
 zU:ej
 vK:Addr
 tJ:ej
 yw:Addr
 vy:ej
 tW:Addr
 qA:ej
 vI:Addr
 tH:ej
 tV:Addr
 qz:ej
 qM:Addr
 oZ:ej
 vG:Addr
 tF:ej
 tU:Addr
 qy:ej
 Cq:Addr
 uX:ej
 yr:Addr
 vt:ej
 Cr:Addr
 uY:ej
 MI:Addr
 IF:ej
 qN:Addr
 o5:ej
 cU:Addr
 m7:ej
 fh:Addr
 lE:ej
 fg:Addr
 lD:ej
 yu:Addr
 vx:ej
 EL:Addr
 yo:ej
 Co:Addr
 zV:ej
 vQ:Addr
 tP:ej
 yA:Addr
 vD:ej
 vN:Addr
 tM:ej
 vO:Addr
 tN:ej
 yz:Addr
 vC:ej
 vP:Addr
 tO:ej
 qP:Addr
 o7:ej
 iL:Addr
 ij:ej
 ko:Addr
 jD:ej
 IH:Addr
 DK:ej
 gi:Addr
 df:Addr
 gg:Addr
 eA:Addr
 i5:Addr
 gq:Addr
structure Txt (w:World) (K:Fg0) (mg:SV0) (a:Ad):Prop where
 bz:Cls K a.aI
 oR:mg "Field"=some (.ref a.aI)
 gX:Cls K a.aB
 Dw:mg "Guessed"=some (.ref a.aB)
 mk_Guessed:Mk0 K a.aB
 cq:Cls K a.aF
 FQ:mg "Halves"=some (.ref a.aF)
 mk_Halves:Mk0 K a.aF
 bV:Cls K a.aA
 Dv:mg "Leaning"=some (.ref a.aA)
 mk_Leaning:Mk0 K a.aA
 aP:Cls K a.aV
 Et:mg "Plan"=some (.ref a.aV)
 fi:Cls K a.a_
 KY:mg "Sums"=some (.ref a.a_)
 mk_Sums:Mk0 K a.a_
 eY:gr K a.aI "grid"
 oN:gr K a.aV "chosen"
 bU:gr K a.aV "corners"
 ff:gr K a.aV "letters"
 cu:PN K mg "ALONG_PILLARS" a.a9 ["p","b"]
 eP:PN K mg "ALONG_ROWS" a.bH ["r","b"]
 Ll:PR K w.params mg "MARKS" a.iU [("sum",a.cU),("half",a.cU),("guess",a.fh),("lean",a.fg)]
 tys:TyS K
 aL:FX K mg "is_whole" "is_whole" q8 a.yx a.vz ["thing","low","high"]
 jS:FX K mg "is_number" "is_number" n8 a.vJ a.tI ["thing"]
 cP:FX K mg "is_row" "is_row" sj a.Cp a.zW ["thing","least"]
 iT:FX K mg "are_halves" "are_halves" mn a.tZ a.qE ["sums","differences"]
 dh:FX K mg "is_size" "is_size" uz a.zZ a.yn ["height","width"]
 dz:FX K mg "is_place_within" "is_place_within" fV a.kn a.jC ["thing","height","width"]
 lZ:FX K mg "are_rows" "are_rows" jn a.yy a.vA ["thing"]
 cQ:FY K "__init__" "Field.__init__" eH a.gU a.km ["self","rows"]
 fO:FY K "height" "Field.height" ju a.jH a.ny ["self"]
 g7:FY K "width" "Field.width" kN a.kU a.pv ["self"]
 c5:FY K "rows" "Field.rows" iY a.mK a.qL ["self"]
 jg:FY K "places" "Field.places" fX a.jG a.nv ["self"]
 lg:FY K "is_place" "Field.is_place" gL a.gT a.kj ["self","thing"]
 l8:FY K "at" "Field.at" rj a.rO a.vF ["self","place"]
 gC:FX K mg "size_of" "size_of" ux a.zX a.yj ["thing"]
 g4:FX K mg "check_field" "check_field" kF a.qO a.o6 ["thing"]
 cY:FX K mg "check_size" "check_size" ml a.tY a.qD ["plan","thing"]
 b7:FX K mg "check_bounds" "check_bounds" jm a.pz a.m8 ["field","low","high"]
 e9:FX K mg "check_picture" "check_picture" ix a.nz a.lF ["plan","thing"]
 e_:FX K mg "check_numbers" "check_numbers" iy a.nA a.lG ["plan","thing"]
 bJ:FX K mg "pairs_of" "pairs_of" qX a.yt a.vw ["row"]
 gF:FX K mg "gaps_of" "gaps_of" pY a.z8 a.yq ["row"]
 nV:FY K "word" "Sums.word" om a.pA a.tQ ["self"]
 eU:FY K "halves" "Sums.halves" kJ a.dv a.pb ["self","row"]
 hZ:FY K "back" "Sums.back" oo a.fH a.tR ["self","sums","differences"]
 kz:FY K "parted" "Sums.parted" kH a.hV a.o9 ["self","row"]
 kA:FY K "joined" "Sums.joined" kI a.hW a.o_ ["self","sums","differences"]
 fN:FY K "sums_of" "Sums.sums_of" fW a.cV a.m9 ["self","row"]
 g6:FY K "row_of" "Sums.row_of" kG a.du a.o8 ["self","sums","gaps"]
 jc:FY K "sum_of_pair" "Sums.sum_of_pair" fm a.c7 a.iJ ["self","first","second"]
 jd:FY K "sum_of_lone" "Sums.sum_of_lone" ft a.c8 a.iK ["self","number"]
 nW:FY K "pair_of" "Sums.pair_of" jo a.gk a.m_ ["self","total","gap"]
 nX:FY K "lone_of" "Sums.lone_of" jq a.gm a.nj ["self","total"]
 kC:FY K "word" "Halves.word" kM a.kT a.pq ["self"]
 dN:FY K "sum_of_pair" "Halves.sum_of_pair" dR a.cC a.gy ["self","first","second"]
 dO:FY K "sum_of_lone" "Halves.sum_of_lone" dU a.cF a.gz ["self","number"]
 gG:FY K "pair_of" "Halves.pair_of" gJ a.eM a.kf ["self","total","gap"]
 gH:FY K "lone_of" "Halves.lone_of" gK a.eN a.kg ["self","total"]
 eR:FX K mg "near" "near" CZ a.IG a.EJ ["numbers","at"]
 wN:FX K mg "woven" "woven" Az a.EK a.Cm ["firsts","seconds"]
 gE:FX K mg "guesses" "guesses" pX a.z7 a.yp ["firsts","many"]
 lV:FX K mg "lifts" "lifts" wR a.A6 a.yl ["differences","many"]
 lW:FX K mg "leans" "leans" wU a.A7 a.ym ["sums","many"]
 jf:FY K "word" "Guessed.word" jt a.jF a.nu ["self"]
 k9:FY K "parted" "Guessed.parted" cR a.gR a.kh ["self","row"]
 k_:FY K "joined" "Guessed.joined" cS a.gS a.ki ["self","sums","differences"]
 je:FY K "word" "Leaning.word" jr a.jE a.nk ["self"]
 k7:FY K "parted" "Leaning.parted" eE a.gP a.kd ["self","row"]
 k8:FY K "joined" "Leaning.joined" eF a.gQ a.ke ["self","sums","differences"]
 jV:FX K mg "all_rules" "all_rules" oa a.vM a.tL []
 pT:FX K mg "rule_of" "rule_of" uy a.zY a.yk ["word"]
 jU:FX K mg "can_halve" "can_halve" n_ a.vL a.tK ["letter","height","width"]
 iS:FX K mg "corners_of" "corners_of" mj a.tX a.qB ["height","width","way"]
 jR:FX K mg "places_of" "places_of" j1 a.vH a.tG ["part"]
 iu:FY K "__init__" "Plan.__init__" iz a.iE a.lH ["self","height","width","word","way"]
 kB:FY K "height" "Plan.height" kK a.kR a.ph ["self"]
 l7:FY K "width" "Plan.width" mq a.mE a.qF ["self"]
 dM:FY K "rule" "Plan.rule" oq a.pB a.tS ["self"]
 qU:FY K "way" "Plan.way" rh a.rN a.vE ["self"]
 cZ:FY K "steps" "Plan.steps" mr a.mF a.qG ["self"]
 eV:FY K "corner" "Plan.corner" kL a.kS a.pj ["self","step"]
 rV:FY K "parts" "Plan.parts" mv a.mG a.qJ ["self"]
 h9:FY K "parts_of_step" "Plan.parts_of_step" dQ a.dY a.gx ["self","step"]
 rW:FY K "order" "Plan.order" iX a.mJ a.qK ["self"]
 cO:FX K mg "turned" "turned" sf a.Cn a.zU ["rows"]
 jT:FX K mg "halve_row" "halve_row" n9 a.vK a.tJ ["part","row","many"]
 lX:FX K mg "join_row" "join_row" qZ a.yw a.vy ["join","row","many"]
 cX:FX K mg "halve_rows" "halve_rows" iW a.tW a.qA ["part","rows","height","width"]
 dH:FX K mg "join_rows" "join_rows" j4 a.vI a.tH ["join","rows","height","width"]
 iR:FX K mg "step_forth" "step_forth" mi a.tV a.qz ["plan","part","rows","step"]
 cH:FX K mg "steps_forth" "steps_forth" kE a.qM a.oZ ["plan","part","rows"]
 jQ:FX K mg "step_back" "step_back" n6 a.vG a.tF ["plan","join","rows","step"]
 iQ:FX K mg "steps_back" "steps_back" mh a.tU a.qy ["plan","join","rows","step"]
 jb:FX K mg "halved" "halved" dP a.Cq a.uX ["plan","picture"]
 Gn:a.uX.code=.ref a.gg
 Gd:SC K a.gg a.eA=true
 fj:FX K mg "put_back" "put_back" qW a.yr a.vt ["plan","numbers"]
 rT:FX K mg "coarse" "coarse" da a.Cr a.uY ["plan","numbers","step"]
 Gp:a.uY.code=.ref a.gi
 Ge:SC K a.gi a.df=true
 fL:FX K mg "has" "has" G1 a.MI a.IF ["marks","at"]
 cI:FX K mg "paired_sums" "paired_sums" g8 a.qN a.o5 ["row"]
 ja:FX K mg "paired_marks" "paired_marks" fU a.cU a.m7 ["row"]
 ir:FX K mg "guessed_marks" "guessed_marks" c_ a.fh a.lE ["row"]
 iq:FX K mg "leaning_marks" "leaning_marks" fc a.fg a.lD ["row"]
 lU:FX K mg "marks_of" "marks_of" qY a.yu a.vx ["word","row"]
 lY:FX K mg "inner" "inner" eD a.EL a.yo ["plan"]
 Ja:a.yo.code=.ref a.i5
 Im:SC K a.i5 a.gq=true
 rS:FX K mg "rising" "rising" sg a.Co a.zV ["height","width","start","along","down"]
 jX:FX K mg "_law_cell" "_law_cell" oi a.vQ a.tP ["_law_script","_law_k"]
 l6:FX K mg "_law_box" "_law_box" q_ a.yA a.vD ["_law_cell_here"]
 ao:FX K mg "_law_take" "_law_take" og a.vN a.tM ["_law_box_here","_law_many"]
 jW:FX K mg "_law_size" "_law_size" oh a.vO a.tN ["_law_box_here"]
 l5:FX K mg "_law_way" "_law_way" q9 a.yz a.vC ["_law_box_here","_law_size_here"]
 dJ:FX K mg "_law_fine" "_law_fine" j5 a.vP a.tO ["_law_plan","_law_places"]
 g5:FX K mg "_law_nought" "_law_nought" g9 a.qP a.o7 ["_law_plan","_law_field","_law_places"]
 cL:FX K mg "_law_rising_right" "_law_rising_right" cM a.iL a.ij ["_law_box_here","_law_size_here","_law_way_here","_law_flat"]
 dA:FX K mg "_law_bent_right" "_law_bent_right" cx a.ko a.jD ["_law_box_here","_law_size_here","_law_way_here"]
 PX:FX K mg "law" "law" G0 a.IH a.DK ["_law_script"]
 mk_Field:Mk K a.aI a.gU
 mk_Plan:Mk K a.aV a.iE
 iD:Meth K a.aI "height" a.jH
 jA:Meth K a.aI "width" a.kU
 dr:Meth K a.aI "rows" a.mK
 m6:Meth K a.aI "places" a.jG
 tm:Meth K a.aI "is_place" a.gT
 oQ:Meth K a.aI "at" a.rO
 m4:Meth K a.aB "word" a.jF
 s8:Meth K a.aB "parted" a.gR
 s_:Meth K a.aB "joined" a.gS
 tj:Meth K a.aB "halves" a.dv
 wB:Meth K a.aB "back" a.fH
 Dn:Meth K a.aB "sums_of" a.cV
 Es:Meth K a.aB "row_of" a.du
 AY:Meth K a.aB "sum_of_pair" a.c7
 AZ:Meth K a.aB "sum_of_lone" a.c8
 Dp:Meth K a.aB "pair_of" a.gk
 Dq:Meth K a.aB "lone_of" a.gm
 oP:Meth K a.aF "word" a.kT
 nK:Meth K a.aF "sum_of_pair" a.cC
 nL:Meth K a.aF "sum_of_lone" a.cF
 sY:Meth K a.aF "pair_of" a.eM
 sZ:Meth K a.aF "lone_of" a.eN
 uN:Meth K a.aF "halves" a.dv
 x9:Meth K a.aF "back" a.fH
 uL:Meth K a.aF "parted" a.hV
 uM:Meth K a.aF "joined" a.hW
 sX:Meth K a.aF "sums_of" a.cV
 uK:Meth K a.aF "row_of" a.du
 mZ:Meth K a.aA "word" a.jE
 sU:Meth K a.aA "parted" a.gP
 sV:Meth K a.aA "joined" a.gQ
 mx:Meth K a.aA "sum_of_pair" a.cC
 my:Meth K a.aA "sum_of_lone" a.cF
 rJ:Meth K a.aA "pair_of" a.eM
 rK:Meth K a.aA "lone_of" a.eN
 sW:Meth K a.aA "halves" a.dv
 wA:Meth K a.aA "back" a.fH
 rH:Meth K a.aA "sums_of" a.cV
 sR:Meth K a.aA "row_of" a.du
 oO:Meth K a.aV "height" a.kR
 qv:Meth K a.aV "width" a.mE
 eL:Meth K a.aV "rule" a.pB
 vn:Meth K a.aV "way" a.rN
 dq:Meth K a.aV "steps" a.mF
 gf:Meth K a.aV "corner" a.kS
 zd:Meth K a.aV "parts" a.mG
 nJ:Meth K a.aV "parts_of_step" a.dY
 ze:Meth K a.aV "order" a.mJ
 sQ:Meth K a.a_ "word" a.pA
 x8:Meth K a.a_ "halves" a.dv
 AX:Meth K a.a_ "back" a.fH
 x5:Meth K a.a_ "parted" a.hV
 x6:Meth K a.a_ "joined" a.hW
 wu:Meth K a.a_ "sums_of" a.cV
 xZ:Meth K a.a_ "row_of" a.du
 qe:Meth K a.a_ "sum_of_pair" a.c7
 qf:Meth K a.a_ "sum_of_lone" a.c8
 wx:Meth K a.a_ "pair_of" a.gk
 wz:Meth K a.a_ "lone_of" a.gm
 qS:∃ t,mg "MOST_HALVED"=some (.int 1000000000 t)
 qR:∃ t,mg "MOST_NUMBER"=some (.int 999999999999999 t)
 zj:∃ t,mg "MOST_PLACES"=some (.int 512 t)
 vT:∃ t,mg "MOST_RISE"=some (.int 1000000 t)
 kr:∃ t,mg "MOST_SIDE"=some (.int 64 t)
 t7:∃ t,mg "MOST_VALUE"=some (.int 100000 t)
 Il:MW K a.aI
 z_all:mg "all"=none
 z_bool:mg "bool"=none
 z_enumerate:mg "enumerate"=none
 z_int:mg "int"=none
 z_isinstance:mg "isinstance"=none
 z_len:mg "len"=none
 z_list:mg "list"=none
 z_max:mg "max"=none
 z_min:mg "min"=none
 z_range:mg "range"=none
 z_reversed:mg "reversed"=none
 z_str:mg "str"=none
 z_tuple:mg "tuple"=none
 z_zip:mg "zip"=none
 ty:i8 K
noncomputable abbrev il (a:Li0):D:=.lst (a.map .int)
def Fig (a:Li0):Prop:=∀ n∈a,-1000000000000000 < n/\n < 1000000000000000
theorem snoc{f:Nat->D}{d:D}(h:d=f k):(ck k).map f++[d]=(ck (k + 1)).map f:=by
 rw[OS,ih,h];rfl
theorem ints_get{a:Li0}{d:D}(h:(a.map D.int)[k]?=some d):k < a.length/\d=.int (a.getD k 0):=by
 have lt:k < a.length:=by have:=(gS0 h).1;simpa using this
 rw[dV,gE0 lt] at h;cases h;exact⟨lt,by simp [rp,lt]⟩
theorem mz{f:Nat->D}{d:D}(h:((ck n).map f)[k]?=some d):k < n/\d=f k:=by
 have lt:k < n:=by have:=(gS0 h).1;simpa using this
 rw[dV,yM lt] at h;cases h;exact⟨lt,rfl⟩
theorem Li{a:Li0}(f:Fig a)(h:k < a.length):-1000000000000000 < a.getD k 0/\a.getD k 0 < 1000000000000000:=by
 have:a.getD k 0=a[k]:=by simp [rp,h]
 rw[this];exact f _ (Jt h)
theorem small(h:n<=1000):n < sizeLine:=by rw[gp];lia
theorem j6(f:Nat->Int)(n:Nat):(ck n).map (λj=>D.int (f j))=((ck n).map f).map D.int:=by rw[oj];rfl
theorem AI{a c:Type}(f:a->c)(xs:List a)(lo b st:Option Int):pk (xs.map f) lo b st=(pk xs lo b st).map f:=by
 unfold pk;rw[lM0,Xo]
 congr 1
 funext x
 rw[dV]
theorem Hx{a:Type}(xs:List a)(d:a)(lo b st:Option Int):pk xs lo b st=(pk ((ck xs.length).map Vw) lo b st).map λi=>xs.getD i.toNat d:=by
 unfold pk;rw[lM0,rq,Xo]
 congr 1
 funext j
 rw[dV];by_cases h:j < xs.length
 .rw[yM h,gE0 h];simp [rp,h]
 .rw[pa (by lia),pa (by rw[rq];lia)];rfl
theorem EF{a b:Li0}(h:a.map V.int=b.map V.int):a=b:=List.map_inj_right (λ_ _ q=>by cases q;rfl) |>.mp h
theorem S6(a:Li0):pk a (some 0) none (some 2)=(ck ((a.length + 1) / 2)).map λk=>a.getD (2 * k) 0:=by
 have h:=QE a;have e:oA (a.map V.int) (some 0) none (some 2)=(pk a (some 0) none (some 2)).map V.int:=AI V.int a _ _ _;rw[e,show (ck ((a.length + 1) / 2)).map (λk=>V.int (a.getD (2 * k) 0))=((ck ((a.length + 1) / 2)).map λk=>a.getD (2 * k) 0).map V.int by rw[oj];rfl] at h;exact EF h
theorem S5(a:Li0):pk a (some 1) none (some 2)=(ck (a.length / 2)).map λk=>a.getD (2 * k + 1) 0:=by
 have h:=QD a;have e:oA (a.map V.int) (some 1) none (some 2)=(pk a (some 1) none (some 2)).map V.int:=AI V.int a _ _ _;rw[e,show (ck (a.length / 2)).map (λk=>V.int (a.getD (2 * k + 1) 0))=((ck (a.length / 2)).map λk=>a.getD (2 * k + 1) 0).map V.int by rw[oj];rfl] at h;exact EF h
theorem Kh{a:Type}(f:a->D)(z:a)(xs:List a):pk (xs.map f) (some 0) none (some 2)=(ck ((xs.length + 1) / 2)).map λk=>f (xs.getD (2 * k) z):=by
 rw[AI,Hx xs z,S6,lM0,rq,oj,oj];refine Pg λj b=>?_;have b:=rk.mp b;show f (xs.getD (((ck xs.length).map Vw).getD (2 * j) 0).toNat z)=f (xs.getD (2 * j) z);have e:((ck xs.length).map Vw).getD (2 * j) 0=Vw (2 * j):=by simp [rp,show 2 * j < xs.length by lia]
 rw[e];rfl
theorem NN{a:Type}(f:a->D)(z:a)(xs:List a):pk (xs.map f) (some 1) none (some 2)=(ck (xs.length / 2)).map λk=>f (xs.getD (2 * k + 1) z):=by
 rw[AI,Hx xs z,S5,lM0,rq,oj,oj];refine Pg λj b=>?_;have b:=rk.mp b;show f (xs.getD (((ck xs.length).map Vw).getD (2 * j + 1) 0).toNat z)=f (xs.getD (2 * j + 1) z);have e:((ck xs.length).map Vw).getD (2 * j + 1) 0=Vw (2 * j + 1):=by simp [rp,show 2 * j + 1 < xs.length by lia]
 rw[e];rfl
noncomputable def prG {a:Type}(f:a->D)(z:a)(xs:List a):List D:=(ck (xs.length / 2)).map λj=>.tup [f (xs.getD (2 * j) z),f (xs.getD (2 * j + 1) z)]
theorem MX{f g:Nat->D}{m:Nat}(a:n<=m):ky ((ck m).map f) ((ck n).map g)=(ck n).map λj=>.tup [f j,g j]:=by
 refine Tz λi=>?_;unfold ky;by_cases h:i < n
 .rw[dV,dV,yM h];have:(((ck m).map f).zip ((ck n).map g))[i]?=some (f i,g i):=by
   rw[Nn];exact⟨by rw[dV,yM (by lia)];rfl,by rw[dV,yM h];rfl⟩
  rw[this];rfl
 .rw[pa (by simp;lia),pa (by simp;lia)]
section
variable {mg:SV0}{a:Ad}
noncomputable def whD (d:D)(lo a:Int):Bool:=match d with
 | .int i=>decide (lo<=i) && decide (i<=a)
 | _=>false
def JC:S3:=λΓ Q=>∃ (d:D) (lo hi:Int),Γ=[some (.fz d),some (.fz (.int lo)),some (.fz (.int hi))]/\knD d=true/\Q (.fz (.bl (whD d lo hi))) Γ
theorem cW(T:Txt w K mg a):aC P w K mg base CX0 1 a.yx a.vz ["thing","low","high"] (sp3 K 3 JC):=by
 refine ok3 T.aL.F Bz (hbody:=λf A b s H E g=>⟨_,_,(ah (br (P3W.pt (kP (bj (aw (Sy T.ty) (by rfl) T.z_isinstance (by decide +kernel) (aa (bv 0) (aa (P3.opd (zE (n:="bool") (by rfl) T.z_bool (by decide +kernel))) ab)))) (hU (bC (bj (aw (Sx T.ty) (by rfl) T.z_isinstance (by decide +kernel) (aa (bv 0) (aa (P3.opd (zE (n:="int") (by rfl) T.z_int (by decide +kernel))) ab)))))))) (ai (ar fG)) aQ)
   (ai (ar (BR vU vU (bv 1) (bv 0) (bv 2))))),λc Q h j=>?_⟩)
 obtain⟨d,lo,k,rfl,e,q⟩:=h;cases d <;> (try cases e) <;> walk_at "w" <;> (try exact q)
 rename_i i;by_cases h:lo<=i
 .simp only[qg,h,decide_true];simpa only[whD,h,decide_true,Bool.true_and] using q
 .simp only[qg,h,decide_false];simpa only[whD,h,decide_false,Ym] using q
def HW:S3:=λΓ Q=>∃ (d:D),Γ=[some (.fz d)]/\knD d=true/\Q (.fz (.bl (whD d (-999999999999999) 999999999999999))) Γ
theorem AO(T:Txt w K mg a):aC P w K mg base CX0 2 a.vJ a.tI ["thing"] (sp3 K 1 HW):=by
 refine ok3 T.jS.F Ar (hbody:=λg A b s H E e=>⟨_,_,(ai (ar (aj (by rfl) (cW T) e.dn (by rfl) T.aL.m T.aL.F.kp T.aL.b (aa (P3.opd (p3v 0)) (aa (P3.opd (jw (P3.opd (eJ (i:=999999999999999) (by rfl) T.qR)))) (aa (P3.opd (eJ (i:=999999999999999) (by rfl) T.qR)) ab)))))),λc Q h j=>?_⟩);obtain⟨d,rfl,f,q⟩:=h;walk_at "w";exact⟨d,_,_,rfl,f,q⟩
theorem JD{n:Int}(h:-1000000000000000 < n/\n < 1000000000000000):whD (.int n) (-999999999999999) 999999999999999=true:=by
 simp only[whD,ng,decide_eq_true_eq];lia
def Ql:S3:=λΓ Q=>∃ (ns:Li0) (a:Int),Γ=[some (.fz (il ns)),some (.fz (.int a))]/\Fig ns/\ns.length<=64/\a<=(ns.length:Int)/\Q (.fz (.bl true)) Γ
theorem p6(T:Txt w K mg a):aC P w K mg base CX0 3 a.Cp a.zW ["thing","least"] (sp3 K 2 Ql):=by
 refine ok3 T.cP.F Fh (hbody:=λt A g s H E l=>⟨_,_,(ah (br (P3W.pt (kP (bC (bj (aw (MQ T.ty) (by rfl) T.z_isinstance (by decide +kernel) (aa (bv 0) (aa (P3.opd (zE (n:="list") (by rfl) T.z_list (by decide +kernel))) ab))))) (hU (bC (FA vU vU (bv 1) (P3.opd (aw (bR (by rfl)) (by rfl) T.z_len (by decide +kernel) (aa (bv 0) ab))) (P3.opd (eJ (i:=64) (by rfl) T.kr))))))) (ai (ar fG)) aQ)
   (ai (ar (aw (Jm (by rfl) rfl) (by rfl) T.z_all (by decide +kernel) (aa (P3.opd (bF rfl (bI (by rfl) (p3v 0)) ub (λ_ _ _ _ _=>(aK (i:=0) ub.nd rfl (gs rfl))) (λ_ _ _ _ _=>(aj (by rfl) (AO T) l.dn (by rfl) T.jS.m T.jS.F.kp T.jS.b (aa (P3.opd (p3v 0)) ab))))) ab))))),λj Q h u=>?_⟩)
 obtain⟨e,c,rfl,o,v,r,q⟩:=h;walk_at "w";rw[lM0,show qg c (e.length:Int)=true by simp only[qg,r,decide_true],show qg (e.length:Int) 64=true by simp only[qg,decide_eq_true_eq];lia];walk_at "w";refine⟨small (by rw[lM0];lia),aO (λk f b=>f=(ck k).map (λ_=>D.bl true)/\∃ s,b=[fo s]) ⟨rfl,none,rfl⟩ ?_ ?_⟩
 .rintro k d f b p m ⟨rfl,s,rfl⟩;obtain⟨lt,rfl⟩:=ints_get p;walk_at "w";refine⟨_,rfl,rfl,?_⟩;rw[JD (Li o lt)];walk_at "w";exact⟨snoc rfl,some _,rfl⟩
 .rintro f b m ⟨rfl,s,rfl⟩;walk_at "w";refine⟨(ck e.length).map λ_=>true,by rw[lM0,oj];rfl,?_⟩;have:((ck e.length).map λ_=>true).all id=true:=by simp
  rw[this];exact q
def RK (f:Int->Int->Int):S3:=λΓ Q=>∃ (d:D) (x y:Int),Γ=[some (.fz d),some (.fz (.int x)),some (.fz (.int y))]/\Q (.fz (.int (f x y))) Γ
def La (f:Int->Int):S3:=λΓ Q=>∃ (d:D) (x:Int),Γ=[some (.fz d),some (.fz (.int x))]/\Q (.fz (.int (f x))) Γ
theorem qc(T:Txt w K mg a):aC P w K mg base CX0 1 a.c7 a.iJ ["self","first","second"] (sp3 K 3 (RK λx y=>x + y)):=by
 refine ok3 T.jc.F qa (hbody:=λe A b s H E f=>⟨_,_,(ai (ar (aJ (bv 1) (bv 2)))),λc Q h g=>?_⟩);obtain⟨d,x,y,rfl,q⟩:=h;walk_at "w";exact q
theorem qd(T:Txt w K mg a):aC P w K mg base CX0 1 a.c8 a.iK ["self","number"] (sp3 K 2 (La λx=>2 * x)):=by
 refine ok3 T.jd.F qb (hbody:=λe A b s H E f=>⟨_,_,(ai (ar (dX (P3.opd ag) (bv 1)))),λc Q h g=>?_⟩);obtain⟨d,x,rfl,q⟩:=h;walk_at "w";exact⟨.inl ⟨by decide,by decide⟩,q⟩
theorem gv(T:Txt w K mg a):aC P w K mg base CX0 1 a.cC a.gy ["self","first","second"] (sp3 K 3 (RK λx y=>(x + y) / 2)):=by
 refine ok3 T.dN.F nF (hbody:=λe A b s H E f=>⟨_,_,(ai (ar (cg (P3.opd (aJ (bv 1) (bv 2))) (P3.opd ag)))),λc Q h g=>?_⟩);obtain⟨d,x,y,rfl,q⟩:=h;walk_at "w";exact⟨⟨by decide,by decide⟩,q⟩
theorem gw(T:Txt w K mg a):aC P w K mg base CX0 1 a.cF a.gz ["self","number"] (sp3 K 2 (La λx=>x)):=by
 refine ok3 T.dO.F nG (hbody:=λe A b s H E f=>⟨_,_,(ai (ar (rB 1))),λc Q h g=>?_⟩);obtain⟨d,x,rfl,q⟩:=h;walk_at "w";exact q
noncomputable def nrF (a:Li0)(k:Int):Int:=a.getD (fmin (fmax k 0) ((a.length:Int) - 1)).toNat 0
def Oi:S3:=λΓ Q=>∃ (ns:Li0) (k:Int),Γ=[some (.fz (il ns)),some (.fz (.int k))]/\1<=ns.length/\Q (.fz (.int (nrF ns k))) Γ
theorem sF(T:Txt w K mg a):aC P w K mg base CX0 1 a.IG a.EJ ["numbers","at"] (sp3 K 2 Oi):=by
 refine ok3 T.eR.F JS (hbody:=λd A b s H E f=>⟨_,_,(ai (ar (aR (by rfl) (bv 0) (P3.opd (aw (Jj rfl) (by rfl) T.z_min (by decide +kernel) (aa (P3.opd (aw (Jk rfl) (by rfl) T.z_max (by decide +kernel) (aa (bv 1) (aa (P3.opd ag) ab)))) (aa (P3.opd (bK (P3.opd (aw (bR (by rfl)) (by rfl) T.z_len (by decide +kernel) (aa (bv 0) ab))) (P3.opd ag))) ab)))) (λ_ _=>rfl)))),λc Q h g=>?_⟩);obtain⟨e,k,rfl,i,q⟩:=h;walk_at "w";rw[lM0];exact bX.mpr ⟨_,EZ (by simp only[fmin,fmax];split <;> split <;> lia) (by simp only[fmin,fmax];split <;> split <;> lia),q⟩
def Kv:S3:=λΓ Q=>∃ (α:Type) (f:α->D) (z:α) (xs:List α),Γ=[some (.fz (.lst (xs.map f)))]/\xs.length<=64/\Q (.fr (.lst (prG f z xs))) Γ
theorem j_(T:Txt w K mg a):aC P w K mg base CX0 1 a.yt a.vw ["row"] (sp3 K 1 Kv):=by
 refine ok3 T.bJ.F By (hbody:=λd A b s H E i=>⟨_,_,(ai (ar (De rfl (by rfl) T.z_list (by rfl) T.z_zip (aa (P3.opd (lA (by rfl) (bv 0) (bg (P3.opd ag)) bP (bg (P3.opd ag)))) (aa (P3.opd (lA (by rfl) (bv 0) (bg (P3.opd ag)) bP (bg (P3.opd ag)))) ab))))),λc Q h j=>?_⟩);obtain⟨e,f,z,g,rfl,k,q⟩:=h;walk_at "w";refine⟨by decide,by decide,?_,?_⟩
 .rw[Kh f z,NN f z];simp only[lM0,rq,gp];lia
 .rw[Kh f z,NN f z,MX (by lia)];exact q
noncomputable abbrev xK (a:Li0):List D:=prG D.int 0 a
noncomputable def rg (f:Nat->Int)(k:Nat):Li0:=(ck k).map f
noncomputable def eQ (a:Li0):Li0:=rg (λj=>a.getD (2 * j) 0 - a.getD (2 * j + 1) 0) (a.length / 2)
def KZ (f:Li0->Li0):S3:=λΓ Q=>∃ (ns:Li0),Γ=[some (.fz (il ns))]/\ns.length<=64/\Q (.fr (il (f ns))) Γ
theorem xU(T:Txt w K mg a):aC P w K mg base CX0 2 a.z8 a.yq ["row"] (sp3 K 1 (KZ eQ)):=by
 refine ok3 T.gF.F CY (hbody:=λr A f s H E m=>⟨_,_,(ai (ar (bF rfl (bI (by rfl) (aj (by rfl) (j_ T) m.dn (by rfl) T.bJ.m T.bJ.F.kp T.bJ.b (aa (P3.opd (p3v 0)) ab))) kW (λ_ _ _ _ _=>(gj (is:=[0,1]) (by rfl) (av (ax (i:=0) kW.nd rfl (gs rfl)) (av (ax (i:=1) kW.nd rfl (gs rfl)) bA)) rfl)) (λ_ _ _ _ _=>(bK (bv 0) (bv 1)))))),λl Q h t=>?_⟩);obtain⟨g,rfl,p,q⟩:=h;walk_at "w";refine⟨Int,.int,0,g,rfl,p,?_⟩;walk_at "w";refine⟨small (by simp only[xK,prG,lM0,rq];lia),aO (λk c b=>c=(ck k).map (λj=>D.int (g.getD (2 * j) 0 - g.getD (2 * j + 1) 0))/\∃ s e,b=[fo s,fo e]) ⟨rfl,none,none,rfl⟩ ?_ ?_⟩
 .rintro k d c b o n ⟨rfl,s,e,rfl⟩;obtain⟨lt,rfl⟩:=mz o;walk_at "w";exact⟨snoc rfl,some _,some _,rfl⟩
 .rintro c b n ⟨rfl,s,e,rfl⟩;walk_at "w";simp only[xK,prG,lM0,rq];rw[j6];exact q
inductive Rl where
 | sum | half | guess | lean
noncomputable def Rl.cls (a:Ad):Rl->Addr
 | .sum=>a.a_ | .half=>a.aF | .guess=>a.aB | .lean=>a.aA
noncomputable abbrev Rl.ob (a:Ad)(R:Rl):D:=.ins (R.cls a) [] []
noncomputable def bM (p:Int->Int->Int)(l:Int->Int)(a:Li0):Li0:=rg (λj=>p (a.getD (2 * j) 0) (a.getD (2 * j + 1) 0)) (a.length / 2)++(if a.length % 2=1 then [l (a.getD (a.length - 1) 0)] else [])
noncomputable def Rl.pair:Rl->Int->Int->Int
 | .sum=>λx y=>x + y | _=>λx y=>(x + y) / 2
noncomputable def Rl.h_:Rl->Int->Int
 | .sum=>λx=>2 * x | _=>λx=>x
def Nd (a:Ad):S3:=λΓ Q=>∃ (R:Rl) (ns:Li0),Γ=[some (.fz (R.ob a)),some (.fz (il ns))]/\R≠.guess/\2<=ns.length/\ns.length<=64/\Q (.fr (il (bM R.pair R.h_ ns))) Γ
theorem bu(f:Nat->Int)(k:Nat):(rg f k).length=k:=by unfold rg;simp
theorem iB(T:Txt w K mg a):aC P w K mg base CX0 2 a.cV a.m9 ["self","row"] (sp3 K 2 (Nd a)):=by
 refine ok3 T.fN.F mT (hbody:=λx A m s H E e=>⟨_,_,(ah (dW (i:=2) mT.nd rfl rfl rfl (bI (by rfl) (aj (by rfl) (j_ T) e.dn (by rfl) T.bJ.m T.bJ.F.kp T.bJ.b (aa (P3.opd (p3v 1)) ab))) fB (λ_ _ _ _ _=>(gj (is:=[0,1]) (by rfl) (av (ax (i:=0) fB.nd rfl (gs rfl)) (av (ax (i:=1) fB.nd rfl (gs rfl)) bA)) rfl)) (λ_ _ _ _ _=>(P3.or (aG (by rfl) (bv 2) T.fi T.qe (qc T) e.dn T.jc.b (aa (P3.opd (p3v 0)) (aa (P3.opd (p3v 1)) ab))) (P3.or (aG (by rfl) (bv 2) T.cq T.nK (gv T) e.dn T.dN.b (aa (P3.opd (p3v 0)) (aa (P3.opd (p3v 1)) ab))) (aG (by rfl) (bv 2) T.bV T.mx (gv T) e.dn T.dN.b (aa (P3.opd (p3v 0)) (aa (P3.opd (p3v 1)) ab)))))))
   (ah (br (aT CD (P3.opd (aw (bR (by rfl)) (by rfl) T.z_len (by decide +kernel) (aa (bv 1) ab))) (P3.opd (dX (P3.opd ag) (P3.opd (aw (bR (by rfl)) (by rfl) T.z_len (by decide +kernel) (aa (bv 2) ab))))) (bw _)) (ai (cz (gN 2 (by rfl) (bv 2) (P3.or (aG (by rfl) (bv 0) T.fi T.qf (qd T) e.dn T.jd.b (aa (P3.opd (aR (by rfl) (bv 1) (P3.opd (jw (P3.opd ag))) (λ_ _=>rfl))) ab)) (P3.or (aG (by rfl) (bv 0) T.cq T.nL (gw T) e.dn T.dO.b (aa (P3.opd (aR (by rfl) (bv 1) (P3.opd (jw (P3.opd ag))) (λ_ _=>rfl))) ab)) (aG (by rfl) (bv 0) T.bV T.my (gw T) e.dn T.dO.b (aa (P3.opd (aR (by rfl) (bv 1) (P3.opd (jw (P3.opd ag))) (λ_ _=>rfl))) ab))))))) aQ)
   (ai (ar (rB 2))))),λp Q h y=>?_⟩)
 obtain⟨R,b,rfl,hR,z,v,q⟩:=h;walk_at "w";refine⟨Int,.int,0,b,rfl,v,?_⟩;walk_at "w";refine⟨small (by simp only[xK,prG,lM0,rq];lia),aO (λk g c=>g=(ck k).map (λj=>D.int (R.pair (b.getD (2 * j) 0) (b.getD (2 * j + 1) 0)))/\∃ s l,c=[fo s,fo l,some (.fz (R.ob a))]) ⟨rfl,none,none,rfl⟩ ?_ ?_⟩
 .rintro k d g c u t ⟨rfl,s,l,rfl⟩;obtain⟨lt,rfl⟩:=mz u;walk_at "w";cases R with
  | guess=>exact absurd rfl hR
  | sum=>
   refine .inl ?_;walk_at "w";refine⟨rfl,_,_,_,rfl,?_⟩;walk_at "w";exact⟨snoc rfl,some _,some _,rfl⟩
  | half=>
   refine .inr (.inl ?_);walk_at "w";refine⟨rfl,_,_,_,rfl,?_⟩;walk_at "w";exact⟨snoc rfl,some _,some _,rfl⟩
  | lean=>
   refine .inr (.inr ?_);walk_at "w";refine⟨rfl,_,_,_,rfl,?_⟩;walk_at "w";exact⟨snoc rfl,some _,some _,rfl⟩
 .rintro g c t ⟨rfl,s,l,rfl⟩;have r:(xK b).length=b.length / 2:=by simp [xK,prG]
  rw[r,j6];walk_at "w";refine⟨.inl ⟨by decide,by decide⟩,?_⟩;simp only[lM0,rq];by_cases f:b.length % 2=1
  .have o:A8 (b.length:Int) (2 * ((b.length / 2:Nat):Int))=true:=by simp only[A8,decide_eq_true_eq];lia
   have n:bM R.pair R.h_ b=((ck (b.length / 2)).map λj=>R.pair (b.getD (2 * j) 0) (b.getD (2 * j + 1) 0))++[R.h_ (b.getD (b.length - 1) 0)]:=by
    unfold bM;rw[if_pos f];rfl
   rw[n,il,ih] at q;rw[o];walk_at "w";cases R with
   | guess=>exact absurd rfl hR
   | sum=>
    refine .inl ⟨rfl,bX.mpr ⟨_,jN (by lia),?_⟩⟩;walk_at "w";refine⟨_,_,rfl,?_⟩;walk_at "w";exact⟨small (by simp only[lM0,rq];lia),q⟩
   | half=>
    refine .inr (.inl ⟨rfl,bX.mpr ⟨_,jN (by lia),?_⟩⟩);walk_at "w";refine⟨_,_,rfl,?_⟩;walk_at "w";exact⟨small (by simp only[lM0,rq];lia),q⟩
   | lean=>
    refine .inr (.inr ⟨rfl,bX.mpr ⟨_,jN (by lia),?_⟩⟩);walk_at "w";refine⟨_,_,rfl,?_⟩;walk_at "w";exact⟨small (by simp only[lM0,rq];lia),q⟩
  .have o:A8 (b.length:Int) (2 * ((b.length / 2:Nat):Int))=false:=by simp only[A8,decide_eq_false_iff_not];lia
   have n:bM R.pair R.h_ b=((ck (b.length / 2)).map λj=>R.pair (b.getD (2 * j) 0) (b.getD (2 * j + 1) 0)):=by
    unfold bM;rw[if_neg f,tq];rfl
   rw[n] at q;rw[o];exact q
noncomputable def gu (F:Li0)(a:Li0):Li0:=rg (λj=>a.getD (2 * j + 1) 0 - (F.getD j 0 + nrF F ((j:Int) + 1)) / 2) (a.length / 2)
noncomputable def fsF (a:Li0):Li0:=rg (λj=>a.getD (2 * j) 0) ((a.length + 1) / 2)
noncomputable def cT (d:Li0)(j:Nat):Int:=(nrF d ((j:Int) - 1) + nrF d (j:Int) + 2) / 4
noncomputable def fv (s:Li0)(j:Nat):Int:=(nrF s ((j:Int) - 1) - nrF s ((j:Int) + 1) + 2) / 4
noncomputable def Rl.dif (R:Rl)(a:Li0):Li0:=match R with
 | .sum=>eQ a | .half=>eQ a
 | .guess=>gu (fsF a) a
 | .lean=>rg (λj=>(eQ a).getD j 0 - fv (bM Rl.lean.pair Rl.lean.h_ a) j) (a.length / 2)
noncomputable def Rl.sums (R:Rl)(a:Li0):Li0:=match R with
 | .guess=>rg (λj=>(fsF a).getD j 0 + cT (gu (fsF a) a) j) ((a.length + 1) / 2)
 | R=>bM R.pair R.h_ a
theorem aZ(i:Int)(n:Nat):(rng i n).length=n:=by unfold rng;simp
theorem AA{d:D}(h:(rng 0 n)[k]?=some d):k < n/\d=.int (k:Int):=by
 unfold rng at h;obtain⟨b,a⟩:=mz h;exact⟨b,by rw[a];simp⟩
noncomputable def i6 (F:Li0)(j:Nat):Int:=(F.getD j 0 + nrF F ((j:Int) + 1)) / 2
def Ds (f:Li0->Nat->Int)(ok:Nat->Nat->Prop):S3:=λΓ Q=>∃ (F:Li0) (m:Nat),Γ=[some (.fz (il F)),some (.fz (.int m))]/\1<=F.length/\ok m F.length/\m<=64/\Q (.fr (il (rg (f F) m))) Γ
theorem xT(T:Txt w K mg a):aC P w K mg base CX0 2 a.z7 a.yp ["firsts","many"] (sp3 K 2 (Ds i6 (·<=·))):=by
 refine ok3 T.gE.F CW (hbody:=λp A e s H E g=>⟨_,_,(ai (ar (bF rfl (bB (by rfl) T.z_range (ae (p3v 1) aq)) qT (λ_ _ _ _ _=>(aK (i:=0) qT.nd rfl (gs rfl))) (λ_ _ _ _ _=>(cg (P3.opd (aJ (P3.opd (aR (by rfl) (bv 1) (bv 0) (λ_ _=>rfl))) (P3.opd (aj (by rfl) (sF T) g.dn (by rfl) T.eR.m T.eR.F.kp T.eR.b (aa (P3.opd (p3v 1)) (aa (P3.opd (aJ (bv 0) (P3.opd ag))) ab)))))) (P3.opd ag)))))),λf Q h r=>?_⟩);obtain⟨F,m,rfl,o,u,t,q⟩:=h;walk_at "w";refine⟨by lia,by lia,small (by rw[aZ];lia),aO (λk c b=>c=(ck k).map (λj=>D.int (i6 F j))/\∃ s,b=[fo s,some (.fz (il F))]) ⟨rfl,none,rfl⟩ ?_ ?_⟩
 .rintro k d c b n l ⟨rfl,s,rfl⟩;obtain⟨lt,rfl⟩:=AA n;walk_at "w";refine bX.mpr ⟨_,EZ (by lia) (by lia),?_⟩;walk_at "w";refine⟨_,_,rfl,o,?_⟩;walk_at "w";exact⟨⟨by decide,by decide⟩,snoc (by rw[ey];rfl),some _,rfl⟩
 .rintro c b l ⟨rfl,s,rfl⟩;walk_at "w";rw[aZ,ey,j6];exact q
theorem BW(T:Txt w K mg a):aC P w K mg base CX0 2 a.A6 a.yl ["differences","many"] (sp3 K 2 (Ds cT λ_ _=>True)):=by
 refine ok3 T.lV.F GY (hbody:=λp A e s H E f=>⟨_,_,(ai (ar (bF rfl (bB (by rfl) T.z_range (ae (p3v 1) aq)) vV (λ_ _ _ _ _=>(aK (i:=0) vV.nd rfl (gs rfl))) (λ_ _ _ _ _=>(cg (P3.opd (aJ (P3.opd (aJ (P3.opd (aj (by rfl) (sF T) f.dn (by rfl) T.eR.m T.eR.F.kp T.eR.b (aa (P3.opd (p3v 1)) (aa (P3.opd (bK (bv 0) (P3.opd ag))) ab)))) (P3.opd (aj (by rfl) (sF T) f.dn (by rfl) T.eR.m T.eR.F.kp T.eR.b (aa (P3.opd (p3v 1)) (aa (P3.opd (p3v 0)) ab)))))) (P3.opd ag))) (P3.opd ag)))))),λl Q h r=>?_⟩);obtain⟨F,m,rfl,g,u,t,q⟩:=h;walk_at "w";refine⟨by lia,by lia,small (by rw[aZ];lia),aO (λk c b=>c=(ck k).map (λj=>D.int (cT F j))/\∃ s,b=[fo s,some (.fz (il F))]) ⟨rfl,none,rfl⟩ ?_ ?_⟩
 .rintro k d c b o n ⟨rfl,s,rfl⟩;obtain⟨lt,rfl⟩:=AA o;walk_at "w";refine⟨_,_,rfl,g,?_⟩;walk_at "w";refine⟨_,_,rfl,g,?_⟩;walk_at "w";exact⟨⟨by decide,by decide⟩,snoc rfl,some _,rfl⟩
 .rintro c b n ⟨rfl,s,rfl⟩;walk_at "w";rw[aZ,ey,j6];exact q
theorem BX(T:Txt w K mg a):aC P w K mg base CX0 2 a.A7 a.ym ["sums","many"] (sp3 K 2 (Ds fv λ_ _=>True)):=by
 refine ok3 T.lW.F GZ (hbody:=λp A e s H E f=>⟨_,_,(ai (ar (bF rfl (bB (by rfl) T.z_range (ae (p3v 1) aq)) vW (λ_ _ _ _ _=>(aK (i:=0) vW.nd rfl (gs rfl))) (λ_ _ _ _ _=>(cg (P3.opd (aJ (P3.opd (bK (P3.opd (aj (by rfl) (sF T) f.dn (by rfl) T.eR.m T.eR.F.kp T.eR.b (aa (P3.opd (p3v 1)) (aa (P3.opd (bK (bv 0) (P3.opd ag))) ab)))) (P3.opd (aj (by rfl) (sF T) f.dn (by rfl) T.eR.m T.eR.F.kp T.eR.b (aa (P3.opd (p3v 1)) (aa (P3.opd (aJ (bv 0) (P3.opd ag))) ab)))))) (P3.opd ag))) (P3.opd ag)))))),λl Q h r=>?_⟩);obtain⟨F,m,rfl,g,u,t,q⟩:=h;walk_at "w";refine⟨by lia,by lia,small (by rw[aZ];lia),aO (λk c b=>c=(ck k).map (λj=>D.int (fv F j))/\∃ s,b=[fo s,some (.fz (il F))]) ⟨rfl,none,rfl⟩ ?_ ?_⟩
 .rintro k d c b o n ⟨rfl,s,rfl⟩;obtain⟨lt,rfl⟩:=AA o;walk_at "w";refine⟨_,_,rfl,g,?_⟩;walk_at "w";refine⟨_,_,rfl,g,?_⟩;walk_at "w";exact⟨⟨by decide,by decide⟩,snoc rfl,some _,rfl⟩
 .rintro c b n ⟨rfl,s,rfl⟩;walk_at "w";rw[aZ,ey,j6];exact q
theorem Dj(T:Txt w K mg a):aC P w K mg base CX0 2 a.A6 a.yl ["differences","many"] (sp3 K 2 (rd2 (λns=>.ln (il ns)) (λns m=>0<=m/\1<=ns.length/\m<=64) λns m=>rg (cT ns) m.toNat)):=
 Mi ((BW T).imp (RC λd Q h=>by obtain⟨ns,m,rfl,⟨c,b,e⟩,q⟩:=h;exact⟨ns,m.toNat,by rw[FS c],b,trivial,by lia,q⟩))
theorem Dk(T:Txt w K mg a):aC P w K mg base CX0 2 a.A7 a.ym ["sums","many"] (sp3 K 2 (rd2 (λns=>.ln (il ns)) (λns m=>0<=m/\1<=ns.length/\m<=64) λns m=>rg (fv ns) m.toNat)):=
 Mi ((BX T).imp (RC λd Q h=>by obtain⟨ns,m,rfl,⟨c,b,e⟩,q⟩:=h;exact⟨ns,m.toNat,by rw[FS c],b,trivial,by lia,q⟩))
noncomputable def seF (a:Li0):Li0:=rg (λj=>a.getD (2 * j + 1) 0) (a.length / 2)
theorem S9(a:Li0):pk (a.map D.int) (some 0) none (some 2)=(fsF a).map D.int:=by rw[Kh _ 0];unfold fsF rg;rw[oj];rfl
theorem S8(a:Li0):pk (a.map D.int) (some 1) none (some 2)=(seF a).map D.int:=by rw[NN _ 0];unfold seF rg;rw[oj];rfl
theorem mD(a:Li0):(fsF a).length=(a.length + 1) / 2:=bu _ _
theorem Ap(a:Li0):(seF a).length=a.length / 2:=bu _ _
theorem bO(f:Nat->Int)(h:j < k):(rg f k).getD j 0=f j:=by unfold rg;simp [rp,h]
theorem GQ{p:Int->Int->Int}{l:Int->Int}(a:Li0)(h:2<=a.length):1<=(bM p l a).length:=by
 unfold bM;rw[el,bu];lia
theorem iP(xs ys:Li0):(ky (xs.map D.int) (ys.map D.int)).length=min xs.length ys.length:=by unfold ky;simp
theorem zip_get{xs ys:Li0}{d:D}(h:(ky (xs.map D.int) (ys.map D.int))[k]?=some d):k < xs.length/\k < ys.length/\d=.tup [.int (xs.getD k 0),.int (ys.getD k 0)]:=by
 have lt:=(gS0 h).1;rw[iP] at lt;have b:k < xs.length:=by lia
 have a:k < ys.length:=by lia
 unfold ky at h;have:((xs.map D.int).zip (ys.map D.int))[k]?=some (D.int (xs.getD k 0),D.int (ys.getD k 0)):=by
  rw[Nn];exact⟨by rw[dV,gE0 b];simp [rp,b],by rw[dV,gE0 a];simp [rp,a]⟩
 rw[dV,this] at h;cases h;exact⟨b,a,rfl⟩
def Dd (a:Ad)(ok:Rl->Prop):S3:=λΓ Q=>∃ (R:Rl) (ns:Li0),Γ=[some (.fz (R.ob a)),some (.fz (il ns))]/\ok R/\2<=ns.length/\ns.length<=64/\Q (.two ((R.sums ns).map .int) ((R.dif ns).map .int)) Γ
theorem oG(T:Txt w K mg a):aC P w K mg base CX0 3 a.hV a.o9 ["self","row"] (sp3 K 2 (Dd a λR=>R=.sum\/R=.half)):=by
 refine ok3 T.kz.F xq (hbody:=λi A d s H E e=>⟨_,_,(ai (ar (HL (P3.or (aG (by rfl) (bv 0) T.fi T.wu (iB T) e.dn T.fN.b (aa (P3.opd (p3v 1)) ab)) (aG (by rfl) (bv 0) T.cq T.sX (iB T) e.dn T.fN.b (aa (P3.opd (p3v 1)) ab))) (aj (by rfl) (xU T) e.dn (by rfl) T.gF.m T.gF.F.kp T.gF.b (aa (P3.opd (p3v 1)) ab))))),λg Q h j=>?_⟩);obtain⟨R,b,rfl,hR,f,c,q⟩:=h;walk_at "w";rcases hR with rfl | rfl
 .refine .inl ⟨rfl,.sum,b,rfl,by simp,f,c,?_⟩;walk_at "w";refine⟨b,rfl,c,?_⟩;walk_at "w";exact q
 .refine .inr ⟨rfl,.half,b,rfl,by simp,f,c,?_⟩;walk_at "w";refine⟨b,rfl,c,?_⟩;walk_at "w";exact q
theorem sM(T:Txt w K mg a):aC P w K mg base CX0 3 a.gR a.kh ["self","row"] (sp3 K 2 (Dd a (·=.guess))):=by
 refine ok3 T.k9.F dC (hbody:=λt A l s H E p=>⟨_,_,(ah (Nk (i:=2) (j:=3) rfl dC.nd rfl rfl (by decide) (by rfl) (by rfl) (ae (lA (by rfl) (bv 1) (bg (P3.opd ag)) bP (bg (P3.opd ag))) (ae (lA (by rfl) (bv 1) (bg (P3.opd ag)) bP (bg (P3.opd ag))) aq)) (by rfl))
   (ah (dW (i:=4) dC.nd rfl rfl rfl (oU (by rfl) T.z_zip (ae (p3v 3) (ae (aj (by rfl) (xT T) p.dn (by rfl) T.gE.m T.gE.F.kp T.gE.b (aa (P3.opd (p3v 2)) (aa (P3.opd (aw (bR (by rfl)) (by rfl) T.z_len (by decide +kernel) (aa (bv 3) ab))) ab))) aq))) ed (λ_ _ _ _ _=>(gj (is:=[0,1]) (by rfl) (av (ax (i:=0) ed.nd rfl (gs rfl)) (av (ax (i:=1) ed.nd rfl (gs rfl)) bA)) rfl)) (λ_ _ _ _ _=>(bK (bv 0) (bv 1))))
   (ah (dW (i:=5) dC.nd rfl rfl rfl (oU (by rfl) T.z_zip (ae (p3v 2) (ae (aj (by rfl) (Dj T) p.dn (by rfl) T.lV.m T.lV.F.kp T.lV.b (aa (bv 4) (aa (P3.opd (aw (bR (by rfl)) (by rfl) T.z_len (by decide +kernel) (aa (bv 2) ab))) ab))) aq))) ee (λ_ _ _ _ _=>(gj (is:=[0,1]) (by rfl) (av (ax (i:=0) ee.nd rfl (gs rfl)) (av (ax (i:=1) ee.nd rfl (gs rfl)) bA)) rfl)) (λ_ _ _ _ _=>(aJ (bv 0) (bv 1))))
   (ai (ar (HL (rB 5) (rB 4))))))),λr Q h u=>?_⟩)
 obtain⟨R,b,rfl,hR,v,x,q⟩:=h;walk_at "w";subst hR;refine⟨by decide,by decide,?_⟩;rw[S9,S8];refine⟨fsF b,b.length / 2,by rw[lM0,Ap],by rw[mD];lia,by rw[mD];lia,by lia,?_⟩;walk_at "w";have z1:(ky ((seF b).map D.int) ((rg (i6 (fsF b)) (b.length / 2)).map D.int)).length=b.length / 2:=by rw[iP,Ap,bu];lia
 refine⟨small (by rw[z1];lia),aO (λk e c=>e=(ck k).map (λj=>D.int (b.getD (2 * j + 1) 0 - i6 (fsF b) j))/\∃ s f,c=[fo s,fo f]) ⟨rfl,none,none,rfl⟩ ?_ ?_⟩
 .rintro k d e c o n ⟨rfl,s,f,rfl⟩;obtain⟨g,m,rfl⟩:=zip_get o;rw[Ap] at g;walk_at "w";exact⟨snoc (by unfold seF;rw[bO _ g,bO _ g]),some _,some _,rfl⟩
 .rintro e c n ⟨rfl,s,f,rfl⟩;rw[z1,j6];have z2:(gu (fsF b) b).length=b.length / 2:=bu _ _;walk_at "w";refine⟨gu (fsF b) b,(((b.length + 1) / 2:Nat):Int),by rw[lM0,mD];rfl,⟨by lia,by lia,by lia⟩,?_⟩;walk_at "w";rw[ey];have z3:(ky ((fsF b).map D.int) ((rg (cT (gu (fsF b) b)) ((b.length + 1) / 2)).map D.int)).length=(b.length + 1) / 2:=by rw[iP,mD,bu];lia
  refine⟨small (by rw[z3];lia),aO (λk e c=>e=(ck k).map (λj=>D.int ((fsF b).getD j 0 + cT (gu (fsF b) b) j))/\∃ s f,c=[fo s,fo f]) ⟨rfl,none,none,rfl⟩ ?_ ?_⟩
  .rintro k d e c o n ⟨rfl,s,f,rfl⟩;obtain⟨g,m,rfl⟩:=zip_get o;rw[bu] at m;walk_at "w";exact⟨snoc (by rw[bO _ m]),some _,some _,rfl⟩
  .rintro e c n ⟨rfl,s,f,rfl⟩;rw[z3,j6];walk_at "w";exact q
theorem sJ(T:Txt w K mg a):aC P w K mg base CX0 3 a.gP a.kd ["self","row"] (sp3 K 2 (Dd a (·=.lean))):=by
 refine ok3 T.k7.F jY (hbody:=λv A g s H E l=>⟨_,_,(ah (JX (i:=2) (j:=3) rfl jY.nd rfl rfl (by decide) (by rfl) (by rfl) (aG (by rfl) (bv 0) T.bV T.rH (iB T) l.dn T.fN.b (aa (P3.opd (p3v 1)) ab)) (aj (by rfl) (xU T) l.dn (by rfl) T.gF.m T.gF.F.kp T.gF.b (aa (P3.opd (p3v 1)) ab)) (by rfl))
   (ai (ar (Kw 2 (bv 2) (bF rfl (oU (by rfl) T.z_zip (ae (p3v 3) (ae (aj (by rfl) (Dk T) l.dn (by rfl) T.lW.m T.lW.F.kp T.lW.b (aa (bv 2) (aa (P3.opd (aw (bR (by rfl)) (by rfl) T.z_len (by decide +kernel) (aa (bv 3) ab))) ab))) aq))) dZ (λ_ _ _ _ _=>(gj (is:=[0,1]) (by rfl) (av (ax (i:=0) dZ.nd rfl (gs rfl)) (av (ax (i:=1) dZ.nd rfl (gs rfl)) bA)) rfl)) (λ_ _ _ _ _=>(bK (bv 0) (bv 1)))))))),λr Q h y=>?_⟩)
 obtain⟨R,b,rfl,hR,o,p,q⟩:=h;walk_at "w";subst hR;refine⟨rfl,.lean,b,rfl,by simp,o,p,?_⟩;walk_at "w";refine⟨b,rfl,p,?_⟩;walk_at "w";have n:(eQ b).length=b.length / 2:=bu _ _;refine⟨_,((b.length / 2:Nat):Int),by rw[lM0,n],⟨by lia,GQ b o,by lia⟩,?_⟩;walk_at "w";rw[ey];have z1:(ky ((eQ b).map D.int) ((rg (fv (bM Rl.lean.pair Rl.lean.h_ b)) (b.length / 2)).map D.int)).length=b.length / 2:=by rw[iP,n,bu];lia
 refine⟨small (by rw[z1];lia),aO (λk e c=>e=(ck k).map (λj=>D.int ((eQ b).getD j 0 - fv (bM Rl.lean.pair Rl.lean.h_ b) j))/\∃ s f,c=[fo s,fo f]) ⟨rfl,none,none,rfl⟩ ?_ ?_⟩
 .rintro k d e c u t ⟨rfl,s,f,rfl⟩;obtain⟨x,m,rfl⟩:=zip_get u;rw[bu] at m;walk_at "w";exact⟨snoc (by rw[bO _ m]),some _,some _,rfl⟩
 .rintro e c t ⟨rfl,s,f,rfl⟩;rw[z1,j6];walk_at "w";exact⟨_,rfl,q⟩
def Io (a:Ad):S3:=λΓ Q=>∃ (R:Rl) (ns:Li0),Γ=[some (.fz (R.ob a)),some (.fz (il ns))]/\Fig ns/\2<=ns.length/\ns.length<=64/\Q (.two ((R.sums ns).map .int) ((R.dif ns).map .int)) Γ
theorem fY(T:Txt w K mg a):aC P w K mg base CX0 4 a.dv a.pb ["self","row"] (sp3 K 2 (Io a)):=by
 refine ok3 T.eU.F xu (hbody:=λi A f s H E c=>⟨_,_,(ah (br (bC (bj (aj (by rfl) (p6 T) c.dn (by rfl) T.cP.m T.cP.F.kp T.cP.b (aa (P3.opd (p3v 1)) (aa (P3.opd ag) ab))))) (ai cy) aQ)
   (ai (ar (P3.or (aG (by rfl) (bv 0) T.fi T.x5 (oG T) c.dn T.kz.b (aa (P3.opd (p3v 1)) ab)) (P3.or (aG (by rfl) (bv 0) T.cq T.uL (oG T) c.dn T.kz.b (aa (P3.opd (p3v 1)) ab)) (P3.or (aG (by rfl) (bv 0) T.gX T.s8 (sM T) c.dn T.k9.b (aa (P3.opd (p3v 1)) ab)) (aG (by rfl) (bv 0) T.bV T.sU (sJ T) c.dn T.k7.b (aa (P3.opd (p3v 1)) ab)))))))),λg Q h j=>?_⟩)
 obtain⟨R,b,rfl,hR,e,d,q⟩:=h;walk_at "w";refine⟨b,2,rfl,hR,d,by lia,?_⟩;walk_at "w";cases R with
 | sum=>exact .inl ⟨rfl,.sum,b,rfl,.inl rfl,e,d,q⟩
 | half=>exact .inr (.inl ⟨rfl,.half,b,rfl,.inr rfl,e,d,q⟩)
 | guess=>exact .inr (.inr (.inl ⟨rfl,.guess,b,rfl,rfl,e,d,q⟩))
 | lean=>exact .inr (.inr (.inr ⟨rfl,.lean,b,rfl,rfl,e,d,q⟩))
noncomputable def Rl.num:Rl->Nat
 | .sum=>0 | .half=>1 | .guess=>2 | .lean=>3
noncomputable def Rl.word:Rl->Str
 | .sum=>"sum" | .half=>"half" | .guess=>"guess" | .lean=>"lean"
def l9 (x:Str):S3:=λΓ Q=>∃ d,Γ=[some (.fz d)]/\Q (.fz (.str x)) Γ
theorem sI(T:Txt w K mg a):aC P w K mg base CX0 1 a.pA a.tQ ["self"] (sp3 K 1 (l9 "sum")):=by
 refine ok3 T.nV.F Aw (hbody:=λe A b s H E f=>⟨_,_,(ai (ar b8)),λc Q h g=>?_⟩);obtain⟨d,rfl,q⟩:=h;walk_at "w";exact q
theorem oK(T:Txt w K mg a):aC P w K mg base CX0 1 a.kT a.pq ["self"] (sp3 K 1 (l9 "half")):=by
 refine ok3 T.kC.F xx (hbody:=λe A b s H E f=>⟨_,_,(ai (ar b8)),λc Q h g=>?_⟩);obtain⟨d,rfl,q⟩:=h;walk_at "w";exact q
theorem mX(T:Txt w K mg a):aC P w K mg base CX0 1 a.jF a.nu ["self"] (sp3 K 1 (l9 "guess")):=by
 refine ok3 T.jf.F wg (hbody:=λe A b s H E f=>⟨_,_,(ai (ar b8)),λc Q h g=>?_⟩);obtain⟨d,rfl,q⟩:=h;walk_at "w";exact q
theorem mW(T:Txt w K mg a):aC P w K mg base CX0 1 a.jE a.nk ["self"] (sp3 K 1 (l9 "lean")):=by
 refine ok3 T.je.F we (hbody:=λe A b s H E f=>⟨_,_,(ai (ar b8)),λc Q h g=>?_⟩);obtain⟨d,rfl,q⟩:=h;walk_at "w";exact q
def JY (a:Ad):S3:=λΓ Q=>Γ=[]/\Q (.fr (.lst [Rl.sum.ob a,Rl.half.ob a,Rl.guess.ob a,Rl.lean.ob a])) Γ
theorem AS(T:Txt w K mg a):aC P w K mg base CX0 1 a.vM a.tL [] (sp3 K 0 (JY a)):=by
 refine ok3 T.jV.F Au (hbody:=λd A b s H E e=>⟨_,_,(ai (ar (bQ (ae (pZ T.mk_Sums (by rfl) T.KY) (ae (pZ T.mk_Halves (by rfl) T.FQ) (ae (pZ T.mk_Guessed (by rfl) T.Dw) (ae (pZ T.mk_Leaning (by rfl) T.Dv) aq))))))),λc Q h f=>?_⟩);obtain⟨rfl,q⟩:=h;walk_at "w";exact⟨by rw[gp];lia,q⟩
def Nq (a:Ad):S3:=λΓ Q=>∃ (R:Rl),Γ=[some (.fz (.str R.word))]/\Q (.fz (R.ob a)) Γ
theorem Di(T:Txt w K mg a):aC P w K mg base CX0 2 a.zY a.yk ["word"] (sp3 K 1 (Nq a)):=by
 refine ok3 T.pT.F xn (hbody:=λm A j s H E c=>⟨_,_,(ah (gM tr rfl (bI (by rfl) (HP (by rfl) (AS T) c.dn (by rfl) T.jV.m T.jV.F.kp T.jV.b)) (aK (i:=1) xn.nd rfl (gs rfl))
   (ai (br (aT (gY (by rfl) c) (P3.opd (P3.or (aD (by rfl) (bv 1) T.fi T.sQ (sI T) c.dn T.nV.b) (P3.or (aD (by rfl) (bv 1) T.cq T.oP (oK T) c.dn T.kC.b) (P3.or (aD (by rfl) (bv 1) T.gX T.m4 (mX T) c.dn T.jf.b) (aD (by rfl) (bv 1) T.bV T.mZ (mW T) c.dn T.je.b))))) (bv 0) (bw _)) (ai (ar (rB 1))) aQ)))
   (ai cy)),λl Q h n=>?_⟩)
 obtain⟨R,rfl,q⟩:=h;walk_at "w";refine⟨rfl,?_⟩;walk_at "w";refine cA (λk g=>k<=R.num/\∃ s,g=[some (.fz (.str R.word)),fo s]) ⟨xt _,none,rfl⟩ ?_ ?_
 .rintro k d g b ⟨f,s,rfl⟩
  match k,b with
  | 0,b=>
   cases b;walk_at "w";refine .inl ⟨rfl,_,rfl,?_⟩;walk_at "w";refine pO (λe=>?_) (λe=>?_)
   .have hR:R=.sum:=by cases R <;> first | rfl | exact absurd e (by decide +kernel)
    subst hR;walk_at "w";exact q
   .walk_at "w";exact⟨by cases R <;> first | decide | exact absurd f (by decide) | exact absurd e (by decide +kernel),some _,rfl⟩
  | 1,b=>
   cases b;walk_at "w";refine .inr (.inl ⟨rfl,_,rfl,?_⟩);walk_at "w";refine pO (λe=>?_) (λe=>?_)
   .have hR:R=.half:=by cases R <;> first | rfl | exact absurd e (by decide +kernel)
    subst hR;walk_at "w";exact q
   .walk_at "w";exact⟨by cases R <;> first | decide | exact absurd f (by decide) | exact absurd e (by decide +kernel),some _,rfl⟩
  | 2,b=>
   cases b;walk_at "w";refine .inr (.inr (.inl ⟨rfl,_,rfl,?_⟩));walk_at "w";refine pO (λe=>?_) (λe=>?_)
   .have hR:R=.guess:=by cases R <;> first | rfl | exact absurd e (by decide +kernel)
    subst hR;walk_at "w";exact q
   .walk_at "w";exact⟨by cases R <;> first | decide | exact absurd f (by decide) | exact absurd e (by decide +kernel),some _,rfl⟩
  | 3,b=>
   cases b;walk_at "w";refine .inr (.inr (.inr ⟨rfl,_,rfl,?_⟩));walk_at "w";refine pO (λe=>?_) (λe=>?_)
   .have hR:R=.lean:=by cases R <;> first | rfl | exact absurd e (by decide +kernel)
    subst hR;walk_at "w";exact q
   .walk_at "w";exact⟨by cases R <;> first | decide | exact absurd f (by decide) | exact absurd e (by decide +kernel),some _,rfl⟩
 .rintro g ⟨f,_⟩;cases R <;> exact absurd (show 4<=_ from f) (by decide)
noncomputable abbrev plD (a:Ad)(R:Rl)(h w:Int)(ls:List Lt):D:=.ins a.aV ["chosen","corners","letters"] [R.ob a,.tup ((nN h w ls).map cD),.str (wy ls)]
def Sr:S3:=λΓ Q=>∃ (l:Lt) (h w:Int),Γ=[some (.fz (.str l.s)),some (.fz (.int h)),some (.fz (.int w))]/\Can l h w/\Q (.fz (.bl true)) Γ
def Ng:S3:=λΓ Q=>∃ h w:Int,Γ=[some (.fz (.int h)),some (.fz (.int w))]/\nU h w/\Q (.fz (.bl true)) Γ
theorem rC(T:Txt w K mg a):aC P w K mg base CX0 2 a.zZ a.yn ["height","width"] (sp3 K 2 Ng):=by
 refine ok3 T.dh.F CV (hbody:=λe A b s H E c=>⟨_,_,(ah (br (P3W.pt (kP (bC (bj (aj (by rfl) (cW T) c.dn (by rfl) T.aL.m T.aL.F.kp T.aL.b (aa (P3.opd (p3v 0)) (aa (P3.opd ag) (aa (P3.opd (eJ (i:=64) (by rfl) T.kr)) ab)))))) (hU (bC (bj (aj (by rfl) (cW T) c.dn (by rfl) T.aL.m T.aL.F.kp T.aL.b (aa (P3.opd (p3v 1)) (aa (P3.opd ag) (aa (P3.opd (eJ (i:=64) (by rfl) T.kr)) ab))))))))) (ai (ar fG)) aQ)
   (ai (ar (jx vU (P3.opd (dX (bv 0) (bv 1))) (P3.opd (eJ (i:=512) (by rfl) T.zj)) (bw _))))),λd Q h g=>?_⟩)
 obtain⟨h,w,rfl,⟨m,l,k,j,f⟩,q⟩:=h;walk_at "w";refine⟨_,_,_,rfl,rfl,?_⟩;rw[show whD (.int h) 1 64=true by simp only[whD,ng,decide_eq_true_eq];lia];walk_at "w";refine⟨_,_,_,rfl,rfl,?_⟩;rw[show whD (.int w) 1 64=true by simp only[whD,ng,decide_eq_true_eq];lia];walk_at "w";refine⟨.inl ⟨by lia,by lia⟩,?_⟩;rw[show qg (h * w) 512=true by simp only[qg,decide_eq_true_eq];exact f];exact q
theorem AR(T:Txt w K mg a):aC P w K mg base CX0 1 a.vL a.tK ["letter","height","width"] (sp3 K 3 Sr):=by
 refine ok3 T.jU.F As (hbody:=λf A b s H E j=>⟨_,_,(ah (br (P3W.pt (AK (aT (nB (by rfl)) (bv 0) (P3.opd (fe (p:=a.bH) (zs:=["r","b"]) (by rfl) T.eP)) (by with_unfolding_all rfl)) (xM (aT CC (bv 2) (P3.opd ag) (bw _))))) (ai (ar fG)) aQ)
   (ah (br (P3W.pt (AK (aT (nB (by rfl)) (bv 0) (P3.opd (fe (p:=a.a9) (zs:=["p","b"]) (by rfl) T.cu)) (by with_unfolding_all rfl)) (xM (aT CC (bv 1) (P3.opd ag) (bw _))))) (ai (ar fG)) aQ)
   (ai (ar (QR (jx (nB (by rfl)) (bv 0) (P3.opd (fe (p:=a.bH) (zs:=["r","b"]) (by rfl) T.eP)) (by with_unfolding_all rfl)) (kQ (jx (nB (by rfl)) (bv 0) (P3.opd (fe (p:=a.a9) (zs:=["p","b"]) (by rfl) T.cu)) (by with_unfolding_all rfl)))))))),λe Q h k=>?_⟩)
 obtain⟨l,h,w,rfl,⟨i,g⟩,q⟩:=h;have d:l≠.p->DL w 2=false:=λz=>by have:=i z;simp only[DL,decide_eq_false_iff_not];lia
 have c:l≠.r->DL h 2=false:=λz=>by have:=g z;simp only[DL,decide_eq_false_iff_not];lia
 cases l
 .walk_at "w";rw[d (by decide)];walk_at "w";exact q
 .walk_at "w";rw[c (by decide)];walk_at "w";exact q
 .walk_at "w";rw[d (by decide)];walk_at "w";rw[c (by decide)];walk_at "w";exact q
def Pf:S3:=λΓ Q=>∃ (h w:Int) (ls:List Lt),Γ=[some (.fz (.int h)),some (.fz (.int w)),some (.fz (.str (wy ls)))]/\Good h w ls/\ls.length<=10/\Q (.fz (.tup ((nN h w ls).map cD))) Γ
theorem u7{h w:Int}{ls:List Lt}(a:k < ls.length):((nN h w ls).take (k + 1)).map cD++[cD (cat h w ls (k + 1))]=((nN h w ls).take (k + 2)).map cD:=by
 have e:(nN h w ls).take (k + 1 + 1)=(nN h w ls).take (k + 1)++[cat h w ls (k + 1)]:=by
  conv=>lhs;rw[Yx]
  rw[ES (by lia)];rfl
 show _=((nN h w ls).take (k + 1 + 1)).map cD;rw[e,ih];rfl
theorem K0{ls:List Lt}{d:D}(h:(ls.map λl=>D.str l.s)[k]?=some d):∃ l,ls[k]?=some l/\d=.str l.s:=by
 rw[dV] at h;cases q:ls[k]? with
 | none=>rw[q] at h;cases h
 | some l=>rw[q] at h;cases h;exact⟨l,rfl,rfl⟩
theorem mB{b:Type}{l:List b}{a:b}(h:l[k]?=some a):k < l.length:=(gS0 h).1
theorem y9(T:Txt w K mg a):aC P w K mg base CX0 2 a.tX a.qB ["height","width","way"] (sp3 K 3 Pf):=by
 refine ok3 T.iS.F eW (hbody:=λv A j s H E r=>⟨_,_,(ah (br (bC (bj (aw (Sv T.tys) (by rfl) T.z_isinstance (by decide +kernel) (aa (bv 2) (aa (P3.opd (zE (n:="str") (by rfl) T.z_str (by decide +kernel))) ab))))) (ai cy) aQ)
   (ah (aH (i:=3) eW.nd rfl (gs rfl) (bQ (ae (cp (ae (p3v 0) (ae (p3v 1) aq))) aq)))
   (ah (gM tr rfl (ON (p3v 2)) (aK (i:=4) eW.nd rfl (gs rfl))
   (ah (br (bC (bj (aj (by rfl) (AR T) r.dn (by rfl) T.jU.m T.jU.F.kp T.jU.b (aa (P3.opd (p3v 4)) (aa (P3.opd (p3v 0)) (aa (P3.opd (p3v 1)) ab)))))) (ai cy) aQ)
   (ah (br (aT (nB (by rfl)) (bv 4) (P3.opd (fe (p:=a.bH) (zs:=["r","b"]) (by rfl) T.eP)) (by with_unfolding_all rfl)) (ai (aH (i:=1) eW.nd rfl (gs rfl) (cg (P3.opd (aJ (bv 1) (P3.opd ag))) (P3.opd ag)))) aQ)
   (ah (br (aT (nB (by rfl)) (bv 4) (P3.opd (fe (p:=a.a9) (zs:=["p","b"]) (by rfl) T.cu)) (by with_unfolding_all rfl)) (ai (aH (i:=0) eW.nd rfl (gs rfl) (cg (P3.opd (aJ (bv 0) (P3.opd ag))) (P3.opd ag)))) aQ)
   (ai (cz (gN 3 (by rfl) (bv 3) (cp (ae (p3v 0) (ae (p3v 1) aq))))))))))
   (ai (ar (fF (Be (by rfl)) (by rfl) T.z_tuple (by decide +kernel) (aa (bv 3) ab))))))),λo Q h e=>?_⟩)
 obtain⟨h,w,b,rfl,g,t,q⟩:=h;walk_at "w";refine⟨by rw[gp];lia,by rw[gp];lia,?_⟩;refine⟨MY b,cA (λk f=>k<=b.length/\∃ s,f=[some (.fz (.int (cat h w b k).1)),some (.fz (.int (cat h w b k).2)),some (.fz (.str (wy b))),some (.ow (.lst (((nN h w b).take (k + 1)).map cD))),fo s]) ⟨xt _,none,by rw[t6];cases b <;> rfl⟩ ?_ ?_⟩
 .rintro k d f m ⟨u,s,rfl⟩;rw[Bp] at m;obtain⟨l,e,rfl⟩:=K0 m;have lt:=mB e;walk_at "w";refine⟨l,_,_,rfl,p9 g e,?_⟩;walk_at "w";have st:=t5 (h:=h) (w:=w) e;have x:((nN h w b).take (k + 1)).length<=11:=by rw[kv,pE];lia
  have z1:(2:Nat)<=sizeLine:=by rw[gp];lia
  have z2:(((nN h w b).take (k + 1)).map cD).length < sizeLine:=by rw[lM0,gp];lia
  cases l
  .have c:cat h w b (k + 1)=((cat h w b k).1,((cat h w b k).2 + 1) / 2):=st;walk_at "w";refine⟨⟨by decide,by decide⟩,?_⟩;walk_at "w";refine⟨z1,z2,lt,some (.str Lt.r.s),?_⟩;rw[<- u7 lt,c]
   rfl
  .have c:cat h w b (k + 1)=(((cat h w b k).1 + 1) / 2,(cat h w b k).2):=st;walk_at "w";refine⟨⟨by decide,by decide⟩,?_⟩;walk_at "w";refine⟨z1,z2,lt,some (.str Lt.p.s),?_⟩;rw[<- u7 lt,c]
   rfl
  .have c:cat h w b (k + 1)=(((cat h w b k).1 + 1) / 2,((cat h w b k).2 + 1) / 2):=st;walk_at "w";refine⟨⟨by decide,by decide⟩,?_⟩;walk_at "w";refine⟨⟨by decide,by decide⟩,?_⟩;walk_at "w";refine⟨z1,z2,lt,some (.str Lt.b.s),?_⟩;rw[<- u7 lt,c]
   rfl
 .rintro f ⟨u,s,rfl⟩;walk_at "w";rw[Bp,lM0,oD (by rw[pE];lia)];exact q
def NM (a:Ad):S3:=λΓ Q=>∃ (R:Rl) (h w:Int) (ls:List Lt),Γ=[some (.ln (.ins a.aV [] [])),some (.fz (.int h)),some (.fz (.int w)),some (.fz (.str R.word)),some (.fz (.str (wy ls)))]/\nU h w/\Good h w ls/\ls.length<=10/\
 Q (.fz .non) [some (.ln (plD a R h w ls)),some (.fz (.int h)),some (.fz (.int w)),some (.fz (.str R.word)),some (.fz (.str (wy ls)))]
theorem lB(T:Txt w K mg a):aC P w K mg base CX0 3 a.iE a.lH ["self","height","width","word","way"] (sp3 K 5 (NM a)):=by
 refine ok3 T.iu.F uw (hbody:=λj A b s H E c=>⟨_,_,(ah (br (bC (bj (aj (by rfl) (rC T) c.dn (by rfl) T.dh.m T.dh.F.kp T.dh.b (aa (P3.opd (p3v 1)) (aa (P3.opd (p3v 2)) ab))))) (ai cy) aQ)
   (ah (wW (C0:=a.aV) 0 (by rfl) T.aP T.oN (bv 0) (aj (by rfl) (Di T) c.dn (by rfl) T.pT.m T.pT.F.kp T.pT.b (aa (P3.opd (p3v 3)) ab)))
   (ah (wW (C0:=a.aV) 0 (by rfl) T.aP T.bU (bv 0) (aj (by rfl) (y9 T) c.dn (by rfl) T.iS.m T.iS.F.kp T.iS.b (aa (P3.opd (p3v 1)) (aa (P3.opd (p3v 2)) (aa (P3.opd (p3v 4)) ab)))))
   (ai (wW (C0:=a.aV) 0 (by rfl) T.aP T.ff (bv 0) (p3v 4)))))),λe Q h k=>?_⟩)
 obtain⟨R,h,w,i,rfl,f,g,d,q⟩:=h;walk_at "w";refine⟨h,w,rfl,f,?_⟩;walk_at "w";refine⟨R,rfl,?_⟩;walk_at "w";refine⟨h,w,i,rfl,g,d,?_⟩;walk_at "w";exact⟨by decide +kernel,by decide +kernel,q⟩
def xm (a:Ad)(f:Rl->Int->Int->List Lt->D):S3:=λΓ Q=>∃ (R:Rl) (h w:Int) (ls:List Lt),Γ=[some (.fz (plD a R h w ls))]/\ls.length<=10/\Q (.fz (f R h w ls)) Γ
theorem eK(T:Txt w K mg a):aC P w K mg base CX0 1 a.pB a.tS ["self"] (sp3 K 1 (xm a λR _ _ _=>R.ob a)):=by
 refine ok3 T.dM.F Ay (hbody:=λe A b s H E i=>⟨_,_,(ai (ar (dD (f:="chosen") (by rfl) (bv 0) T.aP T.oN))),λc Q h j=>?_⟩);obtain⟨R,h,w,g,rfl,d,q⟩:=h;walk_at "w";exact q
theorem vj(T:Txt w K mg a):aC P w K mg base CX0 1 a.rN a.vE ["self"] (sp3 K 1 (xm a λ_ _ _ ls=>.str (wy ls))):=by
 refine ok3 T.qU.F BB (hbody:=λe A b s H E g=>⟨_,_,(ai (ar (dD (f:="letters") (by rfl) (bv 0) T.aP T.ff))),λc Q h i=>?_⟩);obtain⟨R,h,w,ls,rfl,d,q⟩:=h;walk_at "w";exact q
theorem oJ(T:Txt w K mg a):aC P w K mg base CX0 1 a.kR a.ph ["self"] (sp3 K 1 (xm a λ_ h _ _=>.int h)):=by
 refine ok3 T.kB.F xv (hbody:=λg A b s H E i=>⟨_,_,(ai (ar (aR (by rfl) (P3.opd (aR (by rfl) (P3.opd (dD (f:="corners") (by rfl) (bv 0) T.aP T.bU)) (P3.opd ag) (λ_ _=>rfl))) (P3.opd ag) (λ_ _=>rfl)))),λc Q h j=>?_⟩);obtain⟨R,h,w,ls,rfl,d,q⟩:=h;walk_at "w";have e:=uh (h:=h) (w:=w) (ls:=ls) (k:=0) (xt _);rw[t6] at e;refine bX.mpr ⟨_,e,?_⟩;unfold cD;walk_at "w";exact q
theorem qu(T:Txt w K mg a):aC P w K mg base CX0 1 a.mE a.qF ["self"] (sp3 K 1 (xm a λ_ _ w _=>.int w)):=by
 refine ok3 T.l7.F yX (hbody:=λg A b s H E i=>⟨_,_,(ai (ar (aR (by rfl) (P3.opd (aR (by rfl) (P3.opd (dD (f:="corners") (by rfl) (bv 0) T.aP T.bU)) (P3.opd ag) (λ_ _=>rfl))) (P3.opd ag) (λ_ _=>rfl)))),λc Q h j=>?_⟩);obtain⟨R,h,w,ls,rfl,d,q⟩:=h;walk_at "w";have e:=uh (h:=h) (w:=w) (ls:=ls) (k:=0) (xt _);rw[t6] at e;refine bX.mpr ⟨_,e,?_⟩;unfold cD;walk_at "w";exact q
theorem dk(T:Txt w K mg a):aC P w K mg base CX0 1 a.mF a.qG ["self"] (sp3 K 1 (xm a λ_ _ _ ls=>.int ls.length)):=by
 refine ok3 T.cZ.F yY (hbody:=λe A b s H E g=>⟨_,_,(ai (ar (aw (bR (by rfl)) (by rfl) T.z_len (by decide +kernel) (aa (P3.opd (dD (f:="letters") (by rfl) (bv 0) T.aP T.ff)) ab)))),λc Q h i=>?_⟩);obtain⟨R,h,w,ls,rfl,d,q⟩:=h;walk_at "w";refine⟨by rw[jh,gp];lia,?_⟩;rw[jh];exact q
def IV (a:Ad):S3:=λΓ Q=>∃ (R:Rl) (h w:Int) (ls:List Lt) (k:Nat),Γ=[some (.fz (plD a R h w ls)),some (.fz (.int k))]/\ls.length<=10/\k<=ls.length/\Q (.fz (cD (cat h w ls k))) Γ
theorem fZ(T:Txt w K mg a):aC P w K mg base CX0 2 a.kS a.pj ["self","step"] (sp3 K 2 (IV a)):=by
 refine ok3 T.eV.F xw (hbody:=λj A b s H E e=>⟨_,_,(ah (br (bC (bj (aj (by rfl) (cW T) e.dn (by rfl) T.aL.m T.aL.F.kp T.aL.b (aa (P3.opd (p3v 1)) (aa (P3.opd ag) (aa (P3.opd (aD (by rfl) (bv 0) T.aP T.dq (dk T) e.dn T.cZ.b)) ab)))))) (ai cy) aQ)
   (ai (ar (aR (by rfl) (P3.opd (dD (f:="corners") (by rfl) (bv 0) T.aP T.bU)) (bv 1) (λ_ _=>rfl))))),λg Q h l=>?_⟩)
 obtain⟨R,h,w,d,k,rfl,c,i,q⟩:=h;walk_at "w";refine⟨by decide +kernel,R,h,w,d,rfl,c,?_⟩;walk_at "w";refine⟨_,_,_,rfl,rfl,?_⟩;rw[show whD (.int k) 0 (d.length:Int)=true by simp only[whD,ng,decide_eq_true_eq];lia];walk_at "w";exact bX.mpr ⟨_,uh i,q⟩
theorem kZ{a:Type}{f:a->D}{l:List a}{d:D}(h:(l.map f)[k]?=some d):∃ x,l[k]?=some x/\d=f x:=by
 rw[dV] at h;cases q:l[k]? with
 | none=>rw[q] at h;cases h
 | some x=>rw[q] at h;cases h;exact⟨x,rfl,rfl⟩
theorem take_snoc{a:Type}{xs:List a}{x:a}(h:xs[k]?=some x):xs.take (k + 1)=xs.take k++[x]:=by rw[Yx,h];rfl
theorem ma(h:n<=200000):n < sizeLine:=by rw[gp];lia
theorem xk(h:n<=200000):n<=sizeLine:=SY (ma h)
theorem z1:1<=sizeLine:=by rw[gp];decide
theorem z2:2<=sizeLine:=by rw[gp];decide
theorem z3:3<=sizeLine:=by rw[gp];decide
theorem z5:5<=sizeLine:=by rw[gp];decide
theorem z6:6<=sizeLine:=by rw[gp];decide
theorem z0:0<=sizeLine:=xt _
structure Pt where
 s:Nat
 wd:Str
 t:Int
 l:Int
 hh:Int
 ww:Int
noncomputable def Pt.dd (p:Pt):D:=.tup [.int p.s,.str p.wd,.int p.t,.int p.l,.int p.hh,.int p.ww]
noncomputable def uB (t l:Int)(n:Nat)(y:Nat):List D:=(ck n).map λ(x:Nat)=>.tup [.int (t + (y:Int)),.int (l + (x:Int))]
noncomputable def plc (t l b a:Int):List D:=((ck b.toNat).map λy=>uB t l a.toNat y).flatten
noncomputable def Pt.pl (p:Pt):List D:=plc p.t p.l p.hh p.ww
structure PtB (p:Pt):Prop where
 t0:0<=p.t
 l0:0<=p.l
 h0:0<=p.hh
 w0:0<=p.ww
 t1:p.t<=64
 l1:p.l<=64
 h1:p.hh<=64
 w1:p.ww<=64
def Hu:S3:=λΓ Q=>∃ p:Pt,Γ=[some (.fz p.dd)]/\PtB p/\Q (.fr (.lst p.pl)) Γ
theorem bN{i:Int}{d:D}(h:(rng i n)[k]?=some d):k < n/\d=.int (i + (k:Int)):=by
 unfold rng at h;exact mz h
theorem uW{f:Nat->List D}:((ck k).map f).flatten++f k=((ck (k + 1)).map f).flatten:=by
 rw[OS,ih,Ui];simp
theorem oY {f:Nat->List D}{m:Nat}(a:∀ k,(f k).length=m):∀ n:Nat,((ck n).map f).flatten.length=n * m
 | 0=>by simp
 | n + 1=>by rw[<- uW,el,oY a n,a,Nat.add_mul,Nat.one_mul]
theorem so{t l:Int}{y:Nat}:(uB t l n y).length=n:=by simp [uB]
theorem AN(T:Txt w K mg a):aC P w K mg base CX0 1 a.vH a.tG ["part"] (sp3 K 1 Hu):=by
 refine ok3 T.jR.F fP (hbody:=λM A n s H E O=>⟨_,_,(ah (eI (is:=[1,2,3,4]) (by rfl) (FC (by rfl) (bv 0) (bg (P3.opd ag)) bP) (av (ax (i:=1) fP.nd rfl (gs rfl)) (av (ax (i:=2) fP.nd rfl (Ny rfl)) (av (ax (i:=3) fP.nd rfl (gs rfl)) (av (ax (i:=4) fP.nd rfl (Ny rfl)) bA)))) rfl)
   (ai (ar (xO rfl (zK (by rfl) T.z_range (ae (p3v 1) (ae (aJ (bv 1) (bv 3)) aq))) iG (λ_ _ _ _ _=>(aK (i:=0) iG.nd rfl (gs rfl))) (λ_ _ _ _ _=>(zK (by rfl) T.z_range (ae (p3v 2) (ae (aJ (bv 2) (bv 3)) aq)))) (λ_ _ _ _ _=>(aK (i:=1) iG.nd rfl (gs rfl))) (λ_ _ _ _ _=>(cp (ae (p3v 0) (ae (p3v 1) aq)))))))),λr Q h R=>?_⟩)
 obtain⟨⟨N,wd,t,l,o,c⟩,rfl,⟨z,D,J,v,x,C,I,u⟩,q⟩:=h;dsimp only at z D J v x C I u;unfold Pt.dd;walk_at "w";refine⟨by simp [_h.sIx],?_⟩;walk_at "w";refine⟨by lia,by lia,by lia,by lia,?_⟩;rw[show (t + o - t).toNat=o.toNat by lia];refine gW (λk g b=>g=((ck k).map λy=>uB t l c.toNat y).flatten/\k<=64/\∃ s e,b=[fo s,fo e,some (.fz (.int l)),some (.fz (.int c))]) ⟨rfl,by lia,none,none,rfl⟩ ?_ ?_
 .rintro k d g b p ⟨rfl,F,s,e,rfl⟩;obtain⟨lt,rfl⟩:=bN p;walk_at "w";refine⟨by lia,by lia,by lia,by lia,?_⟩;rw[show (l + c - l).toNat=c.toNat by lia];have L:=oY (f:=λy=>uB t l c.toNat y) (m:=c.toNat) (λ_=>so) k;have S:k * c.toNat<=64 * 64:=Lc (by lia) (by lia);refine⟨λj g b=>g=((ck k).map λy=>uB t l c.toNat y).flatten++uB t l j k/\j<=64/\∃ e,b=[some (.fz (.int (t + (k:Int)))),fo e,some (.fz (.int l)),some (.fz (.int c))],⟨by simp [uB],by lia,e,rfl⟩,?_,?_⟩
  .rintro j d g b p ⟨rfl,G,e,rfl⟩;obtain⟨B,rfl⟩:=bN p;walk_at "w";refine⟨?_,by rw[gp];lia,?_,by lia,some _,rfl⟩
   .rw[el,L,so,gp];lia
   .rw[Re];congr 1;unfold uB;rw[OS,ih];rfl
  .rintro g b ⟨rfl,G,e,rfl⟩;refine⟨?_,by lia,some _,e,rfl⟩;rw[aZ];exact uW
 .rintro g b ⟨rfl,F,s,e,rfl⟩;rw[aZ];walk_at "w";refine⟨?_,q⟩;rw[oY (m:=c.toNat) (λ_=>so),gp];have:o.toNat * c.toNat<=64 * 64:=Lc (by lia) (by lia);lia
noncomputable def Dc (h w:Int)(ls:List Lt)(k:Nat):Lt->List Pt
 | .r=>[⟨k,"row",0,(cat h w ls (k + 1)).2,(cat h w ls (k + 1)).1,(cat h w ls k).2 - (cat h w ls (k + 1)).2⟩]
 | .p=>[⟨k,"pillar",(cat h w ls (k + 1)).1,0,(cat h w ls k).1 - (cat h w ls (k + 1)).1,(cat h w ls (k + 1)).2⟩]
 | .b=>[⟨k,"row",0,(cat h w ls (k + 1)).2,(cat h w ls (k + 1)).1,(cat h w ls k).2 - (cat h w ls (k + 1)).2⟩,⟨k,"pillar",(cat h w ls (k + 1)).1,0,(cat h w ls k).1 - (cat h w ls (k + 1)).1,(cat h w ls (k + 1)).2⟩,
   ⟨k,"both",(cat h w ls (k + 1)).1,(cat h w ls (k + 1)).2,(cat h w ls k).1 - (cat h w ls (k + 1)).1,(cat h w ls k).2 - (cat h w ls (k + 1)).2⟩]
noncomputable def pat (h w:Int)(ls:List Lt)(k:Nat):List Pt:=match ls[k]? with
 | some l=>Dc h w ls k l
 | none=>[]
theorem HK{h w:Int}{ls:List Lt}{l:Lt}(a:ls[k]?=some l):pat h w ls k=Dc h w ls k l:=by unfold pat;rw[a]
def Kb (a:Ad):S3:=λΓ Q=>∃ (R:Rl) (h w:Int) (ls:List Lt) (k:Nat),Γ=[some (.fz (plD a R h w ls)),some (.fz (.int k))]/\ls.length<=10/\k < ls.length/\Q (.fr (.lst ((pat h w ls k).map Pt.dd))) Γ
theorem nI(T:Txt w K mg a):aC P w K mg base CX0 1 a.dY a.gx ["self","step"] (sp3 K 2 (Kb a)):=by
 refine ok3 T.h9.F ba (hbody:=λt A e s H E n=>⟨_,_,(ah (eI (is:=[2,3]) (by rfl) (aR (by rfl) (P3.opd (dD (f:="corners") (by rfl) (bv 0) T.aP T.bU)) (bv 1) (λ_ _=>rfl)) (av (ax (i:=2) ba.nd rfl (gs rfl)) (av (ax (i:=3) ba.nd rfl (gs rfl)) bA)) rfl)
   (ah (eI (is:=[4,5]) (by rfl) (aR (by rfl) (P3.opd (dD (f:="corners") (by rfl) (bv 0) T.aP T.bU)) (P3.opd (aJ (bv 1) (P3.opd ag))) (λ_ _=>rfl)) (av (ax (i:=4) ba.nd rfl (gs rfl)) (av (ax (i:=5) ba.nd rfl (gs rfl)) bA)) rfl)
   (ah (aH (i:=6) ba.nd rfl (gs rfl) (aR (by rfl) (P3.opd (dD (f:="letters") (by rfl) (bv 0) T.aP T.ff)) (bv 1) (λ_ _=>rfl)))
   (ah (aH (i:=7) ba.nd rfl (gs rfl) (bQ aq))
   (ah (br (aT (nB (by rfl)) (bv 6) (P3.opd (fe (p:=a.bH) (zs:=["r","b"]) (by rfl) T.eP)) (by with_unfolding_all rfl)) (ai (cz (gN 7 (by rfl) (bv 7) (cp (ae (p3v 1) (ae b8 (ae ag (ae (p3v 5) (ae (p3v 4) (ae (bK (bv 3) (bv 5)) aq)))))))))) aQ)
   (ah (br (aT (nB (by rfl)) (bv 6) (P3.opd (fe (p:=a.a9) (zs:=["p","b"]) (by rfl) T.cu)) (by with_unfolding_all rfl)) (ai (cz (gN 7 (by rfl) (bv 7) (cp (ae (p3v 1) (ae b8 (ae (p3v 4) (ae ag (ae (bK (bv 2) (bv 4)) (ae (p3v 5) aq)))))))))) aQ)
   (ah (br (aT (gY (by rfl) n) (bv 6) (P3.opd b8) (bw _)) (ai (cz (gN 7 (by rfl) (bv 7) (cp (ae (p3v 1) (ae b8 (ae (p3v 4) (ae (p3v 5) (ae (bK (bv 2) (bv 4)) (ae (bK (bv 3) (bv 5)) aq)))))))))) aQ)
   (ai (ar (rB 7)))))))))),λm Q h g=>?_⟩)
 obtain⟨R,h,w,j,k,rfl,o,r,q⟩:=h;have b:(0:Nat) < sizeLine:=by rw[gp];lia
 have d:(1:Nat) < sizeLine:=by rw[gp];lia
 have c:(2:Nat) < sizeLine:=by rw[gp];lia
 walk_at "w";refine bX.mpr ⟨_,uh (by lia),?_⟩;unfold cD;walk_at "w";refine bX.mpr ⟨_,uh (k:=k + 1) (by lia),?_⟩;unfold cD;walk_at "w";obtain⟨l,g⟩:∃ l,j[k]?=some l:=⟨j[k],by simp [r]⟩;refine⟨by rw[jh,gp];lia,l,atL g,?_⟩;walk_at "w";rw[HK g] at q;cases l
 .walk_at "w";exact⟨z0,z6,b,q⟩
 .walk_at "w";exact⟨z0,z6,b,q⟩
 .walk_at "w";exact⟨z0,z6,b,z6,d,z6,c,q⟩
noncomputable def pts (h w:Int)(ls:List Lt):List Pt:=⟨ls.length,"coarse",0,0,(cat h w ls ls.length).1,(cat h w ls ls.length).2⟩::((ck ls.length).map λi=>pat h w ls (ls.length - 1 - i)).flatten
noncomputable def rn (h w:Int)(ls:List Lt)(i:Nat):List Pt:=⟨ls.length,"coarse",0,0,(cat h w ls ls.length).1,(cat h w ls ls.length).2⟩::((ck i).map λi=>pat h w ls (ls.length - 1 - i)).flatten
theorem vh{h w:Int}{ls:List Lt}:rn h w ls i++pat h w ls (ls.length - 1 - i)=rn h w ls (i + 1):=by
 unfold rn;rw[OS,ih,Ui,Vd];simp
theorem Ei{h w:Int}{ls:List Lt}:(pat h w ls k).length<=3:=by
 unfold pat
 cases ls[k]? with
 | none=>simp
 | some l=>cases l <;> simp [Dc]
theorem rm {h w:Int}{ls:List Lt}:∀ i:Nat,(rn h w ls i).length<=1 + 3 * i
 | 0=>by simp [rn]
 | i + 1=>by
  rw[<- vh,el];have:=rm (h:=h) (w:=w) (ls:=ls) i;have:=Ei (h:=h) (w:=w) (ls:=ls) (k:=ls.length - 1 - i);lia
def Ku (a:Ad):S3:=λΓ Q=>∃ (R:Rl) (h w:Int) (ls:List Lt),Γ=[some (.fz (plD a R h w ls))]/\ls.length<=10/\Q (.fr (.lst ((pts h w ls).map Pt.dd))) Γ
theorem BF{lo c:Int}{d:D}(h:(xC lo c n)[k]?=some d):k < n/\d=.int (lo + (k:Int) * c):=by
 unfold xC at h;exact mz h
theorem BE(lo c:Int)(n:Nat):(xC lo c n).length=n:=by simp [xC]
theorem za(T:Txt w K mg a):aC P w K mg base CX0 2 a.mG a.qJ ["self"] (sp3 K 1 (Ku a)):=by
 refine ok3 T.rV.F eX (hbody:=λn A e s H E g=>⟨_,_,(ah (eI (is:=[1,2]) (by rfl) (aR (by rfl) (P3.opd (dD (f:="corners") (by rfl) (bv 0) T.aP T.bU)) (P3.opd (jw (P3.opd ag))) (λ_ _=>rfl)) (av (ax (i:=1) eX.nd rfl (gs rfl)) (av (ax (i:=2) eX.nd rfl (gs rfl)) bA)) rfl)
   (ah (aH (i:=3) eX.nd rfl (gs rfl) (bQ (ae (cp (ae (aD (by rfl) (bv 0) T.aP T.dq (dk T) g.dn T.cZ.b) (ae b8 (ae ag (ae ag (ae (p3v 1) (ae (p3v 2) aq))))))) aq)))
   (ah (gM tr rfl (OO (by rfl) T.z_reversed (by rfl) T.z_range (ae (aD (by rfl) (bv 0) T.aP T.dq (dk T) g.dn T.cZ.b) aq)) (aK (i:=4) eX.nd rfl (gs rfl))
   (ai (cz (uC 3 (by rfl) (bv 3) (P3.opd (aG (by rfl) (bv 0) T.aP T.nJ (nI T) g.dn T.h9.b (aa (P3.opd (p3v 4)) ab)))))))
   (ai (ar (rB 3)))))),λj Q h r=>?_⟩)
 obtain⟨R,h,w,ls,rfl,b,q⟩:=h;walk_at "w";refine bX.mpr ⟨cD (cat h w ls ls.length),LF (by rw[lM0,pE];exact MO (ec _)),?_⟩;unfold cD;walk_at "w";refine⟨by decide +kernel,R,h,w,ls,rfl,b,?_⟩;walk_at "w";refine⟨by rw[gp];lia,by rw[gp];lia,?_⟩;refine⟨by decide +kernel,R,h,w,ls,rfl,b,?_⟩;walk_at "w";refine⟨by lia,by lia,?_⟩;rw[ey];refine cA (λi c=>i<=ls.length/\∃ s,c=[some (.fz (plD a R h w ls)),some (.fz (.int (cat h w ls ls.length).1)),some (.fz (.int (cat h w ls ls.length).2)),some (.ow (.lst ((rn h w ls i).map Pt.dd))),fo s]) ⟨by lia,none,rfl⟩ ?_ ?_
 .rintro i d c m ⟨l,s,rfl⟩;obtain⟨lt,rfl⟩:=BF m;walk_at "w";refine⟨by decide +kernel,R,h,w,ls,ls.length - 1 - i,by rw[show (ls.length:Int) - 1 + (i:Int) * -1=((ls.length - 1 - i:Nat):Int) by lia],b,by lia,?_⟩;walk_at "w";have p:=rm (h:=h) (w:=w) (ls:=ls) i;have o:=Ei (h:=h) (w:=w) (ls:=ls) (k:=ls.length - 1 - i);exact⟨by rw[lM0,lM0,gp];lia,by lia,some _,by rw[<- vh,ih];rfl⟩
 .rintro c ⟨l,s,rfl⟩;rw[BE];walk_at "w";exact q
structure LS (h w:Int) (ls:List Lt) (p:Pt):Prop where
 s:p.s<=ls.length
 t0:0<=p.t
 l0:0<=p.l
 h1:1<=p.hh
 w1:1<=p.ww
 ht:p.t + p.hh<=(cat h w ls p.s).1
 wl:p.l + p.ww<=(cat h w ls p.s).2
 out:p.s < ls.length->(cat h w ls (p.s + 1)).1<=p.t\/(cat h w ls (p.s + 1)).2<=p.l
theorem Kt{h w:Int}{ls:List Lt}{l:Lt}(g:Good h w ls)(b:nU h w)(c:ls[k]?=some l):∀ p∈Dc h w ls k l,LS h w ls p:=by
 have lt:=mB c;obtain⟨i,f⟩:=p9 g c;have st:=t5 (h:=h) (w:=w) c;obtain⟨n,m,_,_⟩:=kq (k:=k) g b.h1 b.w1 (by lia);obtain⟨j,b2,_,_⟩:=kq (k:=k + 1) g b.h1 b.w1 (by lia);intro p a;cases l
 .have e:(cat h w ls (k + 1)).1=(cat h w ls k).1:=by rw[st];rfl
  have d:(cat h w ls (k + 1)).2=((cat h w ls k).2 + 1) / 2:=by rw[st];rfl
  have:=i (by decide);simp only[Dc,hF,lp,or_false] at a;subst a;exact⟨by dsimp only;lia,by dsimp only;lia,by dsimp only;lia,by dsimp only;lia,by dsimp only;lia,by dsimp only;lia,by dsimp only;lia,λ_=>.inr (UH _)⟩
 .have e:(cat h w ls (k + 1)).1=((cat h w ls k).1 + 1) / 2:=by rw[st];rfl
  have d:(cat h w ls (k + 1)).2=(cat h w ls k).2:=by rw[st];rfl
  have:=f (by decide);simp only[Dc,hF,lp,or_false] at a;subst a;exact⟨by dsimp only;lia,by dsimp only;lia,by dsimp only;lia,by dsimp only;lia,by dsimp only;lia,by dsimp only;lia,by dsimp only;lia,λ_=>.inl (UH _)⟩
 .have e:(cat h w ls (k + 1)).1=((cat h w ls k).1 + 1) / 2:=by rw[st];rfl
  have d:(cat h w ls (k + 1)).2=((cat h w ls k).2 + 1) / 2:=by rw[st];rfl
  have:=i (by decide);have:=f (by decide);simp only[Dc,hF,lp,or_false] at a;rcases a with rfl | rfl | rfl
  .exact⟨by dsimp only;lia,by dsimp only;lia,by dsimp only;lia,by dsimp only;lia,by dsimp only;lia,by dsimp only;lia,by dsimp only;lia,λ_=>.inr (UH _)⟩
  .exact⟨by dsimp only;lia,by dsimp only;lia,by dsimp only;lia,by dsimp only;lia,by dsimp only;lia,by dsimp only;lia,by dsimp only;lia,λ_=>.inl (UH _)⟩
  .exact⟨by dsimp only;lia,by dsimp only;lia,by dsimp only;lia,by dsimp only;lia,by dsimp only;lia,by dsimp only;lia,by dsimp only;lia,λ_=>.inl (UH _)⟩
theorem C5{h w:Int}{ls:List Lt}(g:Good h w ls)(a:nU h w):∀ p∈pts h w ls,LS h w ls p:=by
 intro p hp;unfold pts at hp;rcases hF.mp hp with rfl | hp
 .obtain⟨d,c,_,_⟩:=kq (k:=ls.length) g a.h1 a.w1 (ec _);exact⟨ec _,by dsimp only;lia,by dsimp only;lia,d,c,by dsimp only;lia,by dsimp only;lia,λz=>absurd z (sk _)⟩
 .rw[TX] at hp;obtain⟨e,b,hp⟩:=hp;obtain⟨i,_,rfl⟩:=ry.mp b;cases q:ls[ls.length - 1 - i]? with
  | none=>unfold pat at hp;rw[q] at hp;cases hp
  | some l=>rw[HK q] at hp;exact Kt g a q p hp
theorem LS.b{h w:Int}{ls:List Lt}{p:Pt}(o:LS h w ls p)(g:Good h w ls)(a:nU h w):PtB p:=by
 obtain⟨f,e,d,c⟩:=kq (k:=p.s) g a.h1 a.w1 o.s;have:=a.h2;have:=a.w2;have:=o.ht;have:=o.wl;exact⟨o.t0,o.l0,by have:=o.h1;lia,by have:=o.w1;lia,by have:=o.h1;lia,by have:=o.w1;lia,by have:=o.t0;lia,by have:=o.l0;lia⟩
theorem Hw{p:Pt}(b:PtB p):p.pl.length<=4096:=by
 unfold Pt.pl plc;rw[oY (m:=p.ww.toNat) (λ_=>so)];have:p.hh.toNat * p.ww.toNat<=64 * 64:=Lc (by have:=b.h1;lia) (by have:=b.w1;lia);lia
noncomputable def wm (ps:List Pt):List D:=(ps.map Pt.pl).flatten
noncomputable def ord (h w:Int)(ls:List Lt):List D:=wm (pts h w ls)
theorem FD{ps:List Pt}{p:Pt}:wm ps++p.pl=wm (ps++[p]):=by unfold wm;simp
theorem sE:∀ {ps:List Pt},(∀ p∈ps,PtB p)->(wm ps).length<=4096 * ps.length
 | [],_=>by simp [wm]
 | p::ps,a=>by
  have e:wm (p::ps)=p.pl++wm ps:=by simp [wm]
  have:=sE (ps:=ps) λq b=>a q (ic _ b);have:=Hw (a p ly);rw[e,el,ro];lia
theorem Ka{ps:List Pt}{d:D}(h:(ps.map Pt.dd)[k]?=some d):∃ p,ps[k]?=some p/\d=p.dd:=by
 rw[dV] at h;cases q:ps[k]? with
 | none=>rw[q] at h;cases h
 | some l=>rw[q] at h;cases h;exact⟨l,rfl,rfl⟩
def KD (a:Ad):S3:=λΓ Q=>∃ (R:Rl) (h w:Int) (ls:List Lt),Γ=[some (.fz (plD a R h w ls))]/\nU h w/\Good h w ls/\ls.length<=10/\Q (.fr (.lst (ord h w ls))) Γ
theorem Eg{h w:Int}{ls:List Lt}(a:ls.length<=10):(pts h w ls).length<=31:=by
 have:=rm (h:=h) (w:=w) (ls:=ls) ls.length;have e:pts h w ls=rn h w ls ls.length:=rfl;rw[e];lia
theorem zb(T:Txt w K mg a):aC P w K mg base CX0 3 a.mJ a.qK ["self"] (sp3 K 1 (KD a)):=by
 refine ok3 T.rW.F yZ (hbody:=λy A m s H E r=>⟨_,_,(ai (ar (xO rfl (bI (by rfl) (aD (by rfl) (bv 0) T.aP T.zd (za T) r.dn T.rV.b)) gZ (λ_ _ _ _ _=>(aK (i:=0) gZ.nd rfl (gs rfl))) (λ_ _ _ _ _=>(bI (by rfl) (aj (by rfl) (AN T) r.dn (by rfl) T.jR.m T.jR.F.kp T.jR.b (aa (P3.opd (p3v 0)) ab)))) (λ_ _ _ _ _=>(aK (i:=1) gZ.nd rfl (gs rfl))) (λ_ _ _ _ _=>(p3v 1))))),λu Q h C=>?_⟩);obtain⟨R,h,w,ls,rfl,o,g,f,q⟩:=h;have PB:∀ p∈pts h w ls,PtB p:=λp l=>(C5 g o p l).b g o;have D:=Eg (h:=h) (w:=w) f;walk_at "w";refine⟨by decide +kernel,R,h,w,ls,rfl,f,?_⟩;walk_at "w";refine gW (λk e b=>e=wm ((pts h w ls).take k)/\∃ s c,b=[fo s,fo c]) ⟨rfl,none,none,rfl⟩ ?_ ?_
 .rintro k d e b n ⟨rfl,s,c,rfl⟩;obtain⟨p,l,rfl⟩:=Ka n;have t:p∈pts h w ls:=fC l;walk_at "w";refine⟨p,rfl,PB p t,?_⟩;walk_at "w";have v:=sE (ps:=(pts h w ls).take k) λq x=>PB q (Os x);have B:=Hw (PB p t);have z:((pts h w ls).take k).length<=31:=by rw[kv];lia
  refine⟨λj e b=>e=wm ((pts h w ls).take k)++p.pl.take j/\∃ c,b=[some (.fz p.dd),fo c],⟨by simp,c,rfl⟩,?_,?_⟩
  .rintro j d e b n ⟨rfl,c,rfl⟩;walk_at "w";refine⟨by rw[el,kv,gp];lia,by rw[Re,take_snoc n],some _,rfl⟩
  .rintro e b ⟨rfl,c,rfl⟩;refine⟨by rw[Ub,FD,take_snoc l],some _,c,rfl⟩
 .rintro e b ⟨rfl,s,c,rfl⟩;rw[lM0,Ub];walk_at "w";have v:=sE PB;exact⟨by rw[gp];lia,q⟩
noncomputable abbrev tl (bs:List Bool):D:=.lst (bs.map .bl)
noncomputable def gb (bs:List Bool)(k:Nat):Bool:=bs.getD k false
theorem R3{bs:List Bool}(h:k < bs.length):bs[k]?=some (gb bs k):=by rw[gE0 h];simp [gb,rp,h]
theorem R4{bs:List Bool}(h:k < bs.length):(bs.map D.bl)[k]?=some (.bl (gb bs k)):=by rw[dV,R3 h];rfl
theorem Bh{bs:List Bool}{i:Int}(a:0<=i)(h:i < bs.length):atI (bs.map D.bl) i=some (.bl (gb bs i.toNat)):=cG a (R4 (by lia))
theorem Ls{bs:List Bool}{d:D}(h:(bs.map D.bl)[k]?=some d):k < bs.length/\d=.bl (gb bs k):=by
 have lt:k < bs.length:=by have:=(gS0 h).1;simpa using this
 rw[R4 lt] at h;cases h;exact⟨lt,rfl⟩
noncomputable def rb (f:Nat->Bool)(k:Nat):List Bool:=(ck k).map f
theorem xE(f:Nat->Bool)(k:Nat):(rb f k).length=k:=by unfold rb;simp
theorem Hi(f:Nat->Bool)(n:Nat):(ck n).map (λj=>D.bl (f j))=(rb f n).map D.bl:=by unfold rb;rw[oj];rfl
theorem Hh{f:Nat->Bool}(h:j < k):gb (rb f k) j=f j:=by unfold gb rb;simp [rp,h]
noncomputable def oF (bs:List Bool):List Bool:=rb (λj=>gb bs (2 * j)) ((bs.length + 1) / 2)
theorem HU(bs:List Bool):(oF bs).length=(bs.length + 1) / 2:=xE _ _
theorem S7(bs:List Bool):pk (bs.map D.bl) (some 0) none (some 2)=(oF bs).map D.bl:=by rw[Kh _ false];unfold oF rb;rw[oj];rfl
noncomputable def Fs (bs:List Bool):List D:=(ck (bs.length / 2)).map λj=>.tup [.bl (gb bs (2 * j)),.bl (gb bs (2 * j + 1))]
noncomputable def hsB (bs:List Bool)(k:Int):Bool:=decide (0<=k) && decide (k < bs.length) && gb bs k.toNat
def RP:S3:=λΓ Q=>∃ (a:List Bool) (k:Int),Γ=[some (.fz (tl a)),some (.fz (.int k))]/\Q (.fz (.bl (hsB a k))) Γ
theorem uF(T:Txt w K mg a):aC P w K mg base CX0 1 a.MI a.IF ["marks","at"] (sp3 K 2 RP):=by
 refine ok3 T.fL.F Nh (hbody:=λg A e s H E i=>⟨_,_,(ai (ar (iA (BR vU CC (P3.opd ag) (bv 1) (P3.opd (aw (bR (by rfl)) (by rfl) T.z_len (by decide +kernel) (aa (bv 0) ab)))) (kQ (aR (by rfl) (bv 0) (bv 1) (λ_ _=>rfl)))))),λf Q h j=>?_⟩);obtain⟨b,k,rfl,q⟩:=h;walk_at "w";rw[lM0];by_cases c:0<=k
 .by_cases d:k < b.length
  .rw[show qg 0 k=true from decide_eq_true c,show DL k (b.length:Int)=true from decide_eq_true d];refine bX.mpr ⟨_,Bh c d,?_⟩;rw[show hsB b k=gb b k.toNat by unfold hsB;rw[decide_eq_true c,decide_eq_true d];rfl] at q;exact q
  .rw[show qg 0 k=true from decide_eq_true c,show DL k (b.length:Int)=false from decide_eq_false d];rw[show hsB b k=false by unfold hsB;rw[decide_eq_false d,WG];rfl] at q;exact q
 .rw[show qg 0 k=false from decide_eq_false c];rw[show hsB b k=false by unfold hsB;rw[decide_eq_false c];rfl] at q;exact q
noncomputable def prF (bs:List Bool):List Bool:=rb (λj=>gb bs (2 * j) && gb bs (2 * j + 1)) (bs.length / 2)
noncomputable def psF (bs:List Bool):List Bool:=prF bs++hP (bs.length % 2) false
theorem AF(bs:List Bool):(prF bs).length=bs.length / 2:=xE _ _
theorem Ho(bs:List Bool):(psF bs).length=(bs.length + 1) / 2:=by unfold psF;rw[el,AF,zz];lia
theorem SE(n:Nat):VB (n:Int) 1=((n % 2:Nat):Int):=by
 show ((n &&& 1:Nat):Int)=_;rw[Nat.and_one_is_mod]
theorem Qo(n:Nat):(hP n [D.bl false]).flatten=(hP n false).map D.bl:=by
 induction n with
 | zero=>rfl
 | succ n a=>rw[yv,KM,a];rfl
def Ts (f:List Bool->List Bool):S3:=λΓ Q=>∃ (a:List Bool),Γ=[some (.fz (tl a))]/\a.length<=64/\Q (.fr (tl (f a))) Γ
theorem oC(T:Txt w K mg a):aC P w K mg base CX0 2 a.qN a.o5 ["row"] (sp3 K 1 (Ts psF)):=by
 refine ok3 T.cI.F xo (hbody:=λu A l s H E o=>⟨_,_,(ai (ar (aJ (P3.opd (bF rfl (bI (by rfl) (aj (by rfl) (j_ T) o.dn (by rfl) T.bJ.m T.bJ.F.kp T.bJ.b (aa (P3.opd (p3v 0)) ab))) gn (λ_ _ _ _ _=>(gj (is:=[0,1]) (by rfl) (av (ax (i:=0) gn.nd rfl (gs rfl)) (av (ax (i:=1) gn.nd rfl (gs rfl)) bA)) rfl)) (λ_ _ _ _ _=>(iA (p3v 0) (kQ (p3v 1)))))) (P3.opd (Ek (P3.opd (bQ (ae fG aq))) (P3.opd (Kz (P3.opd (aw (bR (by rfl)) (by rfl) T.z_len (by decide +kernel) (aa (bv 0) ab))) (P3.opd ag)))))))),λm Q h v=>?_⟩);obtain⟨b,rfl,t,q⟩:=h;walk_at "w";refine⟨Bool,.bl,false,b,rfl,t,?_⟩;rw[show prG D.bl false b=Fs b from rfl];walk_at "w";have n:(Fs b).length=b.length / 2:=by unfold Fs;simp
 refine⟨small (by lia),aO (λk f c=>f=(ck k).map (λj=>D.bl (gb b (2 * j) && gb b (2 * j + 1)))/\∃ s g,c=[fo s,fo g]) ⟨rfl,none,none,rfl⟩ ?_ ?_⟩
 .rintro k d f c r p ⟨rfl,s,g,rfl⟩;obtain⟨lt,rfl⟩:=mz r;cases e:gb b (2 * k) <;> walk_at "w" <;> exact⟨snoc (by rw[e];rfl),some _,some _,rfl⟩
 .rintro f c p ⟨rfl,s,g,rfl⟩;rw[n,show (ck (b.length / 2)).map (λj=>D.bl (gb b (2 * j) && gb b (2 * j + 1)))=(prF b).map D.bl from Hi _ _];walk_at "w";rw[lM0,SE];rw[ey,Qo,<- ih];exact⟨z1,by lia,by lia,xk (by lia),by rw[lM0,lM0,AF,zz,gp];lia,q⟩
def Dl (f g:List Bool->List Bool):S3:=λΓ Q=>∃ (a:List Bool),Γ=[some (.fz (tl a))]/\a.length<=64/\Q (.fz (.tup [tl (f a),tl (g a)])) Γ
theorem wo(T:Txt w K mg a):aC P w K mg base CX0 3 a.cU a.m7 ["row"] (sp3 K 1 (Dl psF prF)):=by
 refine ok3 T.ja.F wb (hbody:=λu A l s H E m=>⟨_,_,(ai (ar (cp (ae (aj (by rfl) (oC T) m.dn (by rfl) T.cI.m T.cI.F.kp T.cI.b (aa (P3.opd (p3v 0)) ab)) (ae (bF rfl (bI (by rfl) (aj (by rfl) (j_ T) m.dn (by rfl) T.bJ.m T.bJ.F.kp T.bJ.b (aa (P3.opd (p3v 0)) ab))) fA (λ_ _ _ _ _=>(gj (is:=[0,1]) (by rfl) (av (ax (i:=0) fA.nd rfl (gs rfl)) (av (ax (i:=1) fA.nd rfl (gs rfl)) bA)) rfl)) (λ_ _ _ _ _=>(iA (p3v 0) (kQ (p3v 1))))) aq))))),λo Q h v=>?_⟩);obtain⟨b,rfl,n,q⟩:=h;walk_at "w";refine⟨b,rfl,n,?_⟩;walk_at "w";refine⟨Bool,.bl,false,b,rfl,n,?_⟩;rw[show prG D.bl false b=Fs b from rfl];walk_at "w";have p:(Fs b).length=b.length / 2:=by unfold Fs;simp
 refine⟨small (by lia),aO (λk f c=>f=(ck k).map (λj=>D.bl (gb b (2 * j) && gb b (2 * j + 1)))/\∃ s g,c=[fo s,fo g]) ⟨rfl,none,none,rfl⟩ ?_ ?_⟩
 .rintro k d f c t r ⟨rfl,s,g,rfl⟩;obtain⟨lt,rfl⟩:=mz t;cases e:gb b (2 * k) <;> walk_at "w" <;> exact⟨snoc (by rw[e];rfl),some _,some _,rfl⟩
 .rintro f c r ⟨rfl,s,g,rfl⟩;rw[p,show (ck (b.length / 2)).map (λj=>D.bl (gb b (2 * j) && gb b (2 * j + 1)))=(prF b).map D.bl from Hi _ _];walk_at "w";exact⟨z2,q⟩
noncomputable def gdF (bs:List Bool):List Bool:=rb (λj=>gb bs (2 * j) && (gb bs (2 * j + 1) && hsB bs (2 * (j:Int) + 2))) (bs.length / 2)
noncomputable def gsF (bs:List Bool):List Bool:=rb (λj=>gb bs (2 * j) && (hsB (gdF bs) ((j:Int) - 1) && hsB (gdF bs) (j:Int))) ((bs.length + 1) / 2)
theorem Iw(bs:List Bool):(gdF bs).length=bs.length / 2:=xE _ _
theorem OZ(bs:List Bool):(gsF bs).length=(bs.length + 1) / 2:=xE _ _
theorem Gk{bs:List Bool}{d:D}(h:(yF (bs.map D.bl))[k]?=some d):k < bs.length/\d=.tup [.int k,.bl (gb bs k)]:=by
 obtain⟨x,a,rfl⟩:=u5 h;obtain⟨lt,rfl⟩:=Ls a;exact⟨lt,rfl⟩
theorem Ab{bs:List Bool}:(yF (bs.map D.bl)).length=bs.length:=by unfold yF;simp
theorem uG(T:Txt w K mg a):aC P w K mg base CX0 2 a.fh a.lE ["row"] (sp3 K 1 (Dl gsF gdF)):=by
 refine ok3 T.ir.F gI (hbody:=λu A m s H E n=>⟨_,_,(ah (aH (i:=1) gI.nd rfl (Ny rfl) (iI (bF rfl (bB (by rfl) T.z_range (ae (cg (P3.opd (aw (bR (by rfl)) (by rfl) T.z_len (by decide +kernel) (aa (bv 0) ab))) (P3.opd ag)) aq)) iO (λ_ _ _ _ _=>(aK (i:=0) iO.nd rfl (gs rfl))) (λ_ _ _ _ _=>(iA (aR (by rfl) (bv 1) (P3.opd (dX (P3.opd ag) (bv 0))) (λ_ _=>rfl)) (iA (aR (by rfl) (bv 1) (P3.opd (aJ (P3.opd (dX (P3.opd ag) (bv 0))) (P3.opd ag))) (λ_ _=>rfl)) (kQ (aj (by rfl) (uF T) n.dn (by rfl) T.fL.m T.fL.F.kp T.fL.b (aa (P3.opd (p3v 1)) (aa (P3.opd (aJ (P3.opd (dX (P3.opd ag) (bv 0))) (P3.opd ag))) ab))))))))))
   (ah (dW (i:=2) gI.nd rfl rfl rfl (K_ (by rfl) T.z_enumerate (ae (lA (by rfl) (bv 0) (bg (P3.opd ag)) bP (bg (P3.opd ag))) aq)) eS (λ_ _ _ _ _=>(gj (is:=[0,1]) (by rfl) (av (ax (i:=0) eS.nd rfl (gs rfl)) (av (ax (i:=1) eS.nd rfl (gs rfl)) bA)) rfl)) (λ_ _ _ _ _=>(iA (p3v 1) (iA (aj (by rfl) (uF T) n.dn (by rfl) T.fL.m T.fL.F.kp T.fL.b (aa (P3.opd (p3v 2)) (aa (P3.opd (bK (bv 0) (P3.opd ag))) ab))) (kQ (aj (by rfl) (uF T) n.dn (by rfl) T.fL.m T.fL.F.kp T.fL.b (aa (P3.opd (p3v 2)) (aa (P3.opd (p3v 0)) ab))))))))
   (ai (ar (cp (ae (p3v 2) (ae (p3v 1) aq))))))),λr Q h v=>?_⟩)
 obtain⟨b,rfl,x,q⟩:=h;walk_at "w";rw[lM0];have t:((b.length:Int) / 2).toNat=b.length / 2:=by lia
 rw[t];refine⟨⟨by decide,by decide⟩,by lia,by lia,small (by rw[aZ];lia),aO (λk f c=>f=(ck k).map (λj:Nat=>D.bl (gb b (2 * j) && (gb b (2 * j + 1) && hsB b (2 * (j:Int) + 2))))/\∃ s,c=[fo s,some (.fz (tl b))]) ⟨rfl,none,rfl⟩ ?_ ?_⟩
 .rintro k d f c p o ⟨rfl,s,rfl⟩;obtain⟨lt,rfl⟩:=bN p;rw[Tj];walk_at "w";refine⟨.inl ⟨by decide,by decide⟩,bX.mpr ⟨_,Bh (by lia) (by lia),?_⟩⟩;rw[show (2 * (k:Int)).toNat=2 * k by lia];cases e:gb b (2 * k)
  .walk_at "w";exact⟨snoc (by rw[e];rfl),some _,rfl⟩
  .walk_at "w";refine⟨.inl ⟨by decide,by decide⟩,bX.mpr ⟨_,Bh (by lia) (by lia),?_⟩⟩;rw[show (2 * (k:Int) + 1).toNat=2 * k + 1 by lia];cases g:gb b (2 * k + 1)
   .walk_at "w";exact⟨snoc (by rw[e,g];rfl),some _,rfl⟩
   .walk_at "w";refine⟨.inl ⟨by decide,by decide⟩,_,_,rfl,?_⟩;walk_at "w";exact⟨snoc (by rw[e,g];rfl),some _,rfl⟩
 rintro f c o ⟨rfl,s,rfl⟩;rw[aZ,show (ck (b.length / 2)).map (λj:Nat=>D.bl (gb b (2 * j) && (gb b (2 * j + 1) && hsB b (2 * (j:Int) + 2))))=(gdF b).map D.bl from Hi _ _];walk_at "w";rw[S7];refine⟨by decide,small (by rw[Ab,HU];lia),aO (λk f c=>f=(ck k).map (λj:Nat=>D.bl (gb b (2 * j) && (hsB (gdF b) ((j:Int) - 1) && hsB (gdF b) (j:Int))))/\∃ s l,c=[fo s,fo l,some (.fz (tl (gdF b)))]) ⟨rfl,none,none,rfl⟩ ?_ ?_⟩
 .rintro k d f c p o ⟨rfl,s,l,rfl⟩;obtain⟨lt,rfl⟩:=Gk p;rw[HU] at lt;rw[show gb (oF b) k=gb b (2 * k) from Hh lt];cases e:gb b (2 * k)
  .walk_at "w";exact⟨snoc (by rw[e];rfl),some _,some _,rfl⟩
  .walk_at "w";refine⟨_,_,rfl,?_⟩;cases g:hsB (gdF b) ((k:Int) - 1)
   .walk_at "w";exact⟨snoc (by rw[e,g];rfl),some _,some _,rfl⟩
   .walk_at "w";refine⟨_,_,rfl,?_⟩;walk_at "w";exact⟨snoc (by rw[e,g];rfl),some _,some _,rfl⟩
 rintro f c o ⟨rfl,s,l,rfl⟩;rw[Ab,HU,show (ck ((b.length + 1) / 2)).map (λj:Nat=>D.bl (gb b (2 * j) && (hsB (gdF b) ((j:Int) - 1) && hsB (gdF b) (j:Int))))=(gsF b).map D.bl from Hi _ _];walk_at "w";exact⟨z2,q⟩
noncomputable def ldF (bs:List Bool):List Bool:=rb (λj=>hsB (psF bs) ((j:Int) - 1) && (hsB (psF bs) (j:Int) && hsB (psF bs) ((j:Int) + 1))) (bs.length / 2)
theorem Ou(bs:List Bool):(ldF bs).length=bs.length / 2:=xE _ _
theorem uE(T:Txt w K mg a):aC P w K mg base CX0 3 a.fg a.lD ["row"] (sp3 K 1 (Dl psF ldF)):=by
 refine ok3 T.iq.F lu (hbody:=λu A l s H E f=>⟨_,_,(ah (aH (i:=1) lu.nd rfl (Ny rfl) (iI (aj (by rfl) (oC T) f.dn (by rfl) T.cI.m T.cI.F.kp T.cI.b (aa (P3.opd (p3v 0)) ab))))
   (ai (ar (cp (ae (p3v 1) (ae (bF rfl (bB (by rfl) T.z_range (ae (cg (P3.opd (aw (bR (by rfl)) (by rfl) T.z_len (by decide +kernel) (aa (bv 0) ab))) (P3.opd ag)) aq)) iN (λ_ _ _ _ _=>(aK (i:=0) iN.nd rfl (gs rfl))) (λ_ _ _ _ _=>(iA (aj (by rfl) (uF T) f.dn (by rfl) T.fL.m T.fL.F.kp T.fL.b (aa (P3.opd (p3v 1)) (aa (P3.opd (bK (bv 0) (P3.opd ag))) ab))) (iA (aj (by rfl) (uF T) f.dn (by rfl) T.fL.m T.fL.F.kp T.fL.b (aa (P3.opd (p3v 1)) (aa (P3.opd (p3v 0)) ab))) (kQ (aj (by rfl) (uF T) f.dn (by rfl) T.fL.m T.fL.F.kp T.fL.b (aa (P3.opd (p3v 1)) (aa (P3.opd (aJ (bv 0) (P3.opd ag))) ab)))))))) aq)))))),λn Q h v=>?_⟩)
 obtain⟨b,rfl,r,q⟩:=h;walk_at "w";refine⟨b,rfl,r,?_⟩;walk_at "w";rw[lM0];have t:((b.length:Int) / 2).toNat=b.length / 2:=by lia
 rw[t];refine⟨⟨by decide,by decide⟩,by lia,by lia,small (by rw[aZ];lia),aO (λk g c=>g=(ck k).map (λj:Nat=>D.bl (hsB (psF b) ((j:Int) - 1) && (hsB (psF b) (j:Int) && hsB (psF b) ((j:Int) + 1))))/\∃ s,c=[fo s,some (.fz (tl (psF b)))]) ⟨rfl,none,rfl⟩ ?_ ?_⟩
 .rintro k d g c p o ⟨rfl,s,rfl⟩;obtain⟨lt,rfl⟩:=bN p;rw[Tj];walk_at "w";refine⟨_,_,rfl,?_⟩;cases e:hsB (psF b) ((k:Int) - 1)
  .walk_at "w";exact⟨snoc (by rw[e];rfl),some _,rfl⟩
  .walk_at "w";refine⟨_,_,rfl,?_⟩;cases m:hsB (psF b) (k:Int)
   .walk_at "w";exact⟨snoc (by rw[e,m];rfl),some _,rfl⟩
   .walk_at "w";refine⟨_,_,rfl,?_⟩;walk_at "w";exact⟨snoc (by rw[e,m];rfl),some _,rfl⟩
 rintro g c o ⟨rfl,s,rfl⟩;rw[aZ,show (ck (b.length / 2)).map (λj:Nat=>D.bl (hsB (psF b) ((j:Int) - 1) && (hsB (psF b) (j:Int) && hsB (psF b) ((j:Int) + 1))))=(ldF b).map D.bl from Hi _ _];walk_at "w";exact⟨z2,q⟩
noncomputable def Rl.s1:Rl->List Bool->List Bool
 | .guess=>gsF | _=>psF
noncomputable def Rl.s2:Rl->List Bool->List Bool
 | .guess=>gdF | .lean=>ldF | _=>prF
theorem Nm(R:Rl)(bs:List Bool):(R.s1 bs).length=(bs.length + 1) / 2:=by cases R <;> first | exact Ho bs | exact OZ bs
theorem Nl(R:Rl)(bs:List Bool):(R.s2 bs).length=bs.length / 2:=by cases R <;> first | exact AF bs | exact Iw bs | exact Ou bs
theorem w8{x y z u:Addr}(R:Rl):Qx R.word [(lh "sum",x),(lh "half",y),(lh "guess",z),(lh "lean",u)]=some (match R with | .sum=>x | .half=>y | .guess=>z | .lean=>u):=by
 rw[ek,ek,ek,ek];cases R with
 | sum=>rw[show (Rl.sum.word == lh "sum")=true by decide +kernel]
 | half=>rw[show (Rl.half.word == lh "sum")=false by decide +kernel,show (Rl.half.word == lh "half")=true by decide +kernel]
 | guess=>rw[show (Rl.guess.word == lh "sum")=false by decide +kernel,show (Rl.guess.word == lh "half")=false by decide +kernel,show (Rl.guess.word == lh "guess")=true by decide +kernel]
 | lean=>rw[show (Rl.lean.word == lh "sum")=false by decide +kernel,show (Rl.lean.word == lh "half")=false by decide +kernel,show (Rl.lean.word == lh "guess")=false by decide +kernel,show (Rl.lean.word == lh "lean")=true by decide +kernel]
def KR:S3:=λΓ Q=>∃ (R:Rl) (a:List Bool),Γ=[some (.fz (.str R.word)),some (.fz (tl a))]/\a.length<=64/\Q (.fz (.tup [tl (R.s1 a),tl (R.s2 a)])) Γ
theorem BV(T:Txt w K mg a):aC P w K mg base CX0 4 a.yu a.vx ["word","row"] (sp3 K 2 KR):=by
 refine ok3 T.lU.F ve (hbody:=λg A d s H E e=>⟨_,_,(ah (aH (i:=2) ve.nd rfl (gs rfl) (Kx (by rfl) T.Ll (bv 0)))
   (ai (ar (P3.or (xQ (j:=2) T.ja.F (wo T) e.dn T.ja.b (by rfl) (by walk_at "s2") (aa (P3.opd (p3v 1)) ab)) (P3.or (xQ (j:=2) T.ir.F (uG T) e.dn T.ir.b (by rfl) (by walk_at "s2") (aa (P3.opd (p3v 1)) ab)) (xQ (j:=2) T.iq.F (uE T) e.dn T.iq.b (by rfl) (by walk_at "s2") (aa (P3.opd (p3v 1)) ab))))))),λf Q h k=>?_⟩)
 obtain⟨R,c,rfl,b,q⟩:=h;walk_at "w";cases R with
 | sum=>
  refine⟨_,a.cU,rfl,w8 .sum,?_⟩;walk_at "w";refine .inl ⟨rfl,?_⟩;walk_at "w";exact⟨c,rfl,b,q⟩
 | half=>
  refine⟨_,a.cU,rfl,w8 .half,?_⟩;walk_at "w";refine .inl ⟨rfl,?_⟩;walk_at "w";exact⟨c,rfl,b,q⟩
 | guess=>
  refine⟨_,a.fh,rfl,w8 .guess,?_⟩;walk_at "w";refine .inr (.inl ⟨rfl,?_⟩);walk_at "w";exact⟨c,rfl,b,q⟩
 | lean=>
  refine⟨_,a.fg,rfl,w8 .lean,?_⟩;walk_at "w";refine .inr (.inr ⟨rfl,?_⟩);walk_at "w";exact⟨c,rfl,b,q⟩
noncomputable def Rl.two (R:Rl)(t g:Int):Li0:=match R with
 | .sum=>[(t + g) / 2,t - (t + g) / 2]
 | _=>[t + (g + 1) / 2,t + (g + 1) / 2 - g]
noncomputable def Rl.one (R:Rl)(t:Int):Int:=match R with
 | .sum=>t / 2
 | _=>t
def LX (f:Int->Int->Li0):S3:=λΓ Q=>∃ (d:D) (x y:Int),Γ=[some (.fz d),some (.fz (.int x)),some (.fz (.int y))]/\Q (.fr (il (f x y))) Γ
theorem wq(T:Txt w K mg a):aC P w K mg base CX0 1 a.gk a.m_ ["self","total","gap"] (sp3 K 3 (LX Rl.sum.two)):=by
 refine ok3 T.nW.F mU (hbody:=λe A b s H E f=>⟨_,_,(ah (aH (i:=3) mU.nd rfl (gs rfl) (cg (P3.opd (aJ (bv 1) (bv 2))) (P3.opd ag)))
   (ai (ar (bQ (ae (p3v 3) (ae (bK (bv 1) (bv 3)) aq)))))),λc Q h g=>?_⟩)
 obtain⟨d,x,y,rfl,q⟩:=h;walk_at "w";exact⟨⟨by decide,by decide⟩,by rw[gp];lia,q⟩
theorem ka(T:Txt w K mg a):aC P w K mg base CX0 1 a.eM a.kf ["self","total","gap"] (sp3 K 3 (LX Rl.half.two)):=by
 refine ok3 T.gG.F j0 (hbody:=λe A b s H E f=>⟨_,_,(ah (aH (i:=3) j0.nd rfl (gs rfl) (aJ (bv 1) (P3.opd (cg (P3.opd (aJ (bv 2) (P3.opd ag))) (P3.opd ag)))))
   (ai (ar (bQ (ae (p3v 3) (ae (bK (bv 3) (bv 2)) aq)))))),λc Q h g=>?_⟩)
 obtain⟨d,x,y,rfl,q⟩:=h;walk_at "w";exact⟨⟨by decide,by decide⟩,by rw[gp];lia,q⟩
theorem wt(T:Txt w K mg a):aC P w K mg base CX0 1 a.gm a.nj ["self","total"] (sp3 K 2 (La Rl.sum.one)):=by
 refine ok3 T.nX.F wc (hbody:=λe A b s H E f=>⟨_,_,(ai (ar (cg (bv 1) (P3.opd ag)))),λc Q h g=>?_⟩);obtain⟨d,x,rfl,q⟩:=h;walk_at "w";exact⟨⟨by decide,by decide⟩,q⟩
theorem kb(T:Txt w K mg a):aC P w K mg base CX0 1 a.eN a.kg ["self","total"] (sp3 K 2 (La Rl.half.one)):=by
 refine ok3 T.gH.F r_ (hbody:=λe A b s H E f=>⟨_,_,(ai (ar (rB 1))),λc Q h g=>?_⟩);obtain⟨d,x,rfl,q⟩:=h;walk_at "w";exact q
noncomputable def c6 (f:Int->Int->Li0)(S G:Li0)(k:Nat):Li0:=((ck k).map λj=>f (S.getD j 0) (G.getD j 0)).flatten
theorem j9{f:Int->Int->Li0}{S G:Li0}:c6 f S G k++f (S.getD k 0) (G.getD k 0)=c6 f S G (k + 1):=by
 unfold c6;rw[OS,ih,Ui];simp
theorem cJ {f:Int->Int->Li0}(a:∀ x y,(f x y).length=2){S G:Li0}:∀ k:Nat,(c6 f S G k).length=2 * k
 | 0=>by simp [c6]
 | k + 1=>by rw[<- j9,el,cJ a k,a];lia
theorem pU(R:Rl)(x y:Int):(R.two x y).length=2:=by cases R <;> rfl
noncomputable def ou (R:Rl)(S G:Li0):Li0:=c6 R.two S G G.length++(if S.length=G.length then [] else [R.one (S.getD (S.length - 1) 0)])
def JZ (a:Ad):S3:=λΓ Q=>∃ (R:Rl) (S G:Li0),Γ=[some (.fz (R.ob a)),some (.fz (il S)),some (.fz (il G))]/\R≠.guess/\G.length<=S.length/\S.length<=G.length + 1/\1<=G.length/\S.length<=64/\Q (.fr (il (ou R S G))) Γ
theorem jy(T:Txt w K mg a):aC P w K mg base CX0 2 a.du a.o8 ["self","sums","gaps"] (sp3 K 3 (JZ a)):=by
 refine ok3 T.g6.F fQ (hbody:=λu A l s H E c=>⟨_,_,(ah (aH (i:=3) fQ.nd rfl (gs rfl) (bQ aq))
   (ah (gM tr rfl (oU (by rfl) T.z_zip (ae (p3v 1) (ae (p3v 2) aq))) (gj (is:=[4,5]) (by rfl) (av (ax (i:=4) fQ.nd rfl (gs rfl)) (av (ax (i:=5) fQ.nd rfl (gs rfl)) bA)) rfl)
   (ai (cz (uC 3 (by rfl) (bv 3) (P3.opd (P3.or (aG (by rfl) (bv 0) T.fi T.wx (wq T) c.dn T.nW.b (aa (P3.opd (p3v 4)) (aa (P3.opd (p3v 5)) ab))) (P3.or (aG (by rfl) (bv 0) T.cq T.sY (ka T) c.dn T.gG.b (aa (P3.opd (p3v 4)) (aa (P3.opd (p3v 5)) ab))) (aG (by rfl) (bv 0) T.bV T.rJ (ka T) c.dn T.gG.b (aa (P3.opd (p3v 4)) (aa (P3.opd (p3v 5)) ab))))))))))
   (ah (br (aT CD (P3.opd (aw (bR (by rfl)) (by rfl) T.z_len (by decide +kernel) (aa (bv 1) ab))) (P3.opd (aw (bR (by rfl)) (by rfl) T.z_len (by decide +kernel) (aa (bv 2) ab))) (bw _)) (ai (cz (gN 3 (by rfl) (bv 3) (P3.or (aG (by rfl) (bv 0) T.fi T.wz (wt T) c.dn T.nX.b (aa (P3.opd (aR (by rfl) (bv 1) (P3.opd (jw (P3.opd ag))) (λ_ _=>rfl))) ab)) (P3.or (aG (by rfl) (bv 0) T.cq T.sZ (kb T) c.dn T.gH.b (aa (P3.opd (aR (by rfl) (bv 1) (P3.opd (jw (P3.opd ag))) (λ_ _=>rfl))) ab)) (aG (by rfl) (bv 0) T.bV T.rK (kb T) c.dn T.gH.b (aa (P3.opd (aR (by rfl) (bv 1) (P3.opd (jw (P3.opd ag))) (λ_ _=>rfl))) ab))))))) aQ)
   (ai (ar (rB 3)))))),λp Q h x=>?_⟩)
 obtain⟨R,S,G,rfl,hR,C,B,z,y,q⟩:=h;walk_at "w";refine⟨by rw[gp];lia,?_⟩;have o:=cJ (f:=R.two) (pU R) (S:=S) (G:=G);refine cA (λk g=>k<=G.length/\∃ s j,g=[some (.fz (R.ob a)),some (.fz (il S)),some (.fz (il G)),some (.ow (il (c6 R.two S G k))),fo s,fo j]) ⟨by lia,none,none,rfl⟩ ?_ ?_
 .rintro k d g t ⟨r,s,j,rfl⟩;obtain⟨v,m,rfl⟩:=zip_get t;walk_at "w";have b:(Tu D.int (c6 R.two S G k)).length + (Tu D.int (R.two (S.getD k 0) (G.getD k 0))).length<=sizeLine:=by rw[lM0,lM0,o,pU,gp];lia
  have fin:D.lst (Tu D.int (c6 R.two S G k)++Tu D.int (R.two (S.getD k 0) (G.getD k 0)))=il (c6 R.two S G (k + 1)):=by rw[il,<- j9,ih]
  cases R with
  | guess=>exact absurd rfl hR
  | sum=>
   refine .inl ?_;walk_at "w";refine⟨rfl,_,_,_,rfl,?_⟩;walk_at "w";exact⟨b,m,some _,some _,by rw[<- fin];rfl⟩
  | half=>
   refine .inr (.inl ?_);walk_at "w";refine⟨rfl,_,_,_,rfl,?_⟩;walk_at "w";exact⟨b,m,some _,some _,by rw[<- fin];rfl⟩
  | lean=>
   refine .inr (.inr ?_);walk_at "w";refine⟨rfl,_,_,_,rfl,?_⟩;walk_at "w";exact⟨b,m,some _,some _,by rw[<- fin];rfl⟩
 .rintro g ⟨r,s,j,rfl⟩;rw[iP,show min S.length G.length=G.length by lia];walk_at "w";rw[lM0,lM0];by_cases e:S.length=G.length
  .rw[show A8 (S.length:Int) (G.length:Int)=false by simp only[A8,decide_eq_false_iff_not];lia];have n:ou R S G=c6 R.two S G G.length:=by unfold ou;rw[if_pos e,tq]
   rw[n] at q;exact q
  .rw[show A8 (S.length:Int) (G.length:Int)=true by simp only[A8,decide_eq_true_eq];lia];have n:ou R S G=c6 R.two S G G.length++[R.one (S.getD (S.length - 1) 0)]:=by unfold ou;rw[if_neg e]
   rw[n,il,ih] at q;have b:(Tu D.int (c6 R.two S G G.length)).length < sizeLine:=by rw[lM0,o,gp];lia
   dsimp only;cases R with
   | guess=>exact absurd rfl hR
   | sum=>
    refine .inl ?_;walk_at "w";refine⟨rfl,bX.mpr ⟨_,jN (by lia),?_⟩⟩;walk_at "w";refine⟨_,_,rfl,?_⟩;walk_at "w";exact⟨b,q⟩
   | half=>
    refine .inr (.inl ?_);walk_at "w";refine⟨rfl,bX.mpr ⟨_,jN (by lia),?_⟩⟩;walk_at "w";refine⟨_,_,rfl,?_⟩;walk_at "w";exact⟨b,q⟩
   | lean=>
    refine .inr (.inr ?_);walk_at "w";refine⟨rfl,bX.mpr ⟨_,jN (by lia),?_⟩⟩;walk_at "w";refine⟨_,_,rfl,?_⟩;walk_at "w";exact⟨b,q⟩
def Gx:S3:=λΓ Q=>∃ (S D:Li0),Γ=[some (.fz (il S)),some (.fz (il D))]/\Fig S/\Fig D/\1<=D.length/\D.length<=S.length/\S.length<=D.length + 1/\S.length + D.length<=64/\Q (.fz (.bl true)) Γ
theorem y_(T:Txt w K mg a):aC P w K mg base CX0 4 a.tZ a.qE ["sums","differences"] (sp3 K 2 Gx):=by
 refine ok3 T.iT.F yW (hbody:=λg A b s H E c=>⟨_,_,(ah (br (P3W.pt (kP (bC (bj (aj (by rfl) (p6 T) c.dn (by rfl) T.cP.m T.cP.F.kp T.cP.b (aa (P3.opd (p3v 1)) (aa (P3.opd ag) ab))))) (hU (bC (bj (aj (by rfl) (p6 T) c.dn (by rfl) T.cP.m T.cP.F.kp T.cP.b (aa (P3.opd (p3v 0)) (aa (P3.opd (aw (bR (by rfl)) (by rfl) T.z_len (by decide +kernel) (aa (bv 1) ab))) ab)))))))) (ai (ar fG)) aQ)
   (ai (ar (iA (jx vU (P3.opd (aw (bR (by rfl)) (by rfl) T.z_len (by decide +kernel) (aa (bv 0) ab))) (P3.opd (aJ (P3.opd (aw (bR (by rfl)) (by rfl) T.z_len (by decide +kernel) (aa (bv 1) ab))) (P3.opd ag))) (bw _)) (kQ (jx vU (P3.opd (aJ (P3.opd (aw (bR (by rfl)) (by rfl) T.z_len (by decide +kernel) (aa (bv 0) ab))) (P3.opd (aw (bR (by rfl)) (by rfl) T.z_len (by decide +kernel) (aa (bv 1) ab))))) (P3.opd (eJ (i:=64) (by rfl) T.kr)) (bw _))))))),λd Q h j=>?_⟩)
 obtain⟨S,D,rfl,f,e,n,m,l,k,q⟩:=h;walk_at "w";refine⟨D,1,rfl,e,by lia,by lia,?_⟩;walk_at "w";refine⟨S,D.length,by rw[lM0],f,by lia,by lia,?_⟩;walk_at "w";rw[lM0,lM0,show qg (S.length:Int) ((D.length:Int) + 1)=true by simp only[qg,decide_eq_true_eq];lia,show qg ((S.length:Int) + (D.length:Int)) 64=true by simp only[qg,decide_eq_true_eq];lia];exact q
noncomputable def ji (F S:Li0):Li0:=c6 (λx y=>[x,y]) F S S.length++F.drop S.length
def JB:S3:=λΓ Q=>∃ (F S:Li0),Γ=[some (.fz (il F)),some (.fz (il S))]/\S.length<=F.length/\F.length<=64/\Q (.fr (il (ji F S))) Γ
theorem IU{F:Li0}(h:n<=F.length):cut (F.map D.int) (some (n:Int)) none=(F.drop n).map D.int:=by
 have e:_h.sIx (F.map D.int).length 0 (some (n:Int))=n:=by
  simp only[_h.sIx,lM0];split <;> lia
 unfold cut;rw[e,show _h.sIx (F.map D.int).length (F.map D.int).length none=F.length by simp [_h.sIx]];rw[oD (by simp),VT]
theorem HS(T:Txt w K mg a):aC P w K mg base CX0 1 a.EK a.Cm ["firsts","seconds"] (sp3 K 2 JB):=by
 refine ok3 T.wN.F rZ (hbody:=λp A e s H E t=>⟨_,_,(ah (aH (i:=2) rZ.nd rfl (gs rfl) (bQ aq))
   (ah (gM tr rfl (oU (by rfl) T.z_zip (ae (p3v 0) (ae (p3v 1) aq))) (gj (is:=[3,4]) (by rfl) (av (ax (i:=3) rZ.nd rfl (gs rfl)) (av (ax (i:=4) rZ.nd rfl (gs rfl)) bA)) rfl)
   (ai (cz (uC 2 (by rfl) (bv 2) (P3.opd (bQ (ae (p3v 3) (ae (p3v 4) aq))))))))
   (ai (ar (aJ (bv 2) (P3.opd (de (by rfl) (bv 0) (bg (P3.opd (aw (bR (by rfl)) (by rfl) T.z_len (by decide +kernel) (aa (bv 1) ab)))) bP))))))),λj Q h u=>?_⟩)
 obtain⟨F,S,rfl,o,v,q⟩:=h;walk_at "w";refine⟨by rw[gp];lia,?_⟩;have g:=cJ (f:=λx y=>[x,y]) (λ_ _=>rfl) (S:=F) (G:=S);refine cA (λk b=>k<=S.length/\∃ s c,b=[some (.fz (il F)),some (.fz (il S)),some (.ow (il (c6 (λx y=>[x,y]) F S k))),fo s,fo c]) ⟨by lia,none,none,rfl⟩ ?_ ?_
 .rintro k d b n ⟨m,s,c,rfl⟩;obtain⟨r,l,rfl⟩:=zip_get n;walk_at "w";refine⟨by rw[gp];lia,by rw[lM0,g,gp];lia,l,some (.int (F.getD k 0)),some (.int (S.getD k 0)),?_⟩;rw[<- show D.lst ((c6 (λx y=>[x,y]) F S k).map D.int++[D.int (F.getD k 0),D.int (S.getD k 0)])=il (c6 (λx y=>[x,y]) F S (k + 1)) by rw[il,<- j9,ih];rfl];rfl
 .rintro b ⟨m,s,c,rfl⟩;rw[iP,show min F.length S.length=S.length by lia];walk_at "w";simp only[lM0];rw[IU o];refine⟨by rw[lM0,g,wh,gp];lia,?_⟩;rw[<- ih];exact q
noncomputable def Ih (S D:Li0):Li0:=ji (rg (λj=>S.getD j 0 - cT D j) S.length) (rg (λj=>D.getD j 0 + i6 (rg (λj=>S.getD j 0 - cT D j) S.length) j) D.length)
noncomputable def Ez (R:Rl)(S D:Li0):Li0:=match R with
 | .guess=>Ih S D
 | .lean=>ou .lean S (rg (λj=>D.getD j 0 + fv S j) D.length)
 | R=>ou R S D
def DA (a:Ad)(ok:Rl->Prop):S3:=λΓ Q=>∃ (R:Rl) (S D:Li0),Γ=[some (.fz (R.ob a)),some (.fz (il S)),some (.fz (il D))]/\ok R/\1<=D.length/\D.length<=S.length/\S.length<=D.length + 1/\S.length + D.length<=64/\Q (.fr (il (Ez R S D))) Γ
theorem oH(T:Txt w K mg a):aC P w K mg base CX0 3 a.hW a.o_ ["self","sums","differences"] (sp3 K 3 (DA a λR=>R=.sum\/R=.half)):=by
 refine ok3 T.kA.F xr (hbody:=λi A b s H E c=>⟨_,_,(ai (ar (P3.or (aG (by rfl) (bv 0) T.fi T.xZ (jy T) c.dn T.g6.b (aa (P3.opd (p3v 1)) (aa (P3.opd (p3v 2)) ab))) (aG (by rfl) (bv 0) T.cq T.uK (jy T) c.dn T.g6.b (aa (P3.opd (p3v 1)) (aa (P3.opd (p3v 2)) ab)))))),λg Q h j=>?_⟩);obtain⟨R,S,D,rfl,hR,f,e,d,k,q⟩:=h;walk_at "w";rcases hR with rfl | rfl
 .exact .inl ⟨rfl,.sum,S,D,rfl,by simp,e,d,f,by lia,q⟩
 .exact .inr ⟨rfl,.half,S,D,rfl,by simp,e,d,f,by lia,q⟩
theorem sN(T:Txt w K mg a):aC P w K mg base CX0 3 a.gS a.ki ["self","sums","differences"] (sp3 K 3 (DA a (·=.guess))):=by
 refine ok3 T.k_.F fR (hbody:=λu A l s H E m=>⟨_,_,(ah (dW (i:=3) fR.nd rfl rfl rfl (oU (by rfl) T.z_zip (ae (p3v 1) (ae (aj (by rfl) (BW T) m.dn (by rfl) T.lV.m T.lV.F.kp T.lV.b (aa (P3.opd (p3v 2)) (aa (P3.opd (aw (bR (by rfl)) (by rfl) T.z_len (by decide +kernel) (aa (bv 1) ab))) ab))) aq))) eg (λ_ _ _ _ _=>(gj (is:=[0,1]) (by rfl) (av (ax (i:=0) eg.nd rfl (gs rfl)) (av (ax (i:=1) eg.nd rfl (gs rfl)) bA)) rfl)) (λ_ _ _ _ _=>(bK (bv 0) (bv 1))))
   (ah (dW (i:=4) fR.nd rfl rfl rfl (oU (by rfl) T.z_zip (ae (p3v 2) (ae (aj (by rfl) (xT T) m.dn (by rfl) T.gE.m T.gE.F.kp T.gE.b (aa (P3.opd (p3v 3)) (aa (P3.opd (aw (bR (by rfl)) (by rfl) T.z_len (by decide +kernel) (aa (bv 2) ab))) ab))) aq))) eu (λ_ _ _ _ _=>(gj (is:=[0,1]) (by rfl) (av (ax (i:=0) eu.nd rfl (gs rfl)) (av (ax (i:=1) eu.nd rfl (gs rfl)) bA)) rfl)) (λ_ _ _ _ _=>(aJ (bv 0) (bv 1))))
   (ai (ar (aj (by rfl) (HS T) m.dn (by rfl) T.wN.m T.wN.F.kp T.wN.b (aa (P3.opd (p3v 3)) (aa (P3.opd (p3v 4)) ab))))))),λp Q h v=>?_⟩)
 obtain⟨R,S,c,rfl,hR,t,z,y,x,q⟩:=h;subst hR;walk_at "w";refine⟨c,S.length,by rw[lM0],t,trivial,by lia,?_⟩;walk_at "w";have z1:(ky (S.map D.int) ((rg (cT c) S.length).map D.int)).length=S.length:=by rw[iP,bu];lia
 refine⟨small (by rw[z1];lia),aO (λk e b=>e=(ck k).map (λj=>D.int (S.getD j 0 - cT c j))/\∃ s f,b=[fo s,fo f]) ⟨rfl,none,none,rfl⟩ ?_ ?_⟩
 .rintro k d e b o n ⟨rfl,s,f,rfl⟩;obtain⟨r,g,rfl⟩:=zip_get o;rw[bu] at g;walk_at "w";exact⟨snoc (by rw[bO _ g]),some _,some _,rfl⟩
 .rintro e b n ⟨rfl,s,f,rfl⟩;rw[z1,j6];walk_at "w";refine⟨rg (λj=>S.getD j 0 - cT c j) S.length,c.length,by rw[lM0];rfl,by rw[bu];lia,by rw[bu];lia,by lia,?_⟩;walk_at "w";have z3:(ky (c.map D.int) ((rg (i6 (rg (λj=>S.getD j 0 - cT c j) S.length)) c.length).map D.int)).length=c.length:=by rw[iP,bu];lia
  refine⟨small (by rw[z3];lia),aO (λk e b=>e=(ck k).map (λj=>D.int (c.getD j 0 + i6 (rg (λj=>S.getD j 0 - cT c j) S.length) j))/\∃ s f,b=[fo s,fo f]) ⟨rfl,none,none,rfl⟩ ?_ ?_⟩
  .rintro k d e b o n ⟨rfl,s,f,rfl⟩;obtain⟨r,g,rfl⟩:=zip_get o;rw[bu] at g;walk_at "w";exact⟨snoc (by rw[bO _ g]),some _,some _,rfl⟩
  .rintro e b n ⟨rfl,s,f,rfl⟩;rw[z3,j6];walk_at "w";exact⟨_,_,rfl,by simp;lia,by simp;lia,q⟩
theorem sL(T:Txt w K mg a):aC P w K mg base CX0 3 a.gQ a.ke ["self","sums","differences"] (sp3 K 3 (DA a (·=.lean))):=by
 refine ok3 T.k8.F jZ (hbody:=λr A g s H E m=>⟨_,_,(ah (dW (i:=3) jZ.nd rfl rfl rfl (oU (by rfl) T.z_zip (ae (p3v 2) (ae (aj (by rfl) (BX T) m.dn (by rfl) T.lW.m T.lW.F.kp T.lW.b (aa (P3.opd (p3v 1)) (aa (P3.opd (aw (bR (by rfl)) (by rfl) T.z_len (by decide +kernel) (aa (bv 2) ab))) ab))) aq))) d_ (λ_ _ _ _ _=>(gj (is:=[0,1]) (by rfl) (av (ax (i:=0) d_.nd rfl (gs rfl)) (av (ax (i:=1) d_.nd rfl (gs rfl)) bA)) rfl)) (λ_ _ _ _ _=>(aJ (bv 0) (bv 1))))
   (ai (ar (aG (by rfl) (bv 0) T.bV T.sR (jy T) m.dn T.g6.b (aa (P3.opd (p3v 1)) (aa (P3.opd (p3v 3)) ab)))))),λn Q h u=>?_⟩)
 obtain⟨R,S,c,rfl,hR,z,y,x,v,q⟩:=h;subst hR;walk_at "w";refine⟨S,c.length,by rw[lM0],by lia,trivial,by lia,?_⟩;walk_at "w";have z1:(ky (c.map D.int) ((rg (fv S) c.length).map D.int)).length=c.length:=by rw[iP,bu];lia
 refine⟨small (by rw[z1];lia),aO (λk e b=>e=(ck k).map (λj=>D.int (c.getD j 0 + fv S j))/\∃ s f,b=[fo s,fo f]) ⟨rfl,none,none,rfl⟩ ?_ ?_⟩
 .rintro k d e b p o ⟨rfl,s,f,rfl⟩;obtain⟨t,l,rfl⟩:=zip_get p;rw[bu] at l;walk_at "w";exact⟨snoc (by rw[bO _ l]),some _,some _,rfl⟩
 .rintro e b o ⟨rfl,s,f,rfl⟩;rw[z1,j6];walk_at "w";exact⟨rfl,.lean,S,_,rfl,by simp,by simp;lia,by simp;lia,by simp;lia,by lia,q⟩
def Pq (a:Ad):S3:=λΓ Q=>∃ (R:Rl) (S D:Li0),Γ=[some (.fz (R.ob a)),some (.fz (il S)),some (.fz (il D))]/\Fig S/\Fig D/\1<=D.length/\D.length<=S.length/\S.length<=D.length + 1/\S.length + D.length<=64/\Q (.fr (il (Ez R S D))) Γ
theorem i4(T:Txt w K mg a):aC P w K mg base CX0 5 a.fH a.tR ["self","sums","differences"] (sp3 K 3 (Pq a)):=by
 refine ok3 T.hZ.F Ax (hbody:=λm A i s H E b=>⟨_,_,(ah (br (bC (bj (aj (by rfl) (y_ T) b.dn (by rfl) T.iT.m T.iT.F.kp T.iT.b (aa (P3.opd (p3v 1)) (aa (P3.opd (p3v 2)) ab))))) (ai cy) aQ)
   (ai (ar (P3.or (aG (by rfl) (bv 0) T.fi T.x6 (oH T) b.dn T.kA.b (aa (P3.opd (p3v 1)) (aa (P3.opd (p3v 2)) ab))) (P3.or (aG (by rfl) (bv 0) T.cq T.uM (oH T) b.dn T.kA.b (aa (P3.opd (p3v 1)) (aa (P3.opd (p3v 2)) ab))) (P3.or (aG (by rfl) (bv 0) T.gX T.s_ (sN T) b.dn T.k_.b (aa (P3.opd (p3v 1)) (aa (P3.opd (p3v 2)) ab))) (aG (by rfl) (bv 0) T.bV T.sV (sL T) b.dn T.k8.b (aa (P3.opd (p3v 1)) (aa (P3.opd (p3v 2)) ab))))))))),λj Q h n=>?_⟩)
 obtain⟨R,S,g,rfl,l,k,f,e,d,c,q⟩:=h;walk_at "w";refine⟨S,g,rfl,l,k,f,e,d,c,?_⟩;walk_at "w";cases R with
 | sum=>exact .inl ⟨rfl,.sum,S,g,rfl,.inl rfl,f,e,d,c,q⟩
 | half=>exact .inr (.inl ⟨rfl,.half,S,g,rfl,.inr rfl,f,e,d,c,q⟩)
 | guess=>exact .inr (.inr (.inl ⟨rfl,.guess,S,g,rfl,rfl,f,e,d,c,q⟩))
 | lean=>exact .inr (.inr (.inr ⟨rfl,.lean,S,g,rfl,rfl,f,e,d,c,q⟩))
theorem yB{A B:Li0}(b:A.length=B.length)(h:∀ j,j < A.length->A.getD j 0=B.getD j 0):A=B:=by
 refine List.ext_getElem b λj a c=>?_;have:=h j a;simpa [rp,a,c] using this
theorem eZ{A B:Li0}:(A++B).getD j 0=if j < A.length then A.getD j 0 else B.getD (j - A.length) 0:=by
 by_cases h:j < A.length
 .rw[if_pos h];simp [rp,iv h]
 .rw[if_neg h];simp [rp,mm (Vb h)]
theorem rz {f:Int->Int->Li0}(a:∀ x y,(f x y).length=2){S G:Li0}:∀ {k j:Nat},j < k->(c6 f S G k).getD (2 * j) 0=(f (S.getD j 0) (G.getD j 0)).getD 0 0/\(c6 f S G k).getD (2 * j + 1) 0=(f (S.getD j 0) (G.getD j 0)).getD 1 0
 | 0,j,h=>absurd h (by lia)
 | k + 1,j,h=>by
  have b:=cJ a (S:=S) (G:=G) k;rw[<- j9,eZ,eZ,b];by_cases e:j < k
  .rw[if_pos (by lia),if_pos (by lia)];exact rz a e
  .have:j=k:=by lia
   subst this;rw[if_neg (by lia),if_neg (by lia),show 2 * j - 2 * j=0 by lia,show 2 * j + 1 - 2 * j=1 by lia];exact⟨rfl,rfl⟩
theorem G4(R:Rl){S G:Li0}(b:G.length<=S.length)(a:S.length<=G.length + 1):(ou R S G).length=S.length + G.length:=by
 unfold ou;rw[el,cJ (pU R)];split <;> simp <;> lia
theorem G5(R:Rl){S G:Li0}(h:j < G.length):(ou R S G).getD (2 * j) 0=(R.two (S.getD j 0) (G.getD j 0)).getD 0 0/\(ou R S G).getD (2 * j + 1) 0=(R.two (S.getD j 0) (G.getD j 0)).getD 1 0:=by
 unfold ou;rw[eZ,eZ,cJ (pU R),if_pos (by lia),if_pos (by lia)];exact rz (pU R) h
theorem Fi(R:Rl){S G:Li0}(h:S.length=G.length + 1):(ou R S G).getD (2 * G.length) 0=R.one (S.getD G.length 0):=by
 unfold ou;rw[eZ,cJ (pU R),if_neg (by lia),if_neg (by lia),show 2 * G.length - 2 * G.length=0 by lia,h]
 rfl
theorem xg{p:Int->Int->Int}{l:Int->Int}{a:Li0}(h:j < a.length / 2):(bM p l a).getD j 0=p (a.getD (2 * j) 0) (a.getD (2 * j + 1) 0):=by
 unfold bM;rw[eZ,bu,if_pos h,bO _ h]
theorem zq{p:Int->Int->Int}{l:Int->Int}{a:Li0}(h:a.length % 2=1):(bM p l a).getD (a.length / 2) 0=l (a.getD (a.length - 1) 0):=by
 unfold bM;rw[eZ,bu,if_neg (by lia),if_pos h,Vs]
 rfl
theorem pW{p:Int->Int->Int}{l:Int->Int}(a:Li0):(bM p l a).length=(a.length + 1) / 2:=by
 unfold bM;rw[el,bu];split <;> simp <;> lia
theorem Cj(a:Li0):(eQ a).length=a.length / 2:=bu _ _
theorem yg{a:Li0}(h:j < a.length / 2):(eQ a).getD j 0=a.getD (2 * j) 0 - a.getD (2 * j + 1) 0:=by
 unfold eQ;rw[bO _ h]
theorem xB{R:Rl}(hR:R≠.guess)(ns:Li0):ou R (bM R.pair R.h_ ns) (eQ ns)=ns:=by
 have f:=pW (p:=R.pair) (l:=R.h_) ns;have a:=Cj ns;have h:(ou R (bM R.pair R.h_ ns) (eQ ns)).length=ns.length:=by rw[G4 R (by lia) (by lia),f,a];lia
 refine yB h λj i=>?_;rw[h] at i;by_cases e:j < 2 * (ns.length / 2)
 .have d:j / 2 < ns.length / 2:=by lia
  have g:=G5 R (S:=bM R.pair R.h_ ns) (G:=eQ ns) (j:=j / 2) (by rw[a];exact d);rw[xg d,yg d] at g;obtain⟨m,k⟩:=g;rcases VG j with z | z
  .have b:j=2 * (j / 2):=by lia
   rw[b,m];cases R with
   | guess=>exact absurd rfl hR
   | sum=>show ((_ + _) + (_ - _)) / 2=_;lia
   | half=>show (_ + _) / 2 + ((_ - _) + 1) / 2=_;lia
   | lean=>show (_ + _) / 2 + ((_ - _) + 1) / 2=_;lia
  .have b:j=2 * (j / 2) + 1:=by lia
   rw[b,k];cases R with
   | guess=>exact absurd rfl hR
   | sum=>show (_ + _) - ((_ + _) + (_ - _)) / 2=_;lia
   | half=>show (_ + _) / 2 + ((_ - _) + 1) / 2 - (_ - _)=_;lia
   | lean=>show (_ + _) / 2 + ((_ - _) + 1) / 2 - (_ - _)=_;lia
 .have c:ns.length % 2=1:=by lia
  have b:j=2 * (eQ ns).length:=by rw[a];lia
  rw[b,Fi R (by rw[f,a];lia),a,zq c,show 2 * (ns.length / 2)=ns.length - 1 by lia];cases R with
  | guess=>exact absurd rfl hR
  | sum=>show 2 * _ / 2=_;lia
  | half=>rfl
  | lean=>rfl
theorem E8{F S:Li0}(h:S.length<=F.length):(ji F S).length=F.length + S.length:=by
 unfold ji;rw[el,cJ (λ_ _=>rfl),wh];lia
theorem E9{F S:Li0}(h:j < S.length):(ji F S).getD (2 * j) 0=F.getD j 0/\(ji F S).getD (2 * j + 1) 0=S.getD j 0:=by
 unfold ji;rw[eZ,eZ,cJ (λ_ _=>rfl),if_pos (by lia),if_pos (by lia)];exact rz (λ_ _=>rfl) h
theorem CM{F S:Li0}(h:F.length=S.length + 1):(ji F S).getD (2 * S.length) 0=F.getD S.length 0:=by
 unfold ji;rw[eZ,cJ (λ_ _=>rfl),if_neg (by lia),Vs];simp [rp]
theorem C2{f g:Nat->Int}(h:∀ j,j < k->f j=g j):rg f k=rg g k:=by
 unfold rg;exact Pg λj a=>h j (rk.mp a)
theorem D_(A:Li0):rg (λj=>A.getD j 0) A.length=A:=yB (bu _ _) λj a=>by rw[bu] at a;rw[bO _ a]
theorem CN(ns:Li0):ji (fsF ns) (seF ns)=ns:=by
 have i:=mD ns;have b:=Ap ns;have c:(ji (fsF ns) (seF ns)).length=ns.length:=by rw[E8 (by lia)];lia
 refine yB c λj f=>?_;rw[c] at f;by_cases e:j < 2 * (ns.length / 2)
 .have d:j / 2 < ns.length / 2:=by lia
  obtain⟨h,g⟩:=E9 (F:=fsF ns) (S:=seF ns) (j:=j / 2) (by rw[b];exact d);rcases VG j with z | z
  .have a:j=2 * (j / 2):=by lia
   rw[a,h];unfold fsF;rw[bO _ (by lia)]
  .have a:j=2 * (j / 2) + 1:=by lia
   rw[a,g];unfold seF;rw[bO _ d]
 .have a:j=2 * (seF ns).length:=by rw[b];lia
  rw[a,CM (by lia),b];unfold fsF;rw[bO _ (by lia)]
theorem F_(R:Rl)(ns:Li0):Ez R (R.sums ns) (R.dif ns)=ns:=by
 cases R with
 | sum=>exact xB (R:=.sum) (by simp) ns
 | half=>exact xB (R:=.half) (by simp) ns
 | lean=>
  show ou .lean (bM Rl.lean.pair Rl.lean.h_ ns) (rg (λj=>(rg (λj=>(eQ ns).getD j 0 - fv (bM Rl.lean.pair Rl.lean.h_ ns) j) (ns.length / 2)).getD j 0 + fv (bM Rl.lean.pair Rl.lean.h_ ns) j) (rg (λj=>(eQ ns).getD j 0 - fv (bM Rl.lean.pair Rl.lean.h_ ns) j) (ns.length / 2)).length)=ns;rw[bu,C2 (g:=λj=>(eQ ns).getD j 0) λj a=>by rw[bO _ a];lia];rw[show rg (λj=>(eQ ns).getD j 0) (ns.length / 2)=eQ ns by have:=D_ (eQ ns);rw[Cj] at this;exact this];exact xB (R:=.lean) (by simp) ns
 | guess=>
  show Ih (rg (λj=>(fsF ns).getD j 0 + cT (gu (fsF ns) ns) j) ((ns.length + 1) / 2)) (gu (fsF ns) ns)=ns;unfold Ih;have c:rg (λj=>(rg (λj=>(fsF ns).getD j 0 + cT (gu (fsF ns) ns) j) ((ns.length + 1) / 2)).getD j 0 - cT (gu (fsF ns) ns) j) (rg (λj=>(fsF ns).getD j 0 + cT (gu (fsF ns) ns) j) ((ns.length + 1) / 2)).length=fsF ns:=by
   rw[bu,C2 (g:=λj=>(fsF ns).getD j 0) λj a=>by rw[bO _ a];lia];have:=D_ (fsF ns);rw[mD] at this;exact this
  rw[c];have l:(gu (fsF ns) ns).length=ns.length / 2:=bu _ _;have b:rg (λj=>(gu (fsF ns) ns).getD j 0 + i6 (fsF ns) j) (gu (fsF ns) ns).length=seF ns:=by
   rw[l];unfold seF;refine C2 λj a=>?_;unfold gu;rw[bO _ a];unfold i6;lia
  rw[b];exact CN ns
theorem Uo:(ck n).map (λ_=>D.bl true)=((ck n).map λ_=>true).map D.bl:=by rw[oj];rfl
theorem all_true:((ck n).map λ_=>true).all id=true:=by simp
structure GR (w:Nat) (R:LL0):Prop where
 h1:1<=R.length
 h2:R.length<=64
 w1:1<=w
 w2:w<=64
 all:R.length * w<=512
 len:∀ r∈R,r.length=w
 fig:∀ r∈R,Fig r
noncomputable abbrev rD (R:LL0):D:=.lst (R.map il)
noncomputable abbrev tD (r:Li0):D:=.tup (r.map .int)
noncomputable abbrev fD (a:Ad)(R:LL0):D:=.ins a.aI ["grid"] [.tup (R.map tD)]
def Nr:S3:=λΓ Q=>∃ (w:Nat) (R:LL0),Γ=[some (.fz (rD R))]/\GR w R/\Q (.fz (.bl true)) Γ
theorem GR.at0{w:Nat}{R:LL0}(g:GR w R):∃ r,R[0]?=some r/\r∈R/\r.length=w:=by
 have h:=g.h1;exact⟨R[0],gE0 (by lia),Jt _,g.len _ (Jt _)⟩
theorem B0(T:Txt w K mg a):aC P w K mg base CX0 4 a.yy a.vA ["thing"] (sp3 K 1 Nr):=by
 refine ok3 T.lZ.F vg (hbody:=λx A l s H E e=>⟨_,_,(ah (br (P3W.pt (kP (bC (bj (aw (MQ T.ty) (by rfl) T.z_isinstance (by decide +kernel) (aa (bv 0) (aa (P3.opd (zE (n:="list") (by rfl) T.z_list (by decide +kernel))) ab))))) (hU (aT (gY (by rfl) e) (P3.opd (aw (bR (by rfl)) (by rfl) T.z_len (by decide +kernel) (aa (bv 0) ab))) (P3.opd ag) (bw _))))) (ai (ar fG)) aQ)
   (ah (br (bC (bj (aw (Jm (by rfl) rfl) (by rfl) T.z_all (by decide +kernel) (aa (P3.opd (bF rfl (bI (by rfl) (p3v 0)) pK (λ_ _ _ _ _=>(aK (i:=0) pK.nd rfl (gs rfl))) (λ_ _ _ _ _=>(aj (by rfl) (p6 T) e.dn (by rfl) T.cP.m T.cP.F.kp T.cP.b (aa (P3.opd (p3v 0)) (aa (P3.opd ag) ab)))))) ab)))) (ai (ar fG)) aQ)
   (ah (aH (i:=1) vg.nd rfl (Ny rfl) (aw (bR (by rfl)) (by rfl) T.z_len (by decide +kernel) (aa (P3.opd (aR (by rfl) (bv 0) (P3.opd ag) (λ_ _=>rfl))) ab)))
   (ai (ar (iA (aj (by rfl) (rC T) e.dn (by rfl) T.dh.m T.dh.F.kp T.dh.b (aa (P3.opd (aw (bR (by rfl)) (by rfl) T.z_len (by decide +kernel) (aa (bv 0) ab))) (aa (P3.opd (p3v 1)) ab))) (kQ (aw (Jm (by rfl) rfl) (by rfl) T.z_all (by decide +kernel) (aa (P3.opd (bF rfl (bI (by rfl) (p3v 0)) pM (λ_ _ _ _ _=>(aK (i:=0) pM.nd rfl (gs rfl))) (λ_ _ _ _ _=>(jx (gY (by rfl) e) (P3.opd (aw (bR (by rfl)) (by rfl) T.z_len (by decide +kernel) (aa (bv 0) ab))) (bv 1) (bw _))))) ab))))))))),λp Q h y=>?_⟩)
 obtain⟨w,R,rfl,g,q⟩:=h;have B:=g.h1;have z:=g.h2;obtain⟨t,v,u,c⟩:=g.at0;walk_at "w";rw[lM0,show ((R.length:Int) == 0)=false by rw[beq_eq_false_iff_ne];lia];walk_at "w";refine⟨small (by rw[lM0];lia),aO (λk f b=>f=(ck k).map (λ_=>D.bl true)/\∃ s,b=[fo s]) ⟨rfl,none,rfl⟩ ?_ ?_⟩
 .rintro k d f b o m ⟨rfl,s,rfl⟩;obtain⟨r,e,rfl⟩:=kZ o;have j:=fC e;walk_at "w";refine⟨r,1,rfl,g.fig r j,by rw[g.len r j];exact g.w2,by rw[g.len r j];have:=g.w1;lia,?_⟩;walk_at "w";exact⟨snoc rfl,some _,rfl⟩
 .rintro f b m ⟨rfl,s,rfl⟩;walk_at "w";refine⟨(ck R.length).map λ_=>true,by rw[lM0,oj];rfl,?_⟩;rw[all_true];walk_at "w";refine bX.mpr ⟨il t,cG (by decide) (by rw[dV,show (Vx 0)=0 from rfl,v];rfl),?_⟩;walk_at "w";refine⟨_,_,rfl,⟨by rw[lM0];lia,by rw[lM0,c];have:=g.w1;lia,by rw[lM0];lia,by rw[lM0,c];have:=g.w2;lia,by rw[lM0,lM0,c];have:=g.all;exact_mod_cast this⟩,?_⟩;walk_at "w";refine⟨small (by rw[lM0];lia),aO (λk f b=>f=(ck k).map (λ_=>D.bl true)/\∃ s,b=[fo s,some (.fz (.int w))]) ⟨rfl,none,by rw[lM0,c];rfl⟩ ?_ ?_⟩
  .rintro k d f b o m ⟨rfl,s,rfl⟩;obtain⟨r,e,rfl⟩:=kZ o;have j:=fC e;walk_at "w";rw[lM0,g.len r j];walk_at "w";exact⟨snoc rfl,some _,rfl⟩
  .rintro f b m ⟨rfl,s,rfl⟩;walk_at "w";refine⟨(ck R.length).map λ_=>true,by rw[lM0,oj];rfl,?_⟩;rw[all_true];exact q
def OL (a:Ad):S3:=λΓ Q=>∃ (w:Nat) (R:LL0),Γ=[some (.ln (.ins a.aI [] [])),some (.fz (rD R))]/\GR w R/\Q (.fz .non) [some (.ln (fD a R)),some (.fz (rD R))]
theorem dE(T:Txt w K mg a):aC P w K mg base CX0 5 a.gU a.km ["self","rows"] (sp3 K 2 (OL a)):=by
 refine ok3 T.cQ.F se (hbody:=λn A e s H E f=>⟨_,_,(ah (br (bC (bj (aj (by rfl) (B0 T) f.dn (by rfl) T.lZ.m T.lZ.F.kp T.lZ.b (aa (P3.opd (p3v 1)) ab)))) (ai cy) aQ)
   (ai (wW (C0:=a.aI) 0 (by rfl) T.bz T.eY (bv 0) (fF (Be (by rfl)) (by rfl) T.z_tuple (by decide +kernel) (aa (P3.opd (bF rfl (bI (by rfl) (p3v 1)) ik (λ_ _ _ _ _=>(aK (i:=0) ik.nd rfl (gs rfl))) (λ_ _ _ _ _=>(fF (Be (by rfl)) (by rfl) T.z_tuple (by decide +kernel) (aa (bv 0) ab))))) ab))))),λj Q h o=>?_⟩)
 obtain⟨w,R,rfl,g,q⟩:=h;have p:=g.h2;walk_at "w";refine⟨w,R,rfl,g,?_⟩;walk_at "w";refine⟨small (by rw[lM0];lia),aO (λk c b=>c=(R.take k).map tD/\∃ s,b=[fo s]) ⟨rfl,none,rfl⟩ ?_ ?_⟩
 .rintro k d c b m l ⟨rfl,s,rfl⟩;obtain⟨r,f,rfl⟩:=kZ m;walk_at "w";exact⟨by rw[take_snoc f,ih];rfl,some _,rfl⟩
 .rintro c b l ⟨rfl,s,rfl⟩;walk_at "w";rw[oD (by rw[lM0];exact ec _)];exact q
def Lh (a:Ad):S3:=λΓ Q=>∃ (w:Nat) (R:LL0),Γ=[some (.fz (fD a R))]/\GR w R/\Q (.fr (rD R)) Γ
theorem dm(T:Txt w K mg a):aC P w K mg base CX0 1 a.mK a.qL ["self"] (sp3 K 1 (Lh a)):=by
 refine ok3 T.c5.F y3 (hbody:=λo A e s H E j=>⟨_,_,(ai (ar (bF rfl (OM (by rfl) (dD (f:="grid") (by rfl) (bv 0) T.bz T.eY)) lP (λ_ _ _ _ _=>(aK (i:=0) lP.nd rfl (gs rfl))) (λ_ _ _ _ _=>(fF (Pk (by rfl)) (by rfl) T.z_list (by decide +kernel) (aa (bv 0) ab)))))),λl Q h p=>?_⟩);obtain⟨w,R,rfl,g,q⟩:=h;have t:=g.h2;walk_at "w";refine⟨ma (by rw[lM0];lia),aO (λk c b=>c=(R.take k).map il/\∃ s,b=[fo s]) ⟨rfl,none,rfl⟩ ?_ ?_⟩
 .rintro k d c b n m ⟨rfl,s,rfl⟩;obtain⟨r,j,rfl⟩:=kZ n;walk_at "w";exact⟨by rw[take_snoc j,ih];rfl,some _,rfl⟩
 .rintro c b m ⟨rfl,s,rfl⟩;walk_at "w";rw[oD (by rw[lM0];exact ec _)];exact q
def Gj (a:Ad):S3:=λΓ Q=>∃ (w:Nat) (R:LL0),Γ=[some (.fz (fD a R))]/\GR w R/\Q (.fz (.int R.length)) Γ
theorem iC(T:Txt w K mg a):aC P w K mg base CX0 1 a.jH a.ny ["self"] (sp3 K 1 (Gj a)):=by
 refine ok3 T.fO.F wk (hbody:=λd A b s H E e=>⟨_,_,(ai (ar (aw (bR (by rfl)) (by rfl) T.z_len (by decide +kernel) (aa (P3.opd (dD (f:="grid") (by rfl) (bv 0) T.bz T.eY)) ab)))),λc Q h i=>?_⟩);obtain⟨w,R,rfl,g,q⟩:=h;walk_at "w";rw[lM0];exact q
def Iy (a:Ad):S3:=λΓ Q=>∃ (w:Nat) (R:LL0),Γ=[some (.fz (fD a R))]/\GR w R/\Q (.fz (.int w)) Γ
theorem jz(T:Txt w K mg a):aC P w K mg base CX0 1 a.kU a.pv ["self"] (sp3 K 1 (Iy a)):=by
 refine ok3 T.g7.F xy (hbody:=λk A b s H E l=>⟨_,_,(ai (ar (aw (bR (by rfl)) (by rfl) T.z_len (by decide +kernel) (aa (P3.opd (aR (by rfl) (P3.opd (dD (f:="grid") (by rfl) (bv 0) T.bz T.eY)) (P3.opd ag) (λ_ _=>rfl))) ab)))),λd Q h m=>?_⟩);obtain⟨w,R,rfl,g,q⟩:=h;obtain⟨e,j,i,c⟩:=g.at0;walk_at "w";refine bX.mpr ⟨tD e,cG (by decide) (by rw[dV,show (Vx 0)=0 from rfl,j];rfl),?_⟩;walk_at "w";rw[lM0,c];exact q
noncomputable abbrev pD (h w:Int):D:=.tup [.int h,.int w]
noncomputable def DJ (w:Nat)(y:Nat):List D:=(ck w).map λx:Nat=>pD (y:Int) (x:Int)
noncomputable def pls (h w:Nat):List D:=((ck h).map (DJ w)).flatten
theorem Ck{w y:Nat}:(DJ w y).length=w:=by simp [DJ]
theorem AH{h w:Nat}:(pls h w).length=h * w:=oY (λ_=>Ck) h
def Gg (a:Ad):S3:=λΓ Q=>∃ (w:Nat) (R:LL0),Γ=[some (.fz (fD a R))]/\GR w R/\Q (.fr (.lst (pls R.length w))) Γ
theorem mY(T:Txt w K mg a):aC P w K mg base CX0 2 a.jG a.nv ["self"] (sp3 K 1 (Gg a)):=by
 refine ok3 T.jg.F wj (hbody:=λu A f s H E m=>⟨_,_,(ai (ar (xO rfl (bB (by rfl) T.z_range (ae (aD (by rfl) (bv 0) T.bz T.iD (iC T) m.dn T.fO.b) aq)) fE (λ_ _ _ _ _=>(aK (i:=0) fE.nd rfl (gs rfl))) (λ_ _ _ _ _=>(bB (by rfl) T.z_range (ae (aD (by rfl) (bv 2) T.bz T.jA (jz T) m.dn T.g7.b) aq))) (λ_ _ _ _ _=>(aK (i:=1) fE.nd rfl (gs rfl))) (λ_ _ _ _ _=>(cp (ae (p3v 0) (ae (p3v 1) aq))))))),λn Q h x=>?_⟩);obtain⟨w,R,rfl,g,q⟩:=h;have y:=g.h2;have v:=g.w2;walk_at "w";refine⟨by decide +kernel,w,R,rfl,g,?_⟩;walk_at "w";refine⟨by lia,by lia,gW (λk e b=>e=pls k w/\k<=R.length/\∃ s c,b=[fo s,fo c,some (.fz (fD a R))]) ⟨rfl,by lia,none,none,rfl⟩ ?_ ?_⟩
 .rintro k d e b l ⟨rfl,p,s,c,rfl⟩;obtain⟨lt,rfl⟩:=bN l;have t:k * w<=64 * 64:=Lc (by lia) (by lia);walk_at "w";refine⟨by decide +kernel,w,R,rfl,g,?_⟩;walk_at "w";refine⟨by lia,by lia,λj e b=>e=pls k w++DJ j k/\j<=w/\∃ c,b=[some (.fz (.int (0 + (k:Int)))),fo c,some (.fz (fD a R))],⟨by simp [DJ],by lia,c,rfl⟩,?_,?_⟩
  .rintro j d e b l ⟨rfl,r,c,rfl⟩;obtain⟨o,rfl⟩:=bN l;walk_at "w";refine⟨ma (by rw[el,AH,Ck];lia),xk (by decide),?_,by lia,some _,rfl⟩;rw[Re];congr 1;unfold DJ;rw[OS,ih];simp
  .rintro e b ⟨rfl,r,c,rfl⟩;refine⟨?_,by lia,some _,c,rfl⟩;rw[aZ];exact uW
 .rintro e b ⟨rfl,p,s,c,rfl⟩;have t:R.length * w<=64 * 64:=Lc (by lia) (by lia);rw[aZ,ey];refine⟨ma (by rw[AH];lia),?_⟩;walk_at "w";exact q
def GB:S3:=λΓ Q=>∃ (y x h w:Int),Γ=[some (.fz (pD y x)),some (.fz (.int h)),some (.fz (.int w))]/\0<=y/\y < h/\0<=x/\x < w/\Q (.fz (.bl true)) Γ
theorem M0{i lo a:Int}(c:lo<=i)(b:i<=a):whD (.int i) lo a=true:=by
 show (decide (lo<=i) && decide (i<=a))=true;rw[decide_eq_true c,decide_eq_true b];rfl
theorem rE(T:Txt w K mg a):aC P w K mg base CX0 2 a.kn a.jC ["thing","height","width"] (sp3 K 3 GB):=by
 refine ok3 T.dz.F qV (hbody:=λg A b s H E c=>⟨_,_,(ah (br (P3W.pt (kP (bC (bj (aw (Su T.ty) (by rfl) T.z_isinstance (by decide +kernel) (aa (bv 0) (aa (P3.opd (zE (n:="tuple") (by rfl) T.z_tuple (by decide +kernel))) ab))))) (hU (aT (pG (by rfl) c) (P3.opd (aw (bR (by rfl)) (by rfl) T.z_len (by decide +kernel) (aa (bv 0) ab))) (P3.opd ag) (bw _))))) (ai (ar fG)) aQ)
   (ai (ar (iA (aj (by rfl) (cW T) c.dn (by rfl) T.aL.m T.aL.F.kp T.aL.b (aa (P3.opd (aR (by rfl) (bv 0) (P3.opd ag) (λ_ _=>rfl))) (aa (P3.opd ag) (aa (P3.opd (bK (bv 1) (P3.opd ag))) ab)))) (kQ (aj (by rfl) (cW T) c.dn (by rfl) T.aL.m T.aL.F.kp T.aL.b (aa (P3.opd (aR (by rfl) (bv 0) (P3.opd ag) (λ_ _=>rfl))) (aa (P3.opd ag) (aa (P3.opd (bK (bv 2) (P3.opd ag))) ab))))))))),λd Q h i=>?_⟩)
 obtain⟨y,x,h,w,rfl,f,k,e,j,q⟩:=h;walk_at "w";rw[show (!(((2:Nat):Int) == 2))=false from rfl];walk_at "w";refine⟨_,_,_,rfl,rfl,?_⟩;rw[M0 f (by lia)];walk_at "w";refine⟨_,_,_,rfl,rfl,?_⟩;rw[M0 e (by lia)];exact q
def O_ (a:Ad):S3:=λΓ Q=>∃ (w:Nat) (R:LL0) (y x:Nat),Γ=[some (.fz (fD a R)),some (.fz (pD y x))]/\GR w R/\y < R.length/\x < w/\Q (.fz (.bl true)) Γ
theorem sO(T:Txt w K mg a):aC P w K mg base CX0 3 a.gT a.kj ["self","thing"] (sp3 K 2 (O_ a)):=by
 refine ok3 T.lg.F sd (hbody:=λe A b s H E c=>⟨_,_,(ai (ar (aj (by rfl) (rE T) c.dn (by rfl) T.dz.m T.dz.F.kp T.dz.b (aa (P3.opd (p3v 1)) (aa (P3.opd (aD (by rfl) (bv 0) T.bz T.iD (iC T) c.dn T.fO.b)) (aa (P3.opd (aD (by rfl) (bv 0) T.bz T.jA (jz T) c.dn T.g7.b)) ab)))))),λd Q h j=>?_⟩);obtain⟨w,R,y,x,rfl,g,f,i,q⟩:=h;walk_at "w";refine⟨by decide +kernel,w,R,rfl,g,?_⟩;walk_at "w";refine⟨by decide +kernel,w,R,rfl,g,?_⟩;walk_at "w";exact⟨_,_,_,_,rfl,by lia,by lia,by lia,by lia,q⟩
theorem GR.row{w:Nat}{R:LL0}(g:GR w R){y:Nat}(a:y < R.length):∃ r,R[y]?=some r/\r.length=w/\Fig r:=
 ⟨R[y],gE0 a,g.len _ (Jt _),g.fig _ (Jt _)⟩
def Sf (a:Ad):S3:=λΓ Q=>∃ (w:Nat) (R:LL0) (y x:Nat) (r:Li0) (n:Int),Γ=[some (.fz (fD a R)),some (.fz (pD y x))]/\GR w R/\R[y]?=some r/\r[x]?=some n/\Q (.fz (.int n)) Γ
theorem oM(T:Txt w K mg a):aC P w K mg base CX0 4 a.rO a.vF ["self","place"] (sp3 K 2 (Sf a)):=by
 refine ok3 T.l8.F n5 (hbody:=λl A c s H E k=>⟨_,_,(ah (br (bC (bj (aG (by rfl) (bv 0) T.bz T.tm (sO T) k.dn T.lg.b (aa (P3.opd (p3v 1)) ab)))) (ai cy) aQ)
   (ah (eI (is:=[2,3]) (by rfl) (p3v 1) (av (ax (i:=2) n5.nd rfl (gs rfl)) (av (ax (i:=3) n5.nd rfl (gs rfl)) bA)) rfl)
   (ai (ar (aR (by rfl) (P3.opd (aR (by rfl) (P3.opd (dD (f:="grid") (by rfl) (bv 0) T.bz T.eY)) (bv 2) (λ_ _=>rfl))) (bv 3) (λ_ _=>rfl)))))),λe Q h p=>?_⟩)
 obtain⟨w,R,y,x,r,n,rfl,g,b,d,q⟩:=h;have j:=mB b;have m:=mB d;have o:=g.len r (fC b);walk_at "w";refine⟨by decide +kernel,w,R,y,x,rfl,g,j,by lia,?_⟩;walk_at "w";refine bX.mpr ⟨tD r,cG (by lia) (by rw[dV,ey,b];rfl),?_⟩;walk_at "w";refine bX.mpr ⟨.int n,cG (by lia) (by rw[dV,ey,d];rfl),?_⟩;walk_at "w";exact q
def GV (a:Ad):S3:=λΓ Q=>∃ (h w:Int) (d:D),Γ=[some (.fz d)]/\((∃ (R:Rl) (ls:List Lt),d=plD a R h w ls/\ls.length<=10)\/∃ (u:Nat) (G:LL0),d=fD a G/\GR u G/\h=G.length/\w=u)/\Q (.fz (.tup [.int h,.int w])) Γ
theorem xS(T:Txt w K mg a):aC P w K mg base CX0 2 a.zX a.yj ["thing"] (sp3 K 1 (GV a)):=by
 refine ok3 T.gC.F CU (hbody:=λk A e s H E c=>⟨_,_,(ai (ar (cp (ae (P3.or (aD (by rfl) (bv 0) T.aP T.oO (oJ T) c.dn T.kB.b) (aD (by rfl) (bv 0) T.bz T.iD (iC T) c.dn T.fO.b)) (ae (P3.or (aD (by rfl) (bv 0) T.aP T.qv (qu T) c.dn T.l7.b) (aD (by rfl) (bv 0) T.bz T.jA (jz T) c.dn T.g7.b)) aq))))),λi Q h l=>?_⟩);obtain⟨h,w,d,rfl,j,q⟩:=h;rcases j with ⟨R,f,rfl,b⟩ | ⟨u,G,rfl,g,rfl,rfl⟩
 .walk_at "w";refine .inl ⟨by decide +kernel,R,h,w,f,rfl,b,?_⟩;walk_at "w";refine .inl ⟨by decide +kernel,R,h,w,f,rfl,b,?_⟩;walk_at "w";exact⟨by rw[gp];lia,q⟩
 .walk_at "w";refine .inr ⟨by decide +kernel,u,G,rfl,g,?_⟩;walk_at "w";refine .inr ⟨by decide +kernel,u,G,rfl,g,?_⟩;walk_at "w";exact⟨by rw[gp];lia,q⟩
def So (a:Ad):S3:=λΓ Q=>∃ (G:LL0),Γ=[some (.fz (fD a G))]/\Q (.fz .non) Γ
theorem xV(T:Txt w K mg a):aC P w K mg base CX0 1 a.qO a.o6 ["thing"] (sp3 K 1 (So a)):=by
 refine ok3 T.g4.F xp (hbody:=λd A b s H E e=>⟨_,_,(ai (br (bC (bj (aw (Sw (by rfl) T.Il) (by rfl) T.z_isinstance (by decide +kernel) (aa (bv 0) (aa (P3.opd (Ky (by rfl) T.oR)) ab))))) (ai cy) aQ)),λc Q h f=>?_⟩);obtain⟨G,rfl,q⟩:=h;walk_at "w";refine⟨true,by simp [N2],?_⟩;walk_at "w";exact q
def Sn (a:Ad):S3:=λΓ Q=>∃ (R:Rl) (ls:List Lt) (u:Nat) (G:LL0),Γ=[some (.fz (plD a R G.length u ls)),some (.fz (fD a G))]/\ls.length<=10/\GR u G/\Q (.fz .non) Γ
theorem qt(T:Txt w K mg a):aC P w K mg base CX0 3 a.tY a.qD ["plan","thing"] (sp3 K 2 (Sn a)):=by
 refine ok3 T.cY.F yV (hbody:=λi A c s H E b=>⟨_,_,(ah (cz (aj (by rfl) (xV T) b.dn (by rfl) T.g4.m T.g4.F.kp T.g4.b (aa (P3.opd (p3v 1)) ab)))
   (ai (br (aT (pG (by rfl) b) (P3.opd (aj (by rfl) (xS T) b.dn (by rfl) T.gC.m T.gC.F.kp T.gC.b (aa (P3.opd (p3v 0)) ab))) (P3.opd (aj (by rfl) (xS T) b.dn (by rfl) T.gC.m T.gC.F.kp T.gC.b (aa (P3.opd (p3v 1)) ab))) (bw _)) (ai cy) aQ))),λe Q h j=>?_⟩)
 obtain⟨R,f,u,G,rfl,d,g,q⟩:=h;walk_at "w";refine⟨G,rfl,?_⟩;walk_at "w";refine⟨_,_,_,rfl,.inl ⟨R,f,rfl,d⟩,?_⟩;walk_at "w";refine⟨_,_,_,rfl,.inr ⟨u,G,rfl,g,rfl,rfl⟩,?_⟩;walk_at "w";refine⟨true,by simp [eqN,iF,eqS],?_⟩;walk_at "w";exact q
theorem Eh{h w:Nat}{d:D}(e:(pls h w)[k]?=some d):∃ y x:Nat,y < h/\x < w/\d=pD y x:=by
 have m:=fC e;unfold pls at m;obtain⟨l,f,a⟩:=TX.mp m;obtain⟨y,b,rfl⟩:=ry.mp f;unfold DJ at a;obtain⟨x,c,rfl⟩:=ry.mp a;exact⟨y,x,rk.mp b,rk.mp c,rfl⟩
def Sq (a:Ad):S3:=λΓ Q=>∃ (u:Nat) (G:LL0) (lo hi:Int),Γ=[some (.fz (fD a G)),some (.fz (.int lo)),some (.fz (.int hi))]/\GR u G/\(∀ r∈G,∀ n∈r,lo<=n/\n<=hi)/\Q (.fz .non) Γ
theorem mV(T:Txt w K mg a):aC P w K mg base CX0 5 a.pz a.m8 ["field","low","high"] (sp3 K 3 (Sq a)):=by
 refine ok3 T.b7.F mS (hbody:=λt A e s H E f=>⟨_,_,(ai (gM tr rfl (bI (by rfl) (aD (by rfl) (bv 0) T.bz T.m6 (mY T) f.dn T.jg.b)) (aK (i:=3) mS.nd rfl (gs rfl))
   (ai (br (bC (bj (aj (by rfl) (cW T) f.dn (by rfl) T.aL.m T.aL.F.kp T.aL.b (aa (P3.opd (aG (by rfl) (bv 0) T.bz T.oQ (oM T) f.dn T.l8.b (aa (P3.opd (p3v 3)) ab))) (aa (P3.opd (p3v 1)) (aa (P3.opd (p3v 2)) ab)))))) (ai cy) aQ)))),λm Q h C=>?_⟩)
 obtain⟨u,G,lo,l,rfl,g,p,q⟩:=h;walk_at "w";refine⟨by decide +kernel,u,G,rfl,g,?_⟩;walk_at "w";refine cA (λk c=>∃ s,c=[some (.fz (fD a G)),some (.fz (.int lo)),some (.fz (.int l)),fo s]) ⟨none,rfl⟩ ?_ ?_
 .rintro k d c o ⟨s,rfl⟩;obtain⟨y,x,n,B,rfl⟩:=Eh o;obtain⟨r,b,z,_⟩:=g.row n;have j:r[x]?=some r[x]:=gE0 (by lia);walk_at "w";refine⟨by decide +kernel,u,G,y,x,r,r[x],rfl,g,b,j,?_⟩;walk_at "w";refine⟨_,_,_,rfl,rfl,?_⟩;obtain⟨v,b2⟩:=p r (fC b) r[x] (fC j);rw[show whD (.int r[x]) lo l=true by simp only[whD,ng,decide_eq_true_eq];exact⟨v,b2⟩];walk_at "w";exact⟨some _,rfl⟩
 .rintro c ⟨s,rfl⟩;walk_at "w";exact q
def Hy (a:Ad)(B:Int):S3:=λΓ Q=>∃ (R:Rl) (ls:List Lt) (u:Nat) (G:LL0),Γ=[some (.fz (plD a R G.length u ls)),some (.fz (fD a G))]/\ls.length<=10/\GR u G/\(∀ r∈G,∀ n∈r,-B<=n/\n<=B)/\Q (.fz .non) Γ
theorem uH(T:Txt w K mg a):aC P w K mg base CX0 6 a.nz a.lF ["plan","thing"] (sp3 K 2 (Hy a 100000)):=by
 refine ok3 T.e9.F uu (hbody:=λk A b s H E d=>⟨_,_,(ah (cz (aj (by rfl) (qt T) d.dn (by rfl) T.cY.m T.cY.F.kp T.cY.b (aa (P3.opd (p3v 0)) (aa (P3.opd (p3v 1)) ab))))
   (ai (cz (aj (by rfl) (mV T) d.dn (by rfl) T.b7.m T.b7.F.kp T.b7.b (aa (P3.opd (p3v 1)) (aa (P3.opd (jw (P3.opd (eJ (i:=100000) (by rfl) T.t7)))) (aa (P3.opd (eJ (i:=100000) (by rfl) T.t7)) ab))))))),λe Q h l=>?_⟩)
 obtain⟨R,f,u,G,rfl,c,g,j,q⟩:=h;walk_at "w";refine⟨R,f,u,G,rfl,c,g,?_⟩;walk_at "w";refine⟨u,G,_,_,rfl,g,j,?_⟩;walk_at "w";exact q
theorem uI(T:Txt w K mg a):aC P w K mg base CX0 6 a.nA a.lG ["plan","thing"] (sp3 K 2 (Hy a 1000000000)):=by
 refine ok3 T.e_.F uv (hbody:=λk A b s H E d=>⟨_,_,(ah (cz (aj (by rfl) (qt T) d.dn (by rfl) T.cY.m T.cY.F.kp T.cY.b (aa (P3.opd (p3v 0)) (aa (P3.opd (p3v 1)) ab))))
   (ai (cz (aj (by rfl) (mV T) d.dn (by rfl) T.b7.m T.b7.F.kp T.b7.b (aa (P3.opd (p3v 1)) (aa (P3.opd (jw (P3.opd (eJ (i:=1000000000) (by rfl) T.qS)))) (aa (P3.opd (eJ (i:=1000000000) (by rfl) T.qS)) ab))))))),λe Q h l=>?_⟩)
 obtain⟨R,f,u,G,rfl,c,g,j,q⟩:=h;walk_at "w";refine⟨R,f,u,G,rfl,c,g,?_⟩;walk_at "w";refine⟨u,G,_,_,rfl,g,j,?_⟩;walk_at "w";exact q
theorem u6{a:Type}{f:a->D}{F:List a}(h:n<=F.length):cut (F.map f) none (some (n:Int))=(F.take n).map f:=by
 unfold cut;rw[_h.BC,_h.wV,lM0,List.drop_zero,Nat.sub_zero,Tv h,YE]
theorem pC{a:Type}{f:a->D}{F:List a}(h:n<=F.length):cut (F.map f) (some (n:Int)) none=(F.drop n).map f:=by
 unfold cut;rw[_h.BC,_h.wV,lM0,Tv h,oD (by rw[wh,lM0];exact ec _),VT]
theorem Lm{a:Type}{f:a->D}{F:List a}{m:Nat}(h:n<=F.length)(b:m<=n):cut (F.map f) (some (m:Int)) (some (n:Int))=((F.drop m).take (n - m)).map f:=by
 unfold cut;rw[_h.wV,_h.wV,lM0,Tv h,Tv (by lia),<- VT,YE]
noncomputable abbrev gl {a:Type}(e:a->D)(xs:List a):D:=.lst (xs.map e)
noncomputable abbrev gD {a:Type}(e:a->D)(R:List (List a)):D:=.lst (R.map (gl e))
structure Hv (α:Type) where
 e:α->D
 z:α
 s:Rl->List α->List α
 d:Rl->List α->List α
 sl:∀ R xs,(s R xs).length=(xs.length + 1) / 2
 dl:∀ R xs,(d R xs).length=xs.length / 2
 c:Rl->D
 ok:List α->Prop
variable {α:Type}{Y:Hv α}{o:Unit->Obj}{v:V}
def Hv.lam (Y:Hv α):S3:=λΓ Q=>∃ (R:Rl) (xs:List α),Γ=[some (.fz (gl Y.e xs)),some (.fz (Y.c R))]/\Y.ok xs/\xs.length<=64/\Q (.fz (.tup [gl Y.e (Y.s R xs),gl Y.e (Y.d R xs)])) Γ
def pS (P:OT)(w:World)(K:Fg0)(a:SV0)(base:Heap)(ps:Ls0)(n:Nat)(S:S3)(o:Unit->Obj)(f:Addr)(v:V):Prop:=
 ∃ fd,base.get? f=some (o ())/\(o ()).data=.func fd/\Binds K fd ps []/\aC P w K a base CX0 (5 + 1) f fd ps (λvs H Q _=>sp3 K (n + 1) S (vs++[v]) H Q E0)
noncomputable def nM (Y:Hv α)(R:Rl)(xs:List α)(m:Nat):List α:=Y.s R (xs.take m)++Y.d R (xs.take m)++xs.drop m
theorem Ce{R:Rl}{xs:List α}{m:Nat}(h:m<=xs.length):(nM Y R xs m).length=xs.length:=by
 unfold nM;rw[el,el,Y.sl,Y.dl,kv,wh];lia
def OP (Y:Hv α)(o:Unit->Obj)(f:Addr)(v:V):S3:=λΓ Q=>∃ (R:Rl) (xs:List α) (m:Nat),Γ=[some (.fz (.fn o f v (Y.c R))),some (.fz (gl Y.e xs)),some (.fz (.int m))]/\m<=xs.length/\xs.length<=64/\Y.ok (xs.take m)/\Q (.fr (gl Y.e (nM Y R xs m))) Γ
theorem AQ(T:Txt w K mg a)(L:pS P w K mg base ["row"] 1 Y.lam o f v):aC P w K mg base CX0 7 a.vK a.tJ ["part","row","many"] (sp3 K 3 (OP Y o f v)):=by
 obtain⟨z,p,l,r,x⟩:=L;refine ok3 T.jT.F md (hbody:=λu A c s H E k=>⟨_,_,(ah (eI (is:=[3,4]) (by rfl) (BS p l x k.dn r (i:=0) (by rfl) (by walk_at "s2") (aa (P3.opd (de (by rfl) (bv 1) bP (bg (bv 2)))) ab)) (av (ax (i:=3) md.nd rfl (gs rfl)) (av (ax (i:=4) md.nd rfl (gs rfl)) bA)) rfl)
   (ai (ar (aJ (P3.opd (aJ (bv 3) (bv 4))) (P3.opd (de (by rfl) (bv 1) (bg (bv 2)) bP)))))),λe Q h y=>?_⟩)
 obtain⟨R,b,m,rfl,d,t,n,q⟩:=h;walk_at "w";refine⟨Y.c R,rfl,?_⟩;walk_at "w";rw[u6 d];refine⟨R,b.take m,rfl,n,by rw[kv];lia,?_⟩;walk_at "w";rw[pC d];have j:=Y.sl R (b.take m);have g:=Y.dl R (b.take m);rw[kv] at j g;refine⟨by rw[lM0,lM0,gp];lia,by rw[el,lM0,lM0,lM0,wh,gp];lia,?_⟩;rw[<- ih,<- ih];exact q
noncomputable def aX (Y:Hv α)(R:Rl)(a:List (List α))(h m:Nat):List (List α):=(a.take h).map (λr=>nM Y R r m)++a.drop h
def okR (Y:Hv α)(a:List (List α))(h m:Nat):Prop:=∀ r∈a.take h,Y.ok (r.take m)
structure Sz (h w:Nat) (rows:List (List α)):Prop where
 hh:rows.length=h
 ww:∀ r∈rows,r.length=w
def Lb (Y:Hv α)(o:Unit->Obj)(f:Addr)(v:V):S3:=λΓ Q=>∃ (R:Rl) (a:List (List α)) (H W h m:Nat),Γ=[some (.fz (.fn o f v (Y.c R))),some (.fz (gD Y.e a)),some (.fz (.int h)),some (.fz (.int m))]/\Sz H W a/\H<=64/\W<=64/\h<=H/\m<=W/\okR Y a h m/\Q (.fr (gD Y.e (aX Y R a h m))) Γ
theorem qr(T:Txt w K mg a)(L:pS P w K mg base ["row"] 1 Y.lam o f v):aC P w K mg base CX0 8 a.tW a.qA ["part","rows","height","width"] (sp3 K 4 (Lb Y o f v)):=by
 refine ok3 T.cX.F yU (hbody:=λC A n s H E y=>⟨_,_,(ai (ar (aJ (P3.opd (bF rfl (bI (by rfl) (de (by rfl) (bv 1) bP (bg (bv 2)))) lI (λ_ _ _ _ _=>(aK (i:=0) lI.nd rfl (gs rfl))) (λ_ _ _ _ _=>(aj (by rfl) (AQ T L) y.dn (by rfl) T.jT.m T.jT.F.kp T.jT.b (aa (P3.opd (p3v 1)) (aa (P3.opd (p3v 0)) (aa (P3.opd (p3v 2)) ab))))))) (P3.opd (de (by rfl) (bv 1) (bg (bv 2)) bP))))),λx Q h G=>?_⟩);obtain⟨R,b,H,W,h,m,rfl,t,M,J,I,F,p,q⟩:=h;have D:=t.hh;walk_at "w";rw[u6 (by lia)];have u:(b.take h).length=h:=by rw[kv];lia
 refine⟨small (by rw[lM0,u];lia),aO (λk l c=>l=((b.take h).take k).map (λr=>gl Y.e (nM Y R r m))/\∃ s,c=[fo s,some (.fz (.fn o f v (Y.c R))),some (.fz (.int m))]) ⟨rfl,none,rfl⟩ ?_ ?_⟩
 .rintro k d l c B z ⟨rfl,s,rfl⟩;obtain⟨r,g,rfl⟩:=kZ B;have j:=fC g;have e:=t.ww r (Os j);walk_at "w";refine⟨R,r,m,rfl,by lia,by lia,p r j,?_⟩;walk_at "w";exact⟨by rw[take_snoc g,ih];rfl,some _,rfl⟩
 .rintro l c z ⟨rfl,s,rfl⟩;walk_at "w";rw[pC (by lia),oD (show (b.take h).length<=((b.take h).map (gl Y.e)).length by rw[lM0];exact ec _)];refine⟨by rw[lM0,lM0,wh,u,gp];lia,?_⟩;rw[show (b.take h).map (λr=>gl Y.e (nM Y R r m))++(b.drop h).map (gl Y.e)=(aX Y R b h m).map (gl Y.e) by unfold aX;rw[ih,oj];rfl];exact q
variable {α:Type}{Y:Hv α}{o:Unit->Obj}{v:V}
noncomputable def DN (z:α)(a:List (List α))(x:Nat):List α:=a.map λr=>r.getD x z
noncomputable def bW (z:α)(u:Nat)(a:List (List α)):List (List α):=(ck u).map (DN z a)
def M4:S3:=λΓ Q=>∃ (α:Type) (e:α->D) (z:α) (h w:Nat) (a:List (List α)),Γ=[some (.fz (gD e a))]/\Sz h w a/\1<=h/\h<=64/\w<=64/\Q (.fr (gD e (bW z w a))) Γ
theorem qw{xs:List α}(z:α)(h:k < xs.length):xs[k]?=some (xs.getD k z):=by rw[gE0 h];simp [rp,h]
theorem p5(T:Txt w K mg a):aC P w K mg base CX0 1 a.Cn a.zU ["rows"] (sp3 K 1 M4):=by
 refine ok3 T.cO.F Fg (hbody:=λD A n s H E I=>⟨_,_,(ai (ar (bF rfl (bB (by rfl) T.z_range (ae (aw (bR (by rfl)) (by rfl) T.z_len (by decide +kernel) (aa (P3.opd (aR (by rfl) (bv 0) (P3.opd ag) (λ_ _=>rfl))) ab)) aq)) t9 (λ_ _ _ _ _=>(aK (i:=0) t9.nd rfl (Ny rfl))) (λ_ _ _ _ _=>(bF rfl (bI (by rfl) (p3v 1)) t8 (λ_ _ _ _ _=>(aK (i:=0) t8.nd rfl (gs rfl))) (λ_ _ _ _ _=>(aR (by rfl) (bv 0) (bv 1) (λ_ _=>rfl)))))))),λp Q h J=>?_⟩);obtain⟨F,e,z,h,w,b,rfl,m,M,B,t,q⟩:=h;have L:=m.hh;have C:b[0]?=some b[0]:=gE0 (by lia);have u:=m.ww b[0] (Jt _);walk_at "w";refine bX.mpr ⟨gl e b[0],cG (by decide) (by rw[dV,show (Vx 0)=0 from rfl,C];rfl),?_⟩;walk_at "w";rw[lM0,u];refine⟨by lia,by lia,small (by rw[aZ];lia),aO (λk g c=>g=(ck k).map (λx=>gl e (DN z b x))/\∃ s,c=[fo s,some (.fz (gD e b))]) ⟨rfl,none,rfl⟩ ?_ ?_⟩
 .rintro k d g c o v ⟨rfl,s,rfl⟩;obtain⟨lt,rfl⟩:=bN o;walk_at "w";refine⟨small (by rw[lM0];lia),aO (λj g c=>g=(b.take j).map (λr=>e (r.getD k z))/\∃ s,c=[fo s,some (.fz (.int (0 + (k:Int))))]) ⟨rfl,none,rfl⟩ ?_ ?_⟩
  .rintro j d g c o y ⟨rfl,s,rfl⟩;obtain⟨r,l,rfl⟩:=kZ o;have G:=m.ww r (fC l);walk_at "w";refine bX.mpr ⟨e (r.getD k z),cG (by lia) (by rw[show (0 + (k:Int)).toNat=k by lia,dV,qw z (by lia)];rfl),?_⟩;exact⟨by rw[take_snoc l,ih];rfl,some _,rfl⟩
  .rintro g c y ⟨rfl,s,rfl⟩;walk_at "w";refine⟨?_,some _,rfl⟩;rw[oD (by rw[lM0];exact ec _),<- snoc (f:=λx=>gl e (DN z b x)) rfl];unfold DN;rw[gl,oj];rfl
 .rintro g c v ⟨rfl,s,rfl⟩;walk_at "w";rw[aZ,ey];rw[show (ck w).map (λx=>gl e (DN z b x))=(bW z w b).map (gl e) by unfold bW;rw[oj];rfl];exact q
theorem Gb{R:Rl}{a:List (List α)}{h m:Nat}{r:List α}(c:r∈aX Y R a h m):r∈a\/∃ b∈a,r=nM Y R b m:=by
 unfold aX at c;rcases Bl.mp c with q | q
 .obtain⟨b,d,rfl⟩:=ry.mp q;exact .inr ⟨b,Os d,rfl⟩
 .exact .inl (List.mem_of_mem_drop q)
theorem aW{R:Rl}{a:List (List α)}{H W h m:Nat}(s:Sz H W a)(d:m<=W):Sz H W (aX Y R a h m):=⟨by
 unfold aX;rw[el,lM0,kv,wh,s.hh];lia,λr c=>by
 rcases Gb c with q | ⟨b,q,rfl⟩
 .exact s.ww r q
 .rw[Ce (by rw[s.ww b q];exact d)];exact s.ww b q⟩
theorem bL{z:α}{a:List (List α)}{H W:Nat}(s:Sz H W a):Sz W H (bW z W a):=⟨by unfold bW;simp,λr b=>by
 unfold bW DN at b;obtain⟨x,_,rfl⟩:=ry.mp b;rw[lM0];exact s.hh⟩
noncomputable def mR (Y:Hv α)(R:Rl)(H W:Nat)(l:Lt)(h w:Nat)(a:List (List α)):List (List α):=match l with
 | .r=>aX Y R a h w
 | .p=>bW Y.z H (aX Y R (bW Y.z W a) w h)
 | .b=>bW Y.z H (aX Y R (bW Y.z W (aX Y R a h w)) w h)
theorem xj{R:Rl}{H W:Nat}{l:Lt}{h w:Nat}{a:List (List α)}(s:Sz H W a)(d:h<=H)(c:w<=W):Sz H W (mR Y R H W l h w a):=by
 cases l with
 | r=>exact aW s c
 | p=>exact bL (aW (bL s) d)
 | b=>exact bL (aW (bL (aW s c)) d)
def okS (Y:Hv α)(R:Rl)(W:Nat)(l:Lt)(h w:Nat)(a:List (List α)):Prop:=match l with
 | .r=>okR Y a h w
 | .p=>okR Y (bW Y.z W a) w h
 | .b=>okR Y a h w/\okR Y (bW Y.z W (aX Y R a h w)) w h
variable {α:Type}{Y:Hv α}{o:Unit->Obj}{v:V}
def JJ (a:Ad)(Y:Hv α)(o:Unit->Obj)(f:Addr)(v:V):S3:=λΓ Q=>∃ (R d:Rl) (h w:Int) (ls:List Lt) (b:List (List α)) (k:Nat) (l:Lt) (H W ch c:Nat),
 Γ=[some (.fz (plD a d h w ls)),some (.fz (.fn o f v (Y.c R))),some (.fz (gD Y.e b)),some (.fz (.int k))]/\ls.length<=10/\ls[k]?=some l/\cat h w ls k=((ch:Int),(c:Int))/\Sz H W b/\1<=H/\H<=64/\1<=W/\W<=64/\ch<=H/\c<=W/\okS Y R W l ch c b/\
 Q (.fr (gD Y.e (mR Y R H W l ch c b))) Γ
theorem y8(T:Txt w K mg a)(L:pS P w K mg base ["row"] 1 Y.lam o f v):aC P w K mg base CX0 9 a.tV a.qz ["plan","part","rows","step"] (sp3 K 4 (JJ a Y o f v)):=by
 refine ok3 T.iR.F dj (hbody:=λS A y s H E j=>⟨_,_,(ah (eI (is:=[4,5]) (by rfl) (aG (by rfl) (bv 0) T.aP T.gf (fZ T) j.dn T.eV.b (aa (P3.opd (p3v 3)) ab)) (av (ax (i:=4) dj.nd rfl (gs rfl)) (av (ax (i:=5) dj.nd rfl (gs rfl)) bA)) rfl)
   (ah (aH (i:=6) dj.nd rfl (gs rfl) (aR (by rfl) (P3.opd (aD (by rfl) (bv 0) T.aP T.vn (vj T) j.dn T.qU.b)) (bv 3) (λ_ _=>rfl)))
   (ah (br (aT (nB (by rfl)) (bv 6) (P3.opd (fe (p:=a.bH) (zs:=["r","b"]) (by rfl) T.eP)) (by with_unfolding_all rfl)) (ai (aH (i:=2) dj.nd rfl (gs rfl) (aj (by rfl) (qr T L) j.dn (by rfl) T.cX.m T.cX.F.kp T.cX.b (aa (P3.opd (p3v 1)) (aa (P3.opd (p3v 2)) (aa (P3.opd (p3v 4)) (aa (P3.opd (p3v 5)) ab))))))) aQ)
   (ah (br (aT (nB (by rfl)) (bv 6) (P3.opd (fe (p:=a.a9) (zs:=["p","b"]) (by rfl) T.cu)) (by with_unfolding_all rfl)) (ai (aH (i:=2) dj.nd rfl (gs rfl) (aj (by rfl) (p5 T) j.dn (by rfl) T.cO.m T.cO.F.kp T.cO.b (aa (P3.opd (aj (by rfl) (qr T L) j.dn (by rfl) T.cX.m T.cX.F.kp T.cX.b (aa (P3.opd (p3v 1)) (aa (P3.opd (aj (by rfl) (p5 T) j.dn (by rfl) T.cO.m T.cO.F.kp T.cO.b (aa (P3.opd (p3v 2)) ab))) (aa (P3.opd (p3v 5)) (aa (P3.opd (p3v 4)) ab)))))) ab)))) aQ)
   (ai (ar (rB 2))))))),λN Q h U=>?_⟩)
 obtain⟨R,J,h,w,F,b,k,l,H,W,m,u,rfl,t,G,O,n,M,e,I,d,g,r,c,q⟩:=h;have lk:=mB G;walk_at "w";refine⟨by decide +kernel,J,h,w,F,k,rfl,t,by lia,?_⟩;rw[O];unfold cD;walk_at "w";refine⟨by decide +kernel,J,h,w,F,rfl,t,?_⟩;walk_at "w";refine⟨by rw[jh,gp];lia,l,atL G,?_⟩;walk_at "w";have B:=bL (z:=Y.z) n;cases l
 .walk_at "w";refine⟨R,b,H,W,m,u,rfl,n,e,d,g,r,c,?_⟩;walk_at "w";exact q
 .walk_at "w";refine⟨_,Y.e,Y.z,H,W,b,rfl,n,M,e,d,?_⟩;walk_at "w";refine⟨R,bW Y.z W b,W,H,u,m,rfl,B,d,e,r,g,c,?_⟩;walk_at "w";refine⟨_,Y.e,Y.z,W,H,_,rfl,aW B g,I,d,e,?_⟩;walk_at "w";exact q
 .walk_at "w";refine⟨R,b,H,W,m,u,rfl,n,e,d,g,r,c.1,?_⟩;have D:=aW (Y:=Y) (R:=R) (h:=m) n r;have C:=bL (z:=Y.z) D;walk_at "w";refine⟨_,Y.e,Y.z,H,W,_,rfl,D,M,e,d,?_⟩;walk_at "w";refine⟨R,bW Y.z W (aX Y R b m u),W,H,u,m,rfl,C,d,e,r,g,c.2,?_⟩;walk_at "w";refine⟨_,Y.e,Y.z,W,H,_,rfl,aW C g,I,d,e,?_⟩;walk_at "w";exact q
variable {α:Type}{Y:Hv α}{o:Unit->Obj}{v:V}
noncomputable def cN (h w:Int)(ls:List Lt)(k:Nat):Nat×Nat:=((cat h w ls k).1.toNat,(cat h w ls k).2.toNat)
noncomputable def stK (Y:Hv α)(R:Rl)(h w:Int)(ls:List Lt)(a:List (List α)):Nat->List (List α)
 | 0=>a
 | k + 1=>mR Y R h.toNat w.toNat (ls.getD k .r) (cN h w ls k).1 (cN h w ls k).2 (stK Y R h w ls a k)
structure Pl (h w:Int) (ls:List Lt):Prop where
 sz:nU h w
 good:Good h w ls
 len:ls.length<=10
theorem Pl.cn{h w:Int}{ls:List Lt}(p:Pl h w ls)(e:k<=ls.length):cat h w ls k=(((cN h w ls k).1:Int),((cN h w ls k).2:Int))/\(cN h w ls k).1<=h.toNat/\(cN h w ls k).2<=w.toNat/\1<=(cN h w ls k).1/\1<=(cN h w ls k).2:=by
 obtain⟨a,b,c,d⟩:=kq p.good p.sz.h1 p.sz.w1 e;unfold cN;refine⟨Zd ?_ ?_,?_,?_,?_,?_⟩ <;> dsimp only <;> lia
theorem l_ {R:Rl}{h w:Int}{ls:List Lt}{c:List (List α)}(p:Pl h w ls)(s:Sz h.toNat w.toNat c):∀ {k:Nat},k<=ls.length->Sz h.toNat w.toNat (stK Y R h w ls c k)
 | 0,_=>s
 | k + 1,d=>by
  obtain⟨_,a,b,_,_⟩:=p.cn (k:=k) (by lia);exact xj (l_ p s (by lia)) a b
theorem zt{R:Rl}{h w:Int}{ls:List Lt}{a:List (List α)}{l:Lt}(b:ls[k]?=some l):stK Y R h w ls a (k + 1)=mR Y R h.toNat w.toNat l (cN h w ls k).1 (cN h w ls k).2 (stK Y R h w ls a k):=by
 rw[show l=ls.getD k .r by simp [rp,b]];rfl
noncomputable abbrev iw (Y:Hv α)(R:Rl)(h w:Int)(ls:List Lt)(a:List (List α)):List (List α):=stK Y R h w ls a ls.length
def okK (Y:Hv α)(R:Rl)(h w:Int)(ls:List Lt)(a:List (List α)):Prop:=∀ k l,ls[k]?=some l->okS Y R w.toNat l (cN h w ls k).1 (cN h w ls k).2 (stK Y R h w ls a k)
def GS (a:Ad)(Y:Hv α)(o:Unit->Obj)(f:Addr)(v:V):S3:=λΓ Q=>∃ (R c:Rl) (h w:Int) (ls:List Lt) (b:List (List α)),Γ=[some (.fz (plD a c h w ls)),some (.fz (.fn o f v (Y.c R))),some (.fz (gD Y.e b))]/\Pl h w ls/\Sz h.toNat w.toNat b/\okK Y R h w ls b/\
 Q (.fz (gD Y.e (iw Y R h w ls b))) Γ
theorem oB(T:Txt w K mg a)(L:pS P w K mg base ["row"] 1 Y.lam o f v):aC P w K mg base CX0 10 a.qM a.oZ ["plan","part","rows"] (sp3 K 3 (GS a Y o f v)):=by
 refine ok3 T.cH.F jl (hbody:=λC A n s H E x=>⟨_,_,(ah (gM tr rfl (bB (by rfl) T.z_range (ae (aD (by rfl) (bv 0) T.aP T.dq (dk T) x.dn T.cZ.b) aq)) (aK (i:=3) jl.nd rfl (gs rfl))
   (ai (aH (i:=2) jl.nd rfl (gs rfl) (iI (aj (by rfl) (y8 T L) x.dn (by rfl) T.iR.m T.iR.F.kp T.iR.b (aa (P3.opd (p3v 0)) (aa (P3.opd (p3v 1)) (aa (P3.opd (p3v 2)) (aa (P3.opd (p3v 3)) ab)))))))))
   (ai (ar (rB 2)))),λy Q h j=>?_⟩)
 obtain⟨R,u,h,w,b,c,rfl,p,z,r,q⟩:=h;have g:=p.len;obtain⟨N,M,J,I,G⟩:=p.sz;walk_at "w";refine⟨by decide +kernel,u,h,w,b,rfl,g,?_⟩;walk_at "w";refine⟨by lia,by lia,cA (λk m=>k<=b.length/\∃ s,m=[some (.fz (plD a u h w b)),some (.fz (.fn o f v (Y.c R))),some (.fz (gD Y.e (stK Y R h w b c k))),fo s]) ⟨xt _,none,rfl⟩ ?_ ?_⟩
 .rintro k d m B ⟨t,s,rfl⟩;obtain⟨lt,rfl⟩:=bN B;rw[ey] at lt;obtain⟨l,j⟩:∃ l,b[k]?=some l:=⟨_,gE0 lt⟩;obtain⟨e,F,D,S,O⟩:=p.cn (k:=k) t;walk_at "w";refine⟨R,u,h,w,b,_,k,l,h.toNat,w.toNat,_,_,by rw[Tj],g,j,e,l_ p z t,by lia,by lia,by lia,by lia,F,D,r k l j,?_⟩;walk_at "w";exact⟨lt,some (.int (0 + (k:Int))),by rw[zt j];rfl⟩
 .rintro m ⟨t,s,rfl⟩;rw[aZ,ey];walk_at "w";exact q
variable {o:Unit->Obj}{v:V}
theorem D6(R:Rl)(a:Li0):(R.sums a).length=(a.length + 1) / 2:=by
 cases R with
 | guess=>exact bu _ _
 | _=>exact pW _
theorem IQ(R:Rl)(a:Li0):(R.dif a).length=a.length / 2:=by cases R <;> exact bu _ _
noncomputable def nH (a:Ad):Hv Int:=⟨.int,0,Rl.sums,Rl.dif,D6,IQ,Rl.ob a,λns=>Fig ns/\2<=ns.length⟩
def Ii (a:Ad):S3:=λΓ Q=>∃ (R:Rl) (S b:Li0),Γ=[some (.fz (il S)),some (.fz (il b)),some (.fz (R.ob a))]/\Fig S/\Fig b/\1<=b.length/\b.length<=S.length/\S.length<=b.length + 1/\S.length + b.length<=64/\Q (.fr (il (Ez R S b))) Γ
theorem zS{A B:Li0}(h:Fig (A++B)):Fig A/\Fig B:=⟨λn a=>h n (Bk _ a),λn a=>h n (ks _ a)⟩
def OC (a:Ad)(o:Unit->Obj)(f:Addr)(v:V):S3:=λΓ Q=>∃ (R:Rl) (ns:Li0) (m:Nat),Γ=[some (.fz (.fn o f v (R.ob a))),some (.fz (il (nM (nH a) R ns m))),some (.fz (.int m))]/\2<=m/\m<=ns.length/\ns.length<=64/\Fig (nM (nH a) R ns m)/\Q (.fr (il ns)) Γ
theorem BY(T:Txt w K mg a)(L:pS P w K mg base ["sums","differences"] 2 (Ii a) o f v):aC P w K mg base CX0 7 a.yw a.vy ["join","row","many"] (sp3 K 3 (OC a o f v)):=by
 obtain⟨J,x,u,y,F⟩:=L;refine ok3 T.lX.F vf (hbody:=λD A d s H E t=>⟨_,_,(ah (aH (i:=3) vf.nd rfl (gs rfl) (cg (P3.opd (aJ (bv 2) (P3.opd ag))) (P3.opd ag)))
   (ai (ar (aJ (P3.opd (BS x u F t.dn y (i:=0) (by rfl) (by walk_at "s2") (aa (P3.opd (de (by rfl) (bv 1) bP (bg (bv 3)))) (aa (P3.opd (de (by rfl) (bv 1) (bg (bv 3)) (bg (bv 2)))) ab)))) (P3.opd (de (by rfl) (bv 1) (bg (bv 2)) bP)))))),λp Q h I=>?_⟩)
 obtain⟨R,b,m,rfl,G,j,z,g,q⟩:=h;have r:=Ce (Y:=nH a) (R:=R) j;have e:=D6 R (b.take m);have ld:=IQ R (b.take m);rw[kv,Tv j] at e ld;have c:nM (nH a) R b m=(R.sums (b.take m)++R.dif (b.take m))++b.drop m:=rfl;have n:(nM (nH a) R b m).take ((m + 1) / 2)=R.sums (b.take m):=by rw[c,Re,Ws e]
 have l:((nM (nH a) R b m).drop ((m + 1) / 2)).take (m - (m + 1) / 2)=R.dif (b.take m):=by rw[c,Re,Wt e,Ws (by lia)]
 have k:(nM (nH a) R b m).drop m=b.drop m:=by rw[c,Wt (by rw[el];lia)]
 rw[c] at g;obtain⟨C,B⟩:=zS (zS g).1;generalize nM (nH a) R b m=X at r n l k q ⊢;walk_at "w";refine⟨⟨by decide,by decide⟩,R.ob a,rfl,?_⟩;rw[show ((m:Int) + 1) / 2=((m + 1) / 2:Nat) by lia];walk_at "w";rw[u6 (by lia),Lm (by lia) (by lia),n,l];refine⟨R,_,_,rfl,C,B,by lia,by lia,by lia,by lia,?_⟩;walk_at "w";rw[pC (by lia),k,F_];refine⟨by rw[lM0,lM0,kv,wh,gp];lia,?_⟩;rw[<- ih,WA];exact q
def CJ (a:LL0):Prop:=∀ r∈a,Fig r
def K6 (a:Ad)(o:Unit->Obj)(f:Addr)(v:V):S3:=λΓ Q=>∃ (R:Rl) (b:LL0) (H W h m:Nat),Γ=[some (.fz (.fn o f v (R.ob a))),some (.fz (rD (aX (nH a) R b h m))),some (.fz (.int h)),some (.fz (.int m))]/\Sz H W b/\H<=64/\W<=64/\h<=H/\2<=m/\m<=W/\CJ (aX (nH a) R b h m)/\Q (.fr (rD b)) Γ
theorem sG(T:Txt w K mg a)(L:pS P w K mg base ["sums","differences"] 2 (Ii a) o f v):aC P w K mg base CX0 8 a.vI a.tH ["join","rows","height","width"] (sp3 K 4 (K6 a o f v)):=by
 refine ok3 T.dH.F Aq (hbody:=λM A t s H E B=>⟨_,_,(ai (ar (aJ (P3.opd (bF rfl (bI (by rfl) (de (by rfl) (bv 1) bP (bg (bv 2)))) nC (λ_ _ _ _ _=>(aK (i:=0) nC.nd rfl (gs rfl))) (λ_ _ _ _ _=>(aj (by rfl) (BY T L) B.dn (by rfl) T.lX.m T.lX.F.kp T.lX.b (aa (P3.opd (p3v 1)) (aa (P3.opd (p3v 0)) (aa (P3.opd (p3v 2)) ab))))))) (P3.opd (de (by rfl) (bv 1) (bg (bv 2)) bP))))),λx Q h S=>?_⟩);obtain⟨R,b,H,W,h,m,rfl,p,X,V,U,z,C,G,q⟩:=h;have O:=p.hh;have N:=(aW (Y:=nH a) (R:=R) (h:=h) p C).hh;have lt:(b.take h).length=h:=by rw[kv];lia
 have l:((b.take h).map λr=>nM (nH a) R r m).length=h:=by rw[lM0,lt]
 have J:(aX (nH a) R b h m).take h=(b.take h).map λr=>nM (nH a) R r m:=Ws l;have I:(aX (nH a) R b h m).drop h=b.drop h:=Wt l;walk_at "w";rw[u6 (by lia),J];refine⟨small (by rw[lM0,l];lia),aO (λk n c=>n=((b.take h).take k).map il/\∃ s,c=[fo s,some (.fz (.fn o f v (R.ob a))),some (.fz (.int m))]) ⟨rfl,none,rfl⟩ ?_ ?_⟩
 .rintro k d n c F D ⟨rfl,s,rfl⟩;obtain⟨y,g,rfl⟩:=kZ F;have u:y∈aX (nH a) R b h m:=Bk _ (fC g);rw[dV] at g;obtain⟨r,j,rfl⟩:=Option.map_eq_some_iff.mp g;have e:=p.ww r (Os (fC j));walk_at "w";refine⟨R,r,m,rfl,z,by lia,by lia,G _ u,?_⟩;walk_at "w";exact⟨by rw[take_snoc j,ih];rfl,some _,rfl⟩
 .rintro n c D ⟨rfl,s,rfl⟩;walk_at "w";rw[pC (by lia),I,oD (by rw[lM0,l,lt];exact ec _)];refine⟨by rw[lM0,lM0,wh,lt,gp];lia,?_⟩;rw[<- ih,WA];exact q
variable {α:Type}{Y:Hv α}{o:Unit->Obj}{v:V}
noncomputable def en (z:α)(a:List (List α))(y x:Nat):α:=(a.getD y []).getD x z
theorem Sz.row{H W y:Nat}{a:List (List α)}(s:Sz H W a)(h:y < H):a[y]?=some (a.getD y [])/\(a.getD y []).length=W:=by
 have b:=s.hh;have e:=qw (xs:=a) [] (k:=y) (by lia);exact⟨e,s.ww _ (fC e)⟩
theorem Nb{H W:Nat}{z:α}{A B:List (List α)}(s:Sz H W A)(t:Sz H W B)(h:∀ y x,y < H->x < W->en z A y x=en z B y x):A=B:=by
 have i:=s.hh;have g:=t.hh;refine Tz λy=>?_;by_cases a:y < H
 .obtain⟨d,f⟩:=s.row a;obtain⟨c,e⟩:=t.row a;rw[d,c];refine congrArg some (Tz λx=>?_);by_cases b:x < W
  .rw[qw z (by lia),qw z (by lia)];exact congrArg some (h y x a b)
  .rw[pa (by lia),pa (by lia)]
 .rw[pa (by lia),pa (by lia)]
theorem A1{a:Type}{g:a->α}{xs:List a}{z:α}{u:a}(h:xs[k]?=some u):(xs.map g).getD k z=g u:=by
 rw[lj,dV,h];rfl
theorem i7{z:α}{H W y x:Nat}{a:List (List α)}(s:Sz H W a)(c:x < W)(b:y < H):en z (bW z W a) x y=en z a y x:=by
 unfold en bW;rw[A1 (yM c)];unfold DN;rw[A1 (s.row b).1]
theorem pV{z:α}{H W:Nat}{rows:List (List α)}(s:Sz H W rows):bW z H (bW z W rows)=rows:=
 Nb (z:=z) (bL (bL s)) s λy x a b=>by rw[i7 (bL s) a b,i7 s b a]
theorem jI{R:Rl}{H W h m y x:Nat}{a:List (List α)}(s:Sz H W a)(k:m<=W)(j:y < H):en Y.z (aX Y R a h m) y x=if y < h/\x < m then (if x < (m + 1) / 2 then (Y.s R ((a.getD y []).take m)).getD x Y.z else (Y.d R ((a.getD y []).take m)).getD (x - (m + 1) / 2) Y.z) else en Y.z a y x:=by
 obtain⟨e,l⟩:=s.row j;have n:=s.hh;unfold en;by_cases c:y < h
 .have i:(aX Y R a h m).getD y []=nM Y R (a.getD y []) m:=by
   unfold aX;rw[lj,iv (by rw[lM0,kv];lia),dV,Uu c,e];rfl
  rw[i]
  clear i e
  generalize a.getD y []=r at l ⊢;have b:=Y.sl R (r.take m);have d:=Y.dl R (r.take m);rw[kv,Tv (by lia)] at b d;unfold nM;rw[lj];by_cases g:x < m
  .rw[if_pos ⟨c,g⟩,iv (by rw[el];lia)];by_cases f:x < (m + 1) / 2
   .rw[if_pos f,iv (by lia)];rfl
   .rw[if_neg f,mm (by lia),b];rfl
  .rw[if_neg (λq=>g q.2),mm (by rw[el];lia),el,b,d,Xp,show m + (x - ((m + 1) / 2 + m / 2))=x by lia];rfl
 .rw[if_neg (λq=>c q.1)]
  congr 1
  unfold aX;rw[lj,mm (by rw[lM0,kv];lia),lM0,kv,Xp,show h + (y - min h a.length)=y by lia];rfl
variable {o:Unit->Obj}{v:V}
def Lj (a:Ad)(R:Rl)(W:Nat)(l:Lt)(h w:Nat)(b:LL0):Prop:=match l with
 | .r=>CJ (aX (nH a) R b h w)
 | .p=>CJ (aX (nH a) R (bW 0 W b) w h)
 | .b=>CJ (aX (nH a) R b h w)/\CJ (aX (nH a) R (bW 0 W (aX (nH a) R b h w)) w h)
def JK (a:Ad)(o:Unit->Obj)(f:Addr)(v:V):S3:=λΓ Q=>∃ (R:Rl) (h w:Int) (ls:List Lt) (b:LL0) (k:Nat) (l:Lt) (H W ch c:Nat),
 Γ=[some (.fz (plD a R h w ls)),some (.fz (.fn o f v (R.ob a))),some (.fz (rD (mR (nH a) R H W l ch c b))),some (.fz (.int k))]/\ls.length<=10/\ls[k]?=some l/\cat h w ls k=((ch:Int),(c:Int))/\Can l ch c/\Sz H W b/\1<=H/\H<=64/\1<=W/\W<=64/\ch<=H/\c<=W/\Lj a R W l ch c b/\
 Q (.fr (rD b)) Γ
theorem AM(T:Txt w K mg a)(L:pS P w K mg base ["sums","differences"] 2 (Ii a) o f v):aC P w K mg base CX0 9 a.vG a.tF ["plan","join","rows","step"] (sp3 K 4 (JK a o f v)):=by
 refine ok3 T.jQ.F eC (hbody:=λU A F s H E u=>⟨_,_,(ah (eI (is:=[4,5]) (by rfl) (aG (by rfl) (bv 0) T.aP T.gf (fZ T) u.dn T.eV.b (aa (P3.opd (p3v 3)) ab)) (av (ax (i:=4) eC.nd rfl (gs rfl)) (av (ax (i:=5) eC.nd rfl (gs rfl)) bA)) rfl)
   (ah (aH (i:=6) eC.nd rfl (gs rfl) (aR (by rfl) (P3.opd (aD (by rfl) (bv 0) T.aP T.vn (vj T) u.dn T.qU.b)) (bv 3) (λ_ _=>rfl)))
   (ah (br (aT (nB (by rfl)) (bv 6) (P3.opd (fe (p:=a.a9) (zs:=["p","b"]) (by rfl) T.cu)) (by with_unfolding_all rfl)) (ai (aH (i:=2) eC.nd rfl (gs rfl) (aj (by rfl) (p5 T) u.dn (by rfl) T.cO.m T.cO.F.kp T.cO.b (aa (P3.opd (aj (by rfl) (sG T L) u.dn (by rfl) T.dH.m T.dH.F.kp T.dH.b (aa (P3.opd (p3v 1)) (aa (P3.opd (aj (by rfl) (p5 T) u.dn (by rfl) T.cO.m T.cO.F.kp T.cO.b (aa (P3.opd (p3v 2)) ab))) (aa (P3.opd (p3v 5)) (aa (P3.opd (p3v 4)) ab)))))) ab)))) aQ)
   (ah (br (aT (nB (by rfl)) (bv 6) (P3.opd (fe (p:=a.bH) (zs:=["r","b"]) (by rfl) T.eP)) (by with_unfolding_all rfl)) (ai (aH (i:=2) eC.nd rfl (gs rfl) (aj (by rfl) (sG T L) u.dn (by rfl) T.dH.m T.dH.F.kp T.dH.b (aa (P3.opd (p3v 1)) (aa (P3.opd (p3v 2)) (aa (P3.opd (p3v 4)) (aa (P3.opd (p3v 5)) ab))))))) aQ)
   (ai (ar (rB 2))))))),λS Q h V=>?_⟩)
 obtain⟨R,h,w,t,b,k,l,H,W,ch,d,rfl,c,x,G,⟨M,J⟩,n,O,m,N,j,g,r,y,q⟩:=h;have lk:=mB x;have C:=bL (z:=0) n;cases l
 .walk_at "w";refine⟨by decide +kernel,R,h,w,t,k,rfl,c,by lia,?_⟩;rw[G];unfold cD;walk_at "w";refine⟨by decide +kernel,R,h,w,t,rfl,c,?_⟩;walk_at "w";refine⟨by rw[jh,gp];lia,_,atL x,?_⟩;walk_at "w";refine⟨R,b,H,W,ch,d,rfl,n,m,j,g,by have:=M (by decide);lia,r,y,?_⟩;walk_at "w";exact q
 .walk_at "w";refine⟨by decide +kernel,R,h,w,t,k,rfl,c,by lia,?_⟩;rw[G];unfold cD;walk_at "w";refine⟨by decide +kernel,R,h,w,t,rfl,c,?_⟩;walk_at "w";refine⟨by rw[jh,gp];lia,_,atL x,?_⟩;walk_at "w";have B:Sz H W (mR (nH a) R H W .p ch d b):=xj n g r;have e:bW 0 W (mR (nH a) R H W .p ch d b)=aX (nH a) R (bW 0 W b) d ch:=pV (aW C g);refine⟨Int,.int,0,H,W,_,rfl,B,O,m,j,?_⟩;rw[e];walk_at "w";refine⟨R,bW 0 W b,W,H,d,ch,rfl,C,j,m,r,by have:=J (by decide);lia,g,y,?_⟩;walk_at "w";refine⟨Int,.int,0,W,H,_,rfl,C,N,j,m,?_⟩;rw[pV n];walk_at "w";exact q
 .walk_at "w";refine⟨by decide +kernel,R,h,w,t,k,rfl,c,by lia,?_⟩;rw[G];unfold cD;walk_at "w";refine⟨by decide +kernel,R,h,w,t,rfl,c,?_⟩;walk_at "w";refine⟨by rw[jh,gp];lia,_,atL x,?_⟩;walk_at "w";have I:=aW (Y:=nH a) (R:=R) (h:=ch) n r;have D:=bL (z:=0) I;have B:Sz H W (mR (nH a) R H W .b ch d b):=xj n g r;have e:bW 0 W (mR (nH a) R H W .b ch d b)=aX (nH a) R (bW 0 W (aX (nH a) R b ch d)) d ch:=pV (aW D g);refine⟨Int,.int,0,H,W,_,rfl,B,O,m,j,?_⟩;rw[e];walk_at "w";refine⟨R,bW 0 W (aX (nH a) R b ch d),W,H,d,ch,rfl,D,j,m,r,by have:=J (by decide);lia,g,y.2,?_⟩;walk_at "w";refine⟨Int,.int,0,W,H,_,rfl,D,N,j,m,?_⟩;rw[pV I];walk_at "w";refine⟨R,b,H,W,ch,d,rfl,n,m,j,g,by have:=M (by decide);lia,r,y.1,?_⟩;walk_at "w";exact q
def Se (a:Ad)(R:Rl)(h w:Int)(ls:List Lt)(b:LL0):Prop:=∀ k l,ls[k]?=some l->Lj a R w.toNat l (cN h w ls k).1 (cN h w ls k).2 (stK (nH a) R h w ls b k)
def GU (a:Ad)(o:Unit->Obj)(f:Addr)(v:V):S3:=λΓ Q=>∃ (R:Rl) (h w:Int) (ls:List Lt) (b:LL0),Γ=[some (.fz (plD a R h w ls)),some (.fz (.fn o f v (R.ob a))),some (.fz (rD (iw (nH a) R h w ls b))),some (.fz (.int 0))]/\Pl h w ls/\Sz h.toNat w.toNat b/\Se a R h w ls b/\
 Q (.fz (rD b)) Γ
theorem y7(T:Txt w K mg a)(L:pS P w K mg base ["sums","differences"] 2 (Ii a) o f v):aC P w K mg base CX0 10 a.tU a.qy ["plan","join","rows","step"] (sp3 K 4 (GU a o f v)):=by
 refine ok3 T.iQ.F kD (hbody:=λD A n s H E r=>⟨_,_,(ah (gM tr rfl (K9 (by rfl) T.z_reversed (by rfl) T.z_range (ae (p3v 3) (ae (aD (by rfl) (bv 0) T.aP T.dq (dk T) r.dn T.cZ.b) aq))) (aK (i:=4) kD.nd rfl (gs rfl))
   (ai (aH (i:=2) kD.nd rfl (gs rfl) (iI (aj (by rfl) (AM T L) r.dn (by rfl) T.jQ.m T.jQ.F.kp T.jQ.b (aa (P3.opd (p3v 0)) (aa (P3.opd (p3v 1)) (aa (P3.opd (p3v 2)) (aa (P3.opd (p3v 4)) ab)))))))))
   (ai (ar (rB 2)))),λu Q h j=>?_⟩)
 obtain⟨R,h,w,b,c,rfl,p,x,C,q⟩:=h;have g:=p.len;obtain⟨O,N,M,J,I⟩:=p.sz;walk_at "w";refine⟨by decide +kernel,R,h,w,b,rfl,g,?_⟩;walk_at "w";refine⟨by lia,by lia,cA (λi m=>i<=b.length/\∃ s,m=[some (.fz (plD a R h w b)),some (.fz (.fn o f v (R.ob a))),some (.fz (rD (stK (nH a) R h w b c (b.length - i)))),some (.fz (.int 0)),fo s]) ⟨xt _,none,rfl⟩ ?_ ?_⟩
 .rintro i d m B ⟨z,s,rfl⟩;obtain⟨lt,rfl⟩:=BF B;have lt:i < b.length:=by lia
  have y:b.length - 1 - i < b.length:=by lia
  obtain⟨l,j⟩:∃ l,b[b.length - 1 - i]?=some l:=⟨_,gE0 y⟩;obtain⟨e,G,F,U,S⟩:=p.cn (k:=b.length - 1 - i) (by lia);have t:=p9 p.good j;rw[e] at t;rw[show b.length - i=b.length - 1 - i + 1 by lia,zt j];walk_at "w";refine⟨R,h,w,b,stK (nH a) R h w b c (b.length - 1 - i),b.length - 1 - i,l,h.toNat,w.toNat,_,_,by rw[show (b.length:Int) - 1 + (i:Int) * -1=((b.length - 1 - i:Nat):Int) by lia],g,j,e,t,l_ p x (by lia),by lia,by lia,by lia,by lia,G,F,C _ l j,?_⟩;walk_at "w";exact⟨lt,some (.int ((b.length - 1 - i:Nat):Int)),by rw[show b.length - (i + 1)=b.length - 1 - i by lia,show (b.length:Int) - 1 + (i:Int) * -1=((b.length - 1 - i:Nat):Int) by lia];rfl⟩
 .rintro m ⟨z,s,rfl⟩;rw[BE,show b.length - (Vx b.length)=0 by lia];walk_at "w";exact q
def Bd (B:Int)(a:Li0):Prop:=∀ n∈a,-B<=n/\n<=B
theorem ig{a:Li0}{B:Int}(b:0<=B)(h:Bd B a)(k:Nat):-B<=a.getD k 0/\a.getD k 0<=B:=by
 by_cases lt:k < a.length
 .have:a.getD k 0=a[k]:=by simp [rp,lt]
  rw[this];exact h _ (Jt lt)
 .have:a.getD k 0=0:=by simp [rp,lt]
  rw[this];lia
theorem zx{f:Nat->Int}{B:Int}(h:∀ j,-B<=f j/\f j<=B):Bd B (rg f k):=λn a=>by
 unfold rg at a;obtain⟨j,_,rfl⟩:=ry.mp a;exact h j
theorem CG{ns:Li0}{B C:Int}(h:Bd B ns)(b:B<=C):Bd C ns:=λn a=>by have:=h n a;lia
theorem Pp{xs ys:Li0}{B:Int}(h:Bd B xs)(h':Bd B ys):Bd B (xs++ys):=λn a=>by
 rcases Bl.mp a with q | q
 .exact h n q
 .exact h' n q
theorem Bu{p:Int->Int->Int}{l:Int->Int}{c:Li0}{B C:Int}(f:0<=B)(h:Bd B c)(g:∀ x y,-B<=x->x<=B->-B<=y->y<=B->-C<=p x y/\p x y<=C)(i:∀ x,-B<=x->x<=B->-C<=l x/\l x<=C):Bd C (bM p l c):=by
 refine Pp (zx λj=>?_) ?_
 .have a:=ig f h (2 * j);have b:=ig f h (2 * j + 1);exact g _ _ a.1 a.2 b.1 b.2
 .split
  .intro n d;have e:n=l (c.getD (c.length - 1) 0):=by simpa using d
   subst e;have a:=ig f h (c.length - 1);exact i _ a.1 a.2
  .intro n d;cases d
theorem A2{c:Li0}{B:Int}(d:0<=B)(h:Bd B c):Bd (2 * B) (eQ c):=zx λj=>by
 have a:=ig d h (2 * j);have b:=ig d h (2 * j + 1);lia
theorem Iz{a:Li0}{B:Int}(b:0<=B)(h:Bd B a):Bd B (fsF a):=zx λj=>ig b h (2 * j)
theorem A9{d:Li0}{B:Int}(e:0<=B)(h:Bd B d):Bd (2 * B) (gu (fsF d) d):=zx λj=>by
 have a:=ig e h (2 * j + 1);have b:=ig e (Iz e h) j;have c:-B<=nrF (fsF d) ((j:Int) + 1)/\nrF (fsF d) ((j:Int) + 1)<=B:=ig e (Iz e h) _;lia
theorem w9{e:Li0}{B:Int}(f:0<=B)(h:Bd B e):Bd B (bM Rl.lean.pair Rl.lean.h_ e):=Bu f h (λx y a b c d=>by show -B<=(x + y) / 2/\(x + y) / 2<=B;lia) λx a b=>⟨a,b⟩
theorem JH(R:Rl){e:Li0}{B:Int}(i:1<=B)(h:Bd B e):Bd (2 * B) (R.sums e):=by
 have f:0<=B:=by lia
 cases R with
 | sum=>exact Bu f h (λx y a b c d=>by show -(2 * B)<=x + y/\x + y<=2 * B;lia) λx a b=>by show -(2 * B)<=2 * x/\2 * x<=2 * B;lia
 | half=>exact CG (w9 f h) (by lia)
 | lean=>exact CG (w9 f h) (by lia)
 | guess=>
  refine zx λj=>?_;have a:=ig f (Iz f h) j;have g:0<=2 * B:=by lia
  have b:-(2 * B)<=nrF (gu (fsF e) e) ((j:Int) - 1)/\nrF (gu (fsF e) e) ((j:Int) - 1)<=2 * B:=ig g (A9 f h) _;have c:-(2 * B)<=nrF (gu (fsF e) e) (j:Int)/\nrF (gu (fsF e) e) (j:Int)<=2 * B:=ig g (A9 f h) _;unfold cT;lia
theorem Pe(R:Rl){e:Li0}{B:Int}(f:1<=B)(h:Bd B e):Bd (3 * B) (R.dif e):=by
 have d:0<=B:=by lia
 cases R with
 | sum=>exact CG (A2 d h) (by lia)
 | half=>exact CG (A2 d h) (by lia)
 | guess=>exact CG (A9 d h) (by lia)
 | lean=>
  refine zx λj=>?_;have a:=ig (show 0<=2 * B by lia) (A2 d h) j;have b:-B<=nrF (bM Rl.lean.pair Rl.lean.h_ e) ((j:Int) - 1)/\nrF (bM Rl.lean.pair Rl.lean.h_ e) ((j:Int) - 1)<=B:=ig d (w9 d h) _;have c:-B<=nrF (bM Rl.lean.pair Rl.lean.h_ e) ((j:Int) + 1)/\nrF (bM Rl.lean.pair Rl.lean.h_ e) ((j:Int) + 1)<=B:=ig d (w9 d h) _;unfold fv;lia
theorem Lx{r:Li0}{m:Nat}{B:Int}(c:m<=r.length)(h:∀ j,j < m->-B<=r.getD j 0/\r.getD j 0<=B):Bd B (r.take m):=λn a=>by
 obtain⟨j,b,rfl⟩:=FB a;rw[kv] at b;have:=h j (by lia);rw[XG];simpa [rp,show j < r.length by lia] using this
theorem yb{R:Rl}{H W h m:Nat}{b:LL0}(s:Sz H W b)(i:m<=W){p:Nat->Int}{F:Nat->Nat->Int}(g:∀ y,1<=p y)(k:∀ y x,y < H->x < W->-F y x<=en 0 b y x/\en 0 b y x<=F y x)(e:∀ y x,y < h->x < m->F y x=p y) :
  ∀ y x,y < H->x < W->-(if y < h/\x < m then (if x < (m + 1) / 2 then 2 * p y else 3 * p y) else F y x)<=en 0 (aX (nH a) R b h m) y x/\en 0 (aX (nH a) R b h m) y x<=if y < h/\x < m then (if x < (m + 1) / 2 then 2 * p y else 3 * p y) else F y x:=by
 intro y x d n;have E:en 0 (aX (nH a) R b h m) y x=_:=jI (Y:=nH a) s i d;rw[E];by_cases c:y < h/\x < m
 .rw[if_pos c,if_pos c];have l:Bd (p y) ((b.getD y []).take m):=Lx (by rw[(s.row d).2];exact i) λj o=>by rw[<- e y j c.1 o];exact k y j d (by lia)
  have:=g y;by_cases f:x < (m + 1) / 2
  .rw[if_pos f,if_pos f];exact ig (by lia) (JH R (g y) l) x
  .rw[if_neg f,if_neg f];exact ig (by lia) (Pe R (g y) l) _
 .rw[if_neg c,if_neg c];exact k y x d n
noncomputable def bx (h w:Nat)(c:Int)(y x:Nat):Int:=if y < h/\x < w then c else 1000000000
def Bx (H W h w:Nat)(c:Int)(a:LL0):Prop:=∀ y x,y < H->x < W->-bx h w c y x<=en 0 a y x/\en 0 a y x<=bx h w c y x
theorem MS{h w y x:Nat}{c:Int}(a:c<=1000000000):bx h w c y x<=1000000000:=by unfold bx;split <;> lia
theorem Bf{H W h w:Nat}{c:Int}{a:LL0}(s:Sz H W a)(b:Bx H W h w c a):Bx W H w h c (bW 0 W a):=λx y e d=>by
 rw[i7 s e d,show bx w h c x y=bx h w c y x by unfold bx;simp only[And.comm]];exact b y x d e
theorem IE{H W:Nat}{a:LL0}(s:Sz H W a)(b:∀ y x,y < H->x < W->-1000000000<=en 0 a y x/\en 0 a y x<=1000000000):∀ r∈a,∀ n∈r,-1000000000<=n/\n<=1000000000:=λr c n f=>by
 obtain⟨y,d,rfl⟩:=FB c;obtain⟨x,e,rfl⟩:=FB f;have:=b y x (by have:=s.hh;lia) (by have:=s.ww _ c;lia);simpa [en,rp,d,e] using this
theorem u9{H W h w:Nat}{c:Int}{rows:LL0}(s:Sz H W rows)(b:Bx H W h w c rows)(g:c<=1000000000):CJ rows:=λr e n f=>by
 have:=IE s (λy x a d=>by have:=b y x a d;have:=MS (h:=h) (w:=w) (y:=y) (x:=x) g;lia) r e n f;lia
theorem El{H W h m:Nat}{b:LL0}(s:Sz H W b)(f:CJ b)(e:2<=m)(g:m<=W):okR (nH a) b h m:=λr c=>by
 have c:=Os c;exact⟨λn d=>f r c n (Os d),by rw[kv,s.ww r c];lia⟩
theorem C1{R:Rl}{H W h w:Nat}{c:Int}{d:LL0}(s:Sz H W d)(j:w<=W)(k:1<=c)(l:3 * c<=1000000000)(b:Bx H W h w c d):Bx H W h ((w + 1) / 2) (2 * c) (aX (nH a) R d h w):=λy x g i=>by
 have:=yb (a:=a) (R:=R) s j (p:=λ_=>c) (F:=bx h w c) (λ_=>k) b (λy x f e=>if_pos ⟨f,e⟩) y x g i;unfold bx at this ⊢;split at this <;> split <;> (try split at this) <;> lia
noncomputable def nhN (l:Lt)(h:Nat):Nat:=match l with
 | .r=>h
 | _=>(h + 1) / 2
noncomputable def nwN (l:Lt)(w:Nat):Nat:=match l with
 | .p=>w
 | _=>(w + 1) / 2
theorem Pl.cs{h w:Int}{ls:List Lt}{l:Lt}(p:Pl h w ls)(d:ls[k]?=some l):cN h w ls (k + 1)=(nhN l (cN h w ls k).1,nwN l (cN h w ls k).2):=by
 have lt:=mB d;have e:=(p.cn (k:=k) (by lia)).1;have f:=(p.cn lt).1;have st:=t5 (h:=h) (w:=w) d;rw[e,f] at st;have b:=congrArg Prod.fst st;have a:=congrArg Prod.snd st;generalize cN h w ls k=c at b a ⊢;generalize cN h w ls (k + 1)=g at b a ⊢;cases l <;> exact Zd (by simp only[nh,nhN] at b ⊢;simp at b;lia) (by simp only[nw,nwN] at a ⊢;simp at a;lia)
theorem JL{R:Rl}{H W h w:Nat}{l:Lt}{c:Int}{rows:LL0}(s:Sz H W rows)(f:h<=H)(d:w<=W)(o:Can l h w)(q:1<=c)(A:3 * c<=1000000000)(E:l=.b->9 * c<=1000000000)(b:Bx H W h w c rows) :
  Bx H W (nhN l h) (nwN l w) (if l=.b then 4 * c else 2 * c) (mR (nH a) R H W l h w rows)/\Lj a R W l h w rows/\okS (nH a) R W l h w rows:=by
 have D:=u9 s b (by lia);have i:=bL (z:=0) s;cases l with
 | r=>
  have I:=o.1 (by decide);have r:=C1 (a:=a) (R:=R) s d q A b;exact⟨r,u9 (aW s d) r (by lia),El s D (by lia) d⟩
 | p=>
  have L:=o.2 (by decide);have bT:=Bf s b;have r:=C1 (a:=a) (R:=R) i f q A bT;exact⟨Bf (aW (Y:=nH a) (R:=R) (h:=w) i f) r,u9 (aW i f) r (by lia),El i (u9 i bT (by lia)) (by lia) f⟩
 | b=>
  have I:=o.1 (by decide);have L:=o.2 (by decide);have E:=E rfl;have k:=aW (Y:=nH a) (R:=R) (h:=h) s d;have t:=bL (z:=0) k;have N:=yb (a:=a) (R:=R) s d (p:=λ_=>c) (F:=bx h w c) (λ_=>q) b λy x v u=>if_pos ⟨v,u⟩;have C:CJ (aX (nH a) R rows h w):=u9 k (C1 s d q A b) (by lia);have b2:=yb (a:=a) (R:=R) (h:=w) t f (p:=λx=>if x < (w + 1) / 2 then 2 * c else 3 * c) (F:=λx y=>if y < h/\x < w then (if x < (w + 1) / 2 then 2 * c else 3 * c) else bx h w c y x) (λx=>by split <;> lia) (λx y g m=>by rw[i7 k g m];exact N y x m g) λx y v u=>if_pos ⟨u,v⟩;have B:=aW (Y:=nH a) (R:=R) (h:=w) t f;have G:Bx W H ((w + 1) / 2) ((h + 1) / 2) (4 * c) (aX (nH a) R (bW 0 W (aX (nH a) R rows h w)) w h):=λx y g m=>by
   have:=b2 x y g m;unfold bx at this ⊢;split at this <;> split <;> (try split at this) <;> (try split at this) <;> (try split at this) <;> lia
  have M:=u9 B G (by lia);exact⟨Bf B G,⟨C,M⟩,El s D (by lia) d,El t (λr J n K=>by
   obtain⟨x,g,rfl⟩:=ry.mp J;obtain⟨r',j,rfl⟩:=ry.mp K;have O:=rk.mp g;have e:=k.ww r' j;have:r'.getD x 0∈r':=by simp [rp,show x < r'.length by lia]
   exact C r' j _ this) (by lia) f⟩
noncomputable def pw (n:Nat):Nat:=if n<=1 then 1 else if n<=2 then 2 else if n<=4 then 4 else if n<=8 then 8 else if n<=16 then 16 else if n<=32 then 32 else 64
theorem wX(a:2<=n)(b:n<=64):2 * pw ((n + 1) / 2)=pw n:=
 (show ∀ n:Fin 65,2<=n.1->2 * pw ((n.1 + 1) / 2)=pw n.1 by decide +kernel) ⟨n,by lia⟩ a
theorem Fq(n:Nat):1<=pw n/\pw n<=64/\(2<=n->2<=pw n):=by
 unfold pw;refine⟨?_,?_,λ_=>?_⟩ <;> (repeat' split) <;> lia
theorem Bv {R:Rl}{h w:Int}{ls:List Lt}{d:LL0}(p:Pl h w ls)(s:Sz h.toNat w.toNat d)(b:∀ r∈d,∀ n∈r,-100000<=n/\n<=100000):∀ k,k<=ls.length->∃ c:Nat,1<=c/\c * (pw (cN h w ls k).1 * pw (cN h w ls k).2)<=409600000/\Bx h.toNat w.toNat (cN h w ls k).1 (cN h w ls k).2 c (stK (nH a) R h w ls d k)/\
  ∀ j,j < k->∀ l,ls[j]?=some l->Lj a R w.toNat l (cN h w ls j).1 (cN h w ls j).2 (stK (nH a) R h w ls d j)/\okS (nH a) R w.toNat l (cN h w ls j).1 (cN h w ls j).2 (stK (nH a) R h w ls d j)
 | 0,_=>by
  refine⟨100000,by decide,?_,λy x N hx=>?_,λj G=>absurd G (Nat.not_lt_zero _)⟩
  .have:=Lc (Fq (cN h w ls 0).1).2.1 (Fq (cN h w ls 0).2).2.1;lia
  .obtain⟨e,l⟩:=s.row N;have:=b _ (fC e) ((d.getD y []).getD x 0) (by have:=qw (xs:=d.getD y []) 0 (k:=x) (by lia);exact fC this);show -bx _ _ _ _ _<=(d.getD y []).getD x 0/\(d.getD y []).getD x 0<=_;unfold bx;split <;> lia
 | k + 1,O=>by
  obtain⟨c,c1,q,v,L⟩:=Bv (R:=R) p s b k (by lia);obtain⟨l,u⟩:∃ l,ls[k]?=some l:=⟨_,gE0 O⟩;obtain⟨e,C,B,I,H⟩:=p.cn (k:=k) (by lia);have f:=p9 p.good u;have Q:=p.sz.h2;have J:=p.sz.w2;have D:=l_ (Y:=nH a) (R:=R) p s (k:=k) (by lia);rw[e] at f;rw[zt u,p.cs u];generalize hX:stK (nH a) R h w ls d k=X at v D ⊢;generalize P:cN h w ls k=T at q v f C B I H ⊢;obtain⟨i,g⟩:=T;dsimp only at q v f C B I H ⊢;obtain⟨M,Z,F⟩:=Fq i;obtain⟨K,W,E⟩:=Fq g;have o:(2<=pw i * pw g->3 * (c:Int)<=1000000000)/\(4<=pw i * pw g->9 * (c:Int)<=1000000000):=⟨λz=>by have:=Vq c z;lia,λz=>by have:=Vq c z;lia⟩;have t:2<=pw i * pw g/\(l=.b->4<=pw i * pw g):=by
   cases l with
   | r=>exact⟨Lc M (E (by have:=f.1 (by decide);lia)),λz=>nomatch z⟩
   | p=>exact⟨Lc (F (by have:=f.2 (by decide);lia)) K,λz=>nomatch z⟩
   | b=>
    have:=Lc (F (by have:=f.2 (by decide);lia)) (E (by have:=f.1 (by decide);lia));exact⟨by lia,λ_=>this⟩
  obtain⟨V,b2,U⟩:=JL (a:=a) (R:=R) D C B f (by lia) (o.1 t.1) (λz=>o.2 (t.2 z)) v;refine⟨if l=.b then 4 * c else 2 * c,by split <;> lia,?_,by cases l <;> exact V,λj G m A=>?_⟩
  .cases l with
   | r=>
    have e:=wX (n:=g) (by have:=f.1 (by decide);lia) (by lia);show 2 * c * (pw i * pw ((g + 1) / 2))<=_;rw[<- e] at q
    grind
   | p=>
    have e:=wX (n:=i) (by have:=f.2 (by decide);lia) (by lia);show 2 * c * (pw ((i + 1) / 2) * pw g)<=_;rw[<- e] at q
    grind
   | b=>
    have e:=wX (n:=g) (by have:=f.1 (by decide);lia) (by lia);have S:=wX (n:=i) (by have:=f.2 (by decide);lia) (by lia);show 4 * c * (pw ((i + 1) / 2) * pw ((g + 1) / 2))<=_;rw[<- e,<- S] at q
    grind
  .by_cases z:j < k
   .exact L j z m A
   .obtain rfl:j=k:=by lia
    rw[u] at A;cases A;rw[hX,P];exact⟨b2,U⟩
noncomputable def Ox:Arguments×Expr×Scope:=(eO (.Pass ⟨0,0,0,0⟩),.Constant .none 0 ⟨0,0,0,0⟩,af (.Pass ⟨0,0,0,0⟩))
noncomputable def K3:Arguments×Expr×Scope:=match (cj eD).getD 2 (.Pass ⟨0,0,0,0⟩) with
 | .Assign _ (.Call _ [_,.Lambda ps b sc _,_] _ _) _=>(ps,b,sc)
 | _=>Ox
noncomputable def K4:Arguments×Expr×Scope:=match (cj dP).getD 2 (.Pass ⟨0,0,0,0⟩) with
 | .Return (some (.Call _ [.Call _ [_,.Lambda ps b sc _,_] _ _] _ _)) _=>(ps,b,sc)
 | _=>Ox
noncomputable def K5:Arguments×Expr×Scope:=match (cj da).getD 3 (.Pass ⟨0,0,0,0⟩) with
 | .Assign _ (.Call _ [_,.Lambda ps b sc _,_,_] _ _) _=>(ps,b,sc)
 | _=>Ox
noncomputable abbrev qI:Str:=lh "inner.<locals>.<lambda>"
noncomputable abbrev qH:Str:=lh "halved.<locals>.<lambda>"
noncomputable abbrev qC:Str:=lh "coarse.<locals>.<lambda>"
theorem JT:pR ["row"] "word" K3.2.2:=⟨rfl,rfl,rfl,by decide +kernel,by decide +kernel,by decide +kernel,by decide +kernel,by decide +kernel⟩
theorem JU:pR ["row"] "rule" K4.2.2:=⟨rfl,rfl,rfl,by decide +kernel,by decide +kernel,by decide +kernel,by decide +kernel,by decide +kernel⟩
theorem JV:pR ["sums","differences"] "rule" K5.2.2:=⟨rfl,rfl,rfl,by decide +kernel,by decide +kernel,by decide +kernel,by decide +kernel,by decide +kernel⟩
noncomputable def mH:Hv Bool:=⟨.bl,false,Rl.s1,Rl.s2,Nm,Nl,λR=>.str R.word,λ_=>True⟩
variable {o:Unit->Obj}{v:V}
theorem FZ(T:Txt w K mg a)(L:v9 base qI K3.1 K3.2.1 K3.2.2 "word" (o ()) f v):pS P w K mg base ["row"] 1 mH.lam o f v:=by
 refine okL (ps:=["row"]) L JT (λc d A b s H g=>⟨_,_,(aj (by rfl) (BV T) g.dn (by rfl) T.lU.m T.lU.F.kp T.lU.b (aa (P3.opd (p3v 1)) (aa (P3.opd (p3v 0)) ab))),λk Q e h=>?_⟩) (λ_ _ _ _ l e=>by obtain⟨_,rfl⟩:=ln1 e;rfl);obtain⟨R,j,rfl,_,i,q⟩:=h;unfold mH at *;walk_at "w";exact⟨R,j,rfl,i,q⟩
theorem Dy(T:Txt w K mg a)(L:v9 base qH K4.1 K4.2.1 K4.2.2 "rule" (o ()) f v):pS P w K mg base ["row"] 1 (nH a).lam o f v:=by
 refine okL (ps:=["row"]) L JU (λc d A l s H g=>⟨_,_,iI (P3.or (aG (by rfl) (bv 1) T.fi T.x8 (fY T) g.dn T.eU.b (aa (P3.opd (p3v 0)) ab)) (P3.or (aG (by rfl) (bv 1) T.cq T.uN (fY T) g.dn T.eU.b (aa (P3.opd (p3v 0)) ab)) (P3.or (aG (by rfl) (bv 1) T.gX T.tj (fY T) g.dn T.eU.b (aa (P3.opd (p3v 0)) ab)) (aG (by rfl) (bv 1) T.bV T.sW (fY T) g.dn T.eU.b (aa (P3.opd (p3v 0)) ab))))),λn Q m h=>?_⟩) (λ_ _ _ _ p m=>by obtain⟨_,rfl⟩:=ln1 m;rfl);obtain⟨R,b,e,⟨i,j⟩,k,q⟩:=h;obtain rfl:n=[some (.fz (il b)),some (.fz (R.ob a))]:=e;walk_at "w";cases R with
 | sum=>
  refine .inl ?_;walk_at "w";exact⟨rfl,.sum,b,rfl,i,j,k,q⟩
 | half=>
  refine .inr (.inl ?_);walk_at "w";exact⟨rfl,.half,b,rfl,i,j,k,q⟩
 | guess=>
  refine .inr (.inr (.inl ?_));walk_at "w";exact⟨rfl,.guess,b,rfl,i,j,k,q⟩
 | lean=>
  refine .inr (.inr (.inr ?_));walk_at "w";exact⟨rfl,.lean,b,rfl,i,j,k,q⟩
theorem Dz(T:Txt w K mg a)(L:v9 base qC K5.1 K5.2.1 K5.2.2 "rule" (o ()) f v):pS P w K mg base ["sums","differences"] 2 (Ii a) o f v:=by
 refine okL (ps:=["sums","differences"]) L JV (λc d A n s H b=>⟨_,_,(P3.or (aG (by rfl) (bv 2) T.fi T.AX (i4 T) b.dn T.hZ.b (aa (P3.opd (p3v 0)) (aa (P3.opd (p3v 1)) ab))) (P3.or (aG (by rfl) (bv 2) T.cq T.x9 (i4 T) b.dn T.hZ.b (aa (P3.opd (p3v 0)) (aa (P3.opd (p3v 1)) ab))) (P3.or (aG (by rfl) (bv 2) T.gX T.wB (i4 T) b.dn T.hZ.b (aa (P3.opd (p3v 0)) (aa (P3.opd (p3v 1)) ab))) (aG (by rfl) (bv 2) T.bV T.wA (i4 T) b.dn T.hZ.b (aa (P3.opd (p3v 0)) (aa (P3.opd (p3v 1)) ab)))))),λr Q p h=>?_⟩) (λ_ _ _ _ t p=>by obtain⟨_,_,rfl⟩:=ln2 p;rfl);obtain⟨R,S,m,rfl,l,k,j,i,g,e,q⟩:=h;walk_at "w";cases R with
 | sum=>
  refine .inl ?_;walk_at "w";exact⟨rfl,.sum,S,m,rfl,l,k,j,i,g,e,q⟩
 | half=>
  refine .inr (.inl ?_);walk_at "w";exact⟨rfl,.half,S,m,rfl,l,k,j,i,g,e,q⟩
 | guess=>
  refine .inr (.inr (.inl ?_));walk_at "w";exact⟨rfl,.guess,S,m,rfl,l,k,j,i,g,e,q⟩
 | lean=>
  refine .inr (.inr (.inr ?_));walk_at "w";exact⟨rfl,.lean,S,m,rfl,l,k,j,i,g,e,q⟩
theorem Cf{u:Nat}{G:LL0}(g:GR u G):Sz (G.length:Int).toNat (u:Int).toNat G:=⟨rfl,g.len⟩
structure Pic (a:Ad) (R:Rl) (u:Nat) (ls:List Lt) (G:LL0):Prop where
 g:GR u G
 p:Pl G.length u ls
 b:∀ r∈G,∀ n∈r,-100000<=n/\n<=100000
noncomputable def nums (a:Ad)(R:Rl)(u:Nat)(ls:List Lt)(G:LL0):LL0:=iw (nH a) R G.length u ls G
theorem Pic.all{R:Rl}{u:Nat}{ls:List Lt}{G:LL0}(c:Pic a R u ls G):okK (nH a) R G.length u ls G/\Se a R G.length u ls G/\GR u (nums a R u ls G)/\(nums a R u ls G).length=G.length/\∀ r∈nums a R u ls G,∀ n∈r,-1000000000<=n/\n<=1000000000:=by
 obtain⟨m,m1,t,q,e⟩:=Bv (a:=a) (R:=R) c.p (Cf c.g) c.b ls.length (ec _);have d:Sz G.length u (nums a R u ls G):=l_ (Y:=nH a) (R:=R) c.p (Cf c.g) (ec _);have b:=d.hh;have g:=Lc (Fq (cN (G.length:Int) u ls ls.length).1).1 (Fq (cN (G.length:Int) u ls ls.length).2).1;have s:=Vq m g;have f:=IE d λy x i j=>by have:=q y x i j;have:=MS (h:=(cN (G.length:Int) u ls ls.length).1) (w:=(cN (G.length:Int) u ls ls.length).2) (y:=y) (x:=x) (c:=m) (by lia);exact(⟨by lia,by lia⟩:-1000000000<=en 0 (stK (nH a) R G.length u ls G ls.length) y x/\en 0 (stK (nH a) R G.length u ls G ls.length) y x<=1000000000)
 exact⟨λk l b=>(e k (mB b) l b).2,λk l b=>(e k (mB b) l b).1,⟨by rw[b];exact c.g.h1,by rw[b];exact c.g.h2,c.g.w1,c.g.w2,by rw[b];exact c.g.all,d.ww,λr o n p=>by have:=f r o n p;lia⟩,b,f⟩
def Ip (a:Ad):S3:=λΓ Q=>∃ (R:Rl) (ls:List Lt) (u:Nat) (G:LL0),Γ=[some (.fz (plD a R G.length u ls)),some (.fz (fD a G))]/\Pic a R u ls G/\Q (.fr (fD a (nums a R u ls G))) Γ
theorem zF(T:Txt w K mg a)(M:mQ base a.eA qH):aC P w K mg base CX0 11 a.Cq a.uX ["plan","picture"] (sp3 K 2 (Ip a)):=by
 refine okM T.jb.F zw (hbody:=λm A e s H E k b=>?_);have l:m=.ref a.gg:=k.trans T.Gn;refine⟨_,_,(ah (cz (aj (by rfl) (uH T) b.dn (by rfl) T.e9.m T.e9.F.kp T.e9.b (aa (P3.opd (p3v 0)) (aa (P3.opd (p3v 1)) ab))))
   (ah (aH (i:=2) zw.nd rfl (Ny rfl) (aD (by rfl) (bv 0) T.aP T.eL (eK T) b.dn T.dM.b))
   (ai (ar (p4 T.mk_Field (dE T) b.dn (by rfl) T.oR T.cQ.b (ae (xP (i:=2) (j:=1) (nm:="rule") (λbase o f v L=>oB T (Dy T L)) b.dn (by rfl) T.cH.m T.cH.F.kp T.cH.b (by rfl) (by rfl) (by rfl) rfl (aa (P3.opd (p3v 0)) (aa (P3.opd (Dg l (λh X=>Pj X T.Gd) M rfl)) (aa (P3.opd (aD (by rfl) (bv 1) T.bz T.dr (dm T) b.dn T.c5.b)) ab)))) aq)))))),λn Q h x=>?_⟩
 obtain⟨R,g,u,G,rfl,c,q⟩:=h;have d:=c.p.len;obtain⟨p,_,t,_,_⟩:=c.all;walk_at "w";refine⟨R,g,u,G,rfl,d,c.g,c.b,?_⟩;walk_at "w";refine⟨by decide +kernel,R,_,_,g,rfl,d,?_⟩;unfold yH;walk_at "w";unfold Ie;intro o f r;walk_at "w";refine⟨by decide +kernel,u,G,rfl,c.g,?_⟩;walk_at "w";refine⟨o,f,rfl,r,_,rfl,λv=>?_⟩;refine⟨R,R,_,_,g,G,rfl,c.p,Cf c.g,p,?_⟩;walk_at "w";refine⟨u,_,rfl,t,?_⟩;walk_at "w";exact q
def Lz (a:Ad):S3:=λΓ Q=>∃ (R:Rl) (ls:List Lt) (u:Nat) (G:LL0),Γ=[some (.fz (plD a R G.length u ls)),some (.fz (fD a (nums a R u ls G))),some (.fz (.int 0))]/\Pic a R u ls G/\Q (.fr (fD a G)) Γ
theorem FG(T:Txt w K mg a)(M:mQ base a.df qC):aC P w K mg base CX0 11 a.Cr a.uY ["plan","numbers","step"] (sp3 K 3 (Lz a)):=by
 refine okM T.rT.F lz (hbody:=λz A p s H E t b=>?_);have x:z=.ref a.gi:=t.trans T.Gp;refine⟨_,_,(ah (cz (aj (by rfl) (uI T) b.dn (by rfl) T.e_.m T.e_.F.kp T.e_.b (aa (P3.opd (p3v 0)) (aa (P3.opd (p3v 1)) ab))))
   (ah (eI (is:=[3,4]) (by rfl) (aG (by rfl) (bv 0) T.aP T.gf (fZ T) b.dn T.eV.b (aa (P3.opd (p3v 2)) ab)) (av (ax (i:=3) lz.nd rfl (gs rfl)) (av (ax (i:=4) lz.nd rfl (Ny rfl)) bA)) rfl)
   (ah (aH (i:=5) lz.nd rfl (Ny rfl) (aD (by rfl) (bv 0) T.aP T.eL (eK T) b.dn T.dM.b))
   (ah (aH (i:=6) lz.nd rfl (gs rfl) (iI (xP (i:=5) (j:=1) (nm:="rule") (λbase o f v L=>y7 T (Dz T L)) b.dn (by rfl) T.iQ.m T.iQ.F.kp T.iQ.b (by rfl) (by rfl) (by rfl) rfl (aa (P3.opd (p3v 0)) (aa (P3.opd (Dg x (λh X=>Pj X T.Ge) M rfl)) (aa (P3.opd (aD (by rfl) (bv 1) T.bz T.dr (dm T) b.dn T.c5.b)) (aa (P3.opd (p3v 2)) ab)))))))
   (ai (ar (p4 T.mk_Field (dE T) b.dn (by rfl) T.oR T.cQ.b (ae (bF rfl (bI (by rfl) (de (by rfl) (bv 6) bP (bg (bv 3)))) uc (λ_ _ _ _ _=>(aK (i:=0) uc.nd rfl (gs rfl))) (λ_ _ _ _ _=>(de (by rfl) (bv 0) bP (bg (bv 1))))) aq)))))))),λC Q h U=>?_⟩
 obtain⟨R,l,u,G,rfl,c,q⟩:=h;have g:=c.p.len;obtain⟨_,D,B,y,O⟩:=c.all;have V:=c.g.h2;walk_at "w";refine⟨R,l,u,_,by rw[y],g,B,O,?_⟩;walk_at "w";refine⟨by decide +kernel,R,_,_,l,0,rfl,g,xt _,?_⟩;rw[t6];unfold cD;walk_at "w";refine⟨by decide +kernel,R,_,_,l,rfl,g,?_⟩;unfold yH;walk_at "w";unfold Ie;intro o f I;walk_at "w";refine⟨by decide +kernel,u,_,rfl,B,?_⟩;walk_at "w";refine⟨o,f,rfl,I,_,rfl,λv=>?_⟩;refine⟨R,_,_,l,G,rfl,c.p,Cf c.g,D,?_⟩;walk_at "w";rw[u6 (F:=G) (n:=G.length) (ec _),Ub];refine⟨small (by rw[lM0];lia),aO (λk m e=>m=(G.take k).map il/\∃ s,e=[fo s,some (.fz (.int u))]) ⟨rfl,none,rfl⟩ ?_ ?_⟩
 .rintro k d m e N J ⟨rfl,s,rfl⟩;obtain⟨r,b,rfl⟩:=kZ N;have S:=c.g.len r (fC b);walk_at "w";rw[u6 (F:=r) (n:=u) (by lia),oD (show r.length<=u by lia)];exact⟨by rw[take_snoc b,ih];rfl,some _,rfl⟩
 .rintro m e J ⟨rfl,s,rfl⟩;rw[oD (by rw[lM0];exact ec _)];walk_at "w";refine⟨u,G,rfl,c.g,?_⟩;walk_at "w";exact q
def DT (a:Ad):S3:=λΓ Q=>∃ (R:Rl) (ls:List Lt) (u:Nat) (G:LL0),Γ=[some (.fz (plD a R G.length u ls)),some (.fz (fD a (nums a R u ls G)))]/\Pic a R u ls G/\Q (.fr (fD a G)) Γ
theorem vi(T:Txt w K mg a)(M:mQ base a.df qC):aC P w K mg base CX0 12 a.yr a.vt ["plan","numbers"] (sp3 K 2 (DT a)):=by
 refine ok3 T.fj.F Bw (hbody:=λg A b s H E f=>⟨_,_,(ai (ar (aj (by rfl) (FG T M) f.dn (by rfl) T.rT.m T.rT.F.kp T.rT.b (aa (P3.opd (p3v 0)) (aa (P3.opd (p3v 1)) (aa (P3.opd ag) ab)))))),λd Q h i=>?_⟩);obtain⟨R,e,u,G,rfl,c,q⟩:=h;walk_at "w";refine⟨R,e,u,G,rfl,c,?_⟩;walk_at "w";exact q
theorem BP{t l:Int}{y:Nat}{d:D}(h:d∈uB t l n y):∃ x,x < n/\d=pD (t + (y:Int)) (l + (x:Int)):=by
 unfold uB at h;obtain⟨x,a,rfl⟩:=ry.mp h;exact⟨x,rk.mp a,rfl⟩
theorem w4{h w:Int}{ls:List Lt}(p:Pl h w ls){d:D}(a:d∈ord h w ls):∃ y x:Nat,y < h.toNat/\x < w.toNat/\d=pD y x:=by
 unfold ord wm at a;obtain⟨l,g,a⟩:=TX.mp a;obtain⟨q,f,rfl⟩:=ry.mp g;have o:=C5 p.good p.sz q f;have b:=o.b p.good p.sz;obtain⟨_,_,u,t⟩:=kq (k:=q.s) p.good p.sz.h1 p.sz.w1 o.s;unfold Pt.pl plc at a;obtain⟨i,c,a⟩:=TX.mp a;obtain⟨y,e,rfl⟩:=ry.mp c;obtain⟨x,j,rfl⟩:=BP a;have e:=rk.mp e;have s:=b.t0;have r:=b.l0;have n:=o.ht;have m:=o.wl;refine⟨(q.t + (y:Int)).toNat,(q.l + (x:Int)).toNat,by lia,by lia,?_⟩;rw[FS (by lia),FS (by lia)]
noncomputable def mkD (a:List (List Bool))(d:D):Bool:=match d with
 | .tup [.int y,.int x]=>gb (a.getD y.toNat []) x.toNat
 | _=>false
noncomputable def ip (h w:Int):List (List Bool):=hP h.toNat (hP w.toNat true)
theorem vc(h w:Int):Sz h.toNat w.toNat (ip h w):=⟨by unfold ip;simp,λr a=>by unfold ip at a;rw[(Xl.mp a).2];simp⟩
noncomputable def A0 (R:Rl)(h w:Int)(ls:List Lt):List D:=(ord h w ls).filter (mkD (iw mH R h w ls (ip h w)))
theorem Qn(n:Nat):(hP n [D.bl true]).flatten=(hP n true).map D.bl:=by
 induction n with
 | zero=>rfl
 | succ n a=>rw[yv,KM,a];rfl
theorem AL{h w:Int}{ls:List Lt}(p:Pl h w ls):(ord h w ls).length<=126976:=by
 have c:=sE (ps:=pts h w ls) λq a=>(C5 p.good p.sz q a).b p.good p.sz;have b:=Eg (h:=h) (w:=w) p.len;unfold ord;lia
def Rl.sel (R:Rl)(d c b a:S3):S3:=match R with
 | .sum=>d | .half=>c | .guess=>b | .lean=>a
def or4 (a:Ad)(m:Str)(n:Nat)(g f e d:S3)(c:TB3)(b:dG)(Γ:G)(Q:RV->G->Prop)(_:Tag (m,n,g,f,e,d))(_:Tag (c,b,Q)):Prop:=lC a.a_ m n g c b Γ Q\/lC a.aF m n f c b Γ Q\/lC a.aB m n e c b Γ Q\/lC a.aA m n d c b Γ Q
theorem QZ{g f e d:S3}{c:TB3}{b:dG}{Γ:G}{Q:RV->G->Prop}:(lC a.a_ m n g c b Γ Q\/lC a.aF m n f c b Γ Q\/lC a.aB m n e c b Γ Q\/lC a.aA m n d c b Γ Q)=or4 a m n g f e d c b Γ Q ⟨⟩ ⟨⟩:=rfl
theorem N4{x1 x2 x3 b:S3}{c:TB3}{t3:dG}{Γ:G}{Q:RV->G->Prop}{s:Tag (m,n,x1,x2,x3,b)}{t:Tag (c,t3,Q)}(R:Rl)(h:lC (R.cls a) m n (R.sel x1 x2 x3 b) c t3 Γ Q):or4 a m n x1 x2 x3 b c t3 Γ Q s t:=by
 cases R
 .exact .inl h
 .exact .inr (.inl h)
 .exact .inr (.inr (.inl h))
 .exact .inr (.inr (.inr h))
def K8 (a:Ad):S3:=λΓ Q=>∃ (R:Rl) (h w:Int) (ls:List Lt),Γ=[some (.fz (plD a R h w ls))]/\Pl h w ls/\Q (.fr (.lst (A0 R h w ls))) Γ
theorem Q6{R:Rl}{h w:Int}{ls:List Lt}{rows:List (List Bool)}:okK mH R h w ls rows:=λk l _=>by
 cases l with
 | b=>exact⟨λ_ _=>trivial,λ_ _=>trivial⟩
 | _=>exact λ_ _=>trivial
theorem BZ(T:Txt w K mg a)(M:mQ base a.gq qI):aC P w K mg base CX0 11 a.EL a.yo ["plan"] (sp3 K 1 (K8 a)):=by
 refine okM T.lY.F r8 (hbody:=λC A u s H E z g=>?_);have B:C=.ref a.i5:=z.trans T.Ja;refine⟨_,_,(ah (aH (i:=1) r8.nd rfl (Ny rfl) (P3.or (aD (by rfl) (P3.opd (aD (by rfl) (bv 0) T.aP T.eL (eK T) g.dn T.dM.b)) T.fi T.sQ (sI T) g.dn T.nV.b) (P3.or (aD (by rfl) (P3.opd (aD (by rfl) (bv 0) T.aP T.eL (eK T) g.dn T.dM.b)) T.cq T.oP (oK T) g.dn T.kC.b) (P3.or (aD (by rfl) (P3.opd (aD (by rfl) (bv 0) T.aP T.eL (eK T) g.dn T.dM.b)) T.gX T.m4 (mX T) g.dn T.jf.b) (aD (by rfl) (P3.opd (aD (by rfl) (bv 0) T.aP T.eL (eK T) g.dn T.dM.b)) T.bV T.mZ (mW T) g.dn T.je.b)))))
   (ah (dW (i:=2) r8.nd rfl rfl rfl (bB (by rfl) T.z_range (ae (aD (by rfl) (bv 0) T.aP T.oO (oJ T) g.dn T.kB.b) aq)) vX (λ_ _ _ _ _=>(aK (i:=0) vX.nd rfl (gs rfl))) (λ_ _ _ _ _=>(Ek (P3.opd (bQ (ae fG aq))) (P3.opd (aD (by rfl) (bv 1) T.aP T.qv (qu T) g.dn T.l7.b)))))
   (ah (aH (i:=3) r8.nd rfl (Ny rfl) (iI (xP (i:=1) (j:=1) (nm:="word") (λbase o f v L=>oB T (FZ T L)) g.dn (by rfl) T.cH.m T.cH.F.kp T.cH.b (by rfl) (by rfl) (by rfl) rfl (aa (P3.opd (p3v 0)) (aa (P3.opd (Dg B (λh X=>Pj X T.Im) M rfl)) (aa (P3.opd (p3v 2)) ab))))))
   (ai (ar (sA rfl (bI (by rfl) (aD (by rfl) (bv 0) T.aP T.ze (zb T) g.dn T.rW.b)) pJ (λ_ _ _ _ _=>(gj (is:=[0,1]) (by rfl) (av (ax (i:=0) pJ.nd rfl (gs rfl)) (av (ax (i:=1) pJ.nd rfl (gs rfl)) bA)) rfl)) (λ_ _ _ _ _=>(bj (aR (by rfl) (P3.opd (aR (by rfl) (bv 2) (bv 0) (λ_ _=>rfl))) (bv 1) (λ_ _=>rfl)))) (λ_ _ _ _ _=>(cp (ae (p3v 0) (ae (p3v 1) aq)))))))))),λF Q h hl=>?_⟩
 obtain⟨R,h,w,c,rfl,p,q⟩:=h;have l:=p.len;obtain⟨V,U,O,N,J⟩:=p.sz;simp -dsimp only[jk,ro,Tw,YF,YG,hP,Vd,Vj,↓Mx,↓Mw,↓QZ];refine N4 R ?_;rw[show R.sel (l9 (lh "sum")) (l9 (lh "half")) (l9 (lh "guess")) (l9 (lh "lean"))=l9 R.word by cases R <;> rfl];walk_at "w";refine⟨by decide +kernel,R,h,w,c,rfl,l,?_⟩;walk_at "w";refine⟨_,rfl,?_⟩;walk_at "w";refine⟨by decide +kernel,R,h,w,c,rfl,l,?_⟩;walk_at "w";refine⟨by lia,by lia,small (by rw[aZ];lia),aO (λk m b=>m=(ck k).map (λ_=>tl (hP w.toNat true))/\∃ s,b=[fo s,some (.fz (plD a R h w c))]) ⟨rfl,none,rfl⟩ ?_ ?_⟩
 .rintro k d m b n I ⟨rfl,s,rfl⟩;obtain⟨lt,rfl⟩:=bN n;walk_at "w";refine⟨z1,by decide +kernel,R,h,w,c,rfl,l,?_⟩;walk_at "w";rw[Qn];exact⟨by lia,by lia,xk (by lia),snoc rfl,some _,rfl⟩
 rintro m b I ⟨rfl,s,rfl⟩;rw[aZ,show (ck h.toNat).map (λ_=>tl (hP w.toNat true))=(ip h w).map tl by unfold ip;rw[List.map_replicate,List.map_const',rq]];walk_at "w";unfold yH;walk_at "w";unfold Ie;intro o f G;walk_at "w";refine⟨o,f,rfl,G,_,rfl,λv=>?_⟩;refine⟨R,R,_,_,c,_,rfl,p,vc h w,Q6,?_⟩;walk_at "w";refine⟨by decide +kernel,R,h,w,c,rfl,p.sz,p.good,l,?_⟩;have W:=AL p;have r:Sz h.toNat w.toNat (iw mH R h w c (ip h w)):=l_ (Y:=mH) (R:=R) p (vc h w) (ec c.length);rw[show A0 R h w c=(ord h w c).filter (mkD (iw mH R h w c (ip h w))) from rfl] at q;generalize iw mH R h w c (ip h w)=S at r q ⊢;walk_at "w";refine gW (λk m b=>m=((ord h w c).take k).filter (mkD S)/\∃ s t,b=[fo s,fo t,some (.fz (gD .bl S))]) ⟨rfl,none,none,rfl⟩ ?_ ?_
 .rintro k d m b n ⟨rfl,s,t,rfl⟩;obtain⟨y,x,Z,lx,rfl⟩:=w4 p (fC n);have g:S[y]?=some (S.getD y []):=by
   have:=r.hh;rw[gE0 (by lia)];simp [rp,show y < S.length by lia]
  have lr:=r.ww _ (fC g);walk_at "w";refine bX.mpr ⟨tl (S.getD y []),cG (by lia) (by rw[dV,ey,g];rfl),?_⟩;walk_at "w";refine bX.mpr ⟨_,Bh (by lia) (by lia),?_⟩;rw[ey];have D:mkD S (pD y x)=gb (S.getD y []) x:=rfl;cases e:gb (S.getD y []) x
  .walk_at "w";exact⟨by rw[take_snoc n,To,Wc,D,e];simp,some _,some _,rfl⟩
  .walk_at "w";exact⟨ma (by have:=Np (mkD S) ((ord h w c).take k);rw[kv] at this;lia),z2,by rw[take_snoc n,To,Wc,D,e];rfl,some _,some _,rfl⟩
 .rintro m b ⟨rfl,s,t,rfl⟩;rw[Ub];walk_at "w";exact⟨ma (by have:=Np (mkD S) (ord h w c);lia),q⟩
noncomputable def rl (h w:Nat)(s al dn:Int):LL0:=(ck h).map λ(y:Nat)=>rg (λx:Nat=>s + al * (x:Int) + dn * (y:Int)) w
def Mil (n:Int):Prop:=-1000000<=n/\n<=1000000
theorem G9{h w:Nat}{s al dn:Int}{r:Li0}(a:r∈rl h w s al dn):∃ y:Nat,y < h/\r=rg (λx:Nat=>s + al * (x:Int) + dn * (y:Int)) w:=by
 unfold rl at a;obtain⟨y,b,rfl⟩:=ry.mp a;exact⟨y,rk.mp b,rfl⟩
theorem B9{n:Int}(b:Mil n)(d:k<=64):-64000000<=n * (k:Int)/\n * (k:Int)<=64000000:=by
 obtain⟨c,b2⟩:=b;have a:(0:Int)<=k:=by lia
 have f:=tT c a;have e:=tT b2 a;lia
theorem G8{h w:Int}{s al dn:Int}(c:nU h w)(f:Mil s)(b2:Mil al)(e:Mil dn):GR w.toNat (rl h.toNat w.toNat s al dn):=by
 obtain⟨t,i,q,g,m⟩:=c;have l:(rl h.toNat w.toNat s al dn).length=h.toNat:=by unfold rl;simp
 refine⟨by lia,by lia,by lia,by lia,?_,λr a=>?_,λr a n b=>?_⟩
 .rw[l];have:((h.toNat * w.toNat:Nat):Int)<=512:=by rw[Ux,FS (by lia),FS (by lia)];exact m
  lia
 .obtain⟨y,_,rfl⟩:=G9 a;exact bu _ _
 .obtain⟨y,p,rfl⟩:=G9 a;unfold rg at b;obtain⟨x,d,rfl⟩:=ry.mp b;have o:=rk.mp d;have m1:=B9 b2 (k:=x) (by lia);have j:=B9 e (k:=y) (by lia);obtain⟨v,u⟩:=f;lia
def G7 (a:Ad):S3:=λΓ Q=>∃ h w s c b:Int,Γ=[some (.fz (.int h)),some (.fz (.int w)),some (.fz (.int s)),some (.fz (.int c)),some (.fz (.int b))]/\nU h w/\Mil s/\Mil c/\Mil b/\Q (.fr (fD a (rl h.toNat w.toNat s c b))) Γ
theorem FF(T:Txt w K mg a):aC P w K mg base CX0 7 a.Co a.zV ["height","width","start","along","down"] (sp3 K 5 (G7 a)):=by
 refine ok3 T.rS.F zv (hbody:=λM A t s H E u=>⟨_,_,(ah (br (bC (bj (aj (by rfl) (rC T) u.dn (by rfl) T.dh.m T.dh.F.kp T.dh.b (aa (P3.opd (p3v 0)) (aa (P3.opd (p3v 1)) ab))))) (ai cy) aQ)
   (ah (gM tr rfl (bI (by rfl) (bQ (ae (p3v 2) (ae (p3v 3) (ae (p3v 4) aq))))) (aK (i:=5) zv.nd rfl (gs rfl))
   (ai (br (bC (bj (aj (by rfl) (cW T) u.dn (by rfl) T.aL.m T.aL.F.kp T.aL.b (aa (P3.opd (p3v 5)) (aa (P3.opd (jw (P3.opd (eJ (i:=1000000) (by rfl) T.vT)))) (aa (P3.opd (eJ (i:=1000000) (by rfl) T.vT)) ab)))))) (ai cy) aQ)))
   (ai (ar (p4 T.mk_Field (dE T) u.dn (by rfl) T.oR T.cQ.b (ae (bF rfl (bB (by rfl) T.z_range (ae (p3v 0) aq)) ua (λ_ _ _ _ _=>(aK (i:=0) ua.nd rfl (Ny rfl))) (λ_ _ _ _ _=>(bF rfl (bB (by rfl) T.z_range (ae (p3v 4) aq)) t_ (λ_ _ _ _ _=>(aK (i:=0) t_.nd rfl (gs rfl))) (λ_ _ _ _ _=>(aJ (P3.opd (aJ (bv 3) (P3.opd (dX (bv 1) (bv 0))))) (P3.opd (dX (bv 2) (bv 4)))))))) aq)))))),λB Q h R=>?_⟩)
 obtain⟨h,w,s,l,f,rfl,r,z,b2,v,q⟩:=h;have g:=G8 r z b2 v;walk_at "w";refine⟨h,w,rfl,r,?_⟩;walk_at "w";obtain⟨U,O,S,N,m⟩:=r;refine⟨z3,cA (λk p=>∃ c,p=[some (.fz (.int h)),some (.fz (.int w)),some (.fz (.int s)),some (.fz (.int l)),some (.fz (.int f)),fo c]) ⟨none,rfl⟩ ?_ ?_⟩
 .rintro k d p e ⟨c,rfl⟩;have I:∃ n,d=.int n/\Mil n:=by
   match k,e with
   | 0,e=>cases e;exact⟨_,rfl,z⟩
   | 1,e=>cases e;exact⟨_,rfl,b2⟩
   | 2,e=>cases e;exact⟨_,rfl,v⟩
  obtain⟨n,rfl,F,C⟩:=I;walk_at "w";refine⟨_,_,_,rfl,rfl,?_⟩;rw[M0 F C];walk_at "w";exact⟨some _,rfl⟩
 rintro p ⟨c,rfl⟩;walk_at "w";obtain⟨Y,X⟩:=b2;obtain⟨W,V⟩:=v;refine⟨by lia,by lia,small (by rw[aZ];lia),aO (λk o b=>o=(ck k).map (λy:Nat=>il (rg (λx:Nat=>s + l * (x:Int) + f * (y:Int)) w.toNat))/\∃ c,b=[fo c,some (.fz (.int l)),some (.fz (.int f)),some (.fz (.int s)),some (.fz (.int w))]) ⟨rfl,none,rfl⟩ ?_ ?_⟩
 .rintro k d o b e J ⟨rfl,c,rfl⟩;obtain⟨lt,rfl⟩:=bN e;rw[Tj];walk_at "w";refine⟨by lia,by lia,small (by rw[aZ];lia),aO (λj o b=>o=(ck j).map (λx:Nat=>D.int (s + l * (x:Int) + f * (k:Int)))/\∃ c,b=[fo c,some (.fz (.int l)),some (.fz (.int f)),some (.fz (.int s)),some (.fz (.int k))]) ⟨rfl,none,rfl⟩ ?_ ?_⟩
  .rintro j d o b e L ⟨rfl,c,rfl⟩;obtain⟨G,rfl⟩:=bN e;rw[Tj];walk_at "w";exact⟨.inl ⟨by lia,by lia⟩,.inl ⟨by lia,by lia⟩,snoc rfl,some _,rfl⟩
  .rintro o b L ⟨rfl,c,rfl⟩;rw[aZ,j6];walk_at "w";exact⟨snoc rfl,some _,rfl⟩
 .rintro o b J ⟨rfl,c,rfl⟩;rw[aZ,show (ck h.toNat).map (λy:Nat=>il (rg (λx:Nat=>s + l * (x:Int) + f * (y:Int)) w.toNat))=(rl h.toNat w.toNat s l f).map il by unfold rl;rw[oj];rfl];walk_at "w";refine⟨w.toNat,rl h.toNat w.toNat s l f,rfl,g,?_⟩;walk_at "w";exact q
noncomputable def Rl.mu:Rl->Int
 | .sum=>2 | _=>1
noncomputable def Rl.sh (R:Rl)(q:Int):Int:=match R with
 | .half=>q / 2 | .lean=>q / 2 | _=>0
structure Lin (R:Rl) (L:Int->Prop):Prop where
 z:L 0
 d:∀ q,L q->L (2 * q)
 m:∀ q,L q->L (R.mu * q)
def v7 (M:Hv Bool)(R:Rl)(L:Int->Prop):Prop:=∀ (ns:Li0) (a:List Bool) (p q:Int),L q->ns.length=a.length->2<=ns.length->(∀ j,j < ns.length->a.getD j M.z=true->ns.getD j 0=p + q * (j:Int))->
 (∀ j,j < (ns.length + 1) / 2->(M.s R a).getD j M.z=true->(R.sums ns).getD j 0=R.mu * p + R.sh q + 2 * q * (j:Int))/\∀ j,j < ns.length / 2->(M.d R a).getD j M.z=true->(R.dif ns).getD j 0=0
theorem rL{xs:List Bool}{k:Int}(h:hsB xs k=true):0<=k/\k < xs.length/\xs.getD k.toNat false=true:=by
 unfold hsB at h;simp only[ng,decide_eq_true_eq] at h;exact⟨h.1.1,h.1.2,h.2⟩
theorem zH{F:Li0}{k:Int}(b:0<=k)(a:k < F.length):nrF F k=F.getD k.toNat 0:=by
 unfold nrF;rw[show fmin (fmax k 0) ((F.length:Int) - 1)=k by unfold fmin fmax;split <;> split <;> lia]
theorem xF{f:Nat->Bool}(h:j < k)(e:(rb f k).getD j false=true):f j=true:=by
 rw[show (rb f k).getD j false=f j from Hh h] at e;exact e
theorem H8{q:Int}:q * ((2 * j:Nat):Int)=2 * (q * (j:Int)):=by rw[Ux];grind
theorem HZ{q:Int}:q * ((2 * j + 1:Nat):Int)=2 * (q * (j:Int)) + q:=by rw[Yg,Ux];grind
theorem Oj{q:Int}:q * ((2 * j + 2:Nat):Int)=2 * (q * (j:Int)) + 2 * q:=by rw[Yg,Ux];grind
theorem uU{a:Li0}(h:j < (a.length + 1) / 2):(fsF a).getD j 0=a.getD (2 * j) 0:=bO _ h
theorem DI{a:Li0}{c:List Bool}{p q:Int}(n:a.length=c.length)(H:∀ j,j < a.length->c.getD j false=true->a.getD j 0=p + q * (j:Int))(d:j < a.length / 2)(e:(gdF c).getD j false=true):(gu (fsF a) a).getD j 0=0:=by
 have e:=xF (by lia) e;simp only[ng] at e;obtain⟨g,f,b⟩:=e;obtain⟨_,m,b⟩:=rL b;rw[show (2 * (j:Int) + 2).toNat=2 * j + 2 by lia] at b;have k:=H (2 * j) (by lia) g;have i:=H (2 * j + 1) (by lia) f;have h:=H (2 * j + 2) (by lia) b;have l:(fsF a).length=(a.length + 1) / 2:=mD a;rw[show (gu (fsF a) a).getD j 0=_ from bO _ d,zH (by lia) (by lia),show ((j:Int) + 1).toNat=j + 1 by lia,uU (by lia),uU (by lia),show 2 * (j + 1)=2 * j + 2 by lia,k,i,h,H8,HZ,Oj];lia
theorem Fj:v7 mH .guess λ_=>True:=λa g p q _ c l H=>by
 refine⟨λj b e=>?_,λj b e=>DI c H b e⟩;have e:=xF (by lia) e;simp only[ng] at e;obtain⟨h,f,d⟩:=e;obtain⟨z2,k,f⟩:=rL f;obtain⟨z3,i,d⟩:=rL d;have gl:=Iw g;have dl:(gu (fsF a) a).length=a.length / 2:=bu _ _;rw[show (Rl.guess.sums a).getD j 0=_ from bO _ b];unfold cT;rw[zH z2 (by lia),zH z3 (by lia),DI c H (by lia) f,DI c H (by lia) d,uU b,H (2 * j) (by lia) h,H8];show _=1 * p + 0 + 2 * q * (j:Int)
 grind
theorem Hq{a:Li0}{b:List Bool}{p q:Int}(i:a.length=b.length)(H:∀ j,j < a.length->b.getD j false=true->a.getD j 0=p + q * (j:Int))(e:(psF b).getD j false=true) :
  j < a.length / 2/\a.getD (2 * j) 0=p + 2 * (q * (j:Int))/\a.getD (2 * j + 1) 0=p + (2 * (q * (j:Int)) + q):=by
 have g:=AF b;have lt:j < a.length / 2:=by
  refine Nat.lt_of_not_le λh=>?_;unfold psF at e;rw[lj,mm (by lia),tx] at e;split at e <;> cases e
 have c:(prF b).getD j false=true:=by
  unfold psF at e;rw[lj,iv (by lia)] at e;exact e
 have c:=xF (by lia) c;simp only[ng] at c;have f:=H (2 * j) (by lia) c.1;have d:=H (2 * j + 1) (by lia) c.2;rw[H8] at f;rw[HZ] at d;exact⟨lt,f,d⟩
theorem C6{a:Li0}{b:List Bool}{p q:Int}(c:a.length=b.length)(H:∀ j,j < a.length->b.getD j false=true->a.getD j 0=p + q * (j:Int))(e:(psF b).getD j false=true):(bM Rl.lean.pair Rl.lean.h_ a).getD j 0=p + q / 2 + 2 * (q * (j:Int)):=by
 obtain⟨lt,f,d⟩:=Hq c H e;rw[xg lt,f,d];show (_ + _) / 2=_;lia
theorem G_:v7 mH .lean λ_=>True:=λa h p q _ b u H=>by
 refine⟨λj d e=>?_,λj d e=>?_⟩
 .rw[show (Rl.lean.sums a).getD j 0=_ from C6 b H e];show _=1 * p + q / 2 + 2 * q * (j:Int)
  grind
 .have e:=xF (by lia) e;simp only[ng] at e;obtain⟨g,c,f⟩:=e;obtain⟨z1,t,g⟩:=rL g;obtain⟨z2,s,c⟩:=rL c;obtain⟨z3,r,f⟩:=rL f;have o:=Ho h;have n:(bM Rl.lean.pair Rl.lean.h_ a).length=(a.length + 1) / 2:=pW _;rw[ey] at c;obtain⟨_,m,l⟩:=Hq b H c;have k:=C6 b H g;have i:=C6 b H f;rw[show (Rl.lean.dif a).getD j 0=_ from bO _ d,yg d,m,l];unfold fv;rw[zH z1 (by lia),zH z3 (by lia),k,i,FS z1,FS z3,show q * ((j:Int) - 1)=q * (j:Int) - q by grind,show q * ((j:Int) + 1)=q * (j:Int) + q by grind];lia
noncomputable def fM:Hv Bool:=⟨.bl,false,λ_ a=>hP ((a.length + 1) / 2) (a.all id),λ_ a=>hP (a.length / 2) (a.all id),λ_ a=>by simp,λ_ a=>by simp,λR=>.str R.word,λ_=>True⟩
theorem Ec{b:Bool}(e:(hP n b).getD j false=true):b=true:=by
 rw[lj,tx] at e;split at e
 .exact e
 .cases e
theorem Ha(R:Rl):v7 fM R λq=>q=0:=λa h p q s w y H=>by
 subst s;have all:h.all id=true->∀ j,j < a.length->a.getD j 0=p:=λe j b=>by
  have:=H j b (by have:=XU.mp e (h[j]'(by lia)) (Jt _);simpa [rp,show j < h.length by lia] using this);lia
 have r:∀ j,j < (a.length + 1) / 2->h.all id=true->(fsF a).getD j 0=p:=λj b e=>by rw[uU b,all e _ (by lia)]
 have m:∀ (f:Int->Int->Int) (g:Int->Int) (c:Int) (j:Nat),f p p=c->g p=c->h.all id=true->j < (a.length + 1) / 2->(bM f g a).getD j 0=c:=λf g c j u t e b=>by
  by_cases lt:j < a.length / 2
  .rw[xg lt,all e _ (by lia),all e _ (by lia),u]
  .obtain rfl:j=a.length / 2:=by lia
   rw[zq (by lia),all e _ (by lia),t]
 have o:∀ j,j < a.length / 2->h.all id=true->(eQ a).getD j 0=0:=λj b e=>by rw[yg b,all e _ (by lia),all e _ (by lia)];lia
 have i:∀ (F:Li0) (c k:Int),1<=F.length->(∀ j,j < F.length->F.getD j 0=c)->nrF F k=c:=λF c k l e=>by
  unfold nrF;exact e _ (by unfold fmin fmax;split <;> split <;> lia)
 have dg:h.all id=true->∀ j,j < a.length / 2->(gu (fsF a) a).getD j 0=0:=λe j b=>by
  have l:=mD a;rw[show (gu (fsF a) a).getD j 0=_ from bO _ b,all e _ (by lia),r j (by lia) e,i (fsF a) p _ (by lia) λj b=>r j (by lia) e];lia
 refine⟨λj b e=>?_,λj b e=>?_⟩
 .have d:h.all id=true:=Ec (n:=(h.length + 1) / 2) (j:=j) e;rw[show R.mu * p + R.sh 0 + 2 * 0 * (j:Int)=R.mu * p by cases R <;> simp [Rl.sh]];cases R with
  | sum=>exact m _ _ _ j (by show p + p=2 * p;lia) rfl d b
  | half=>exact m _ _ _ j (by show (p + p) / 2=1 * p;lia) (by show p=1 * p;lia) d b
  | lean=>exact m _ _ _ j (by show (p + p) / 2=1 * p;lia) (by show p=1 * p;lia) d b
  | guess=>
   have dl:(gu (fsF a) a).length=a.length / 2:=bu _ _;rw[show (Rl.guess.sums a).getD j 0=_ from bO _ b,r j b d];unfold cT;rw[i _ 0 _ (by lia) λj b=>dg d j (by lia),i _ 0 _ (by lia) λj b=>dg d j (by lia)];show p + 2 / 4=1 * p;lia
 .have d:h.all id=true:=Ec (n:=h.length / 2) (j:=j) e;cases R with
  | sum=>exact o j b d
  | half=>exact o j b d
  | guess=>exact dg d j b
  | lean=>
   have v:(bM Rl.lean.pair Rl.lean.h_ a).length=(a.length + 1) / 2:=pW _;have c:=λk (x:k < (bM Rl.lean.pair Rl.lean.h_ a).length)=>m Rl.lean.pair Rl.lean.h_ p k (by show (p + p) / 2=p;lia) rfl d (by lia);rw[show (Rl.lean.dif a).getD j 0=_ from bO _ b,o j b d];unfold fv;rw[i _ p _ (by lia) c,i _ p _ (by lia) c];lia
theorem JE{a:Type}{z:a}{r:List a}{m:Nat}(b:j < m):(r.take m).getD j z=r.getD j z:=by
 rw[lj,Uu b];rfl
theorem zL{M:Hv Bool}{R:Rl}{L:Int->Prop}(K:v7 M R L){H W h m:Nat}{N:LL0}{S:List (List Bool)}(s:Sz H W N)(t:Sz H W S)(i:m<=W)(o:2<=m){p q:Nat->Int}(n:∀ y,L (q y)){F:Nat->Nat->Int}(k:∀ y x,y < H->x < W->en M.z S y x=true->en 0 N y x=F y x)(e:∀ y x,y < h->x < m->F y x=p y + q y * (x:Int)) :
  ∀ y x,y < H->x < W->en M.z (aX M R S h m) y x=true->en 0 (aX (nH a) R N h m) y x=if y < h/\x < m then (if x < (m + 1) / 2 then R.mu * p y + R.sh (q y) + 2 * q y * (x:Int) else 0) else F y x:=by
 intro y x d l;have E:en 0 (aX (nH a) R N h m) y x=_:=jI (Y:=nH a) s i d;rw[E,jI t i d];by_cases c:y < h/\x < m
 .rw[if_pos c,if_pos c,if_pos c];obtain⟨_,u⟩:=s.row d;obtain⟨_,r⟩:=t.row d;have lt:((N.getD y []).take m).length=m:=by rw[kv];lia
  obtain⟨g,f⟩:=K ((N.getD y []).take m) ((S.getD y []).take m) (p y) (q y) (n y) (by rw[lt,kv];lia) (by lia) λj v z=>by
   rw[JE (by lia)] at z ⊢;rw[<- e y j c.1 (by lia)];exact k y j d (by lia) z
  rw[lt] at g f;by_cases b:x < (m + 1) / 2
  .rw[if_pos b,if_pos b,if_pos b];exact g x b
  .rw[if_neg b,if_neg b,if_neg b];exact f _ (by lia)
 .rw[if_neg c,if_neg c,if_neg c];exact k y x d l
noncomputable def aff (h w:Nat)(A B C:Int)(y x:Nat):Int:=if y < h/\x < w then A + B * (x:Int) + C * (y:Int) else 0
def Bn (M:Hv Bool)(H W h w:Nat)(A B C:Int)(N:LL0)(S:List (List Bool)):Prop:=∀ y x,y < H->x < W->en M.z S y x=true->en 0 N y x=aff h w A B C y x
theorem uZ{M:Hv Bool}{H W h w:Nat}{A B C:Int}{N:LL0}{S:List (List Bool)}(s:Sz H W N)(t:Sz H W S)(E:Bn M H W h w A B C N S):Bn M W H w h A C B (bW 0 W N) (bW M.z W S):=λx y b a z=>by
 rw[i7 t b a] at z;rw[i7 s b a,E y x a b z];unfold aff;simp only[And.comm];split
 .lia
 .rfl
theorem xA{M:Hv Bool}{R:Rl}{L:Int->Prop}(K:v7 M R L){H W h w:Nat}{A B C:Int}{N:LL0}{S:List (List Bool)}(s:Sz H W N)(t:Sz H W S)(k:w<=W)(d:2<=w)(e:L B)(E:Bn M H W h w A B C N S) :
  Bn M H W h ((w + 1) / 2) (R.mu * A + R.sh B) (2 * B) (R.mu * C) (aX (nH a) R N h w) (aX M R S h w):=λy x i j z=>by
 have:=zL (a:=a) K s t k d (p:=λy=>A + C * (y:Int)) (q:=λ_=>B) (λ_=>e) E (λy x g f=>by unfold aff;rw[if_pos ⟨g,f⟩];lia) y x i j z;rw[this];unfold aff;by_cases c:y < h/\x < w
 .rw[if_pos c];by_cases b:x < (w + 1) / 2
  .rw[if_pos b,if_pos ⟨c.1,b⟩];grind
  .rw[if_neg b,if_neg (λz=>b z.2)]
 .rw[if_neg c,if_neg c,if_neg (λz=>c ⟨z.1,by lia⟩)]
theorem Fe{M:Hv Bool}{R:Rl}{L:Int->Prop}(K:v7 M R L)(U:Lin R L){H W h w:Nat}{l:Lt}{A B C:Int}{N:LL0}{S:List (List Bool)}(s:Sz H W N)(t:Sz H W S)(d:h<=H)(m:w<=W)(n:Can l h w)(g:L B)(f:L C)(E:Bn M H W h w A B C N S) :
  ∃ A B C,L B/\L C/\Bn M H W (nhN l h) (nwN l w) A B C (mR (nH a) R H W l h w N) (mR M R H W l h w S):=by
 have D:=bL (z:=0) s;have o:=bL (z:=M.z) t;cases l with
 | r=>exact⟨_,_,_,U.d _ g,U.m _ f,xA K s t m (by have:=n.1 (by decide);lia) g E⟩
 | p=>exact⟨_,_,_,U.m _ g,U.d _ f,uZ (aW D d) (aW o d) (xA K D o d (by have:=n.2 (by decide);lia) f (uZ s t E))⟩
 | b=>
  have Q:=n.1 (by decide);have V:=n.2 (by decide);have I:=aW (Y:=nH a) (R:=R) (h:=h) s m;have v:=aW (Y:=M) (R:=R) (h:=h) t m;have G:=bL (z:=0) I;have u:=bL (z:=M.z) v;have P:=xA (a:=a) K s t m (by lia) g E;have X:=zL (a:=a) K (h:=w) G u d (by lia) (p:=λx=>if x < (w + 1) / 2 then R.mu * A + R.sh B + 2 * B * (x:Int) else 0) (q:=λx=>if x < (w + 1) / 2 then R.mu * C else 0) (λx=>by split <;> first | exact U.m _ f | exact U.z)
   (F:=λx y=>aff h ((w + 1) / 2) (R.mu * A + R.sh B) (2 * B) (R.mu * C) y x) (λx y j i z=>by rw[i7 v j i] at z;rw[i7 I j i];exact P y x i j z) λx y T J=>by
    unfold aff;by_cases c:x < (w + 1) / 2
    .rw[if_pos ⟨J,c⟩,if_pos c,if_pos c]
    .rw[if_neg (λz=>c z.2),if_neg c,if_neg c];lia
  have O:Bn M W H ((w + 1) / 2) ((h + 1) / 2) (R.mu * (R.mu * A + R.sh B) + R.sh (R.mu * C)) (2 * (R.mu * C)) (R.mu * (2 * B)) (aX (nH a) R (bW 0 W (aX (nH a) R N h w)) w h) (aX M R (bW M.z W (aX M R S h w)) w h):=λx y j i z=>by
   rw[X x y j i z];unfold aff;by_cases c:x < w/\y < h
   .rw[if_pos c];by_cases k:y < (h + 1) / 2
    .by_cases e:x < (w + 1) / 2
     .rw[if_pos k,if_pos e,if_pos e,if_pos ⟨e,k⟩];grind
     .rw[if_pos k,if_neg e,if_neg e,if_neg (λz=>e z.1)];cases R <;> simp [Rl.sh]
    .rw[if_neg k,if_neg (λz=>k z.2)]
   .rw[if_neg c,if_neg (λz=>c ⟨by lia,z.1⟩),if_neg (λz=>c ⟨by lia,by lia⟩)]
  exact⟨_,_,_,U.m _ (U.d _ g),U.d _ (U.m _ f),uZ (aW G d) (aW u d) O⟩
theorem xi {M:Hv Bool}{R:Rl}{L:Int->Prop}(K:v7 M R L)(U:Lin R L){h w:Int}{ls:List Lt}{A B C:Int}{N:LL0}{S:List (List Bool)}(p:Pl h w ls)(s:Sz h.toNat w.toNat N)(t:Sz h.toNat w.toNat S)(g:L B)(f:L C)(E:Bn M h.toNat w.toNat h.toNat w.toNat A B C N S) :
  ∀ k,k<=ls.length->∃ A B C,L B/\L C/\Bn M h.toNat w.toNat (cN h w ls k).1 (cN h w ls k).2 A B C (stK (nH a) R h w ls N k) (stK M R h w ls S k)
 | 0,_=>⟨A,B,C,g,f,by
  have e:cN h w ls 0=(h.toNat,w.toNat):=by unfold cN;rw[t6]
  rw[e];exact E⟩
 | k + 1,j=>by
  obtain⟨u,r,q,d,c,o⟩:=xi K U p s t g f E k (by lia);obtain⟨l,b⟩:∃ l,ls[k]?=some l:=⟨_,gE0 j⟩;obtain⟨e,n,m,_,_⟩:=p.cn (k:=k) (by lia);have i:=p9 p.good b;rw[e] at i;rw[zt b,zt b,p.cs b];exact Fe K U (l_ p s (by lia)) (l_ p t (by lia)) n m i d c o
theorem Ey{R:Rl}:Lin R λ_=>True:=⟨trivial,λ_ _=>trivial,λ_ _=>trivial⟩
theorem Rr{R:Rl}:Lin R λq=>q=0:=⟨rfl,λ_ h=>by lia,λ_ h=>by rw[h,Int.mul_zero]⟩
theorem IB{R:Rl}{h w:Int}{ls:List Lt}(p:Pl h w ls):∀ k,k<=ls.length->∀ y x,y < h.toNat->x < w.toNat->en false (stK fM R h w ls (ip h w) k) y x=true:=by
 have a:∀ {H W h m:Nat} {S:List (List Bool)},Sz H W S->m<=W->(∀ y x,y < H->x < W->en false S y x=true)->∀ y x,y < H->x < W->en false (aX fM R S h m) y x=true:=λ{H W h m S} t o E y x c d=>by
  have Z:en false (aX fM R S h m) y x=_:=jI (Y:=fM) t o c;obtain⟨_,l⟩:=t.row c;have z:((S.getD y []).take m).all id=true:=XU.mpr λb v=>by
   obtain⟨j,u,rfl⟩:=FB v;rw[kv] at u;have n:j < (S.getD y []).length:=by lia
   rw[XG];exact(nS ((gE0 n).symm.trans (qw false n))).trans (E y j c (by lia))
  have lt:((S.getD y []).take m).length=m:=by rw[kv];lia
  rw[Z];show (if y < h/\x < m then (if x < (m + 1) / 2 then (hP ((((S.getD y []).take m).length + 1) / 2) (((S.getD y []).take m).all id)).getD x false else (hP (((S.getD y []).take m).length / 2) (((S.getD y []).take m).all id)).getD (x - (m + 1) / 2) false) else en false S y x)=true;rw[z,lt];split
  .split
   .rw[lj,tx,if_pos (by lia)];rfl
   .rw[lj,tx,if_pos (by lia)];rfl
  .exact E y x c d
 have g:∀ {H W:Nat} {S:List (List Bool)},Sz H W S->(∀ y x,y < H->x < W->en false S y x=true)->∀ y x,y < W->x < H->en false (bW false W S) y x=true:=λt E y x c d=>by rw[i7 t c d];exact E x y d c
 intro k
 induction k with
 | zero=>exact λ_ y x c d=>by show ((ip h w).getD y []).getD x false=true;unfold ip;simp [rp,c,d]
 | succ k e=>
  intro s;have e:=e (by lia);obtain⟨l,q⟩:∃ l,ls[k]?=some l:=⟨_,gE0 s⟩;obtain⟨_,i,f,_,_⟩:=p.cn (k:=k) (by lia);have t:=l_ (Y:=fM) (R:=R) p (vc h w) (k:=k) (by lia);rw[zt q];cases l with
  | r=>exact a t f e
  | p=>exact g (aW (bL t) i) (a (bL t) i (g t e))
  | b=>exact g (aW (bL (aW t f)) i) (a (bL (aW t f)) i (g (aW t f) (a t f e)))
def Ph:S3:=λΓ Q=>∃ (ns:Li0) (k:Int),Γ=[some (.fz (.scr ns)),some (.fz (.int k))]/\0<=k/\∀ r,Q (.fz (.int r)) Γ
theorem AV(T:Txt w K mg a):aC P w K mg base CX0 1 a.vQ a.tP ["_law_script","_law_k"] (sp3 K 2 Ph):=by
 refine ok3 T.jX.F Av (hbody:=λe A b s H E g=>⟨_,_,(ah (br (aT CC (bv 1) (P3.opd (aw (bR (by rfl)) (by rfl) T.z_len (by decide +kernel) (aa (bv 0) ab))) (bw _)) (ai (ar (aR (by rfl) (bv 0) (bv 1) (λ_ _=>rfl)))) aQ)
   (ai (ar (aJ (P3.opd (dX (P3.opd ag) (bv 1))) (P3.opd ag))))),λc Q h i=>?_⟩)
 obtain⟨f,k,rfl,d,q⟩:=h;walk_at "w";refine pO (λh=>?_) (λh=>?_)
 .walk_at "w";exact⟨_,LD d (of_decide_eq_true h),q _⟩
 .walk_at "w";exact⟨.inl ⟨by decide,by decide⟩,q _⟩
def Box (c:Int)(d:D):Prop:=∃ x m k:Int,d=.lst [.int x,.int m,.int k]/\0<=x/\0<=m/\m < 2147483647/\0<=k/\k<=c
def SA:S3:=λΓ Q=>∃ (x:Int),Γ=[some (.fz (.int x))]/\∀ d,Box 0 d->Q (.fr d) Γ
theorem B2(T:Txt w K mg a):aC P w K mg base CX0 1 a.yA a.vD ["_law_cell_here"] (sp3 K 1 SA):=by
 refine ok3 T.l6.F BA (hbody:=λd A b s H E e=>⟨_,_,(ai (ar (bQ (ae (aw (Jk rfl) (by rfl) T.z_max (by decide +kernel) (aa (P3.opd ag) (aa (P3.opd (bK (bv 0) (P3.opd (N1 (v:=1000000000000000000) (by decide +kernel) ⟨by decide,by decide,by decide⟩)))) ab))) (ae (xN (bv 0) (P3.opd ag)) (ae ag aq)))))),λc Q h f=>?_⟩);obtain⟨x,rfl,q⟩:=h;walk_at "w";exact⟨by decide,by rw[gp];lia,q _ ⟨_,_,_,rfl,by unfold fmax;split <;> lia,Vn _ (by decide),UD _ (by decide),by decide,by decide⟩⟩
def M6:S3:=λΓ Q=>∃ (d:D) (c n:Int),Γ=[some (.ln d),some (.fz (.int n))]/\Box c d/\c<=1000000/\0 < n/\n<=1000000000/\∀ r d',0<=r->r < n->Box (c + 1) d'->Q (.fz (.int r)) [some (.ln d'),some (.fz (.int n))]
theorem aU(T:Txt w K mg a):aC P w K mg base CX0 1 a.vN a.tM ["_law_box_here","_law_many"] (sp3 K 2 M6):=by
 refine ok3 T.ao.F iV (hbody:=λv A f s H E z=>⟨_,_,(ah (br (aT CD (P3.opd (aR (by rfl) (bv 0) (P3.opd ag) (λ_ _=>rfl))) (P3.opd ag) (bw _)) (ah (aH (i:=2) iV.nd rfl (gs rfl) (xN (P3.opd (aR (by rfl) (bv 0) (P3.opd ag) (λ_ _=>rfl))) (bv 1)))
   (ah (BD 0 (bv 0) (P3.opd ag) (cg (P3.opd (aR (by rfl) (bv 0) (P3.opd ag) (λ_ _=>rfl))) (bv 1)))
   (ai (ar (rB 2))))) aQ)
   (ah (BD 0 (bv 0) (P3.opd ag) (aJ (P3.opd (aR (by rfl) (bv 0) (P3.opd ag) (λ_ _=>rfl))) (P3.opd ag)))
   (ah (aH (i:=3) iV.nd rfl (gs rfl) (xN (P3.opd (Ej (P3.opd (aJ (P3.opd (aJ (P3.opd (aR (by rfl) (bv 0) (P3.opd ag) (λ_ _=>rfl))) (P3.opd (dX (P3.opd ag) (P3.opd (aR (by rfl) (bv 0) (P3.opd ag) (λ_ _=>rfl))))))) (P3.opd ag))) (P3.opd ag))) (P3.opd ag)))
   (ah (aH (i:=3) iV.nd rfl (gs rfl) (xN (P3.opd (Ej (P3.opd (aJ (bv 3) (P3.opd (dX (P3.opd ag) (P3.opd (aR (by rfl) (bv 0) (P3.opd ag) (λ_ _=>rfl))))))) (P3.opd ag))) (P3.opd ag)))
   (ai (ar (xN (P3.opd (cg (bv 3) (P3.opd ag))) (bv 1)))))))),λp Q h B=>?_⟩)
 obtain⟨_,c,n,rfl,⟨x,m,k,rfl,l,o,d,u,t⟩,C,b,r,q⟩:=h;walk_at "w";refine pO (λe=>?_) (λe=>?_)
 .walk_at "w";exact⟨b,⟨b,by lia⟩,q _ _ (Vn _ (by lia)) (UD _ b) ⟨_,_,_,rfl,Int.ediv_nonneg l (by lia),o,d,u,by lia⟩⟩
 .walk_at "w";have g:(m + 7919 * (k + 1) + 17) ^ Vx 5 % 2147483647 < 2147483647:=UD _ (by decide);have j:0<=(m + 7919 * (k + 1) + 17) ^ Vx 5 % 2147483647:=Vn _ (by decide);generalize (m + 7919 * (k + 1) + 17) ^ Vx 5 % 2147483647=y at j g ⊢;exact⟨.inl ⟨by decide,by decide⟩,⟨by decide,by decide,by lia⟩,by decide,.inl ⟨by decide,by decide⟩,⟨by decide,by decide,by lia⟩,by decide,⟨by decide,by decide⟩,b,q _ _ (Vn _ (by lia)) (UD _ b) ⟨_,_,_,rfl,l,o,d,by lia,by lia⟩⟩
theorem pick{p:D->Prop}{xs:List D}{r:Int}{k:D->Prop}{t:Tag k}(f:0<=r)(e:r < (xs.length:Int))(a:∀ x∈xs,p x)(q:∀ v,p v->k v):m1 (atI xs r) k t:=by
 obtain⟨d,c,b⟩:=LH f e;exact bX.mpr ⟨d,c,q d (a d b)⟩
theorem Box.up{c a:Int}{d:D}(b:Box c d)(h:c<=a):Box a d:=by
 obtain⟨x,m,k,e,l,j,i,g,f⟩:=b;exact⟨x,m,k,e,l,j,i,g,XF f h⟩
def JN:S3:=λΓ Q=>∃ (d:D),Γ=[some (.ln d)]/\Box 0 d/\∀ h w d',nU h w->Box 10 d'->Q (.fz (pD h w)) [some (.ln d')]
theorem TQ{v:D}(h:v∈[D.tup [.int 64,.int 8],.tup [.int 8,.int 64],.tup [.int 1,.int 64],.tup [.int 64,.int 1],.tup [.int 22,.int 23]]):∃ h w,v=pD h w/\nU h w:=by
 simp only[hF,lp,or_false] at h;rcases h with rfl | rfl | rfl | rfl | rfl <;> exact⟨_,_,rfl,by decide,by decide,by decide,by decide,by decide⟩
theorem size_of{x y:Int}(d:0<=x)(c:x < 64)(b:0<=y)(a:y < fmin 64 (512 / (1 + x))):nU (1 + x) (1 + y):=by
 have e:fmin 64 (512 / (1 + x))<=64/\fmin 64 (512 / (1 + x))<=512 / (1 + x):=by unfold fmin;split <;> lia
 have g:(1 + x) * (1 + y)<=(1 + x) * (512 / (1 + x)):=Vh (by lia) (by lia);have f:(1 + x) * (512 / (1 + x))<=512:=Int.mul_ediv_self_le (by lia);exact⟨by lia,by lia,by lia,by lia,by lia⟩
theorem Qf{x y:Int}(d:0<=x)(c:x < 9)(b:0<=y)(a:y < 9):nU (1 + x) (1 + y):=by
 have e:(1 + x) * (1 + y)<=9 * 9:=Int.mul_le_mul (by lia) (by lia) (by lia) (by lia);exact⟨by lia,by lia,by lia,by lia,by lia⟩
theorem AU(T:Txt w K mg a):aC P w K mg base CX0 2 a.vO a.tN ["_law_box_here"] (sp3 K 1 JN):=by
 refine ok3 T.jW.F r9 (hbody:=λG A f s H E b=>⟨_,_,(ah (br (aT (gY (by rfl) b) (P3.opd (aj (by rfl) (aU T) b.dn (by rfl) T.ao.m T.ao.F.kp T.ao.b (aa (bv 0) (aa (P3.opd ag) ab)))) (P3.opd ag) (bw _)) (ai (ar (aR (by rfl) (P3.opd (bQ (ae (cp (ae ag (ae ag aq))) (ae (cp (ae ag (ae ag aq))) (ae (cp (ae ag (ae ag aq))) (ae (cp (ae ag (ae ag aq))) (ae (cp (ae ag (ae ag aq))) aq))))))) (P3.opd (aj (by rfl) (aU T) b.dn (by rfl) T.ao.m T.ao.F.kp T.ao.b (aa (bv 0) (aa (P3.opd ag) ab)))) (λ_ _=>rfl)))) aQ)
   (ah (br (aT (gY (by rfl) b) (P3.opd (aj (by rfl) (aU T) b.dn (by rfl) T.ao.m T.ao.F.kp T.ao.b (aa (bv 0) (aa (P3.opd ag) ab)))) (P3.opd ag) (bw _)) (ah (aH (i:=1) r9.nd rfl (gs rfl) (aJ (P3.opd ag) (P3.opd (aj (by rfl) (aU T) b.dn (by rfl) T.ao.m T.ao.F.kp T.ao.b (aa (bv 0) (aa (P3.opd ag) ab))))))
   (ai (ar (cp (ae (p3v 1) (ae (aJ (P3.opd ag) (P3.opd (aj (by rfl) (aU T) b.dn (by rfl) T.ao.m T.ao.F.kp T.ao.b (aa (bv 0) (aa (P3.opd (aw (Jj rfl) (by rfl) T.z_min (by decide +kernel) (aa (P3.opd ag) (aa (P3.opd (cg (P3.opd ag) (bv 1))) ab)))) ab))))) aq)))))) aQ)
   (ai (ar (cp (ae (aJ (P3.opd ag) (P3.opd (aj (by rfl) (aU T) b.dn (by rfl) T.ao.m T.ao.F.kp T.ao.b (aa (bv 0) (aa (P3.opd ag) ab))))) (ae (aJ (P3.opd ag) (P3.opd (aj (by rfl) (aU T) b.dn (by rfl) T.ao.m T.ao.F.kp T.ao.b (aa (bv 0) (aa (P3.opd ag) ab))))) aq))))))),λu Q h M=>?_⟩)
 obtain⟨d,rfl,B,q⟩:=h;walk_at "w";refine⟨_,_,4,rfl,B,by decide,by decide,by decide,λJ N L I t=>?_⟩;walk_at "w";refine pO (λh=>?_) (λh=>?_)
 .simp -dsimp -implicitDefEqProofs only[↓My,↓GP,↓MC,↓MA,↓Ir,↓Mv,↓h_c,↓Mz,RV.d,ro,Tw,YT,YF,↓ET,↓EG,↓MB,Gat,↓Iq,sS,YO,b_,cb,IR,lp,not_false_eq_true,Yu,fK,zk,lR,bh,newD,jk,YG,hP,Vd,Vj,List.mapIdx_cons,if_pos,SG,XR,reduceCtorEq,if_false,SF,List.mapIdx_nil,RV.sl,UC,List.set_cons_zero,List.getElem?_cons_succ,List.getElem?_cons_zero,Option.some.injEq,exists_eq',Bo.at,Eu,↓Mm,true_and];refine⟨z2,z2,z2,z2,z2,z5,_,_,5,rfl,t,by decide,by decide,by decide,λz F r n b2=>?_⟩;walk_at "w";refine pick r n (λv k=>TQ k) (λv k=>?_);obtain⟨h,w,rfl,x⟩:=k;walk_at "w";exact q _ _ _ x (b2.up (by decide))
 .walk_at "w";refine⟨_,_,12,rfl,t,by decide,by decide,by decide,λz F r n b2=>?_⟩;walk_at "w";refine pO (λh=>?_) (λh=>?_)
  .walk_at "w";refine⟨_,_,64,rfl,b2,by decide,by decide,by decide,λo D j e m=>?_⟩;walk_at "w";have p:1<=512 / (1 + o):=Int.le_ediv_of_mul_le (by lia) (by lia);refine⟨⟨by lia,by lia⟩,_,_,_,rfl,m,by decide,by unfold fmin;split <;> lia,by unfold fmin;split <;> lia,λy C g c l=>?_⟩;walk_at "w";exact⟨z2,q _ _ _ (size_of j e g c) (l.up (by decide))⟩
  .walk_at "w";refine⟨_,_,9,rfl,b2,by decide,by decide,by decide,λo D j e m=>?_⟩;walk_at "w";refine⟨_,_,9,rfl,m,by decide,by decide,by decide,λy C g c l=>?_⟩;walk_at "w";exact⟨z2,q _ _ _ (Qf j e g c) (l.up (by decide))⟩
theorem JA{ls:List Lt}{i:Int}{l:Lt}{k:Lt->Prop}{t:Tag k}(z:(wy ls).length<=sizeLine)(h:atI ls i=some l)(q:k l):MZ ls i k t:=⟨z,l,h,q⟩
theorem QC{ls:List Lt}{r:Int}{k:Lt->Prop}{t:Tag k}(a:0<=r)(b:r < (ls.length:Int))(z:ls.length<=sizeLine)(q:∀ l,k l):MZ ls r k t:=by
 exact JA (l:=ls[r.toNat]) (by rw[jh];exact z) (cG a (gE0 (by lia))) (q _)
theorem Al(ls:List Lt)(l:Lt):wy ls++l.s=wy (ls++[l]):=by
 show (⟨(wy ls).cps++l.s.cps⟩:Str)=_;unfold wy
 congr 1
 rw[ih];cases l <;> simp [Lt.s,sgn]
theorem zO:∀ {ls:List Lt} {h w:Int} {l:Lt},Good h w ls->Can l (cat h w ls ls.length).1 (cat h w ls ls.length).2->Good h w (ls++[l])/\cat h w (ls++[l]) (ls++[l]).length=(nh l (cat h w ls ls.length).1,nw l (cat h w ls ls.length).2)
 | [],h,w,l,_,c=>⟨⟨c,trivial⟩,rfl⟩
 | m::ls,h,w,l,g,c=>by
  obtain⟨a,i2⟩:=zO (ls:=ls) (h:=nh m h) (w:=nw m w) (l:=l) g.2 c;exact⟨⟨g.1,a⟩,i2⟩
def PY:S3:=λΓ Q=>∃ (d:D) (a h w:Int),Γ=[some (.ln d),some (.fz (pD h w))]/\nU h w/\Box a d/\a<=1000/\∀ ls d',Pl h w ls->Box (a + 11) d'->Q (.fz (.str (wy ls))) [some (.ln d'),some (.fz (pD h w))]
theorem B1(T:Txt w K mg a):aC P w K mg base CX0 2 a.yz a.vC ["_law_box_here","_law_size_here"] (sp3 K 2 PY):=by
 refine ok3 T.l5.F cv (hbody:=λO A z s H E m=>⟨_,_,(ah (eI (is:=[2,3]) (by rfl) (p3v 1) (av (ax (i:=2) cv.nd rfl (gs rfl)) (av (ax (i:=3) cv.nd rfl (gs rfl)) bA)) rfl)
   (ah (aH (i:=4) cv.nd rfl (gs rfl) b8)
   (ah (gM tr rfl (bB (by rfl) T.z_range (ae (aj (by rfl) (aU T) m.dn (by rfl) T.ao.m T.ao.F.kp T.ao.b (aa (bv 0) (aa (P3.opd ag) ab))) aq)) (aK (i:=5) cv.nd rfl (gs rfl))
   (ah (aH (i:=6) cv.nd rfl (gs rfl) (aR (by rfl) (P3.opd b8) (P3.opd (aj (by rfl) (aU T) m.dn (by rfl) T.ao.m T.ao.F.kp T.ao.b (aa (bv 0) (aa (P3.opd ag) ab)))) (λ_ _=>rfl)))
   (ai (br (P3W.pt (AK (P3W.pt (kP (aT (gY (by rfl) m) (bv 6) (P3.opd b8) (bw _)) (hU (aT CD (bv 3) (P3.opd ag) (bw _))))) (xM (P3W.pt (kP (aT (gY (by rfl) m) (bv 6) (P3.opd b8) (bw _)) (hU (aT CD (bv 2) (P3.opd ag) (bw _)))))))) (ah (aH (i:=4) cv.nd rfl (gs rfl) (aJ (bv 4) (bv 6)))
   (ah (aH (i:=3) cv.nd rfl (gs rfl) (aR (by rfl) (P3.opd (bQ (ae (cg (P3.opd (aJ (bv 3) (P3.opd ag))) (P3.opd ag)) (ae (p3v 3) aq)))) (P3.opd (fF EV (by rfl) T.z_int (by decide +kernel) (aa (P3.opd (jx (gY (by rfl) m) (bv 6) (P3.opd b8) (bw _))) ab))) (λ_ _=>rfl)))
   (ai (aH (i:=2) cv.nd rfl (gs rfl) (aR (by rfl) (P3.opd (bQ (ae (cg (P3.opd (aJ (bv 2) (P3.opd ag))) (P3.opd ag)) (ae (p3v 2) aq)))) (P3.opd (fF EV (by rfl) T.z_int (by decide +kernel) (aa (P3.opd (jx (gY (by rfl) m) (bv 6) (P3.opd b8) (bw _))) ab))) (λ_ _=>rfl)))))) aQ))))
   (ai (ar (rB 4)))))),λG Q h Z=>?_⟩)
 obtain⟨d,R,h,w,rfl,v,o,M,q⟩:=h;walk_at "w";refine⟨_,_,11,rfl,o,by lia,by decide,by decide,λX N Y U S=>?_⟩;walk_at "w";refine⟨by lia,by lia,cA (λk u=>∃ b d y x,b.length<=k/\Good h w b/\Box (R + 1 + k) d/\u=[some (.ln d),some (.fz (pD h w)),some (.fz (.int (cat h w b b.length).1)),some (.fz (.int (cat h w b b.length).2)),some (.fz (.str (wy b))),fo y,fo x]) ⟨[],N,none,none,ec _,trivial,S.up (by lia),rfl⟩ ?_ ?_⟩
 .rintro k d u L ⟨b,d,y,x,D,g,o,rfl⟩;obtain⟨lk,rfl⟩:=bN L;obtain⟨C,B,_,_⟩:=kq (k:=b.length) g v.h1 v.w1 (ec _);have f:∀ l,Can l (cat h w b b.length).1 (cat h w b b.length).2->Good h w (b++[l])/\cat h w (b++[l]) (b++[l]).length=(nh l (cat h w b b.length).1,nw l (cat h w b b.length).2):=λl c=>zO g c;generalize t:cat h w b b.length=c at C B f ⊢;obtain⟨H,W⟩:=c;dsimp only at C B f ⊢;walk_at "w";refine⟨d,_,3,rfl,o,by lia,by decide,by decide,λV j J I b2=>?_⟩;walk_at "w";refine QC J I z3 (λl=>?_);cases l
  .walk_at "w";refine MT (λe=>?_) (λe=>?_)
   .have F:=of_decide_eq_true e;walk_at "w";obtain⟨p,r⟩:=f .r ⟨λ_=>by lia,λn=>absurd rfl n⟩;exact⟨by rw[jh,show Lt.r.s.length=1 by decide +kernel,gp];lia,⟨by decide,by decide⟩,z2,⟨by decide,by decide⟩,z2,b++[.r],j,some _,some _,by rw[el];simp only[ro,Tw];lia,p,b2.up (by lia),by rw[r,Al];rfl⟩
   .walk_at "w";exact⟨b,j,some _,some _,by lia,g,b2.up (by lia),by rw[t];rfl⟩
  .walk_at "w";refine pO (λe=>?_) (λe=>?_)
   .have F:=of_decide_eq_true e;walk_at "w";obtain⟨p,r⟩:=f .p ⟨λn=>absurd rfl n,λ_=>by lia⟩;exact⟨by rw[jh,show Lt.p.s.length=1 by decide +kernel,gp];lia,⟨by decide,by decide⟩,z2,⟨by decide,by decide⟩,z2,b++[.p],j,some _,some _,by rw[el];simp only[ro,Tw];lia,p,b2.up (by lia),by rw[r,Al];rfl⟩
   .walk_at "w";exact⟨b,j,some _,some _,by lia,g,b2.up (by lia),by rw[t];rfl⟩
  .walk_at "w";refine MT (λe=>?_) (λe=>?_)
   .have F:=of_decide_eq_true e;walk_at "w";refine pO (λe=>?_) (λe=>?_)
    .have e2:=of_decide_eq_true e;walk_at "w";obtain⟨p,r⟩:=f .b ⟨λ_=>by lia,λ_=>by lia⟩;exact⟨by rw[jh,show Lt.b.s.length=1 by decide +kernel,gp];lia,⟨by decide,by decide⟩,z2,⟨by decide,by decide⟩,z2,b++[.b],j,some _,some _,by rw[el];simp only[ro,Tw];lia,p,b2.up (by lia),by rw[r,Al];rfl⟩
    .walk_at "w";exact⟨b,j,some _,some _,by lia,g,b2.up (by lia),by rw[t];rfl⟩
   .walk_at "w";exact⟨b,j,some _,some _,by lia,g,b2.up (by lia),by rw[t];rfl⟩
 .rintro u ⟨b,d,y,x,D,g,o,rfl⟩;rw[aZ] at D o;walk_at "w";exact q _ _ ⟨v,g,by lia⟩ (o.up (by lia))
structure MK (base:Heap) (a:Ad):Prop where
 c:mQ base a.df qC
 h:mQ base a.eA qH
 i:mQ base a.gq qI
noncomputable def fnB (c:Int×Int)(d:D):Bool:=match d with
 | .tup [.int y,.int x]=>decide (c.1<=y) || decide (c.2<=x)
 | _=>false
def Pa (a:Ad):S3:=λΓ Q=>∃ (R:Rl) (h w:Int) (ls:List Lt) (ds:List D),Γ=[some (.fz (plD a R h w ls)),some (.fz (.lst ds))]/\ls.length<=10/\(∀ d∈ds,∃ y x:Nat,d=pD y x)/\ds.length<=126976/\Q (.fr (.lst (ds.filter (fnB (cat h w ls ls.length))))) Γ
theorem Gi{a:Type}{p:a->Bool}{ds:List a}{d:a}(b:ds[k]?=some d):(ds.take (k + 1)).filter p=if p d then (ds.take k).filter p++[d] else (ds.take k).filter p:=by
 rw[take_snoc b,To,Wc];split <;> simp
theorem ID{a:Type}{p:a->Bool}{ds:List a}(h:ds.length<=n):((ds.take k).filter p).length<=n:=by
 have:=Np p (ds.take k);rw[kv] at this;lia
theorem sH(T:Txt w K mg a):aC P w K mg base CX0 3 a.vP a.tO ["_law_plan","_law_places"] (sp3 K 2 (Pa a)):=by
 refine ok3 T.dJ.F mf (hbody:=λD A m s H E o=>⟨_,_,(ah (eI (is:=[2,3]) (by rfl) (aG (by rfl) (bv 0) T.aP T.gf (fZ T) o.dn T.eV.b (aa (P3.opd (aD (by rfl) (bv 0) T.aP T.dq (dk T) o.dn T.cZ.b)) ab)) (av (ax (i:=2) mf.nd rfl (Ny rfl)) (av (ax (i:=3) mf.nd rfl (Ny rfl)) bA)) rfl)
   (ai (ar (sA rfl (bI (by rfl) (p3v 1)) nD (λ_ _ _ _ _=>(aK (i:=0) nD.nd rfl (gs rfl))) (λ_ _ _ _ _=>(P3W.pt (kP (aT MR (P3.opd (aR (by rfl) (bv 0) (P3.opd ag) (λ_ _=>rfl))) (bv 1) (bw _)) (hU (aT MR (P3.opd (aR (by rfl) (bv 0) (P3.opd ag) (λ_ _=>rfl))) (bv 2) (bw _)))))) (λ_ _ _ _ _=>(p3v 0)))))),λv Q h F=>?_⟩)
 obtain⟨R,h,w,f,u,rfl,g,z,B,q⟩:=h;walk_at "w";refine⟨by decide +kernel,by decide +kernel,R,h,w,f,rfl,g,?_⟩;walk_at "w";refine⟨R,h,w,f,f.length,rfl,g,ec _,?_⟩;generalize cat h w f f.length=c at q ⊢;unfold cD;walk_at "w";refine gW (λk l b=>l=(u.take k).filter (fnB c)/\∃ s,b=[fo s,some (.fz (.int c.1)),some (.fz (.int c.2))]) ⟨rfl,none,rfl⟩ ?_ ?_
 .rintro k d l b r ⟨rfl,s,rfl⟩;obtain⟨y,x,rfl⟩:=z d (fC r);have C:=ID (p:=fnB c) (k:=k) B;have e:fnB c (pD y x)=(II (y:Int) c.1 || II (x:Int) c.2):=rfl;have j:=Gi (p:=fnB c) r;rw[e] at j;walk_at "w";cases n:II (y:Int) c.1
  .walk_at "w";cases t:II (x:Int) c.2
   .exact⟨by rw[j,n,t];rfl,some _,rfl⟩
   .exact⟨ma (by lia),by rw[j,n,t];rfl,some _,rfl⟩
  .walk_at "w";exact⟨ma (by lia),by rw[j,n];rfl,some _,rfl⟩
 .rintro l b ⟨rfl,s,rfl⟩;rw[Ub];have C:=Np (fnB c) u;walk_at "w";exact⟨ma (by lia),q⟩
theorem z_ {n:Nat}:∀ R:LL0,iF (n + 1) (R.map il) (R.map il)=some true
 | []=>rfl
 | r::R=>by
  have e:eqN (n + 1) (il r) (il r)=some true:=by rw[yD,decide_eq_true rfl]
  show (match eqN (n + 1) (il r) (il r),iF (n + 1) (R.map il) (R.map il) with
   | some a,some b=>some (a && b)
   | _,_=>none)=_
  rw[e,z_ R]
  rfl
theorem yC(R:LL0):eqN (n + 2) (rD R) (rD R)=some true:=z_ R
def HX (a:Ad):S3:=λΓ Q=>∃ (R:Rl) (ls:List Lt) (u:Nat) (G:LL0) (ds:List D),Γ=[some (.fz (plD a R G.length u ls)),some (.fz (fD a G)),some (.fz (.lst ds))]/\Pic a R u ls G/\ds.length<=126976/\(∀ d∈ds,∃ y x:Nat,y < G.length/\x < u/\d=pD y x/\(fnB (cat G.length u ls ls.length) d=true->en 0 (nums a R u ls G) y x=0))/\Q (.fz (.bl true)) Γ
theorem xW(T:Txt w K mg a)(M:MK base a):aC P w K mg base CX0 13 a.qP a.o7 ["_law_plan","_law_field","_law_places"] (sp3 K 3 (HX a)):=by
 refine ok3 T.g5.F n4 (hbody:=λJ A l s H E b=>⟨_,_,(ah (aH (i:=3) n4.nd rfl (Ny rfl) (iI (aj (by rfl) (zF T M.h) b.dn (by rfl) T.jb.m T.jb.F.kp T.jb.b (aa (P3.opd (p3v 0)) (aa (P3.opd (p3v 1)) ab)))))
   (ah (br (aT (pG (by rfl) b) (P3.opd (sA rfl (bI (by rfl) (aj (by rfl) (sH T) b.dn (by rfl) T.dJ.m T.dJ.F.kp T.dJ.b (aa (P3.opd (p3v 0)) (aa (P3.opd (p3v 2)) ab)))) ku (λ_ _ _ _ _=>(aK (i:=0) ku.nd rfl (gs rfl))) (λ_ _ _ _ _=>(aT (pG (by rfl) b) (P3.opd (aG (by rfl) (bv 1) T.bz T.oQ (oM T) b.dn T.l8.b (aa (P3.opd (p3v 0)) ab))) (P3.opd ag) (bw _))) (λ_ _ _ _ _=>(p3v 0)))) (P3.opd (bQ aq)) (bw _)) (ai (ar fG)) aQ)
   (ai (ar (jx (gY (by rfl) b) (P3.opd (aD (by rfl) (P3.opd (aj (by rfl) (vi T M.c) b.dn (by rfl) T.fj.m T.fj.F.kp T.fj.b (aa (P3.opd (p3v 0)) (aa (P3.opd (p3v 3)) ab)))) T.bz T.dr (dm T) b.dn T.c5.b)) (P3.opd (aD (by rfl) (bv 1) T.bz T.dr (dm T) b.dn T.c5.b)) (bw _)))))),λv Q h O=>?_⟩)
 obtain⟨R,g,u,G,I,rfl,c,F,m,q⟩:=h;walk_at "w";refine⟨R,g,u,G,rfl,c,?_⟩;obtain⟨_,_,p,o,_⟩:=c.all;generalize D:nums a R u g G=N at p o m ⊢;walk_at "w";refine⟨R,_,_,g,I,rfl,c.p.len,λd n=>by obtain⟨y,x,_,_,e,_⟩:=m d n;exact⟨y,x,e⟩,F,?_⟩;walk_at "w";refine gW (λk j f=>j=[]/\∃ s,f=[fo s,some (.fz (fD a N))]) ⟨rfl,none,rfl⟩ ?_ ?_
 .rintro k d j f n ⟨rfl,s,rfl⟩;obtain⟨m1,B⟩:=Uy.mp (fC n);obtain⟨y,x,L,C,rfl,z⟩:=m d m1;have t:=qw (xs:=N) [] (k:=y) (by lia);have r:=qw (xs:=N.getD y []) 0 (k:=x) (by rw[p.len _ (fC t)];exact C);rw[show (N.getD y []).getD x 0=0 from z B] at r;walk_at "w";refine⟨by decide +kernel,u,N,y,x,_,0,rfl,p,t,r,?_⟩;walk_at "w";exact⟨rfl,some _,rfl⟩
 rintro j f ⟨rfl,s,rfl⟩;walk_at "w";refine⟨by rw[gp];decide,xt _,R,g,u,G,by rw[D],c,?_⟩;walk_at "w";refine⟨by decide +kernel,u,G,rfl,c.g,?_⟩;walk_at "w";refine⟨by decide +kernel,u,G,rfl,c.g,?_⟩;walk_at "w";exact⟨true,yC G,q⟩
theorem Ak{M:Hv Bool}{R:Rl}{L:Int->Prop}(K:v7 M R L)(U:Lin R L){u:Nat}{ls:List Lt}{G:LL0}{s al dn:Int}(c:Pic a R u ls G)(j:∀ y x,y < G.length->x < u->en 0 G y x=s + al * (x:Int) + dn * (y:Int))(h:L al)(g:L dn){y x:Nat}(b:y < G.length)(d:x < u)(i:en M.z (iw M R G.length u ls (ip G.length u)) y x=true)(f:fnB (cat G.length u ls ls.length) (pD y x)=true):en 0 (nums a R u ls G) y x=0:=by
 obtain⟨A,B,C,_,_,E⟩:=xi (a:=a) K U c.p (Cf c.g) (vc G.length u) h g (λy x b d _=>by rw[j y x b d];unfold aff;rw[if_pos ⟨b,d⟩]) ls.length (ec _);rw[show en 0 (nums a R u ls G) y x=_ from E y x b d i];obtain⟨e,_,_,_,_⟩:=c.p.cn (ec _);rw[e] at f;have f:(decide (((cN G.length u ls ls.length).1:Int)<=y) || decide (((cN G.length u ls ls.length).2:Int)<=x))=true:=f;simp only[Yh,decide_eq_true_eq] at f;unfold aff;rw[if_neg (by lia)]
theorem DF{R:Rl}(hR:R=.guess\/R=.lean){u:Nat}{ls:List Lt}{G:LL0}{s al dn:Int}(c:Pic a R u ls G)(g:∀ y x,y < G.length->x < u->en 0 G y x=s + al * (x:Int) + dn * (y:Int)) :
  ∀ d∈A0 R G.length u ls,∃ y x:Nat,y < G.length/\x < u/\d=pD y x/\(fnB (cat G.length u ls ls.length) d=true->en 0 (nums a R u ls G) y x=0):=λd i=>by
 obtain⟨j,h⟩:=Uy.mp i;obtain⟨y,x,b,e,rfl⟩:=w4 c.p j;refine⟨y,x,b,e,rfl,λf=>?_⟩;rcases hR with rfl | rfl
 .exact Ak Fj Ey c g trivial trivial b e h f
 .exact Ak G_ Ey c g trivial trivial b e h f
theorem Gh{R:Rl}{u:Nat}{ls:List Lt}{G:LL0}{s:Int}(c:Pic a R u ls G)(j:∀ y x,y < G.length->x < u->en 0 G y x=s + 0 * (x:Int) + 0 * (y:Int)) :
  ∀ d∈pls G.length u,∃ y x:Nat,y < G.length/\x < u/\d=pD y x/\(fnB (cat G.length u ls ls.length) d=true->en 0 (nums a R u ls G) y x=0):=λd i=>by
 obtain⟨k,g,e⟩:=FB i;obtain⟨y,x,b,f,rfl⟩:=Eh ((gE0 g).trans (congrArg some e));exact⟨y,x,b,f,rfl,λh=>Ak (Ha R) Rr c j rfl rfl b f (IB c.p ls.length (ec _) y x b f) h⟩
theorem Nu{h w:Nat}{s al dn:Int}{y x:Nat}(a:y < h)(b:x < w):en 0 (rl h w s al dn) y x=s + al * (x:Int) + dn * (y:Int):=by
 unfold en rl;rw[A1 (yM a)];exact bO _ b
theorem B_{n:Int}(b:-700<=n)(b2:n<=700)(c:k<=63):-44100<=n * (k:Int)/\n * (k:Int)<=44100:=by
 have a:(0:Int)<=k:=by lia
 have e:=tT b a;have d:=tT b2 a;lia
def G3:S3:=λΓ Q=>∃ (d:D) (c h w:Int) (ls:List Lt) (k:Bool),Γ=[some (.ln d),some (.fz (pD h w)),some (.fz (.str (wy ls))),some (.fz (.bl k))]/\Pl h w ls/\Box c d/\c<=1000/\∀ d',Box (c + 4) d'->Q (.fz (.bl true)) [some (.ln d'),some (.fz (pD h w)),some (.fz (.str (wy ls))),some (.fz (.bl k))]
theorem oE(T:Txt w K mg a)(M:MK base a):aC P w K mg base CX0 14 a.iL a.ij ["_law_box_here","_law_size_here","_law_way_here","_law_flat"] (sp3 K 4 G3):=by
 refine ok3 T.cL.F aN (hbody:=λa9 A Z s H E t=>⟨_,_,(ah (aH (i:=4) aN.nd rfl (Ny rfl) (bK (P3.opd (aj (by rfl) (aU T) t.dn (by rfl) T.ao.m T.ao.F.kp T.ao.b (aa (bv 0) (aa (P3.opd ag) ab)))) (P3.opd ag)))
   (ah (eI (is:=[5,6]) (by rfl) (cp (ae (aR (by rfl) (P3.opd (bQ (ae ag (ae (bK (P3.opd (aj (by rfl) (aU T) t.dn (by rfl) T.ao.m T.ao.F.kp T.ao.b (aa (bv 0) (aa (P3.opd ag) ab)))) (P3.opd ag)) aq)))) (P3.opd (fF EV (by rfl) T.z_int (by decide +kernel) (aa (P3.opd (HM (p3v 3))) ab))) (λ_ _=>rfl)) (ae (aR (by rfl) (P3.opd (bQ (ae ag (ae (bK (P3.opd (aj (by rfl) (aU T) t.dn (by rfl) T.ao.m T.ao.F.kp T.ao.b (aa (bv 0) (aa (P3.opd ag) ab)))) (P3.opd ag)) aq)))) (P3.opd (fF EV (by rfl) T.z_int (by decide +kernel) (aa (P3.opd (HM (p3v 3))) ab))) (λ_ _=>rfl)) aq))) (av (ax (i:=5) aN.nd rfl (Ny rfl)) (av (ax (i:=6) aN.nd rfl (Ny rfl)) bA)) rfl)
   (ah (aH (i:=7) aN.nd rfl (gs rfl) (iI (aj (by rfl) (FF T) t.dn (by rfl) T.rS.m T.rS.F.kp T.rS.b (aa (P3.opd (aR (by rfl) (bv 1) (P3.opd ag) (λ_ _=>rfl))) (aa (P3.opd (aR (by rfl) (bv 1) (P3.opd ag) (λ_ _=>rfl))) (aa (P3.opd (p3v 4)) (aa (P3.opd (p3v 5)) (aa (P3.opd (p3v 6)) ab))))))))
   (ah (br (aT (pG (by rfl) t) (P3.opd (aD (by rfl) (bv 7) T.bz T.dr (dm T) t.dn T.c5.b)) (P3.opd (bF rfl (bB (by rfl) T.z_range (ae (aR (by rfl) (bv 1) (P3.opd ag) (λ_ _=>rfl)) aq)) fJ (λ_ _ _ _ _=>(aK (i:=0) fJ.nd rfl (Ny rfl))) (λ_ _ _ _ _=>(bF rfl (bB (by rfl) T.z_range (ae (aR (by rfl) (bv 3) (P3.opd ag) (λ_ _=>rfl)) aq)) fI (λ_ _ _ _ _=>(aK (i:=0) fI.nd rfl (gs rfl))) (λ_ _ _ _ _=>(aJ (P3.opd (aJ (bv 3) (P3.opd (dX (bv 1) (bv 0))))) (P3.opd (dX (bv 2) (bv 4))))))))) (bw _)) (ai (ar fG)) aQ)
   (ah (aH (i:=8) aN.nd rfl (gs rfl) (iI (aR (by rfl) (P3.opd (bQ (ae (bQ (ae b8 (ae b8 aq))) (ae (bQ (ae b8 (ae b8 aq))) aq)))) (P3.opd (aj (by rfl) (aU T) t.dn (by rfl) T.ao.m T.ao.F.kp T.ao.b (aa (bv 0) (aa (P3.opd ag) ab)))) (λ_ _=>rfl))))
   (ah (br (bj (p3v 3)) (ai (aH (i:=8) aN.nd rfl (gs rfl) (iI (aJ (P3.opd (aJ (P3.opd (bQ (ae b8 aq))) (bv 8))) (P3.opd (bQ (ae b8 aq))))))) aQ)
   (ah (gM tr rfl (bI (by rfl) (p3v 8)) (aK (i:=9) aN.nd rfl (gs rfl))
   (ah (aH (i:=10) aN.nd rfl (gs rfl) (iI (p4 T.mk_Plan (lB T) t.dn (by rfl) T.Et T.iu.b (ae (aR (by rfl) (bv 1) (P3.opd ag) (λ_ _=>rfl)) (ae (aR (by rfl) (bv 1) (P3.opd ag) (λ_ _=>rfl)) (ae (p3v 9) (ae (p3v 2) aq)))))))
   (ah (aH (i:=11) aN.nd rfl (gs rfl) (iI (HN (bj (p3v 3)) (aD (by rfl) (bv 7) T.bz T.m6 (mY T) t.dn T.jg.b) (aj (by rfl) (BZ T M.i) t.dn (by rfl) T.lY.m T.lY.F.kp T.lY.b (aa (P3.opd (p3v 10)) ab)))))
   (ai (br (bC (bj (aj (by rfl) (xW T M) t.dn (by rfl) T.g5.m T.g5.F.kp T.g5.b (aa (P3.opd (p3v 10)) (aa (P3.opd (p3v 7)) (aa (P3.opd (p3v 11)) ab)))))) (ai (ar fG)) aQ)))))
   (ai (ar fG))))))))),λa5 Q h hl=>?_⟩)
 obtain⟨d,c,h,w,u,k,rfl,p,hb,hc,q⟩:=h;obtain⟨O,rfl⟩:=SL (show 0<=h by have:=p.sz.h1;lia);obtain⟨b,rfl⟩:=SL (show 0<=w by have:=p.sz.w1;lia);walk_at "w";refine⟨_,c,20001,rfl,hb,by lia,by decide,by decide,λr1 d1 l1 u1 b1=>?_⟩;walk_at "w";refine⟨_,_,1401,rfl,b1,by lia,by decide,by decide,λr2 d2 l2 u2 b2=>?_⟩;walk_at "w";have ef:∀ x:Int,(if (!k)=true then D.int x else D.int 0)=D.int (if k then 0 else x):=λx=>by cases k <;> rfl
 refine⟨z2,_,_,1401,rfl,b2,by lia,by decide,by decide,λr3 d3 l3 u3 b3=>?_⟩;walk_at "w";rw[ef,ef];obtain⟨al,V,a1,a2,a0⟩:∃ al:Int,al=(if k then 0 else r2 - 700)/\-700<=al/\al<=700/\(k=true->al=0):=⟨_,rfl,by split <;> lia,by split <;> lia,λe=>if_pos e⟩;obtain⟨dn,U,n1,n2,n0⟩:∃ dn:Int,dn=(if k then 0 else r3 - 700)/\-700<=dn/\dn<=700/\(k=true->dn=0):=⟨_,rfl,by split <;> lia,by split <;> lia,λe=>if_pos e⟩;rw[<- V,<- U]
 clear V U
 refine⟨z2,z2,?_⟩;obtain⟨s,hs,s1,s2⟩:∃ s:Int,s=r1 - 10000/\-10000<=s/\s<=10000:=⟨_,rfl,by lia,by lia⟩;rw[<- hs]
 clear hs
 have S:=p.sz;have g:=G8 S (s:=s) (al:=al) (dn:=dn) ⟨by lia,by lia⟩ ⟨by lia,by lia⟩ ⟨by lia,by lia⟩;walk_at "w";refine⟨O,b,s,al,dn,rfl,S,⟨by lia,by lia⟩,⟨by lia,by lia⟩,⟨by lia,by lia⟩,?_⟩;rw[ey,ey] at g ⊢;generalize hG:rl O b s al dn=G at g ⊢;have L:∀ y x,y < O->x < b->en 0 G y x=s + al * (x:Int) + dn * (y:Int):=λy x W hx=>by rw[<- hG];exact Nu W hx
 obtain rfl:O=G.length:=by rw[<- hG];unfold rl;simp
 walk_at "w";refine⟨by decide +kernel,b,G,rfl,g,?_⟩;walk_at "w";have Y:=S;obtain⟨h1,w1,h2,w2,m⟩:=Y;refine⟨by lia,by lia,small (by rw[aZ];lia),aO (λk I f=>I=(ck k).map (λy:Nat=>il (rg (λx:Nat=>s + al * (x:Int) + dn * (y:Int)) b))/\∃ C,f=[fo C,some (.fz (.int al)),some (.fz (.int dn)),some (.fz (pD G.length b)),some (.fz (.int s))]) ⟨rfl,none,rfl⟩ ?_ ?_⟩
 .rintro k d I f N hk ⟨rfl,C,rfl⟩;obtain⟨lt,rfl⟩:=bN N;rw[Tj];walk_at "w";refine⟨by lia,by lia,small (by rw[aZ];lia),aO (λj I f=>I=(ck j).map (λx:Nat=>D.int (s + al * (x:Int) + dn * (k:Int)))/\∃ C,f=[fo C,some (.fz (.int al)),some (.fz (.int dn)),some (.fz (.int s)),some (.fz (.int k))]) ⟨rfl,none,rfl⟩ ?_ ?_⟩
  .rintro j d I f N hj ⟨rfl,C,rfl⟩;obtain⟨a6,rfl⟩:=bN N;rw[Tj];walk_at "w";exact⟨.inl ⟨by lia,by lia⟩,.inl ⟨by lia,by lia⟩,snoc rfl,some _,rfl⟩
  .rintro I f hj ⟨rfl,C,rfl⟩;rw[aZ,ey,j6];walk_at "w";exact⟨snoc rfl,some _,rfl⟩
 rintro I f hk ⟨rfl,C,rfl⟩;rw[aZ,ey,show (ck G.length).map (λy:Nat=>il (rg (λx:Nat=>s + al * (x:Int) + dn * (y:Int)) b))=G.map il from (by unfold rl;rw[oj];rfl:_=(rl G.length b s al dn).map il).trans (congrArg (Tu il) hG)];walk_at "w";refine⟨true,yC G,?_⟩;walk_at "w"
 clear hk C
 have B:∀ R,Pic a R b u G:=λR=>⟨g,p,λr t n O=>by
  obtain⟨y,W,rfl⟩:=FB t;obtain⟨x,hx,rfl⟩:=FB O;have lx:=g.len _ t;have e:=L y x W (by lia);have e2:en 0 G y x=G[y][x]:=by simp [en,rp,W,hx]
  have m1:=B_ (k:=x) a1 a2 (by lia);have m2:=B_ (k:=y) n1 n2 (by lia);lia⟩
 refine⟨z2,z2,z2,_,_,2,rfl,b3,by lia,by decide,by decide,λr4 d4 l4 u4 b4=>?_⟩;walk_at "w";refine pick (p:=λv=>∃ z:List Rl,v=.lst (z.map λR=>.str R.word)/\(∀ R∈z,R=.guess\/R=.lean)/\z.length=2) l4 u4 (λv X=>by
  simp only[hF,lp,or_false] at X;rcases X with rfl | rfl
  .exact⟨[.guess,.lean],rfl,by simp,rfl⟩
  .exact⟨[.lean,.guess],rfl,by simp,rfl⟩) λv X=>?_
 obtain⟨z,rfl,a4,a7⟩:=X;walk_at "w";cases k
 .walk_at "w";refine cA (λi F=>∃ J o l,F=[some (.ln d4),some (.fz (pD G.length b)),some (.fz (.str (wy u))),some (.fz (.bl false)),some (.fz (.int s)),some (.fz (.int al)),some (.fz (.int dn)),some (.fz (fD a G)),some (.fz (.lst (z.map λR=>.str R.word))),fo J,fo o,fo l]) ⟨none,none,none,rfl⟩ ?_ ?_
  .rintro i d F N ⟨J,o,l,rfl⟩;obtain⟨R,hR,rfl⟩:=kZ N;have hm:=a4 R (fC hR);walk_at "w";refine⟨R,_,_,u,rfl,S,p.good,p.len,?_⟩;walk_at "w";refine⟨R,_,_,u,rfl,p,?_⟩;walk_at "w";refine⟨R,u,b,G,_,rfl,B R,?_,DF hm (B R) L,?_⟩
   .have:=Np (mkD (iw mH R G.length b u (ip G.length b))) (ord G.length b u);have:=AL p;unfold A0;lia
   walk_at "w";exact⟨some _,some _,some _,rfl⟩
  .rintro F ⟨J,o,l,rfl⟩;walk_at "w";exact q _ (b4.up (by lia))
 .obtain rfl:=a0 rfl;obtain rfl:=n0 rfl;walk_at "w";refine⟨z1,xk (by rw[lM0];lia),z1,xk (by rw[lM0];lia),?_⟩;rw[show D.str (lh "half")::(z.map (λR=>D.str R.word)++[D.str (lh "sum")])=(Rl.half::(z++[Rl.sum])).map λR=>D.str R.word by rw[sS,ih];rfl];generalize Rl.half::(z++[Rl.sum])=z;refine cA (λi F=>∃ J o l,F=[some (.ln d4),some (.fz (pD G.length b)),some (.fz (.str (wy u))),some (.fz (.bl true)),some (.fz (.int s)),some (.fz (.int 0)),some (.fz (.int 0)),some (.fz (fD a G)),some (.fz (.lst (z.map λR=>.str R.word))),fo J,fo o,fo l]) ⟨none,none,none,rfl⟩ ?_ ?_
  .rintro i d F N ⟨J,o,l,rfl⟩;obtain⟨R,hR,rfl⟩:=kZ N;walk_at "w";refine⟨R,_,_,u,rfl,S,p.good,p.len,?_⟩;walk_at "w";refine⟨by decide +kernel,b,G,rfl,g,?_⟩;walk_at "w";refine⟨R,u,b,G,_,rfl,B R,?_,Gh (B R) L,?_⟩
   .rw[AH];have:=g.all;lia
   walk_at "w";exact⟨some _,some _,some _,rfl⟩
  .rintro F ⟨J,o,l,rfl⟩;walk_at "w";exact q _ (b4.up (by lia))
noncomputable def kx (st:Li0)(al a:Int)(w:Nat):LL0:=st.map λs=>rg (λx:Nat=>s + al * (x:Int) + a * (x:Int) * (x:Int)) w
theorem Eo{n B:Int}{m:Nat}(d:-B<=n)(b2:n<=B)(c:0<=B)(e:k<=m):-(B * (m:Int))<=n * (k:Int)/\n * (k:Int)<=B * (m:Int):=by
 have a:(0:Int)<=k:=by lia
 have b:=tT d a;have g:=tT b2 a;have f:B * (k:Int)<=B * (m:Int):=Vh (by lia) c;rw[Int.neg_mul] at b;lia
theorem EX{st:Li0}{al a:Int}{w:Nat}{r:Li0}(h:r∈kx st al a w):∃ s∈st,r=rg (λx:Nat=>s + al * (x:Int) + a * (x:Int) * (x:Int)) w:=by
 obtain⟨s,b,e⟩:=ry.mp h;exact⟨s,b,e.symm⟩
theorem Lw{st:Li0}{al a:Int}{w:Nat}(j:w<=64)(c:∀ s∈st,-1000<=s/\s<=1000)(i:-100<=al)(h:al<=100)(g:-7<=a)(b2:a<=7):∀ r∈kx st al a w,∀ n∈r,-100000<=n/\n<=100000:=λr d n e=>by
 obtain⟨s,f,rfl⟩:=EX d;obtain⟨x,b,rfl⟩:=ry.mp e;have l:=rk.mp b;have q:=Eo (k:=x) (m:=64) i h (by decide) (by lia);have p:=Eo (k:=x) (m:=64) g b2 (by decide) (by lia);have o:=Eo (n:=a * (x:Int)) (B:=448) (k:=x) (m:=64) (by lia) (by lia) (by decide) (by lia);have:=c s f;lia
theorem Jp{s al be:Int}{w:Nat}(d:2 * j + 2 < w):(gu (fsF (rg (λx:Nat=>s + al * (x:Int) + be * (x:Int) * (x:Int)) w)) (rg (λx:Nat=>s + al * (x:Int) + be * (x:Int) * (x:Int)) w)).getD j 0=0 - be:=by
 have l:=bu (λx:Nat=>s + al * (x:Int) + be * (x:Int) * (x:Int)) w;have a:∀ i,i < w->(rg (λx:Nat=>s + al * (x:Int) + be * (x:Int) * (x:Int)) w).getD i 0=s + al * (i:Int) + be * (i:Int) * (i:Int):=λi c=>bO _ c;generalize rg (λx:Nat=>s + al * (x:Int) + be * (x:Int) * (x:Int)) w=b at l a ⊢;have e:=mD b;rw[show (gu (fsF b) b).getD j 0=_ from bO _ (by lia),zH (by lia) (by lia),show ((j:Int) + 1).toNat=j + 1 by lia,uU (by lia),uU (by lia),a _ (by lia),a _ (by lia),a _ (by lia)];rw[show ((2 * (j + 1):Nat):Int)=2 * (j:Int) + 2 by lia,show ((2 * j + 1:Nat):Int)=2 * (j:Int) + 1 by lia,show ((2 * j:Nat):Int)=2 * (j:Int) by lia];generalize (j:Int)=J;rw[show al * (2 * J + 2)=2 * (al * J) + 2 * al by grind,show al * (2 * J + 1)=2 * (al * J) + al by grind,show al * (2 * J)=2 * (al * J) by grind,show be * (2 * J + 2) * (2 * J + 2)=4 * (be * J * J) + 8 * (be * J) + 4 * be by grind,show be * (2 * J + 1) * (2 * J + 1)=4 * (be * J * J) + 4 * (be * J) + be by grind,show be * (2 * J) * (2 * J)=4 * (be * J * J) by grind];lia
theorem Qz{h w:Int}(b:nU h w)(a:2<=w):Pl h w [.r]:=⟨b,⟨⟨λ_=>a,λz=>absurd rfl z⟩,trivial⟩,by decide⟩
theorem DR{u:Nat}{G:LL0}(g:nU G.length u)(n:2<=u){d:D}(i:d∈(A0 .guess G.length u [.r]).filter (fnB (cat G.length u [.r] 1))):∃ y j:Nat,y < G.length/\2 * j + 2 < u/\d=pD y ((u + 1) / 2 + j:Nat):=by
 obtain⟨l,c⟩:=Uy.mp i;obtain⟨k,b⟩:=Uy.mp l;obtain⟨y,x,a,f,rfl⟩:=w4 (Qz g (by lia)) k;rw[ey] at a f;have c:(decide ((G.length:Int)<=y) || decide (((u:Int) + 1) / 2<=x))=true:=c;simp only[Yh,decide_eq_true_eq] at c;obtain⟨j,rfl⟩:∃ j,x=(u + 1) / 2 + j:=⟨x - (u + 1) / 2,by lia⟩;have b:en false (aX mH .guess (ip G.length u) G.length u) y ((u + 1) / 2 + j)=true:=b;have Z:en false (aX mH .guess (ip G.length u) G.length u) y ((u + 1) / 2 + j)=_:=jI (Y:=mH) (vc G.length u) (ec _) (by rw[ey];exact a);rw[Z,if_pos ⟨a,f⟩,if_neg (by lia),show (u + 1) / 2 + j - (u + 1) / 2=j by lia] at b;have e:(gdF ((((ip G.length u).getD y [])).take u)).getD j false=true:=b;have m:((ip G.length u).getD y []).take u=hP u true:=by
  unfold ip;rw[ey,ey,lj,tx,if_pos a];simp
 rw[m] at e;have e:=xF (by rw[zz];lia) e;simp only[ng] at e;obtain⟨_,h,_⟩:=rL e.2.2;rw[zz] at h;exact⟨y,j,a,by lia,rfl⟩
theorem zR {a:Type}{f:Nat->List a}{m:Nat}:∀ n,(∀ k,k < n->(f k).length=m)->((ck n).map f).flatten.length=n * m
 | 0,_=>by simp
 | n + 1,h=>by
  rw[OS,ih,Ui,el,zR n λk b=>h k (by lia),Nat.add_mul,Nat.one_mul];simp [h n (by lia)]
theorem Cw:∀ n m:Nat,((ck n).filter λj=>decide (j < m)).length=min n m
 | 0,m=>by simp
 | n + 1,m=>by
  rw[OS,To,el,Cw n m];by_cases h:n < m
  .rw[List.filter_cons_of_pos (by simpa using h)];simp;lia
  .rw[List.filter_cons_of_neg (by simpa using h)];simp;lia
theorem DS{u:Nat}{G:LL0}(p:nU G.length u)(o:2<=u):((A0 .guess G.length u [.r]).filter (fnB (cat G.length u [.r] 1))).length=G.length * ((u - 1) / 2):=by
 unfold A0;rw[List.filter_filter];have m:ord G.length u [.r]=plc 0 0 G.length (((u:Int) + 1) / 2)++plc 0 (((u:Int) + 1) / 2) G.length ((u:Int) - ((u:Int) + 1) / 2):=by
  show plc 0 0 G.length (((u:Int) + 1) / 2)++(plc 0 (((u:Int) + 1) / 2) G.length ((u:Int) - ((u:Int) + 1) / 2)++[])=_;rw[tq]
 rw[m,To,el];have n:(plc 0 0 G.length (((u:Int) + 1) / 2)).filter (λd=>fnB (cat G.length u [.r] 1) d && mkD (iw mH .guess G.length u [.r] (ip G.length u)) d)=[]:=by
  rw[List.filter_eq_nil_iff];intro d c;obtain⟨l,f,c⟩:=TX.mp c;obtain⟨y,a,rfl⟩:=ry.mp f;obtain⟨x,r,rfl⟩:=BP c;have a:=rk.mp a;rw[show fnB (cat G.length u [.r] 1) (pD (0 + (y:Int)) (0 + (x:Int)))=(decide ((G.length:Int)<=0 + (y:Int)) || decide (((u:Int) + 1) / 2<=0 + (x:Int))) from rfl,decide_eq_false (by lia),decide_eq_false (by lia)];simp
 rw[n,Tw,YT];unfold plc;rw[List.filter_flatten,oj,ey];refine zR _ λy a=>?_;show ((uB 0 (((u:Int) + 1) / 2) ((u:Int) - ((u:Int) + 1) / 2).toNat y).filter _).length=_;unfold uB;rw[List.filter_map,lM0];rw[List.filter_congr (q:=λj=>decide (j < (u - 1) / 2)) λj e=>?_,Cw]
 .lia
 have e:=rk.mp e;show (fnB (cat G.length u [.r] 1) (pD (0 + (y:Int)) (((u:Int) + 1) / 2 + (j:Int))) && mkD (iw mH .guess G.length u [.r] (ip G.length u)) (pD (0 + (y:Int)) (((u:Int) + 1) / 2 + (j:Int))))=_;rw[show fnB (cat G.length u [.r] 1) (pD (0 + (y:Int)) (((u:Int) + 1) / 2 + (j:Int)))=(decide ((G.length:Int)<=0 + (y:Int)) || decide (((u:Int) + 1) / 2<=((u:Int) + 1) / 2 + (j:Int))) from rfl,decide_eq_false (show ¬(G.length:Int)<=0 + (y:Int) by lia),decide_eq_true (show ((u:Int) + 1) / 2<=((u:Int) + 1) / 2 + (j:Int) by lia)];show en false (aX mH .guess (ip G.length u) (G.length:Int).toNat (u:Int).toNat) (0 + (y:Int)).toNat (((u:Int) + 1) / 2 + (j:Int)).toNat=_;rw[show (0 + (y:Int)).toNat=y by lia,show (((u:Int) + 1) / 2 + (j:Int)).toNat=(u + 1) / 2 + j by lia,ey,ey];have Z:en false (aX mH .guess (ip G.length u) G.length u) y ((u + 1) / 2 + j)=_:=jI (Y:=mH) (vc G.length u) (ec _) (by rw[ey];exact a);have k:((ip G.length u).getD y []).take u=hP u true:=by
  unfold ip;rw[ey,ey,lj,tx,if_pos a];simp
 rw[Z,if_pos ⟨a,by lia⟩,if_neg (by lia),show (u + 1) / 2 + j - (u + 1) / 2=j by lia,k];have b:∀ i,i < u->gb (hP u true) i=true:=λi g=>by unfold gb;rw[lj,tx,if_pos g];rfl
 show gb (gdF (hP u true)) j=_;unfold gdF;rw[Hh (by rw[zz];lia),b _ (by lia),b _ (by lia)];unfold hsB;rw[zz,decide_eq_true (show (0:Int)<=2 * (j:Int) + 2 by lia)];by_cases h:2 * j + 2 < u
 .rw[decide_eq_true (show 2 * (j:Int) + 2 < u by lia),show (2 * (j:Int) + 2).toNat=2 * j + 2 by lia,b _ h,decide_eq_true (show j < (u - 1) / 2 by lia)];rfl
 .rw[decide_eq_false (show ¬2 * (j:Int) + 2 < u by lia),decide_eq_false (show ¬j < (u - 1) / 2 by lia)];rfl
def Jn:S3:=λΓ Q=>∃ (d:D) (c:Int) (h w:Nat) (z:D),Γ=[some (.ln d),some (.fz (pD h w)),some (.fz z)]/\nU h w/\Box c d/\c<=1000/\∀ d',Box (c + 70) d'->Q (.fz (.bl true)) [some (.ln d'),some (.fz (pD h w)),some (.fz z)]
theorem rF(T:Txt w K mg a)(M:MK base a):aC P w K mg base CX0 13 a.ko a.jD ["_law_box_here","_law_size_here","_law_way_here"] (sp3 K 3 Jn):=by
 refine ok3 T.dA.F aY (hbody:=λa0 A a4 s H E b=>⟨_,_,(ah (br (aT CC (P3.opd (aR (by rfl) (bv 1) (P3.opd ag) (λ_ _=>rfl))) (P3.opd ag) (bw _)) (ai (ar fG)) aQ)
   (ah (eI (is:=[3,4]) (by rfl) (cp (ae (bK (P3.opd (aj (by rfl) (aU T) b.dn (by rfl) T.ao.m T.ao.F.kp T.ao.b (aa (bv 0) (aa (P3.opd ag) ab)))) (P3.opd ag)) (ae (bK (P3.opd (aj (by rfl) (aU T) b.dn (by rfl) T.ao.m T.ao.F.kp T.ao.b (aa (bv 0) (aa (P3.opd ag) ab)))) (P3.opd ag)) aq))) (av (ax (i:=3) aY.nd rfl (Ny rfl)) (av (ax (i:=4) aY.nd rfl (Ny rfl)) bA)) rfl)
   (ah (aH (i:=5) aY.nd rfl (gs rfl) (bQ aq))
   (ah (gM tr rfl (bB (by rfl) T.z_range (ae (aR (by rfl) (bv 1) (P3.opd ag) (λ_ _=>rfl)) aq)) (aK (i:=6) aY.nd rfl (gs rfl))
   (ah (aH (i:=7) aY.nd rfl (Ny rfl) (bK (P3.opd (aj (by rfl) (aU T) b.dn (by rfl) T.ao.m T.ao.F.kp T.ao.b (aa (bv 0) (aa (P3.opd ag) ab)))) (P3.opd ag)))
   (ai (cz (gN 5 (by rfl) (bv 5) (bF rfl (bB (by rfl) T.z_range (ae (aR (by rfl) (bv 1) (P3.opd ag) (λ_ _=>rfl)) aq)) gA (λ_ _ _ _ _=>(aK (i:=0) gA.nd rfl (gs rfl))) (λ_ _ _ _ _=>(aJ (P3.opd (aJ (bv 3) (P3.opd (dX (bv 1) (bv 0))))) (P3.opd (dX (P3.opd (dX (bv 2) (bv 0))) (bv 0)))))))))))
   (ah (aH (i:=8) aY.nd rfl (gs rfl) (iI (p4 T.mk_Plan (lB T) b.dn (by rfl) T.Et T.iu.b (ae (aR (by rfl) (bv 1) (P3.opd ag) (λ_ _=>rfl)) (ae (aR (by rfl) (bv 1) (P3.opd ag) (λ_ _=>rfl)) (ae b8 (ae b8 aq)))))))
   (ah (aH (i:=9) aY.nd rfl (Ny rfl) (iI (aj (by rfl) (zF T M.h) b.dn (by rfl) T.jb.m T.jb.F.kp T.jb.b (aa (P3.opd (p3v 8)) (aa (P3.opd (p4 T.mk_Field (dE T) b.dn (by rfl) T.oR T.cQ.b (ae (p3v 5) aq))) ab)))))
   (ah (aH (i:=10) aY.nd rfl (gs rfl) (iI (aj (by rfl) (sH T) b.dn (by rfl) T.dJ.m T.dJ.F.kp T.dJ.b (aa (P3.opd (p3v 8)) (aa (P3.opd (aj (by rfl) (BZ T M.i) b.dn (by rfl) T.lY.m T.lY.F.kp T.lY.b (aa (P3.opd (p3v 8)) ab))) ab)))))
   (ah (br (aT (pG (by rfl) b) (P3.opd (sA rfl (bI (by rfl) (p3v 10)) gB (λ_ _ _ _ _=>(aK (i:=0) gB.nd rfl (gs rfl))) (λ_ _ _ _ _=>(aT (pG (by rfl) b) (P3.opd (aG (by rfl) (bv 2) T.bz T.oQ (oM T) b.dn T.l8.b (aa (P3.opd (p3v 0)) ab))) (P3.opd (bK (P3.opd ag) (bv 1))) (bw _))) (λ_ _ _ _ _=>(p3v 0)))) (P3.opd (bQ aq)) (bw _)) (ai (ar fG)) aQ)
   (ah (br (aT (pG (by rfl) b) (P3.opd (aw (bR (by rfl)) (by rfl) T.z_len (by decide +kernel) (aa (bv 10) ab))) (P3.opd (dX (P3.opd (aR (by rfl) (bv 1) (P3.opd ag) (λ_ _=>rfl))) (P3.opd (cg (P3.opd (bK (P3.opd (aR (by rfl) (bv 1) (P3.opd ag) (λ_ _=>rfl))) (P3.opd ag))) (P3.opd ag))))) (bw _)) (ai (ar fG)) aQ)
   (ai (ar (jx (gY (by rfl) b) (P3.opd (aD (by rfl) (P3.opd (aj (by rfl) (vi T M.c) b.dn (by rfl) T.fj.m T.fj.F.kp T.fj.b (aa (P3.opd (p3v 8)) (aa (P3.opd (p3v 9)) ab)))) T.bz T.dr (dm T) b.dn T.c5.b)) (P3.opd (p3v 5)) (bw _))))))))))))),λa7 Q h L=>?_⟩)
 obtain⟨d,c,h,w,z,rfl,C,v,hc,q⟩:=h;have X:=C;obtain⟨h1,w1,h2,w2,_⟩:=X;walk_at "w";refine pO (λe=>?_) (λe=>?_)
 .walk_at "w";exact q _ (v.up (by lia))
 have e:2<=w:=by have:=of_decide_eq_false e;lia
 walk_at "w";refine⟨_,c,201,rfl,v,by lia,by decide,by decide,λr1 d1 l1 u1 b1=>?_⟩;walk_at "w";refine⟨_,_,15,rfl,b1,by lia,by decide,by decide,λr2 d2 l2 u2 b2=>?_⟩;walk_at "w";obtain⟨f,V,a1,a2⟩:∃ f:Int,f=r1 - 100/\-100<=f/\f<=100:=⟨_,rfl,by lia,by lia⟩;obtain⟨be,U,n1,n2⟩:∃ be:Int,be=r2 - 7/\-7<=be/\be<=7:=⟨_,rfl,by lia,by lia⟩;rw[<- V,<- U]
 clear V U
 refine⟨z2,xt _,by lia,by lia,cA (λk W=>k<=h/\∃ st d s6 s7,st.length=k/\(∀ s∈st,-1000<=s/\s<=1000)/\Box (c + 2 + k) d/\W=[some (.ln d),some (.fz (pD h w)),some (.fz z),some (.fz (.int f)),some (.fz (.int be)),some (.ow (rD (kx st f be w))),fo s6,fo s7,none,none,none]) ⟨xt _,[],d2,none,none,rfl,(λ_ h=>by cases h),b2.up (by lia),rfl⟩ ?_ ?_⟩
 .rintro k d W u ⟨hk,st,d,s6,s7,L,R,v,rfl⟩;obtain⟨lt,rfl⟩:=bN u;rw[ey] at lt;walk_at "w";refine⟨_,_,2001,rfl,v,by lia,by decide,by decide,λr3 d3 l3 u3 b3=>?_⟩;walk_at "w";obtain⟨s,a5,c1,c2⟩:∃ s:Int,s=r3 - 1000/\-1000<=s/\s<=1000:=⟨_,rfl,by lia,by lia⟩;rw[<- a5];refine⟨by lia,by lia,small (by rw[aZ];lia),aO (λj F l=>F=(ck j).map (λx:Nat=>D.int (s + f * (x:Int) + be * (x:Int) * (x:Int)))/\∃ s',l=[fo s',some (.fz (.int f)),some (.fz (.int be)),some (.fz (.int s))]) ⟨rfl,none,rfl⟩ ?_ ?_⟩
  .rintro j d F l u S ⟨rfl,s',rfl⟩;obtain⟨a9,rfl⟩:=bN u;rw[Tj];have:=Eo (n:=be) (B:=7) (k:=j) (m:=64) (by lia) (by lia) (by decide) (by lia);walk_at "w";exact⟨.inl ⟨by lia,by lia⟩,.inl ⟨by lia,by lia⟩,.inl ⟨by lia,by lia⟩,snoc rfl,some _,rfl⟩
  rintro F l S ⟨rfl,s',rfl⟩;rw[aZ,ey,j6];walk_at "w";have bl:(kx st f be w).length=k:=by unfold kx;rw[lM0,L]
  refine⟨small (by rw[lM0];lia),by lia,st++[s],d3,some _,some _,by rw[el,L];rfl,λx hx=>?_,b3.up (by lia),by rw[show rD (kx (st++[s]) f be w)=.lst ((kx st f be w).map il++[il (rg (λx:Nat=>s + f * (x:Int) + be * (x:Int) * (x:Int)) w)]) by unfold kx;rw[rD,ih,ih];rfl];rfl⟩;rcases Bl.mp hx with m | m
  .exact R x m
  .rw[List.mem_singleton.mp m];exact⟨c1,c2⟩
 rintro W ⟨hk,st,d3,s6,s7,L,R,v,rfl⟩;rw[aZ,ey] at L v;subst L;have bd:=Lw (w:=w) (by lia) R a1 a2 n1 n2;have gl:(kx st f be w).length=st.length:=by unfold kx;rw[lM0]
 have o:∀ y,y < st.length->∃ s,(kx st f be w).getD y []=rg (λx:Nat=>s + f * (x:Int) + be * (x:Int) * (x:Int)) w:=λy J=>⟨st[y],by unfold kx;rw[A1 (gE0 J)]⟩;have t:∀ r∈kx st f be w,r.length=w:=λr b=>by obtain⟨s,_,rfl⟩:=EX b;exact bu _ _
 rw[<- gl] at C h1 h2 v o q ⊢;generalize kx st f be w=G at bd gl o C h1 h2 v q t ⊢;have m5:=C.m;have g:GR w G:=⟨by lia,by lia,by lia,by lia,by exact_mod_cast m5,t,λr b n hn=>by have:=bd r b n hn;lia⟩;have p:=Qz C (by lia);have I:Pic a .guess w [.r] G:=⟨g,p,bd⟩;walk_at "w";refine⟨.guess,G.length,w,[.r],by rw[show lh "r"=wy [.r] by decide +kernel];rfl,C,p.good,p.len,?_⟩;walk_at "w";refine⟨w,G,rfl,g,?_⟩;walk_at "w";refine⟨.guess,[.r],w,G,rfl,I,?_⟩;obtain⟨_,_,g2,a6,_⟩:=I.all;walk_at "w";refine⟨.guess,_,_,[.r],rfl,p,?_⟩;walk_at "w";refine⟨.guess,_,_,[.r],_,rfl,p.len,λd u=>?_,?_,?_⟩
 .obtain⟨y,x,_,_,e⟩:=w4 p (Uy.mp u).1;exact⟨y,x,e⟩
 .have:=Np (mkD (iw mH .guess G.length w [.r] (ip G.length w))) (ord G.length w [.r]);have:=AL p;unfold A0;lia
 have bc:=DS C e;have bp:∀ d∈_,_:=λd u=>DR C e (d:=d) u;rw[show [Lt.r].length=1 from rfl];generalize (A0 .guess G.length w [.r]).filter (fnB (cat G.length w [.r] 1))=ds at bc bp ⊢;have O:∀ y j,y < G.length->2 * j + 2 < w->en 0 (nums a .guess w [.r] G) y ((w + 1) / 2 + j)=0 - be:=λy j J S=>by
  have Z:en 0 (aX (nH a) .guess G G.length w) y ((w + 1) / 2 + j)=_:=jI (Y:=nH a) (⟨rfl,t⟩:Sz G.length w G) (ec _) J;show en 0 (aX (nH a) .guess G G.length w) y ((w + 1) / 2 + j)=_;obtain⟨s,R⟩:=o y (by lia);rw[Z,if_pos ⟨J,by lia⟩,if_neg (by lia),show (w + 1) / 2 + j - (w + 1) / 2=j by lia,R,oD (by rw[bu];exact ec _)];exact Jp S
 generalize hN:nums a .guess w [.r] G=N at g2 a6 O ⊢;walk_at "w";refine gW (λk F l=>F=[]/\∃ s,l=[fo s,some (.fz (.int be)),some (.fz (fD a N))]) ⟨rfl,none,rfl⟩ ?_ ?_
 .rintro k d F l u ⟨rfl,s,rfl⟩;obtain⟨y,j,J,S,rfl⟩:=bp d (fC u);have er:=qw (xs:=N) [] (k:=y) (by lia);have ex:=qw (xs:=N.getD y []) 0 (k:=(w + 1) / 2 + j) (by rw[g2.len _ (fC er)];lia);rw[show (N.getD y []).getD ((w + 1) / 2 + j) 0=0 - be from O y j J S] at ex;walk_at "w";refine⟨by decide +kernel,w,N,y,_,_,_,rfl,g2,er,ex,?_⟩;walk_at "w";exact⟨rfl,some _,rfl⟩
 rintro F l ⟨rfl,s,rfl⟩;walk_at "w";refine⟨by rw[gp];decide,xt _,⟨by decide,by decide⟩,.inl ⟨by lia,by lia⟩,?_⟩;rw[show ((ds.length:Int) == (G.length:Int) * (((w:Int) - 1) / 2))=true by rw[beq_iff_eq,bc,Ux];congr 1;lia];walk_at "w";refine⟨.guess,[.r],w,G,by rw[hN],I,?_⟩;walk_at "w";refine⟨by decide +kernel,w,G,rfl,g,?_⟩;walk_at "w";exact⟨true,yC G,q _ (v.up (by lia))⟩
theorem KJ(T:Txt w K mg a)(M:MK base a):aC P w K mg base CX0 15 a.IH a.DK ["_law_script"] (sp3 K 1 (Mj 63)):=by
 refine ok3 T.PX.F ur (hbody:=λz A o s H E b=>⟨_,_,(ah (gM tr rfl (bB (by rfl) T.z_range (ae (aw (Jk rfl) (by rfl) T.z_max (by decide +kernel) (aa (P3.opd ag) (aa (P3.opd (aw (Jj rfl) (by rfl) T.z_min (by decide +kernel) (aa (P3.opd (aw (bR (by rfl)) (by rfl) T.z_len (by decide +kernel) (aa (bv 0) ab))) (aa (P3.opd ag) ab)))) ab))) aq)) (aK (i:=1) ur.nd rfl (gs rfl))
   (ah (aH (i:=2) ur.nd rfl (gs rfl) (aj (by rfl) (B2 T) b.dn (by rfl) T.l6.m T.l6.F.kp T.l6.b (aa (P3.opd (aj (by rfl) (AV T) b.dn (by rfl) T.jX.m T.jX.F.kp T.jX.b (aa (P3.opd (p3v 0)) (aa (P3.opd (p3v 1)) ab)))) ab)))
   (ah (aH (i:=3) ur.nd rfl (gs rfl) (aj (by rfl) (AU T) b.dn (by rfl) T.jW.m T.jW.F.kp T.jW.b (aa (bv 2) ab)))
   (ah (aH (i:=4) ur.nd rfl (gs rfl) (jx (gY (by rfl) b) (P3.opd (aj (by rfl) (aU T) b.dn (by rfl) T.ao.m T.ao.F.kp T.ao.b (aa (bv 2) (aa (P3.opd ag) ab)))) (P3.opd ag) (bw _)))
   (ah (aH (i:=5) ur.nd rfl (gs rfl) (aj (by rfl) (B1 T) b.dn (by rfl) T.l5.m T.l5.F.kp T.l5.b (aa (bv 2) (aa (P3.opd (p3v 3)) ab))))
   (ai (br (P3W.pt (kP (bC (bj (aj (by rfl) (oE T M) b.dn (by rfl) T.cL.m T.cL.F.kp T.cL.b (aa (bv 2) (aa (P3.opd (p3v 3)) (aa (P3.opd (p3v 5)) (aa (P3.opd (p3v 4)) ab))))))) (hU (bC (bj (aj (by rfl) (rF T M) b.dn (by rfl) T.dA.m T.dA.F.kp T.dA.b (aa (bv 2) (aa (P3.opd (p3v 3)) (aa (P3.opd (p3v 5)) ab))))))))) (ai (ar fG)) aQ)))))))
   (ai (ar fG))),λt Q h N=>?_⟩)
 obtain⟨e,rfl,O,q⟩:=h;walk_at "w";have R:fmax 2 (fmin (e.length:Int) 8)<=8/\2<=fmax 2 (fmin (e.length:Int) 8):=by unfold fmax fmin;split <;> split <;> lia
 refine⟨by lia,by lia,cA (λk f=>∃ n m l j g,f=[some (.fz (.scr e)),fo n,fw m,fo l,fo j,fo g]) ⟨none,none,none,none,none,rfl⟩ ?_ ?_⟩
 .rintro k d f x ⟨n,m,l,j,g,rfl⟩;obtain⟨lt,rfl⟩:=bN x;walk_at "w";refine⟨e,_,rfl,by lia,λr=>?_⟩;walk_at "w";refine⟨r,rfl,λy F=>?_⟩;walk_at "w";refine⟨y,rfl,F,λh w X c b2=>?_⟩;walk_at "w";refine⟨_,_,4,rfl,b2,by decide,by decide,by decide,λI W L G D=>?_⟩;walk_at "w";refine⟨_,_,_,_,rfl,c,D,by decide,λJ V p C=>?_⟩;walk_at "w";refine⟨_,_,_,_,_,_,rfl,p,C,by decide,λU B=>?_⟩;walk_at "w";obtain⟨v,rfl⟩:=SL (show 0<=h by have:=c.h1;lia);obtain⟨u,rfl⟩:=SL (show 0<=w by have:=c.w1;lia);refine⟨_,_,v,u,_,rfl,c,B,by decide,λS Y=>?_⟩;walk_at "w";exact⟨some _,some _,some _,some _,some _,rfl⟩
 .rintro f ⟨n,m,l,j,g,rfl⟩;walk_at "w";exact q _
def An (K:Fg0):Sp:=λvs H Q _=>∃ (p:Addr) (ns:Li0),vs=[.ref p]/\SqL K H p (ns.map V.int)/\ns.length<=63/\∀ H',Q (.bl true) H'
theorem Oe(T:Txt w K mg a)(M:MK base a):aC P w K mg base CX0 15 a.IH a.DK ["_law_script"] (An K):=Ov (KJ T M)
set_option bootstrap.genMatcherCode true in
local macro_rules | `(tactic| walk_at "bn")=>`(tactic| (intro _ _ _ _ _ _ us hl;first | (have h:=ln0 hl;subst h;rfl) | (obtain⟨_,h⟩:=ln1 hl;subst h;rfl) | (obtain⟨_,_,h⟩:=ln2 hl;subst h;rfl) | (obtain⟨_,_,_,h⟩:=ln3 hl;subst h;rfl) | (obtain⟨_,_,_,_,h⟩:=ln4 hl;subst h;rfl) | (obtain⟨_,_,_,_,_,h⟩:=ln5 hl;subst h;rfl) | (obtain⟨_,_,_,_,_,_,h⟩:=ln6 hl;subst h;rfl)))
theorem all_mk{l:Vf}{mg:SV0}{fa:Addr}(X:K.In h)(G:h.Ns mainGlobals mg)(hfa:mg "law"=some (.ref fa)){H:Addr}{aB:Addr}{aF:Addr}{aA:Addr}{aV:Addr}{a_:Addr}{a9:Addr}{o:Option Addr}{r:Nat}{n:Array (Option Value)}{f:Tok}{d:Tok}{bH:Addr}{a1:Option Addr}{a2:Nat}{V:Array (Option Value)}{B:Tok}{A:Tok}{iU:Addr}{c8:Array DictEntry}{m2:Nat}{f0 f1 f2 f3 f4 f5 f6 f7 f8 f9 Y2 Y1 X' X0 X9 X8 X7 X6 X5 X4 X3 X2 X1 p1 o0 x1 w' o9 o8 w0 w7 w3 w2 W' w1 v' v0 v6 W0 W9 W8 W7 W6 W5 W4 W3 W2 W1 V' V0 V9 V8 V7 V6 U' U0 U9 U8 U7 U6 U5 U4 U3 U2 U1 S' S0 S4 R' R0 Q' Q9 Q8 q6 Q3 q5 P' P4 q4 v4 v3 P2 q3 O' N' M' M2 L' L0 L3 L2 K' J' f93:Addr}{d0 d1 d2 d3 d4 d5 d6 d7 d8 d9 d10 d11 d12 d13 d14 d15 d16 d17 d18 d19 d20 d21 d22 d23 d24 d25 d26 d27 d28 d29 d30 d31 d32 d33 d34 d35 d36 d37 d38 d39 d40 d41 d42 d43 d44 d45 d46 d47 d48 d49 d50 d51 d52 d53 d54 d55 d56 d57 d58 d59 d60 d61 d62 d63 d64 d65 d66 d67 d68 d69 Z' Z0 Z9 Z8 Z7 Z6 Z5 Z4 Z3 Z2 Z1 Y' Y0 Y9 Y8 Y7 Y6 Y5 Y4 Y3 d93:ej}{I4 u1:Option Addr}{I1:Array (Option Value)}{I7 s6 s9 s2 t2:Value}{gg eA:Addr}{I3 t0:Option Addr}{H0:Array (Option Value)}{I6 s5 s8 s1 t1:Value}{gi df:Addr}{I2 t7:Option Addr}{H7:Array (Option Value)}{I5 s4 s7 r' s0:Value}{i5 gq:Addr}{U:Tok}{S:Tok}{R:Tok}{c':Tok}{c0:Tok}{b7:Tok}(m7:jM K mainGlobals "Field"=some (some (.ref H)))(c5:DM K H Vv=true)(c7:GM K H=true)(c4:KB K H=true)(c2:ew K (.ref H) "__setattr__"=some (some (.builtin "object.__setattr__")))(m3:HT K H=true)(m6:ox K (.ref H)=true)(j3:jM K mainGlobals "Guessed"=some (some (.ref aB)))(h4:DM K aB Vv=true)(i':GM K aB=true)(g7:KB K aB=true)(g5:ew K (.ref aB) "__setattr__"=some (some (.builtin "object.__setattr__")))(h6:HT K aB=true)(h8:ox K (.ref aB)=true)(h0:ew K (.ref aB) "__init__"=some (some (.builtin "object.__init__")))(l6:jM K mainGlobals "Halves"=some (some (.ref aF)))(k9:DM K aF Vv=true)(l5:GM K aF=true)(k8:KB K aF=true)(k7:ew K (.ref aF) "__setattr__"=some (some (.builtin "object.__setattr__")))(k0:HT K aF=true)(k':ox K (.ref aF)=true)(l4:ew K (.ref aF) "__init__"=some (some (.builtin "object.__init__")))(j2:jM K mainGlobals "Leaning"=some (some (.ref aA)))(g0:DM K aA Vv=true)(i0:GM K aA=true)(g6:KB K aA=true)(g4:ew K (.ref aA) "__setattr__"=some (some (.builtin "object.__setattr__")))(h5:HT K aA=true)(h7:ox K (.ref aA)=true)(h9:ew K (.ref aA) "__init__"=some (some (.builtin "object.__init__")))(p':jM K mainGlobals "Plan"=some (some (.ref aV)))(n0:DM K aV Vv=true)(o7:GM K aV=true)(n3:KB K aV=true)(m':ew K (.ref aV) "__setattr__"=some (some (.builtin "object.__setattr__")))(o1:HT K aV=true)(o4:ox K (.ref aV)=true)(p3:jM K mainGlobals "Sums"=some (some (.ref a_)))(n7:DM K a_ Vv=true)(o6:GM K a_=true)(n2:KB K a_=true)(m0:ew K (.ref a_) "__setattr__"=some (some (.builtin "object.__setattr__")))(n':HT K a_=true)(o2:ox K (.ref a_)=true)(o5:ew K (.ref a_) "__init__"=some (some (.builtin "object.__init__")))(b':ew K (.ref H) "grid"=some none)(a4:ew K (.ref aV) "chosen"=some none)(J:ew K (.ref aV) "corners"=some none)(I:ew K (.ref aV) "letters"=some none)(C:jM K mainGlobals "ALONG_PILLARS"=some (some (.ref a9)))(t:K.lookup a9=some ⟨.type "tuple",o,.seq #[.str (lh "p") f,.str (lh "b") d] r,n⟩)(b0:jM K mainGlobals "ALONG_ROWS"=some (some (.ref bH)))(a5:K.lookup bH=some ⟨.type "tuple",a1,.seq #[.str (lh "r") B,.str (lh "b") A] a2,V⟩)(n1:jM K mainGlobals "MARKS"=some (some (.ref iU)))(m4:K.lookup iU=some ⟨.type "dict",none,.dict c8 m2,#[]⟩)(m5:Yf w.params c8.toList)(c1:jM K iU "sum"=some (some (.ref q4)))(a7:jM K iU "half"=some (some (.ref q4)))(L:jM K iU "guess"=some (some (.ref v4)))(a6:jM K iU "lean"=some (some (.ref v3)))(H3:bq K (.type "bool") (.type "str")=some false)(B':bq K (.type "int") (.type "str")=some false)(y0:bq K (.type "NoneType") (.type "str")=some false)(x0:bq K (.type "str") (.type "str")=some true)(z':bq K (.type "list") (.type "str")=some false)(x5:bq K (.type "tuple") (.type "str")=some false)(E1:bq K (.type "dict") (.type "str")=some false)(F0:FN K "is_whole" "is_whole" q8 f0 d0)(F1:FN K "is_number" "is_number" n8 f1 d1)(F2:FN K "is_row" "is_row" sj f2 d2)(F3:FN K "are_halves" "are_halves" mn f3 d3)(F4:FN K "is_size" "is_size" uz f4 d4)(F5:FN K "is_place_within" "is_place_within" fV f5 d5)(F6:FN K "are_rows" "are_rows" jn f6 d6)(F7:FM K H "__init__" "Field.__init__" eH f7 d7)(F8:FM K H "height" "Field.height" ju f8 d8)(F9:FM K H "width" "Field.width" kN f9 d9)(F10:FM K H "rows" "Field.rows" iY Y2 d10)(F11:FM K H "places" "Field.places" fX Y1 d11)(F12:FM K H "is_place" "Field.is_place" gL X' d12)(F13:FM K H "at" "Field.at" rj X0 d13)(F14:FN K "size_of" "size_of" ux X9 d14)(F15:FN K "check_field" "check_field" kF X8 d15)(F16:FN K "check_size" "check_size" ml X7 d16)(F17:FN K "check_bounds" "check_bounds" jm X6 d17)(F18:FN K "check_picture" "check_picture" ix X5 d18)(F19:FN K "check_numbers" "check_numbers" iy X4 d19)(F20:FN K "pairs_of" "pairs_of" qX X3 d20)(F21:FN K "gaps_of" "gaps_of" pY X2 d21)(F22:FM K a_ "word" "Sums.word" om X1 d22)(k6:FM K aB "halves" "Sums.halves" kJ p1 d23)(k5:FM K aB "back" "Sums.back" oo o0 d24)(r7:FM K aF "parted" "Sums.parted" kH x1 d25)(r6:FM K aF "joined" "Sums.joined" kI w' d26)(k4:FM K aB "sums_of" "Sums.sums_of" fW o9 d27)(j':FM K aB "row_of" "Sums.row_of" kG o8 d28)(r5:FM K aB "sum_of_pair" "Sums.sum_of_pair" fm w0 d29)(r4:FM K aB "sum_of_lone" "Sums.sum_of_lone" ft w7 d30)(r3:FM K aB "pair_of" "Sums.pair_of" jo w3 d31)(r2:FM K aB "lone_of" "Sums.lone_of" jq w2 d32)(F33:FM K aF "word" "Halves.word" kM W' d33)(r1:FM K aF "sum_of_pair" "Halves.sum_of_pair" dR w1 d34)(q':FM K aF "sum_of_lone" "Halves.sum_of_lone" dU v' d35)(q0:FM K aF "pair_of" "Halves.pair_of" gJ v0 d36)(q7:FM K aF "lone_of" "Halves.lone_of" gK v6 d37)(F38:FN K "near" "near" CZ W0 d38)(F39:FN K "woven" "woven" Az W9 d39)(F40:FN K "guesses" "guesses" pX W8 d40)(F41:FN K "lifts" "lifts" wR W7 d41)(F42:FN K "leans" "leans" wU W6 d42)(F43:FM K aB "word" "Guessed.word" jt W5 d43)(F44:FM K aB "parted" "Guessed.parted" cR W4 d44)(F45:FM K aB "joined" "Guessed.joined" cS W3 d45)(F46:FM K aA "word" "Leaning.word" jr W2 d46)(F47:FM K aA "parted" "Leaning.parted" eE W1 d47)(F48:FM K aA "joined" "Leaning.joined" eF V' d48)(F49:FN K "all_rules" "all_rules" oa V0 d49)(F50:FN K "rule_of" "rule_of" uy V9 d50)(F51:FN K "can_halve" "can_halve" n_ V8 d51)(F52:FN K "corners_of" "corners_of" mj V7 d52)(F53:FN K "places_of" "places_of" j1 V6 d53)(x3:FM K aV "__init__" "Plan.__init__" iz U' d54)(F55:FM K aV "height" "Plan.height" kK U0 d55)(F56:FM K aV "width" "Plan.width" mq U9 d56)(F57:FM K aV "rule" "Plan.rule" oq U8 d57)(F58:FM K aV "way" "Plan.way" rh U7 d58)(F59:FM K aV "steps" "Plan.steps" mr U6 d59)(F60:FM K aV "corner" "Plan.corner" kL U5 d60)(F61:FM K aV "parts" "Plan.parts" mv U4 d61)(F62:FM K aV "parts_of_step" "Plan.parts_of_step" dQ U3 d62)(F63:FM K aV "order" "Plan.order" iX U2 d63)(F64:FN K "turned" "turned" sf U1 d64)(F65:FN K "halve_row" "halve_row" n9 S' d65)(F66:FN K "join_row" "join_row" qZ S0 d66)(F67:FN K "halve_rows" "halve_rows" iW S4 d67)(F68:FN K "join_rows" "join_rows" j4 R' d68)(F69:FN K "step_forth" "step_forth" mi R0 d69)(F70:FN K "steps_forth" "steps_forth" kE Q' Z')(F71:FN K "step_back" "step_back" n6 Q9 Z0)(F72:FN K "steps_back" "steps_back" mh Q8 Z9)(a73:jM K mainGlobals "halved"=some (some (.ref q6)))(I0:K.lookup q6=some ⟨I7,I4,.func (Fk "halved" "halved" (eO dP) (cj dP) (af dP) .none s6 s9 s2 u1 (.ref gg) t2),I1⟩)(c73:TV K (.ref gg) "halved"=true)(J0:ox K (.ref q6)=true)(k_hd_halved:SC K gg eA=true)(k_kp_halved:K.lookup eA=none)(F74:FN K "put_back" "put_back" qW Q3 Z8)(a75:jM K mainGlobals "coarse"=some (some (.ref q5)))(I9:K.lookup q5=some ⟨I6,I3,.func (Fk "coarse" "coarse" (eO da) (cj da) (af da) .none s5 s8 s1 t0 (.ref gi) t1),H0⟩)(c75:TV K (.ref gi) "coarse"=true)(J8:ox K (.ref q5)=true)(k_hd_coarse:SC K gi df=true)(k_kp_coarse:K.lookup df=none)(F76:FN K "has" "has" G1 P' Z7)(F77:FN K "paired_sums" "paired_sums" g8 P4 Z6)(F78:FN K "paired_marks" "paired_marks" fU q4 Z5)(F79:FN K "guessed_marks" "guessed_marks" c_ v4 Z4)(F80:FN K "leaning_marks" "leaning_marks" fc v3 Z3)(F81:FN K "marks_of" "marks_of" qY P2 Z2)(a82:jM K mainGlobals "inner"=some (some (.ref q3)))(I8:K.lookup q3=some ⟨I5,I2,.func (Fk "inner" "inner" (eO eD) (cj eD) (af eD) .none s4 s7 r' t7 (.ref i5) s0),H7⟩)(c82:TV K (.ref i5) "inner"=true)(I':ox K (.ref q3)=true)(k_hd_inner:SC K i5 gq=true)(k_kp_inner:K.lookup gq=none)(F83:FN K "rising" "rising" sg O' Z1)(F84:FN K "_law_cell" "_law_cell" oi N' Y')(F85:FN K "_law_box" "_law_box" q_ M' Y0)(F86:FN K "_law_take" "_law_take" og M2 Y9)(F87:FN K "_law_size" "_law_size" oh L' Y8)(F88:FN K "_law_way" "_law_way" q9 L0 Y7)(F89:FN K "_law_fine" "_law_fine" j5 L3 Y6)(F90:FN K "_law_nought" "_law_nought" g9 L2 Y5)(F91:FN K "_law_rising_right" "_law_rising_right" cM K' Y4)(F92:FN K "_law_bent_right" "_law_bent_right" cx J' Y3)(x2:FN K "law" "law" G0 f93 d93)(E:ew K (.ref aF) "halves"=some (some (.ref p1)))(b5:ew K (.ref aF) "back"=some (some (.ref o0)))(y:ew K (.ref aF) "sums_of"=some (some (.ref o9)))(D:ew K (.ref aF) "row_of"=some (some (.ref o8)))(a:ew K (.ref aA) "sum_of_pair"=some (some (.ref w1)))(b:ew K (.ref aA) "sum_of_lone"=some (some (.ref v')))(k:ew K (.ref aA) "pair_of"=some (some (.ref v0)))(m:ew K (.ref aA) "lone_of"=some (some (.ref v6)))(x:ew K (.ref aA) "halves"=some (some (.ref p1)))(Q:ew K (.ref aA) "back"=some (some (.ref o0)))(j:ew K (.ref aA) "sums_of"=some (some (.ref o9)))(u:ew K (.ref aA) "row_of"=some (some (.ref o8)))(b4:ew K (.ref a_) "halves"=some (some (.ref p1)))(e4:ew K (.ref a_) "back"=some (some (.ref o0)))(a':ew K (.ref a_) "parted"=some (some (.ref x1)))(b1:ew K (.ref a_) "joined"=some (some (.ref w')))(M:ew K (.ref a_) "sums_of"=some (some (.ref o9)))(a0:ew K (.ref a_) "row_of"=some (some (.ref o8)))(g:ew K (.ref a_) "sum_of_pair"=some (some (.ref w0)))(i:ew K (.ref a_) "sum_of_lone"=some (some (.ref w7)))(N:ew K (.ref a_) "pair_of"=some (some (.ref w3)))(O:ew K (.ref a_) "lone_of"=some (some (.ref w2)))(Z:jM K mainGlobals "MOST_HALVED"=some (some (.int 1000000000 U)))(Y:jM K mainGlobals "MOST_NUMBER"=some (some (.int 999999999999999 S)))(W:jM K mainGlobals "MOST_PLACES"=some (some (.int 512 R)))(e2:jM K mainGlobals "MOST_RISE"=some (some (.int 1000000 c')))(e1:jM K mainGlobals "MOST_SIDE"=some (some (.int 64 c0)))(b9:jM K mainGlobals "MOST_VALUE"=some (some (.int 100000 b7)))(l0:ew K (.ref H) "__class__"=some (some (.builtin "object.__class__")))(l8:VL K (.builtin "object.__class__") "__get__"=some (some (.builtin "getset_descriptor.__get__")))(l7:Wp K (.builtin "object.__class__")=some true)(l':WV K H (.type "object")=some true)(e9:bq K (.ref H) (.ref H)=some true)(g2:bq K (.type "bool") (.ref H)=some false)(f':bq K (.type "int") (.ref H)=some false)(e0:bq K (.type "NoneType") (.ref H)=some false)(e8:bq K (.type "str") (.ref H)=some false)(e':bq K (.type "list") (.ref H)=some false)(e6:bq K (.type "tuple") (.ref H)=some false)(g1:bq K (.type "dict") (.ref H)=some false)(v2:jM K mainGlobals "all"=some none)(q2:jM K mainGlobals "bool"=some none)(c9:jM K mainGlobals "enumerate"=some none)(v1:jM K mainGlobals "int"=some none)(b6:jM K mainGlobals "isinstance"=some none)(u':jM K mainGlobals "len"=some none)(q1:jM K mainGlobals "list"=some none)(u0:jM K mainGlobals "max"=some none)(u8:jM K mainGlobals "min"=some none)(m9:jM K mainGlobals "range"=some none)(e5:jM K mainGlobals "reversed"=some none)(u4:jM K mainGlobals "str"=some none)(m8:jM K mainGlobals "tuple"=some none)(u2:jM K mainGlobals "zip"=some none)(H6:bq K (.type "bool") (.type "bool")=some true)(H5:bq K (.type "bool") (.type "int")=some true)(H4:bq K (.type "bool") (.type "list")=some false)(G':bq K (.type "bool") (.type "tuple")=some false)(D9:bq K (.type "int") (.type "bool")=some false)(D3:bq K (.type "int") (.type "int")=some true)(C':bq K (.type "int") (.type "list")=some false)(B7:bq K (.type "int") (.type "tuple")=some false)(z7:bq K (.type "NoneType") (.type "bool")=some false)(z4:bq K (.type "NoneType") (.type "int")=some false)(y':bq K (.type "NoneType") (.type "list")=some false)(y5:bq K (.type "NoneType") (.type "tuple")=some false)(y2:bq K (.type "str") (.type "bool")=some false)(y1:bq K (.type "str") (.type "int")=some false)(x':bq K (.type "str") (.type "list")=some false)(x9:bq K (.type "str") (.type "tuple")=some false)(A':bq K (.type "list") (.type "bool")=some false)(A7:bq K (.type "list") (.type "int")=some false)(A6:bq K (.type "list") (.type "list")=some true)(z8:bq K (.type "list") (.type "tuple")=some false)(x8:bq K (.type "tuple") (.type "bool")=some false)(x7:bq K (.type "tuple") (.type "int")=some false)(x6:bq K (.type "tuple") (.type "list")=some false)(x4:bq K (.type "tuple") (.type "tuple")=some true)(F':bq K (.type "dict") (.type "bool")=some false)(E':bq K (.type "dict") (.type "int")=some false)(E2:bq K (.type "dict") (.type "list")=some false)(D':bq K (.type "dict") (.type "tuple")=some false)(k_ne_halved_coarse:(eA == df)=false)(k_ne_inner_coarse:(gq == df)=false)(k_ne_inner_halved:(gq == eA)=false) :
  ∃ (fd:ej) (r0:List (Addr×Str)),(∀ (s:Shared) (v:Value),Xz s fd ⟨[v],[]⟩ [("_law_script",v)])/\(∀ p∈r0,p.1∈([df,eA,gq]:La0)/\K.lookup p.1=none/\∃ c,UP h c p.1)/\∀ base:Heap,K.In base->base.Ns mainGlobals mg->(∀ P q,r0.lookup P=some q->mQ base P q)->aC l.prog w K mg base CX0 15 fa fd ["_law_script"] (An K):=by
 have e:=hfa.symm.trans (pL X G x2.n);cases e;obtain⟨oc,od,kV,dc,pm,an,cd,ct,sl,rfl,lk,hc⟩:=x2.F.ex;have T:Txt w K mg ⟨a9,bH,iU,H,aB,aF,aA,aV,a_,f0,d0,f1,d1,f2,d2,f3,d3,f4,d4,f5,d5,f6,d6,f7,d7,f8,d8,f9,d9,Y2,d10,Y1,d11,X',d12,X0,d13,X9,d14,X8,d15,X7,d16,X6,d17,X5,d18,X4,d19,X3,d20,X2,d21,X1,d22,p1,d23,o0,d24,x1,d25,w',d26,o9,d27,o8,d28,w0,d29,w7,d30,w3,d31,w2,d32,W',d33,w1,d34,v',d35,v0,d36,v6,d37,W0,d38,W9,d39,W8,d40,W7,d41,W6,d42,W5,d43,W4,d44,W3,d45,W2,d46,W1,d47,V',d48,V0,d49,V9,d50,V8,d51,V7,d52,V6,d53,U',d54,U0,d55,U9,d56,U8,d57,U7,d58,U6,d59,U5,d60,U4,d61,U3,d62,U2,d63,U1,d64,S',d65,S0,d66,S4,d67,R',d68,R0,d69,Q',Z',Q9,Z0,Q8,Z9,q6,Fk "halved" "halved" (eO dP) (cj dP) (af dP) .none s6 s9 s2 u1 (.ref gg) t2,Q3,Z8,q5,Fk "coarse" "coarse" (eO da) (cj da) (af da) .none s5 s8 s1 t0 (.ref gi) t1,P',Z7,P4,Z6,q4,Z5,v4,Z4,v3,Z3,P2,Z2,q3,Fk "inner" "inner" (eO eD) (cj eD) (af eD) .none s4 s7 r' t7 (.ref i5) s0,O',Z1,N',Y',M',Y0,M2,Y9,L',Y8,L0,Y7,L3,Y6,L2,Y5,K',Y4,J',Y3,fa,_,gi,df,gg,eA,i5,gq⟩:=⟨⟨c5,c7,c4,c2⟩,
  pL X G m7,
  ⟨h4,i',g7,g5⟩,
  pL X G j3,
  ⟨h6,h0,h8⟩,
  ⟨k9,l5,k8,k7⟩,
  pL X G l6,
  ⟨k0,l4,k'⟩,
  ⟨g0,i0,g6,g4⟩,
  pL X G j2,
  ⟨h5,h9,h7⟩,
  ⟨n0,o7,n3,m'⟩,
  pL X G p',
  ⟨n7,o6,n2,m0⟩,
  pL X G p3,
  ⟨n',o5,o2⟩,
  b',
  a4,
  J,
  I,
  ⟨pL X G C,λF=>.inr ⟨_,_,_,t,rfl,rfl,z2,.cons ⟨_,rfl⟩ (.cons ⟨_,rfl⟩ (.nil))⟩⟩,
  ⟨pL X G b0,λF=>.inr ⟨_,_,_,a5,rfl,rfl,z2,.cons ⟨_,rfl⟩ (.cons ⟨_,rfl⟩ (.nil))⟩⟩,
  ⟨pL X G n1,⟨_,_,m4,m5⟩,c1,a7,L,a6,trivial⟩,
  ⟨H3,B',y0,x0,z',x5,E1⟩,
  fx X G F0 (by walk_at "bn"),
  fx X G F1 (by walk_at "bn"),
  fx X G F2 (by walk_at "bn"),
  fx X G F3 (by walk_at "bn"),
  fx X G F4 (by walk_at "bn"),
  fx X G F5 (by walk_at "bn"),
  fx X G F6 (by walk_at "bn"),
  fy F7 (by walk_at "bn"),
  fy F8 (by walk_at "bn"),
  fy F9 (by walk_at "bn"),
  fy F10 (by walk_at "bn"),
  fy F11 (by walk_at "bn"),
  fy F12 (by walk_at "bn"),
  fy F13 (by walk_at "bn"),
  fx X G F14 (by walk_at "bn"),
  fx X G F15 (by walk_at "bn"),
  fx X G F16 (by walk_at "bn"),
  fx X G F17 (by walk_at "bn"),
  fx X G F18 (by walk_at "bn"),
  fx X G F19 (by walk_at "bn"),
  fx X G F20 (by walk_at "bn"),
  fx X G F21 (by walk_at "bn"),
  fy F22 (by walk_at "bn"),
  fy k6 (by walk_at "bn"),
  fy k5 (by walk_at "bn"),
  fy r7 (by walk_at "bn"),
  fy r6 (by walk_at "bn"),
  fy k4 (by walk_at "bn"),
  fy j' (by walk_at "bn"),
  fy r5 (by walk_at "bn"),
  fy r4 (by walk_at "bn"),
  fy r3 (by walk_at "bn"),
  fy r2 (by walk_at "bn"),
  fy F33 (by walk_at "bn"),
  fy r1 (by walk_at "bn"),
  fy q' (by walk_at "bn"),
  fy q0 (by walk_at "bn"),
  fy q7 (by walk_at "bn"),
  fx X G F38 (by walk_at "bn"),
  fx X G F39 (by walk_at "bn"),
  fx X G F40 (by walk_at "bn"),
  fx X G F41 (by walk_at "bn"),
  fx X G F42 (by walk_at "bn"),
  fy F43 (by walk_at "bn"),
  fy F44 (by walk_at "bn"),
  fy F45 (by walk_at "bn"),
  fy F46 (by walk_at "bn"),
  fy F47 (by walk_at "bn"),
  fy F48 (by walk_at "bn"),
  fx X G F49 (by walk_at "bn"),
  fx X G F50 (by walk_at "bn"),
  fx X G F51 (by walk_at "bn"),
  fx X G F52 (by walk_at "bn"),
  fx X G F53 (by walk_at "bn"),
  fy x3 (by walk_at "bn"),
  fy F55 (by walk_at "bn"),
  fy F56 (by walk_at "bn"),
  fy F57 (by walk_at "bn"),
  fy F58 (by walk_at "bn"),
  fy F59 (by walk_at "bn"),
  fy F60 (by walk_at "bn"),
  fy F61 (by walk_at "bn"),
  fy F62 (by walk_at "bn"),
  fy F63 (by walk_at "bn"),
  fx X G F64 (by walk_at "bn"),
  fx X G F65 (by walk_at "bn"),
  fx X G F66 (by walk_at "bn"),
  fx X G F67 (by walk_at "bn"),
  fx X G F68 (by walk_at "bn"),
  fx X G F69 (by walk_at "bn"),
  fx X G F70 (by walk_at "bn"),
  fx X G F71 (by walk_at "bn"),
  fx X G F72 (by walk_at "bn"),
  ⟨(oW (st:=dP) I0 c73 J0),(oW (st:=dP) I0 c73 J0).binds (by walk_at "bn"),pL X G a73⟩,
  rfl,
  k_hd_halved,
  fx X G F74 (by walk_at "bn"),
  ⟨(oW (st:=da) I9 c75 J8),(oW (st:=da) I9 c75 J8).binds (by walk_at "bn"),pL X G a75⟩,
  rfl,
  k_hd_coarse,
  fx X G F76 (by walk_at "bn"),
  fx X G F77 (by walk_at "bn"),
  fx X G F78 (by walk_at "bn"),
  fx X G F79 (by walk_at "bn"),
  fx X G F80 (by walk_at "bn"),
  fx X G F81 (by walk_at "bn"),
  ⟨(oW (st:=eD) I8 c82 I'),(oW (st:=eD) I8 c82 I').binds (by walk_at "bn"),pL X G a82⟩,
  rfl,
  k_hd_inner,
  fx X G F83 (by walk_at "bn"),
  fx X G F84 (by walk_at "bn"),
  fx X G F85 (by walk_at "bn"),
  fx X G F86 (by walk_at "bn"),
  fx X G F87 (by walk_at "bn"),
  fx X G F88 (by walk_at "bn"),
  fx X G F89 (by walk_at "bn"),
  fx X G F90 (by walk_at "bn"),
  fx X G F91 (by walk_at "bn"),
  fx X G F92 (by walk_at "bn"),
  fx X G x2 (by walk_at "bn"),
  ⟨m3,F7.m,F7.i,m6⟩,
  ⟨o1,x3.m,x3.i,o4⟩,
  F8.me,
  F9.me,
  F10.me,
  F11.me,
  F12.me,
  F13.me,
  F43.me,
  F44.me,
  F45.me,
  k6.me,
  k5.me,
  k4.me,
  j'.me,
  r5.me,
  r4.me,
  r3.me,
  r2.me,
  F33.me,
  r1.me,
  q'.me,
  q0.me,
  q7.me,
  ⟨E,k6.i,k6.F.kp⟩,
  ⟨b5,k5.i,k5.F.kp⟩,
  r7.me,
  r6.me,
  ⟨y,k4.i,k4.F.kp⟩,
  ⟨D,j'.i,j'.F.kp⟩,
  F46.me,
  F47.me,
  F48.me,
  ⟨a,r1.i,r1.F.kp⟩,
  ⟨b,q'.i,q'.F.kp⟩,
  ⟨k,q0.i,q0.F.kp⟩,
  ⟨m,q7.i,q7.F.kp⟩,
  ⟨x,k6.i,k6.F.kp⟩,
  ⟨Q,k5.i,k5.F.kp⟩,
  ⟨j,k4.i,k4.F.kp⟩,
  ⟨u,j'.i,j'.F.kp⟩,
  F55.me,
  F56.me,
  F57.me,
  F58.me,
  F59.me,
  F60.me,
  F61.me,
  F62.me,
  F63.me,
  F22.me,
  ⟨b4,k6.i,k6.F.kp⟩,
  ⟨e4,k5.i,k5.F.kp⟩,
  ⟨a',r7.i,r7.F.kp⟩,
  ⟨b1,r6.i,r6.F.kp⟩,
  ⟨M,k4.i,k4.F.kp⟩,
  ⟨a0,j'.i,j'.F.kp⟩,
  ⟨g,r5.i,r5.F.kp⟩,
  ⟨i,r4.i,r4.F.kp⟩,
  ⟨N,r3.i,r3.F.kp⟩,
  ⟨O,r2.i,r2.F.kp⟩,
  ⟨_,pL X G Z⟩,
  ⟨_,pL X G Y⟩,
  ⟨_,pL X G W⟩,
  ⟨_,pL X G e2⟩,
  ⟨_,pL X G e1⟩,
  ⟨_,pL X G b9⟩,
  ⟨⟨c5,c7,c4,c2⟩,l0,l8,l7,l',e9,g2,f',e0,e8,e',e6,g1⟩,
  pF X G v2,
  pF X G q2,
  pF X G c9,
  pF X G v1,
  pF X G b6,
  pF X G u',
  pF X G q1,
  pF X G u0,
  pF X G u8,
  pF X G m9,
  pF X G e5,
  pF X G u4,
  pF X G m8,
  pF X G u2,
  ⟨H6,H5,H4,G',D9,D3,C',B7,z7,z4,y',y5,y2,y1,x',x9,A',A7,A6,z8,x8,x7,x6,x4,F',E',E2,D'⟩⟩
 exact⟨_,[(df,lh "coarse.<locals>.<lambda>"),(eA,lh "halved.<locals>.<lambda>"),(gq,lh "inner.<locals>.<lambda>")],λs v=>.of_eq rfl,λp hp=>(by cases hp with | head=>exact⟨.head _,k_kp_coarse,_,Pj X k_hd_coarse⟩ | tail _ z=>exact(by cases z with | head=>exact⟨.tail _ (.head _),k_kp_halved,_,Pj X k_hd_halved⟩ | tail _ z=>exact(by cases z with | head=>exact⟨.tail _ (.tail _ (.head _)),k_kp_inner,_,Pj X k_hd_inner⟩ | tail _ z=>exact nomatch z))),λbase _ _ hM=>Oe T ⟨hM _ _ (by rw[ek,beq_self_eq_true]),hM _ _ (by rw[ek,k_ne_halved_coarse,ek,beq_self_eq_true]),hM _ _ (by rw[ek,k_ne_inner_coarse,ek,k_ne_inner_halved,ek,beq_self_eq_true])⟩⟩
theorem walk{l:Vf}{q:OT}{e:Ls0}{XP:(SV0)->Heap->Prop}{m:World->Heap->Prop}{d:DefRec}{K:Params->Fg0}{i:La0}(r:l.most=some 63)(g:d.params.defaults=[])(v:∀ (w:World) (h:Heap),m w h->(K w.params).In h/\∀ P∈i,h.get? P=some (Yw #[]))(F:∀ (w:World) (mg:SV0) (j:Addr) (h:Heap),(K w.params).In h->h.Ns mainGlobals mg->mg d.name=some (.ref j)->
   ∃ (fd:ej) (b:List (Addr×Str)),(∀ (s:Shared) (u:Value),Xz s fd ⟨[u],[]⟩ [("_law_script",u)])/\(∀ p∈b,p.1∈i/\(K w.params).lookup p.1=none/\∃ c,UP h c p.1)/\
    ∀ base:Heap,(K w.params).In base->base.Ns mainGlobals mg->(∀ P q,b.lookup P=some q->mQ base P q)->aC l.prog w (K w.params) mg base CX0 15 j fd ["_law_script"] (An (K w.params))) :
  YD q e XP m l.row.toRowW d [] (λf vs=>Yr f vs):=
 _2.GC (n:=63) (k:=15) (x:="_law_script") (CX:=λ_=>CX0) (sp:=An) r (by decide) g ⟨rfl,by decide,by decide,rfl⟩ v F (λ_ _ a o t _ y=>⟨a,o,rfl,y,t,λ_=>rfl⟩) λ_ _ _ _ _ z=>z
end
end _k
set_option bootstrap.genMatcherCode true in
local macro_rules | `(tactic| walk_at "fk")=>`(tactic| first | (refine' _2.FN.mk ?k1 ?k2;(case k1=>k_is);(case k2=>refine' _2.oW ?k3 ?k4 ?k5;(case k3=>k_is);(case k4=>k_is);(case k5=>k_is))) | (refine' _2.FM.mk ?k1 ?k6 ?k2;(case k1=>k_is);(case k6=>k_is);(case k2=>refine' _2.oW ?k3 ?k4 ?k5;(case k3=>k_is);(case k4=>k_is);(case k5=>k_is))))
namespace PySem.W.Fast
abbrev T:=True
theorem G9:T:=trivial
theorem tw12559725199247457158:T:=G9
def g9(q:Lean.Name)(c:Lean.Syntax):List String->List Lean.Syntax
 | []=>[]
 | s::l=>c.setArg 1 (c[1].setArg 1 (c[1][1].setArg 0 (Lean.mkIdent (.mkSimple ("tw"++toString (q.str s).hash)))))::g9 q c l
def h9:Nat->List Char->List String->List String
 | _,[],a=>a
 | n,b::l,a=>h9 (n+1) l (if b=='1' then ("o_"++toString n)::a else a)
local macro_rules | `(universe $_)=>do
 return Lean.mkNullNode (g9 ((`PySem.Challenge).str "cw_halvedpictures_k75_whole_noughts_of_risi_holds") (<-`(def x:T:=G9)).raw (h9 43 "1011001010111111111011101111111111110111110111011111111111011111011101111111111101111101110111111111110111110111011111111111011111011101111111111101111101110111111111110111110111011111111111011111011101111111111101111101110111111111110111110111011111111111011111011101111111111101111110111111011110101111110111111011111101111011110111011110111111011111101111011111101111011111101111110111111011111111111110101111110111111011111101111110111111011111101111110111101111011101111110111111011111101111110111111011110111111011111101111110111111011111111111110111110111011111101111110111111011111101111111111101011111101111110111101111011110111110111011111101111011111111101111101110111111011110111111111011111101111111011011111101111110111101111011101111110111111011111101111110111111011111101111110111111011111101111011111111111110101111011111101111110111101111011111101111110111111011111101111110111111011110101111110111101111011110111110111111011110111101111110111111011111001010111111011111101111011110111101111011111".toList ("heap_39 heap_46 heap_1058 tree_47 tree_77 tree_99 tree_121 tree_143 tree_165 tree_187 tree_209 tree_231 tree_253 tree_275 tree_297 tree_338 tree_366 tree_446 tree_502 tree_593 tree_643 tree_674 tree_706 tree_753 tree_775 tree_866 tree_944 tree_1012 tree_1057 view_39 sts_49 sts_78 sts_100 sts_122 sts_144 sts_166 sts_188 sts_210 sts_232 sts_254 sts_276 sts_298 sts_339 sts_367 sts_447 sts_503 sts_594 sts_644 sts_675 sts_707 sts_754 sts_776 sts_867 sts_945 sts_1015 env_41".splitOn " "))).toArray
universe o
end PySem.W.Fast
open PySem PySem.W PyProof.Rows
set_option maxRecDepth 100000 in
set_option maxHeartbeats 0 in
theorem PySem.Challenge.cw_halvedpictures_k75_whole_noughts_of_risi_holds : PySem.Challenge.rw_halvedpictures_k75_whole_noughts_of_risi.Holds := by
 w_on;o_law;k_head;(case hw=>w_witness2)
 k_fill
 refine _k.walk (l:=PySem.Challenge.rw_halvedpictures_k75_whole_noughts_of_risi) rfl rfl (fun w h Y=>⟨PySem.W.km_in_of Y,PySem.W.km_tabs_of Y⟩) ?F
 case F=>
  intro w mg fa h KX G hmg
  refine' _k.all_mk KX G hmg ?aC_Field ?pg_Field ?hd_Field ?po_Field ?sa_Field ?mk_Field ?kc_Field ?aC_Guessed ?pg_Guessed ?hd_Guessed ?po_Guessed ?sa_Guessed ?mk_Guessed ?kc_Guessed ?in_Guessed ?aC_Halves ?pg_Halves ?hd_Halves ?po_Halves ?sa_Halves ?mk_Halves ?kc_Halves ?in_Halves ?aC_Leaning ?pg_Leaning ?hd_Leaning ?po_Leaning ?sa_Leaning ?mk_Leaning ?kc_Leaning ?in_Leaning ?aC_Plan ?pg_Plan ?hd_Plan ?po_Plan ?sa_Plan ?mk_Plan ?kc_Plan ?aC_Sums ?pg_Sums ?hd_Sums ?po_Sums ?sa_Sums ?mk_Sums ?kc_Sums ?in_Sums ?n_Field_grid ?n_Plan_chosen ?n_Plan_corners ?n_Plan_letters ?q_ALONG_PILLARS ?lk_ALONG_PILLARS ?q_ALONG_ROWS ?lk_ALONG_ROWS ?q_MARKS ?lk_MARKS ?kk_MARKS ?it_MARKS_sum ?it_MARKS_half ?it_MARKS_guess ?it_MARKS_lean ?y_bs ?y_is ?y_ns ?y_ss ?y_ls ?y_ts ?y_ds ?F0 ?F1 ?F2 ?F3 ?F4 ?F5 ?F6 ?F7 ?F8 ?F9 ?F10 ?F11 ?F12 ?F13 ?F14 ?F15 ?F16 ?F17 ?F18 ?F19 ?F20 ?F21 ?F22 ?F23 ?F24 ?F25 ?F26 ?F27 ?F28 ?F29 ?F30 ?F31 ?F32 ?F33 ?F34 ?F35 ?F36 ?F37 ?F38 ?F39 ?F40 ?F41 ?F42 ?F43 ?F44 ?F45 ?F46 ?F47 ?F48 ?F49 ?F50 ?F51 ?F52 ?F53 ?F54 ?F55 ?F56 ?F57 ?F58 ?F59 ?F60 ?F61 ?F62 ?F63 ?F64 ?F65 ?F66 ?F67 ?F68 ?F69 ?F70 ?F71 ?F72 ?a73 ?l73 ?c73 ?k73 ?k_hd_halved ?k_kp_halved ?F74 ?a75 ?l75 ?c75 ?k75 ?k_hd_coarse ?k_kp_coarse ?F76 ?F77 ?F78 ?F79 ?F80 ?F81 ?a82 ?l82 ?c82 ?k82 ?k_hd_inner ?k_kp_inner ?F83 ?F84 ?F85 ?F86 ?F87 ?F88 ?F89 ?F90 ?F91 ?F92 ?F93 ?e_Halves_halves ?e_Halves_back ?e_Halves_sums_of ?e_Halves_row_of ?e_Leaning_sum_of_pair ?e_Leaning_sum_of_lone ?e_Leaning_pair_of ?e_Leaning_lone_of ?e_Leaning_halves ?e_Leaning_back ?e_Leaning_sums_of ?e_Leaning_row_of ?e_Sums_halves ?e_Sums_back ?e_Sums_parted ?e_Sums_joined ?e_Sums_sums_of ?e_Sums_row_of ?e_Sums_sum_of_pair ?e_Sums_sum_of_lone ?e_Sums_pair_of ?e_Sums_lone_of ?q_MOST_HALVED ?q_MOST_NUMBER ?q_MOST_PLACES ?q_MOST_RISE ?q_MOST_SIDE ?q_MOST_VALUE ?oc_Field ?og_Field ?ot_Field ?ob_Field ?y_oo_Field ?y_ob_Field ?y_oi_Field ?y_on_Field ?y_os_Field ?y_ol_Field ?y_ot_Field ?y_od_Field ?z_all ?z_bool ?z_enumerate ?z_int ?z_isinstance ?z_len ?z_list ?z_max ?z_min ?z_range ?z_reversed ?z_str ?z_tuple ?z_zip ?y_bb ?y_bi ?y_bl ?y_bt ?y_ib ?y_ii ?y_il ?y_it ?y_nb ?y_ni ?y_nl ?y_nt ?y_sb ?y_si ?y_sl ?y_st ?y_lb ?y_li ?y_ll ?y_lt ?y_tb ?y_ti ?y_tl ?y_tt ?y_db ?y_di ?y_dl ?y_dt ?k_ne_halved_coarse ?k_ne_inner_coarse ?k_ne_inner_halved
  (case aC_Field | pg_Field | hd_Field | po_Field | sa_Field | mk_Field | kc_Field | aC_Guessed | pg_Guessed | hd_Guessed | po_Guessed | sa_Guessed=>k_is)
  (case mk_Guessed | kc_Guessed | in_Guessed | aC_Halves | pg_Halves | hd_Halves | po_Halves | sa_Halves | mk_Halves | kc_Halves | in_Halves | aC_Leaning=>k_is)
  (case pg_Leaning | hd_Leaning | po_Leaning | sa_Leaning | mk_Leaning | kc_Leaning | in_Leaning | aC_Plan | pg_Plan | hd_Plan | po_Plan | sa_Plan=>k_is)
  (case mk_Plan | kc_Plan | aC_Sums | pg_Sums | hd_Sums | po_Sums | sa_Sums | mk_Sums | kc_Sums | in_Sums | n_Field_grid | n_Plan_chosen=>k_is)
  (case n_Plan_corners | n_Plan_letters | q_ALONG_PILLARS | lk_ALONG_PILLARS | q_ALONG_ROWS | lk_ALONG_ROWS | q_MARKS | lk_MARKS=>k_is)
  (case kk_MARKS=>k_keys)
  (case it_MARKS_sum | it_MARKS_half | it_MARKS_guess | it_MARKS_lean=>k_is)
  (case y_bs | y_is | y_ns | y_ss | y_ls | y_ts | y_ds=>kit_is)
  (case F0 | F1 | F2 | F3 | F4 | F5 | F6 | F7 | F8 | F9 | F10 | F11=>walk_at "fk")
  (case F12 | F13 | F14 | F15 | F16 | F17 | F18 | F19 | F20 | F21 | F22 | F23=>walk_at "fk")
  (case F24 | F25 | F26 | F27 | F28 | F29 | F30 | F31 | F32 | F33 | F34 | F35=>walk_at "fk")
  (case F36 | F37 | F38 | F39 | F40 | F41 | F42 | F43 | F44 | F45 | F46 | F47=>walk_at "fk")
  (case F48 | F49 | F50 | F51 | F52 | F53 | F54 | F55 | F56 | F57 | F58 | F59=>walk_at "fk")
  (case F60 | F61 | F62 | F63 | F64 | F65 | F66 | F67 | F68 | F69 | F70 | F71=>walk_at "fk")
  (case F72=>walk_at "fk")
  (case a73 | l73 | c73 | k73=>k_is)
  (case k_hd_halved | k_kp_halved=>first | k_is | kernel_rfl)
  (case F74=>walk_at "fk")
  (case a75 | l75 | c75 | k75=>k_is)
  (case k_hd_coarse | k_kp_coarse=>first | k_is | kernel_rfl)
  (case F76 | F77 | F78 | F79 | F80 | F81=>walk_at "fk")
  (case a82 | l82 | c82 | k82=>k_is)
  (case k_hd_inner | k_kp_inner=>first | k_is | kernel_rfl)
  (case F83 | F84 | F85 | F86 | F87 | F88 | F89 | F90 | F91 | F92 | F93=>walk_at "fk")
  (case e_Halves_halves | e_Halves_back | e_Halves_sums_of | e_Halves_row_of | e_Leaning_sum_of_pair | e_Leaning_sum_of_lone | e_Leaning_pair_of | e_Leaning_lone_of | e_Leaning_halves | e_Leaning_back | e_Leaning_sums_of | e_Leaning_row_of=>k_is)
  (case e_Sums_halves | e_Sums_back | e_Sums_parted | e_Sums_joined | e_Sums_sums_of | e_Sums_row_of | e_Sums_sum_of_pair | e_Sums_sum_of_lone | e_Sums_pair_of | e_Sums_lone_of | q_MOST_HALVED | q_MOST_NUMBER=>k_is)
  (case q_MOST_PLACES | q_MOST_RISE | q_MOST_SIDE | q_MOST_VALUE | oc_Field | og_Field | ot_Field | ob_Field=>k_is)
  (case y_oo_Field | y_ob_Field | y_oi_Field | y_on_Field | y_os_Field | y_ol_Field | y_ot_Field | y_od_Field=>kit_is)
  (case z_all | z_bool | z_enumerate | z_int | z_isinstance | z_len | z_list | z_max | z_min | z_range | z_reversed | z_str=>k_is)
  (case z_tuple | z_zip=>k_is)
  (case y_bb | y_bi | y_bl | y_bt | y_ib | y_ii | y_il | y_it | y_nb | y_ni | y_nl | y_nt=>kit_is)
  (case y_sb | y_si | y_sl | y_st | y_lb | y_li | y_ll | y_lt | y_tb | y_ti | y_tl | y_tt=>kit_is)
  (case y_db | y_di | y_dl | y_dt=>kit_is)
  (case k_ne_halved_coarse | k_ne_inner_coarse | k_ne_inner_halved=>first | k_is | kernel_rfl)
