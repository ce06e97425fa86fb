import PyProof.Rows.All
import Wide.All
import OpenK.AllK
import Wide.FinOn
import Lean
import KE.KRevIter
import KE.KPairComp
import KE.KIntText
import PyProof.NsDelKeeps
import PyProof.NeKinds
import KE.KNestM
import KE.KLam
import OpenK.KTop
import PyProof.FactsAll.dict_1
import PyProof.FactsAll.subtypes_4
import PyProof.Rows.SetFrom
import PyProof.SetNew
import PyProof.SetRoads
import PyProof.Rows.SortRuns
import PyProof.Rows.SortIns
import PyProof.Rows.SortShell
import PyProof.Rows.SortWalk
import KE.KSortTup
import KE.KDictOf
import PyProof.AttrMissHeap
import KE.KRevIter
import PyProof.SeqI3
import PyProof.SliceList
import PyProof.ListIndex
import PyProof.SeqWrite
import PyProof.InstEq
import PyProof.EqAt
import PyProof.EqKinds
import PyProof.TupleCall
import PySem.Challenge.RW_halvedpictures_k71_two_fields_summed
set_option Elab.async false
set_option linter.all false
set_option maxRecDepth 100000
theorem wEX (h:True:=by rfl):True:=h
def wE:=wEX._auto_1
theorem wPX (h:True:=by decide):True:=h
def wP:=wPX._auto_1
theorem wTX (h:True:=by intro _;rfl):True:=h
def wT:=wTX._auto_1
abbrev Fg0:=PySem.W.Frag
abbrev Pn:=List (PySem.Addr×PySem.Obj)
abbrev VS:=PySem.Value->PySem.Shared->Prop
abbrev On:=List (Option Nat)
abbrev SV:=PySem.Str->Option PySem.Value
noncomputable abbrev LL0:=List (List Int)
noncomputable abbrev Li0:=List Int
abbrev La0:=List PySem.Addr
noncomputable abbrev Lv0:=List PySem.Value
noncomputable abbrev Ls0:=List PySem.Str
theorem lM0 {α β:Type}{as:List α}(f:α->β):(as.map f).length=as.length:=List.length_map f
theorem gE0 {α:Type}{l:List α}{i:Nat}(h:i<l.length):l[i]?=some l[i]:=List.getElem?_eq_getElem h
theorem gS0 {α:Type}{l:List α}{i:Nat}{a:α}(h:l[i]?=some a):∃h:i<l.length,l[i]=a:=List.getElem?_eq_some_iff.mp h
set_option bootstrap.genMatcherCode false
set_option compiler.extract_closed false
set_option genSizeOf false
variable {u:PySem.Value}{a:PySem.Addr}{P:PySem.Program}{w:PySem.World}{h h':PySem.Heap}{g':Array PySem.GenState}{t' i:Nat}{d':PySem.Drawn}{ch:La0}{M:PySem.Model}{A:PySem.Around}{E:VS}
namespace L2
open PySem PySem.Spec PyProof.Rows
abbrev Key:=Sum Int Str
noncomputable def Du:Key->Value->Bool
 | .inl k,v=>Value.isInt k v
 | .inr x,v=>Value.isStrOf x v
noncomputable def ND (w:World):Key->Int
 | .inl k=>hashInt k
 | .inr x=>hashStr w x
theorem bQ:∀ {k:Key} {v:Value},Du k v=true->(∃ i t,k=Sum.inl i/\v=Value.int i t)\/(∃ x t,k=Sum.inr x/\v=Value.str x t)
 | .inl i,v,h=>by
  obtain⟨t,e⟩:=Value.isInt_shape (k:=i) (v:=v) h;exact .inl ⟨i,t,rfl,e⟩
 | .inr x,v,h=>by
  obtain⟨t,e⟩:=Value.isStrOf_shape (x:=x) (v:=v) h;exact .inr ⟨x,t,rfl,e⟩
theorem JG(a b:Int):decide ((Sum.inl a:Key)=Sum.inl b)=(a == b):=by
 by_cases e:a=b
 ·subst e;simp
 ·have h:¬ (Sum.inl a:Key)=Sum.inl b:=fun q=>e (Sum.inl.inj q);rw[decide_eq_false h];exact(beq_eq_false_iff_ne.mpr e).symm
theorem JD(a b:Str):decide ((Sum.inr a:Key)=Sum.inr b)=decide (a=b):=by
 by_cases e:a=b
 ·subst e;simp
 ·have h:¬ (Sum.inr a:Key)=Sum.inr b:=fun q=>e (Sum.inr.inj q);rw[decide_eq_false h,decide_eq_false e]
theorem JF(a:Int)(b:Str):decide ((Sum.inl a:Key)=Sum.inr b)=false:=decide_eq_false (fun q=>nomatch q)
theorem JE(a:Str)(b:Int):decide ((Sum.inr a:Key)=Sum.inl b)=false:=decide_eq_false (fun q=>nomatch q)
noncomputable def qG (prog:Program) (w:World):PySem.KeyKind prog w Key where
 is:=Du
 hash:=ND w
 inj:=fun v a b ha hb=>by
  rcases bQ ha with ⟨i,t,rfl,rfl⟩ | ⟨x,t,rfl,rfl⟩
  ·rcases bQ hb with ⟨j,u,rfl,e⟩ | ⟨y,u,rfl,e⟩
   ·injection e with e1 _;rw[e1]
   ·exact nomatch e
  ·rcases bQ hb with ⟨j,u,rfl,e⟩ | ⟨y,u,rfl,e⟩
   ·exact nomatch e
   ·injection e with e1 _;rw[e1]
 byValue:=fun k v h=>by
  rcases bQ h with ⟨i,t,rfl,rfl⟩ | ⟨x,t,rfl,rfl⟩ <;> rfl
 pyHash:=fun hv h=>by
  rcases bQ hv with ⟨i,t,rfl,rfl⟩ | ⟨x,t,rfl,rfl⟩
  ·exact wpAny_pyHash_int h
  ·exact wpAny_pyHash_str h
 eqBool:=fun hu hv h=>by
  rcases bQ hu with ⟨i,t,rfl,rfl⟩ | ⟨x,t,rfl,rfl⟩
  ·rcases bQ hv with ⟨j,u,rfl,rfl⟩ | ⟨y,u,rfl,rfl⟩
   ·rw[JG] at h;exact wpAny_eqBool_int h
   ·rw[JF] at h;exact SeqAt.EqAt.int_str i t y u _ _ _ _ h
  ·rcases bQ hv with ⟨j,u,rfl,rfl⟩ | ⟨y,u,rfl,rfl⟩
   ·rw[JE] at h;exact SeqAt.EqAt.str_int x t j u _ _ _ _ h
   ·rw[JD] at h;exact wpAny_eqBool_str h
 «strs»:=fun k x t v h=>by
  rcases bQ h with ⟨i,u,rfl,e⟩ | ⟨y,u,rfl,e⟩
  ·exact nomatch e
  ·injection e with e1 _
   subst e1;cases v <;> rfl
inductive V where
 | non | bl (b:Bool) | int (i:Int) | str (x:Str) | byt (b:Array UInt8) | flt (b:UInt64) | ref (a:Addr) | ty (n:String)
 deriving DecidableEq
noncomputable def RelV:V->Value->Prop
 | .non,u=>u=Value.none
 | .bl b,u=>u=Value.bool b
 | .int i,u=>∃ t,u=Value.int i t
 | .str x,u=>∃ t,u=Value.str x t
 | .byt b,u=>∃ t,u=Value.bytes b t
 | .flt b,u=>∃ t,u=Value.float b t
 | .ref a,u=>u=Value.ref a
 | .ty n,u=>u=Value.type n
noncomputable abbrev Vals:List V->Lv0->Prop:=Paired RelV
theorem Vals.length{xs:List V}{us:Lv0}(r:Vals xs us):xs.length=us.length:=Paired.length r
theorem Vals.get:∀ {xs:List V} {us:Lv0} {i:Nat} {x:V},Vals xs us->xs[i]?=some x->∃ u,us[i]?=some u/\RelV x u
 | _,_,_,_,.nil,e=>by simp at e
 | _,_,0,_,.cons r _,e=>by simp at e;subst e;exact⟨_,rfl,r⟩
 | _,_,i + 1,x,.cons _ t,e=>by
  obtain⟨u,h1,h2⟩:=Vals.get (i:=i) (x:=x) t (by simpa using e);exact⟨u,by simpa using h1,h2⟩
theorem Vals.set{x:V}(r:RelV x u):∀ {xs:List V} {us:Lv0} (i:Nat),Vals xs us->Vals (xs.set i x) (us.set i u)
 | _,_,_,.nil=>.nil
 | _,_,0,.cons _ t=>.cons r t
 | _,_,i + 1,.cons q t=>.cons q (Vals.set r i t)
theorem Vals.append:∀ {xs ys:List V} {us ws:Lv0},Vals xs us->Vals ys ws->Vals (xs++ys) (us++ws)
 | _,_,_,_,.nil,s=>s
 | _,_,_,_,.cons r t,s=>.cons r (Vals.append t s)
theorem Vals.take:∀ {xs:List V} {us:Lv0} (n:Nat),Vals xs us->Vals (xs.take n) (us.take n)
 | _,_,0,_=>.nil
 | _,_,_ + 1,.nil=>.nil
 | _,_,n + 1,.cons r t=>.cons r (Vals.take n t)
theorem Vals.drop:∀ {xs:List V} {us:Lv0} (n:Nat),Vals xs us->Vals (xs.drop n) (us.drop n)
 | _,_,0,r=>r
 | _,_,_ + 1,.nil=>.nil
 | _,_,n + 1,.cons _ t=>Vals.drop n t
theorem Vals.none_of:∀ {xs:List V} {us:Lv0} {i:Nat},Vals xs us->xs[i]?=none->us[i]?=none:=fun {xs us i} r e=>by
 have h1:=r.length;have h2:xs.length<=i:=List.getElem?_eq_none_iff.mp e;exact List.getElem?_eq_none_iff.mpr (by lia)
noncomputable def lU:Option V->Option Value->Prop
 | some v,some u=>RelV v u
 | none,none=>True
 | _,_=>False
noncomputable def KV {κ:Type}:List (κ×V)->List (κ×Value)->Prop:=Paired fun (p:κ×V) (q:κ×Value)=>p.1=q.1/\RelV p.2 q.2
noncomputable def kV:Key->V
 | .inl i=>.int i
 | .inr x=>.str x
set_option genInjectivity false in
inductive HO where
 | lst (xs:List V)
 | tup (xs:List V)
 | dK (kvs:List (Key×V)) | dT (kvs:List (List Key×V))
 | set (S:Int->Bool) (n:Nat)
 | ins (C dx:Addr) (fs:List (Str×V))
 | own (x:Addr)
 | xd (fs:List (Str×V))
 | met (f x:Addr)
 | rng (lo hi:Int)
 | frz (o:Obj) (u:HO)
 | tbl (ps:Array Value)
 | ext (φ:Heap->Prop)
 | cod (c:Addr) (q:Str)
abbrev Hp:=Addr->Option HO
def qg (H:Hp) (v:Value) (q:Str):Prop:=∃ c oc vs t φ,v=.ref c/\H c=some (.frz oc (.ext φ))/\oc.data=.fields vs/\vs[1]?=some (.str q t)
theorem qg.mono{H H':Hp}{v:Value}{q:Str}(x:qg H v q)(hf:∀ b o φ,H b=some (.frz o (.ext φ))->H' b=some (.frz o (.ext φ))):qg H' v q:=
 let ⟨c,oc,vs,t,φ,a,b,d⟩:=x;⟨c,oc,vs,t,φ,a,hf _ _ _ b,d⟩
noncomputable def upd (H:Hp) (a:Addr) (o:HO):Hp:=fun b=>if b=a then some o else H b
theorem ar{H:Hp}{o:HO}:upd H a o a=some o:=by unfold upd;rw[if_pos rfl]
theorem ah{H:Hp}{b:Addr}{o:HO}(h:b≠a):upd H a o b=H b:=by unfold upd;rw[if_neg h]
theorem uk{H:Hp}{b:Addr}{o u:HO}(h:H a=some o)(h':H b=some u)(d:o≠u):a≠b:=by
 intro e;subst e;rw[h] at h';exact d (Option.some.inj h')
theorem aJ{H:Hp}{b:Addr}{o:HO}(h:H a=some o)(h':H b=none):a≠b:=by
 intro e;subst e;rw[h] at h';cases h'
section
variable (P:Program)(w:World)
noncomputable def b9 (H:Hp) (h:Heap) (a:Addr):HO->Prop
 | .lst xs=>xs.length<=sizeLine/\∃ (its:Lv0) (n:Nat),Vals xs its/\h.get? a=some { cls:=.type "list",data:=.seq its.toArray n }
 | .tup xs=>xs.length<=sizeLine/\∃ its:Lv0,Vals xs its/\IsTup h a its.toArray
 | .dK kvs=>kvs.length<=sizeLine/\(a == sysModules)=false/\∃ vs,KV kvs vs/\h.DictOf (qG P w) a vs
 | .dT kvs=>kvs.length<=sizeLine/\(a == sysModules)=false/\∃ xs:List (List Key×Addr×Value),
   Paired (fun (p:List Key×V) (q:List Key×Addr×Value)=>p.1=q.1/\H q.2.1=some (.tup (p.1.map kV))/\RelV p.2 q.2.2) kvs xs/\
   ∃ o es ep,h.get? a=some o/\o.ExactDict/\o.data=.dict es ep/\es.toList=xs.map (entryOfKey (tupleKind (qG P w)))/\(xs.map (·.1)).Nodup
 | .set S n=>h.SetOf (intKind P w) a S n
 | .ins C dx fs=>H dx=some (.own a)/\fs.length<=1000/\dx≠a/\h.get? a=some (PySem.W.instObj C dx)/\
   ∃ mA,h.Ns1 dx mA/\(∀ f,lU (fs.lookup f) (mA f))/\PySem.Within mA (fs.map (·.1))
 | .own _=>∃ o,h.get? a=some o
 | .xd fs=>∃ mA,h.Ns1 a mA/\∀ f,lU (fs.lookup f) (mA f)
 | .rng lo hi=>∃ t u v,h.get? a=some { cls:=.type "range",data:=.fields #[.int lo t,.int hi u,.int 1 v] }
 | .frz o u=>h.get? a=some o/\b9 H h a u
 | .tbl ps=>∃ q t qs,ps[0]?=some (Value.str q t)/\h.get? a=some { cls:=.none,data:=.fields qs }/\TriplesOk qs.toList/\∀ pos v,codeAmong pos qs.toList=some v->qg H v q
 | .cod c q=>(∃ o,h.get? a=some o)/\qg H (.ref c) q
 | .met f x=>h.get? a=some (PySem.W.methodObj (.ref f) (.ref x))
 | .ext φ=>φ h/\(∃ o,h.get? a=some o)/\∀ h1 h2:Heap,φ h1->(∀ o,h1.get? a=some o->h2.get? a=some o)->φ h2
def HOk (H:Hp) (h:Heap):Prop:=∀ a o,H a=some o->b9 P w H h a o
end
section
variable {H H':Hp}{o:HO}
theorem b9.lt(x:b9 P w H h a o):a < h.objs.size:=by
 cases o with
 | lst xs=>obtain⟨_,_,_,_,e⟩:=x;exact Heap.lt_size e
 | tup xs=>obtain⟨_,_,_,p⟩:=x;exact p.lt
 | dK kvs=>obtain⟨_,_,_,_,o,_,_,e,_⟩:=x;exact Heap.lt_size e
 | dT kvs=>obtain⟨_,_,_,_,o,_,_,e,_⟩:=x;exact Heap.lt_size e
 | set S n=>obtain⟨o,_,_,_,e,_⟩:=x;exact Heap.lt_size e
 | ins C dx fs=>obtain⟨_,_,_,e,_⟩:=x;exact Heap.lt_size e
 | own y=>obtain⟨_,e⟩:=x;exact Heap.lt_size e
 | xd fs=>obtain⟨_,⟨_,_,_,e,_⟩,_⟩:=x;exact Heap.lt_size e
 | rng lo hi=>obtain⟨_,_,_,e⟩:=x;exact Heap.lt_size e
 | frz ob u=>obtain⟨e,_⟩:=x;exact Heap.lt_size e
 | tbl ps=>obtain⟨_,_,_,_,e,_⟩:=x;exact Heap.lt_size e
 | cod c q=>obtain⟨⟨_,e⟩,_⟩:=x;exact Heap.lt_size e
 | met f y=>exact Heap.lt_size (show h.get? a=some _ from x)
 | ext φ=>obtain⟨_,⟨_,e⟩,_⟩:=x;exact Heap.lt_size e
theorem Paired.LY{α β:Type}{F G:α->β->Prop}:∀ {l₁:List α} {l₂:List β},Paired F l₁ l₂->(∀ a b,F a b->G a b)->Paired G l₁ l₂
 | _,_,.nil,_=>.nil
 | _,_,.cons r t,f=>.cons (f _ _ r) (Paired.LY t f)
theorem b9.lK(x:b9 P w H h a o)(k:∀ b u,(b=a\/H b=some (.own a))->h.get? b=some u->h'.get? b=some u)(ho:∀ b,H b=some (.own a)->H' b=some (.own a))(ht:∀ b xs,H b=some (.tup xs)->H' b=some (.tup xs))(hf:∀ b o φ,H b=some (.frz o (.ext φ))->H' b=some (.frz o (.ext φ)):=by first | exact fun _ _ _ q=>q | (intro c o u q;rw[_root_.L2.ah (_root_.L2.aJ q (by assumption))];exact q)):b9 P w H' h' a o:=by
 induction o with
 | lst xs=>obtain⟨z,its,n,r,e⟩:=x;exact⟨z,its,n,r,k _ _ (.inl rfl) e⟩
 | tup xs=>obtain⟨z,its,r,ob,e,c⟩:=x;exact⟨z,its,r,ob,k _ _ (.inl rfl) e,c⟩
 | dK kvs=>obtain⟨z,y,vs,r,ob,es,ep,e,c⟩:=x;exact⟨z,y,vs,r,ob,es,ep,k _ _ (.inl rfl) e,c⟩
 | dT kvs=>
  obtain⟨z,y,xs,r,ob,es,ep,e,c⟩:=x;exact⟨z,y,xs,Paired.LY r fun p q z=>⟨z.1,ht _ _ z.2.1,z.2.2⟩,ob,es,ep,k _ _ (.inl rfl) e,c⟩
 | set S n=>obtain⟨ob,es,ep,t,e,c⟩:=x;exact⟨ob,es,ep,t,k _ _ (.inl rfl) e,c⟩
 | ins C dx fs=>
  obtain⟨d,z,ne,e,mA,⟨od,es,ep,e2,c⟩,r⟩:=x;exact⟨ho _ d,z,ne,k _ _ (.inl rfl) e,mA,⟨od,es,ep,k _ _ (.inr d) e2,c⟩,r⟩
 | own y=>obtain⟨ob,e⟩:=x;exact⟨ob,k _ _ (.inl rfl) e⟩
 | xd fs=>obtain⟨mA,⟨od,es,ep,e,c⟩,r⟩:=x;exact⟨mA,⟨od,es,ep,k _ _ (.inl rfl) e,c⟩,r⟩
 | rng lo hi=>obtain⟨t,u,v,e⟩:=x;exact⟨t,u,v,k _ _ (.inl rfl) e⟩
 | frz ob u ih=>obtain⟨e,q⟩:=x;exact⟨k _ _ (.inl rfl) e,ih q⟩
 | tbl ps=>obtain⟨q,t,qs,e1,e2,e3,e4⟩:=x;exact⟨q,t,qs,e1,k a _ (.inl rfl) e2,e3,fun p v r=>(e4 p v r).mono hf⟩
 | cod c q=>obtain⟨⟨u,e⟩,y⟩:=x;exact⟨⟨u,k a _ (.inl rfl) e⟩,y.mono hf⟩
 | met f y=>
  have e:h.get? a=some (PySem.W.methodObj (.ref f) (.ref y)):=x;show h'.get? a=some (PySem.W.methodObj (.ref f) (.ref y));exact k a _ (.inl rfl) e
 | ext φ=>obtain⟨p,⟨o,e⟩,st⟩:=x;exact⟨st _ _ p fun o q=>k _ _ (.inl rfl) q,⟨o,k _ _ (.inl rfl) e⟩,st⟩
theorem HOk.lt(x:HOk P w H h)(e:H a=some o):a < h.objs.size:=(x a o e).lt
theorem HOk.fresh(x:HOk P w H h)(e:h.objs.size<=a):H a=none:=by
 cases q:H a with
 | none=>rfl
 | some u=>exact absurd (Nat.lt_of_lt_of_le (x.lt q) e) (Nat.lt_irrefl _)
theorem HOk.kept(x:HOk P w H h)(k:∀ b u,h.get? b=some u->h'.get? b=some u):HOk P w H h':=fun a o e=>
 (x a o e).lK (fun b u _ q=>k b u q) (fun _ q=>q) fun _ _ q=>q
theorem HOk.laid(x:HOk P w H h)(k:∀ b u,h.get? b=some u->h'.get? b=some u)(hp:h.objs.size<=a)(new:b9 P w (upd H a o) h' a o):HOk P w (upd H a o) h':=fun b u e=>by
 have hn:=x.fresh hp;by_cases hb:b=a
 ·subst hb;rw[ar] at e;cases e;exact new
 ·rw[ah hb] at e;exact(x b u e).lK (fun c v _ q=>k c v q) (fun c q=>by rw[ah (aJ q hn)];exact q) fun c xs q=>by rw[ah (aJ q hn)];exact q
end
def Rd (H:Hp) (a:Addr) (u:HO):Prop:=H a=some u\/∃ o,H a=some (.frz o u)
theorem Rd.ok{H:Hp}{u:HO}(r:Rd H a u)(x:HOk P w H h):b9 P w H h a u:=by
 rcases r with r | ⟨o,r⟩
 ·exact x a u r
 ·obtain⟨_,q⟩:=x a _ r;exact q
noncomputable def Mut:Option HO->Prop
 | some (.lst _)=>True
 | some (.dK _)=>True
 | some (.dT _)=>True
 | some (.set _ _)=>True
 | some (.ins _ _ _)=>True
 | some (.ext _)=>True
 | _=>False
section
variable {H:Hp}{x e:Addr}{o':HO}
theorem HOk.write(ok:HOk P w H h)(mu:Mut (H x))(he:e=x\/H e=some (.own x))(k:∀ b u,b≠e->h.get? b=some u->h'.get? b=some u)(heo:∃ u,h'.get? e=some u)(new:b9 P w (upd H x o') h' x o'):HOk P w (upd H x o') h':=fun b u q=>by
 have nown:∀ c y,H c=some (.own y)->c≠x:=fun c y r z=>by subst z;rw[r] at mu;exact mu
 have ntup:∀ c xs,H c=some (.tup xs)->c≠x:=fun c xs r z=>by subst z;rw[r] at mu;exact mu
 by_cases hb:b=x
 ·subst hb;rw[ar] at q;cases q;exact new
 ·rw[ah hb] at q;by_cases hbe:b=e
  ·have q':H b=some (.own x):=by
    rcases he with z | z
    ·exact absurd (hbe.trans z) hb
    ·rw[hbe];exact z
   rw[q] at q';cases q';obtain⟨v,hv⟩:=heo;exact⟨v,by rw[hbe];exact hv⟩
  ·refine(ok b u q).lK (fun c v hc r=>k c v ?_ r) (fun c r=>by rw[ah (nown c b r)];exact r) (fun c xs r=>by rw[ah (ntup c xs r)];exact r) fun c o φ r=>by rw[ah (fun z=>by subst z;rw[r] at mu;exact mu)];exact r
   rcases hc with rfl | hc
   ·exact hbe
   ·rintro rfl;rcases he with z | z
    ·exact nown c b hc z
    ·rw[hc] at z;cases z;exact hb rfl
end
structure Un (fs ex:La0) (H H':Hp) (h h':Heap):Prop where
 keep:∀ b o,h.get? b=some o->H b=none->b∉fs->b∉ex->h'.get? b=some o
 slot:∀ b o,h.get? b=some o->H b=none->b∈fs->b∉ex->∃ sl,h'.get? b=some { o with slots:=sl }
 free:∀ b o,h.get? b=some o->H b=none->b∉ex->H' b=none
 there:∀ b o,h.get? b=some o->b∉ex->∃ o',h'.get? b=some o'
 tups:∀ b xs,H b=some (.tup xs)->H' b=some (.tup xs)
 i7:∀ b o u,H b=some (.frz o u)->H' b=some (.frz o u)
 tbls:∀ b ps,H b=some (.tbl ps)->∃ more,H' b=some (.tbl (ps++more))
section
variable {fs fs' ex ex':La0}{H H1 H2:Hp}{h1 h2:Heap}{x e:Addr}{o:HO}
theorem Un.any(u:Un fs ex H H1 h h1){b:Addr}{ob:Obj}(q:h.get? b=some ob)(n:H b=none)(hx:b∉ex):∃ sl,h1.get? b=some { ob with slots:=sl }:=by
 by_cases hb:b∈fs
 ·exact u.slot b ob q n hb hx
 ·exact⟨ob.slots,u.keep b ob q n hb hx⟩
theorem Un.kept(k:∀ b u,h.get? b=some u->h'.get? b=some u):Un fs ex H H h h':=
 ⟨fun b ob q _ _ _=>k b ob q,fun b ob q _ _ _=>⟨ob.slots,k b ob q⟩,fun _ _ _ n _=>n,fun b ob q _=>⟨ob,k b ob q⟩,fun _ _ q=>q,fun _ _ _ q=>q,fun _ ps q=>⟨#[],by rw[q];simp⟩⟩
theorem Un.refl:Un fs ex H H h h:=Un.kept fun _ _ q=>q
theorem Un.laid(k:∀ b u,h.get? b=some u->h'.get? b=some u)(hp:h.objs.size<=a)(hn:H a=none):Un fs ex H (upd H a o) h h' where
 keep:=fun b u q _ _ _=>k b u q
 slot:=fun b u q _ _ _=>⟨u.slots,k b u q⟩
 free:=fun b u q n _=>by rw[ah (Nat.ne_of_lt (Nat.lt_of_lt_of_le (Heap.lt_size q) hp))];exact n
 there:=fun b u q _=>⟨u,k b u q⟩
 tups:=fun b xs q=>by rw[ah (aJ q hn)];exact q
 i7:=fun b u xs q=>by rw[ah (aJ q hn)];exact q
 tbls:=fun b ps q=>⟨#[],by rw[ah (aJ q hn),q];simp⟩
theorem Un.write(mu:Mut (H x))(he:e=x\/H e=some (.own x))(k:∀ b u,b≠e->h.get? b=some u->h'.get? b=some u)(heo:∃ u,h'.get? e=some u):Un fs ex H (upd H x o) h h':=by
 have hx:∀ b,H b=none->b≠x:=fun b n z=>by subst z;rw[n] at mu;exact mu
 have hb:∀ b,H b=none->b≠e:=fun b n z=>by
  subst z;rcases he with r | r
  ·exact hx b n r
  ·rw[n] at r;cases r
 have hm:∀ b u,H b=some u->¬ Mut (some u)->b≠x:=fun b u q nm z=>by subst z;rw[q] at mu;exact nm mu
 refine⟨fun b u q n _ _=>k b u (hb b n) q,fun b u q n _ _=>⟨u.slots,k b u (hb b n) q⟩,fun b u q n _=>by rw[ah (hx b n)];exact n,fun b u q _=>?_,
  fun b xs q=>by rw[ah (hm b _ q fun z=>z)];exact q,fun b u xs q=>by rw[ah (hm b _ q fun z=>z)];exact q,fun b ps q=>⟨#[],by rw[ah (hm b _ q fun z=>z),q];simp⟩⟩
 by_cases hbe:b=e
 ·subst hbe;exact heo
 ·exact⟨u,k b u hbe q⟩
end
noncomputable def GQ (g h:Heap) (L:Addr):Pn:=(List.range h.objs.size).filterMap fun a=>if a=L\/(g.get? a).isSome=true then none else (h.get? a).map fun o=>(a,o)
noncomputable def rest (g h:Heap) (L d:Addr):Pn:=(GQ g h L).filter fun p=>decide (p.1≠d)
structure Mod (K:Fg0) (mg:SV) (base:Heap):Prop where
 kin:K.In base
 glob:base.Ns mainGlobals mg
 blt:∃ mb,base.Ns builtinsNs mb/\∀ x:Str,x≠"__name__"->mb x=bootBuiltins x
 nolimit:base.NoLimit
 bm:∃ bm ob,mg "__builtins__"=some (.ref bm)/\bm≠builtinsNs/\base.get? bm=some ob/\ob.cls=.type "module"/\ob.dict=some builtinsNs/\ob.data=.plain
set_option genInjectivity false in
structure Cx where
 prog:Program
 w:World
 K:Fg0
 mg:Str->Option Value
 base:Heap
 A:Around
 N:Ls0
 s₀:Shared
 H₀:Hp
 env:Env
 outer:List Env
 stack:List Env
 ex:La0
 fn:Str->Bool
 calm:Bool
 pn:Pn
 xe:Value->Shared->Prop
noncomputable def frs (l:List Env):La0:=l.filterMap (·.frame)
noncomputable abbrev Cx.fs (X:Cx):La0:=frs X.outer
def Vis (sc:Scope) (x:Str):Prop:=sc.names.lookup x=some .local\/sc.names.lookup x=some .cell\/sc.names.lookup x=some .free
def Loc (sc:Scope) (x:Str):Prop:=sc.names.lookup x=some .local\/sc.names.lookup x=some .cell
def Look (env:Env) (h:Heap) (m:SV) (x:Str) (u:Value):Prop:=
 (env.kindOf x=some .local/\m x=some u)\/((env.kindOf x=some .cell\/env.kindOf x=some .free)/\∃ c,env.cells.lookup x=some c/\h.IsCell c (some u))
def Kpt (H:Hp) (b:Addr) (o:Obj):Prop:=H b=none\/((∃ u,H b=some (.frz o u))/\∀ v,o.data≠.cell v)
def k9 (base:Heap) (P:Addr) (q:Str):Prop:=base.objs[P]?=some { cls:=.str q 0,data:=.freed }
def TabsAt (base:Heap) (H:Hp):Prop:=∀ P q,k9 base P q->∃ ps t,H P=some (.tbl ps)/\ps[0]?=some (.str q t)
structure Cx.Ok (X:Cx):Prop where
 mod:Mod X.K X.mg X.base
 kind:X.env.scope.kind=.function
 glob:X.env.globals=mainGlobals
 blt:X.env.builtins=builtinsNs
 above:X.s₀.heap.objs.size<=X.env.locals
 inj:∀ x y c,X.env.cells.lookup x=some c->X.env.cells.lookup y=some c->x=y
 has:∀ x,(X.env.kindOf x=some .cell\/X.env.kindOf x=some .free)->∃ c,X.env.cells.lookup x=some c
 cab:∀ x c,X.fn x=true->X.env.cells.lookup x=some c->X.s₀.heap.objs.size<=c
 hd:X.calm=true->X.A.handled=none
 frames:X.A.frames=some X.stack
 stk:X.stack=X.outer\/(X.stack=X.env::X.outer/\X.env.frame=some X.env.locals)
 exf:∀ b∈X.ex,b≠X.env.locals/\∀ x c,X.env.cells.lookup x=some c->c≠b
 bs:∀ b o,X.base.get? b=some o->X.s₀.heap.get? b=some o/\Kpt X.H₀ b o
 bsz:X.base.objs.size<=X.s₀.heap.objs.size
 noex:∀ b o,X.base.get? b=some o->b∉X.ex
 exfs:∀ b∈X.ex,b∉X.fs
 i6:X.s₀.heap.FunFrames X.base X.outer
 frf:∀ b∈X.fs,X.H₀ b=none
 tb:TabsAt X.base X.H₀
structure Inv (X:Cx) (pins:Pn) (σ:List (Option V)) (H:Hp) (s:Shared):Prop where
 ok:X.Ok
 os:s.os=X.s₀.os
 bare:AllBare s.gens
 base:Un X.fs X.ex X.H₀ H X.s₀.heap s.heap
 loc:∃ m,s.heap.Ns X.env.locals m/\∀ (i:Nat) (x:Str) (v:V),X.N[i]?=some x->σ[i]?=some (some v)->Vis X.env.scope x->∃ u,RelV v u/\Look X.env s.heap m x u
 cell:∀ x c,X.env.cells.lookup x=some c->∃ v,s.heap.IsCell c v
 free:H X.env.locals=none
 freeC:∀ x c,X.env.cells.lookup x=some c->H c=none
 pin:∀ p∈X.pn++pins,s.heap.get? p.1=some p.2/\H p.1=none/\p.1≠X.env.locals/\p.1∉X.fs/\∀ v,p.2.data≠.cell v
 hok:HOk X.prog X.w H s.heap
 len:σ.length=X.N.length
section
variable {X:Cx}{pins:Pn}{σ:List (Option V)}{H H':Hp}{s:Shared}
theorem Cx.Ok.Nr(ok:X.Ok){b:Addr}{o:Obj}(e:X.base.get? b=some o):b∉X.fs:=fun hb=>by
 have:=(ok.i6.mem hb).1;rw[e] at this;cases this
theorem Inv.bs(I:Inv X pins σ H s):∀ b o,X.base.get? b=some o->s.heap.get? b=some o/\Kpt H b o:=fun b o e=>by
 obtain⟨h1,h2 | ⟨⟨u,h2⟩,h3⟩⟩:=I.ok.bs b o e
 ·exact⟨I.base.keep b o h1 h2 (I.ok.Nr e) (I.ok.noex b o e),.inl (I.base.free b o h1 h2 (I.ok.noex b o e))⟩
 ·have q:=I.base.i7 b o u h2;obtain⟨z,_⟩:=I.hok b _ q;exact⟨z,.inr ⟨⟨u,q⟩,h3⟩⟩
theorem TabsAt.un{base:Heap}{fs ex:La0}{H H':Hp}(x:TabsAt base H)(u:Un fs ex H H' h h'):TabsAt base H':=fun P q r=>by
 obtain⟨ps,t,e1,e2⟩:=x P q r;obtain⟨m,e3⟩:=u.tbls P ps e1;exact⟨_,t,e3,by rw[Array.getElem?_append_left (by obtain⟨z,_⟩:=Array.getElem?_eq_some_iff.mp e2;exact z)];exact e2⟩
theorem Inv.tb(I:Inv X pins σ H s):TabsAt X.base H:=I.ok.tb.un I.base
theorem Inv.bk(I:Inv X pins σ H s):∀ b o,X.base.get? b=some o->s.heap.get? b=some o:=fun b o e=>(I.bs b o e).1
theorem Inv.mod(I:Inv X pins σ H s):Mod X.K X.mg X.base:=I.ok.mod
theorem Inv.kIn(I:Inv X pins σ H s):X.K.In s.heap:=I.ok.mod.kin.keeps I.bk
theorem Inv.lt(I:Inv X pins σ H s):X.env.locals < s.heap.objs.size:=let ⟨_,hn,_⟩:=I.loc;hn.lt
theorem Inv.sz(I:Inv X pins σ H s):X.s₀.heap.objs.size<=s.heap.objs.size:=Nat.le_trans I.ok.above (Nat.le_of_lt I.lt)
theorem Inv.Nq(I:Inv X pins σ H s)(h:s.heap.objs.size<=a):a∉X.fs:=fun hb=>by
 obtain⟨_,o,ho,_⟩:=I.ok.i6.mem hb;exact absurd (Nat.lt_of_lt_of_le (Heap.lt_size ho) (Nat.le_trans I.sz h)) (Nat.lt_irrefl _)
theorem Inv.cne(I:Inv X pins σ H s):∀ x c,X.env.cells.lookup x=some c->c≠X.env.locals:=fun x c e z=>by
 obtain⟨v,o,ho,hd⟩:=I.cell x c e;obtain⟨m,⟨o',es,ep,ho',hd',_⟩,_⟩:=I.loc;rw[z,ho'] at ho;cases ho;rw[hd'] at hd;cases hd
theorem Inv.i6(I:Inv X pins σ H s):s.heap.FunFrames X.base X.outer:=by
 have all:∀ (l:List Env),(∀ b∈frs l,b∈X.fs)->X.s₀.heap.FunFrames X.base l->s.heap.FunFrames X.base l:=by
  intro l
  induction l with
  | nil=>intro _ _;trivial
  | cons env r ih=>
   intro hs hl;obtain⟨hk,⟨L,o,hf,hn,ho,hd⟩,hr⟩:=hl;have hL:L∈X.fs:=hs L (by unfold frs;rw[List.filterMap_cons,hf];exact List.mem_cons_self);obtain⟨sl,e⟩:=I.base.slot L o ho (I.ok.frf L hL) hL fun z=>I.ok.exfs L z hL;exact⟨hk,⟨L,_,hf,hn,e,hd⟩,ih (fun b hb=>hs b (by unfold frs;rw[List.filterMap_cons,hf];exact List.mem_cons_of_mem _ hb)) hr⟩
 exact all X.outer (fun _ hb=>hb) I.ok.i6
theorem Inv.stack(I:Inv X pins σ H s):s.heap.FunFrames X.base X.stack:=by
 rcases I.ok.stk with e | ⟨e,hf⟩
 ·rw[e];exact I.i6
 ·rw[e];obtain⟨m,hn,_⟩:=I.loc;refine .cons (by rw[I.ok.kind];decide) hf hn ?_ I.i6;exact Heap.get?_none_of_le (Nat.le_trans I.ok.bsz I.ok.above)
theorem Inv.qU(I:Inv X pins σ H s):∀ b∈frs X.stack,b∈X.env.locals::X.fs:=fun b hb=>by
 rcases I.ok.stk with e | ⟨e,hf⟩
 ·rw[e] at hb;exact List.mem_cons_of_mem _ hb
 ·rw[e] at hb;unfold frs at hb;rw[List.filterMap_cons,hf] at hb;exact hb
theorem Inv.nk(I:Inv X pins σ H s):∀ b∈frs X.stack,H b=none:=fun b hb=>by
 rcases List.mem_cons.mp (I.qU b hb) with e | hb
 ·rw[e];exact I.free
 ·obtain⟨_,o,ho,_⟩:=I.ok.i6.mem hb;exact I.base.free b o ho (I.ok.frf b hb) fun z=>I.ok.exfs b z hb
theorem Inv.step(I:Inv X pins σ H s)(hch:∀ b∈ch,(b∈X.ex\/X.s₀.heap.objs.size<=b)/\b≠X.env.locals/\(∀ x c,X.env.cells.lookup x=some c->c≠b)/\∀ p∈X.pn++pins,p.1≠b)(keep:∀ b o,b≠X.env.locals->b∉X.fs->b∉ch->s.heap.get? b=some o->H b=none->h'.get? b=some o)(slot:∀ b o,b≠X.env.locals->b∈X.fs->b∉ch->s.heap.get? b=some o->H b=none->∃ sl,h'.get? b=some { o with slots:=sl })(free:∀ b o,b∉ch->s.heap.get? b=some o->H b=none->H' b=none)(there:∀ b o,b∉ch->s.heap.get? b=some o->∃ o',h'.get? b=some o')(tups:∀ b xs,H b=some (.tup xs)->H' b=some (.tup xs))(i7:∀ b o u,H b=some (.frz o u)->H' b=some (.frz o u))(tbls:∀ b ps,H b=some (.tbl ps)->∃ more,H' b=some (.tbl (ps++more)))(ns:∀ m,s.heap.Ns X.env.locals m->h'.Ns X.env.locals m)(hok:HOk X.prog X.w H' h')(hg:AllBare g') :
  Inv X pins σ H' { s with heap:=h',gens:=g',drawn:=d',toks:=t' }:=by
 have neL:∀ b o,X.s₀.heap.get? b=some o->b≠X.env.locals:=fun b o e=>Nat.ne_of_lt (Nat.lt_of_lt_of_le (Heap.lt_size e) I.ok.above);have neC:∀ b o,X.s₀.heap.get? b=some o->b∉X.ex->b∉ch:=fun b o e hx hb=>by
  rcases(hch b hb).1 with z | z
  ·exact hx z
  ·exact absurd (Nat.lt_of_lt_of_le (Heap.lt_size e) z) (Nat.lt_irrefl _)
 have cellK:∀ x c,X.env.cells.lookup x=some c->∀ v,s.heap.IsCell c v->h'.IsCell c v:=fun x c e v Z=>by
  obtain⟨o,ho,hd⟩:=Z;have nch:c∉ch:=fun z=>(hch c z).2.2.1 x c e rfl;by_cases hc:c∈X.fs
  ·obtain⟨sl,q⟩:=slot c o (I.cne x c e) hc nch ho (I.freeC x c e);exact⟨_,q,hd⟩
  ·exact⟨o,keep c o (I.cne x c e) hc nch ho (I.freeC x c e),hd⟩
 refine⟨I.ok,I.os,hg,⟨fun b o e n hb hx=>?_,fun b o e n hb hx=>?_,fun b o e n hx=>?_,fun b o e hx=>?_,fun b xs e=>tups b xs (I.base.tups b xs e),fun b o xs e=>i7 b o xs (I.base.i7 b o xs e),fun b ps e=>?_⟩,?_,fun x c e=>?_,?_,fun x c e=>?_,fun p hp=>?_,hok,I.len⟩
 ·exact keep b o (neL b o e) hb (neC b o e hx) (I.base.keep b o e n hb hx) (I.base.free b o e n hx)
 ·obtain⟨sl,e1⟩:=I.base.slot b o e n hb hx;obtain⟨sl',e2⟩:=slot b _ (neL b o e) hb (neC b o e hx) e1 (I.base.free b o e n hx);exact⟨sl',e2⟩
 ·obtain⟨o',e1⟩:=I.base.there b o e hx;exact free b o' (neC b o e hx) e1 (I.base.free b o e n hx)
 ·obtain⟨o',e1⟩:=I.base.there b o e hx;exact there b o' (neC b o e hx) e1
 ·obtain⟨m1,e1⟩:=I.base.tbls b ps e;obtain⟨m2,e2⟩:=tbls b _ e1;exact⟨m1++m2,by rw[e2,Array.append_assoc]⟩
 ·obtain⟨m,hn,hl⟩:=I.loc;refine⟨m,ns m hn,fun i x v e1 e2 e3=>?_⟩;obtain⟨u,r,l⟩:=hl i x v e1 e2 e3;refine⟨u,r,?_⟩;rcases l with l | ⟨k,c,e,z⟩
  ·exact .inl l
  ·exact .inr ⟨k,c,e,cellK x c e _ z⟩
 ·obtain⟨v,z⟩:=I.cell x c e;exact⟨v,cellK x c e v z⟩
 ·obtain⟨m,⟨o,_,_,ho,_⟩,_⟩:=I.loc;exact free _ o (fun z=>(hch _ z).2.1 rfl) ho I.free
 ·obtain⟨v,o,ho,hd⟩:=I.cell x c e;exact free c o (fun z=>(hch c z).2.2.1 x c e rfl) ho (I.freeC x c e)
 ·obtain⟨e,n,ne,nf,d⟩:=I.pin p hp;have nch:p.1∉ch:=fun z=>(hch p.1 z).2.2.2 p hp rfl;exact⟨keep p.1 p.2 ne nf nch e n,free p.1 p.2 nch e n,ne,nf,d⟩
theorem Inv.un(I:Inv X pins σ H s)(u:Un X.fs [] H H' s.heap h')(hok:HOk X.prog X.w H' h'):Inv X pins σ H' { s with heap:=h',toks:=t' }:=by
 obtain⟨m,⟨o,es,ep,ho,r⟩,_⟩:=id I.loc;obtain⟨sl,hL⟩:=u.any ho I.free (by simp);exact I.step (g':=s.gens) (d':=s.drawn) (ch:=[]) (fun _ z=>nomatch z) (fun b o _ hb _ e n=>u.keep b o e n hb (by simp)) (fun b o _ hb _ e n=>u.slot b o e n hb (by simp)) (fun b o _ e n=>u.free b o e n (by simp)) (fun b o _ e=>u.there b o e (by simp)) u.tups u.i7 u.tbls (fun m' hm=>by
  obtain⟨o',es',ep',ho',r'⟩:=hm;rw[ho] at ho';cases ho';exact⟨_,es',ep',hL,r'⟩) hok I.bare
theorem Inv.call(I:Inv X pins σ H s)(u:Un (frs X.stack) ch H H' s.heap h')(hok:HOk X.prog X.w H' h')(hg:AllBare g')(hch:∀ b∈ch,(b∈X.ex\/X.s₀.heap.objs.size<=b)/\b≠X.env.locals/\(∀ x c,X.env.cells.lookup x=some c->c≠b)/\∀ p∈X.pn++pins,p.1≠b) :
  Inv X pins σ H' { s with heap:=h',gens:=g',drawn:=d',toks:=t' }:=by
 obtain⟨m,⟨o,es,ep,ho,r⟩,_⟩:=id I.loc;obtain⟨sl,hL⟩:=u.any ho I.free fun z=>(hch _ z).2.1 rfl;exact I.step (ch:=ch) hch (fun b o hL hb hc e n=>u.keep b o e n (fun z=>(List.mem_cons.mp (I.qU b z)).elim hL hb) hc) (fun b o _ _ hc e n=>u.any e n hc) (fun b o hc e n=>u.free b o e n hc) (fun b o hc e=>u.there b o e hc) u.tups u.i7 u.tbls (fun m' hm=>by
  obtain⟨o',es',ep',ho',r'⟩:=hm;rw[ho] at ho';cases ho';exact⟨_,es',ep',hL,r'⟩) hok hg
theorem Inv.turned{it:Addr}(I:Inv X pins σ H s)(k:∀ b o,b≠it->s.heap.get? b=some o->h'.get? b=some o)(hn:H it=none)(hL:it≠X.env.locals)(h1:it∈X.ex\/X.s₀.heap.objs.size<=it)(h2:∀ x c,X.env.cells.lookup x=some c->c≠it)(h3:∀ p∈X.pn++pins,p.1≠it):Inv X pins σ H { s with heap:=h',toks:=t' }:=by
 have nit:∀ b u,H b=some u->b≠it:=fun b u e z=>by rw[z,hn] at e;cases e
 refine I.step (g':=s.gens) (d':=s.drawn) (ch:=[it]) (fun b hb=>?_) (fun b o _ _ hc e _=>k b o (fun z=>hc (by simp [z])) e) (fun b o _ _ hc e _=>⟨o.slots,k b o (fun z=>hc (by simp [z])) e⟩) (fun _ _ _ _ n=>n)
  (fun b o hc e=>⟨o,k b o (fun z=>hc (by simp [z])) e⟩) (fun _ _ e=>e) (fun _ _ _ e=>e) (fun b ps e=>⟨#[],by rw[e];simp⟩) (fun m hm=>?_) (fun b u e=>?_) I.bare
 ·have e:b=it:=by simpa using hb
  subst e;exact⟨h1,hL,h2,h3⟩
 ·obtain⟨o,es,ep,ho,r⟩:=hm;exact⟨o,es,ep,k _ o (Ne.symm hL) ho,r⟩
 ·refine(I.hok b u e).lK (fun c v hc q=>k c v ?_ q) (fun _ q=>q) fun _ _ q=>q;rcases hc with z | z
  ·rw[z];exact nit b u e
  ·exact nit c _ z
theorem Inv.tok(I:Inv X pins σ H s)(t:Nat):Inv X pins σ H { s with toks:=t }:=I.un (h':=s.heap) (t':=t) Un.refl I.hok
theorem Inv.kept(I:Inv X pins σ H s)(k:∀ b u,s.heap.get? b=some u->h'.get? b=some u):Inv X pins σ H { s with heap:=h',toks:=t' }:=I.un (Un.kept k) (I.hok.kept k)
theorem Inv.laid{o:HO}(I:Inv X pins σ H s)(k:∀ b u,s.heap.get? b=some u->h'.get? b=some u)(hp:s.heap.objs.size<=a)(new:b9 X.prog X.w (upd H a o) h' a o) :
  Inv X pins σ (upd H a o) { s with heap:=h',toks:=t' }:=I.un (Un.laid k hp (I.hok.fresh hp)) (I.hok.laid k hp new)
theorem Inv.write{x e:Addr}{o:HO}(I:Inv X pins σ H s)(mu:Mut (H x))(he:e=x\/H e=some (.own x))(k:∀ b u,b≠e->s.heap.get? b=some u->h'.get? b=some u)(heo:∃ u,h'.get? e=some u)(new:b9 X.prog X.w (upd H x o) h' x o):Inv X pins σ (upd H x o) { s with heap:=h',toks:=t' }:=I.un (Un.write mu he k heo) (I.hok.write mu he k heo new)
theorem Inv.g9{pins':Pn}(I:Inv X pins σ H s)(h:∀ p∈pins',s.heap.get? p.1=some p.2/\H p.1=none/\p.1≠X.env.locals/\p.1∉X.fs/\∀ v,p.2.data≠.cell v):Inv X pins' σ H s:=
 ⟨I.ok,I.os,I.bare,I.base,I.loc,I.cell,I.free,I.freeC,fun p hp=>(List.mem_append.mp hp).elim (fun z=>I.pin p (List.mem_append_left _ z)) (h p),I.hok,I.len⟩
theorem rV{N:Ls0}(hN:N.Nodup){j:Nat}{x:Str}(a:N[i]?=some x)(b:N[j]?=some x):i=j:=by
 obtain⟨h1,e1⟩:=gS0 a;obtain⟨h2,e2⟩:=gS0 b;exact(List.getElem_inj hN).mp (e1.trans e2.symm)
theorem tW{x:Str}{v:V}{Q:Unit->Shared->Prop}(I:Inv X pins σ H s)(hN:X.N.Nodup)(hi:X.N[i]?=some x)(hx:Loc X.env.scope x)(r:RelV v u)(h:∀ s',Inv X pins (σ.set i (some v)) H s'->(∃ a,Heap.SameBut a s.heap s'.heap/\(a=X.env.locals\/X.env.cells.lookup x=some a))->Q () s')(hf:X.fn x=true\/X.env.scope.names.lookup x=some .local:=by first | exact .inl rfl | exact .inr rfl | assumption):wpAny M A (storeName X.env x u) Q E s:=by
 obtain⟨m,hn,hl⟩:=id I.loc;have hcls:(X.env.scope.kind == .class || (X.env.scope.kind == .module && X.env.locals != X.env.globals))=false:=by rw[I.ok.kind];rfl
 have hiσ:i < σ.length:=by rw[I.len];exact(gS0 hi).1
 have cne:=I.cne;have tracked:∀ {a:Addr} {h':Heap},(∃ o,s.heap.get? a=some o/\H a=none)->Heap.SameBut a s.heap h'->HOk X.prog X.w H h':=fun {a h'} ha hs b ob e=>by
  obtain⟨_,_,hfree⟩:=ha;refine(I.hok b ob e).lK (fun c w' hc q=>(hs.2 c ?_).trans q) (fun _ q=>q) fun _ _ q=>q;rintro rfl;rcases hc with rfl | hc
  ·rw[hfree] at e;cases e
  ·rw[hfree] at hc;cases hc
 rcases hx with hk | hk
 ·refine wpAny_storeName_local hk hn (fun h' hn' hs=>?_) hcls;obtain⟨oL,_,_,hoL,_⟩:=id hn;refine h _ ⟨I.ok,I.os,I.bare,⟨fun b o e n hb hx=>?_,fun b o e n hb hx=>?_,I.base.free,fun b o e hx=>?_,I.base.tups,I.base.i7,I.base.tbls⟩,⟨_,hn',fun j y v' e1 e2 e3=>?_⟩,fun y c e=>?_,I.free,I.freeC,fun p hp=>?_,tracked ⟨oL,hoL,I.free⟩ hs,by simpa using I.len⟩ ⟨_,hs,.inl rfl⟩
  ·exact(hs.2 b (Nat.ne_of_lt (Nat.lt_of_lt_of_le (Heap.lt_size e) I.ok.above))).trans (I.base.keep b o e n hb hx)
  ·obtain⟨sl,e1⟩:=I.base.slot b o e n hb hx;exact⟨sl,(hs.2 b (Nat.ne_of_lt (Nat.lt_of_lt_of_le (Heap.lt_size e) I.ok.above))).trans e1⟩
  ·obtain⟨o',e1⟩:=I.base.there b o e hx;exact⟨o',(hs.2 b (Nat.ne_of_lt (Nat.lt_of_lt_of_le (Heap.lt_size e) I.ok.above))).trans e1⟩
  ·by_cases hj:j=i
   ·subst hj;rw[hi] at e1;cases e1;rw[List.getElem?_set_self hiσ] at e2;cases e2;exact⟨u,r,.inl ⟨hk,by simp⟩⟩
   ·rw[List.getElem?_set_ne (Ne.symm hj)] at e2;obtain⟨u',r',q⟩:=hl j y v' e1 e2 e3;refine⟨u',r',?_⟩;rcases q with ⟨k,e⟩ | ⟨k,c,e,z⟩
    ·refine .inl ⟨k,?_⟩;have:y≠x:=fun e=>hj (rV hN e1 (e ▸ hi));simp [this,e]
    ·exact .inr ⟨k,c,e,z.sameBut hs (cne y c e)⟩
  ·obtain⟨w',z⟩:=I.cell y c e;exact⟨w',z.sameBut hs (cne y c e)⟩
  ·obtain⟨e,n,ne,nf,d⟩:=I.pin p hp;exact⟨(hs.2 p.1 ne).trans e,n,ne,nf,d⟩
 ·have hfn:X.fn x=true:=by
   rcases hf with z | z
   ·exact z
   ·rw[z] at hk;cases hk
  obtain⟨c,hc⟩:=I.ok.has x (.inl hk);obtain⟨w',z⟩:=I.cell x c hc;refine wpAny_storeName_cell I.ok.kind hk hc z (fun h' hc' hs=>?_);obtain⟨oc,hoc,hocd⟩:=id z;refine h { s with heap:=h' } ⟨I.ok,I.os,I.bare,⟨fun b o e n hb hx=>?_,fun b o e n hb hx=>?_,I.base.free,fun b o e hx=>?_,I.base.tups,I.base.i7,I.base.tbls⟩,⟨m,hn.sameBut hs (Ne.symm (cne x c hc)),fun j y v' e1 e2 e3=>?_⟩,fun y c' e=>?_,I.free,I.freeC,fun p hp=>?_,tracked ⟨oc,hoc,I.freeC x c hc⟩ hs,by simpa using I.len⟩ ⟨c,hs,.inr hc⟩
  ·exact(hs.2 b (Nat.ne_of_lt (Nat.lt_of_lt_of_le (Heap.lt_size e) (I.ok.cab x c hfn hc)))).trans (I.base.keep b o e n hb hx)
  ·obtain⟨sl,e1⟩:=I.base.slot b o e n hb hx;exact⟨sl,(hs.2 b (Nat.ne_of_lt (Nat.lt_of_lt_of_le (Heap.lt_size e) (I.ok.cab x c hfn hc)))).trans e1⟩
  ·obtain⟨o',e1⟩:=I.base.there b o e hx;exact⟨o',(hs.2 b (Nat.ne_of_lt (Nat.lt_of_lt_of_le (Heap.lt_size e) (I.ok.cab x c hfn hc)))).trans e1⟩
  ·by_cases hj:j=i
   ·subst hj;rw[hi] at e1;cases e1;rw[List.getElem?_set_self hiσ] at e2;cases e2;exact⟨u,r,.inr ⟨.inl hk,c,hc,hc'⟩⟩
   ·rw[List.getElem?_set_ne (Ne.symm hj)] at e2;obtain⟨u',r',q⟩:=hl j y v' e1 e2 e3;refine⟨u',r',?_⟩;rcases q with q | ⟨k,c',e,z'⟩
    ·exact .inl q
    ·refine .inr ⟨k,c',e,z'.sameBut hs ?_⟩;rintro rfl;exact hj (rV hN e1 (I.ok.inj _ _ _ e hc ▸ hi))
  ·by_cases hcc:c'=c
   ·subst hcc;exact⟨_,hc'⟩
   ·obtain⟨w2,z2⟩:=I.cell y c' e;exact⟨w2,z2.sameBut hs hcc⟩
  ·obtain⟨e,n,ne,nf,d⟩:=I.pin p hp;refine⟨(hs.2 p.1 ?_).trans e,n,ne,nf,d⟩;intro q;rw[q,hoc] at e;have q':oc=p.2:=Option.some.inj e;exact d w' (by rw[<- q'];exact hocd)
theorem fe{x:Str}{v:V}{Q:Unit->Shared->Prop}(I:Inv X pins σ H s)(hN:X.N.Nodup)(hi:X.N[i]?=some x)(hx:Loc X.env.scope x)(r:RelV v u)(h:∀ s',Inv X pins (σ.set i (some v)) H s'->Q () s')(hf:X.fn x=true\/X.env.scope.names.lookup x=some .local:=by first | exact .inl rfl | exact .inr rfl | assumption):wpAny M A (storeName X.env x u) Q E s:=
 tW I hN hi hx r (fun s' I' _=>h s' I') hf
theorem Inv.Af{s':Shared}(I:Inv X pins σ H s)(ho:s'.os=s.os)(u:Un (frs X.stack) ch H H' s.heap s'.heap)(hok:HOk X.prog X.w H' s'.heap)(hg:AllBare s'.gens)(hch:∀ b∈ch,(b∈X.ex\/X.s₀.heap.objs.size<=b)/\b≠X.env.locals/\(∀ x c,X.env.cells.lookup x=some c->c≠b)/\∀ p∈X.pn++pins,p.1≠b):Inv X pins σ H' s':=by
 obtain⟨h',g',d',t',o'⟩:=s';have e:o'=s.os:=ho;subst e;exact I.call (g':=g') (t':=t') (d':=d') u hok hg hch
end
abbrev XK:=Value->Option Addr->Hp->Prop
abbrev St:=List (Option V)
abbrev VK:=V->Hp->Prop
abbrev TE:=St->Hp->VK->Prop
abbrev TT:=St->Hp->(Bool->Hp->Prop)->Prop
abbrev TA:=St->Hp->(List V->Hp->Prop)->Prop
set_option genInjectivity false in
structure Ends where
 nx:St->Hp->Prop
 rt:VK
 bk:St->Hp->Prop:=fun _ _=>False
 ct:St->Hp->Prop:=fun _ _=>False
abbrev TS:=Ends->St->Hp->Prop
variable {X:L2.Cx}{e tg l:PySem.Expr}{t:L2.TA}{s s':PySem.Shared}{pos p apos:PySem.Pos}{σ:L2.St}{H:L2.Hp}{Q:PySem.Value×Lv0->PySem.Shared->Prop}{v y:L2.V}{ta te:L2.TE}{K:Fg0}{es:List PySem.Expr}{k n:Nat}{o:Option PySem.Value}{op:PySem.CmpOp}{vs:List L2.V}{fp:La0}{body:List PySem.Stmt}{R:PySem.Result->PySem.Shared->Prop}{r:List L2.V->L2.Hp->L2.VK->Prop}{C dx f:PySem.Addr}{g:Int->Int->Int}{us:Lv0}{mA mg:SV}{prog:PySem.Program}{name m qual:PySem.Str}{kw:List (PySem.Str×PySem.Value)}{base:PySem.Heap}{fd:PySem.FuncData}{ps:Ls0}{outer:List PySem.Env}{gV:List L2.V->List L2.V->List L2.V}{scope:PySem.Scope}{osl:Array (Option PySem.Value)}
def EP (X:Cx) (pins:Pn) (σ:St) (Q:VK) (u:Value) (s':Shared):Prop:=∃ v H',Inv X pins σ H' s'/\RelV v u/\Q v H'
def TP (X:Cx) (pins:Pn) (σ:St) (Q:Bool->Hp->Prop) (b:Bool) (s':Shared):Prop:=∃ H',Inv X pins σ H' s'/\Q b H'
def AP (X:Cx) (pins:Pn) (σ:St) (Q:List V->Hp->Prop) (us:Lv0) (s':Shared):Prop:=∃ vs H',Inv X pins σ H' s'/\Vals vs us/\Q vs H'
def SP (X:Cx) (pins:Pn) (D:Ends) (f:Flow) (s':Shared):Prop:=
 match f with
 | .next=>∃ σ' H',Inv X pins σ' H' s'/\D.nx σ' H'
 | .brk=>∃ σ' H',Inv X pins σ' H' s'/\D.bk σ' H'
 | .cont=>∃ σ' H',Inv X pins σ' H' s'/\D.ct σ' H'
 | .ret u=>∃ v σ' H',Inv X pins σ' H' s'/\RelV v u/\D.rt v H'
def PE (X:Cx) (e:Expr) (t:TE):Prop:=
 ∀ (pins:Pn) (s:Shared) (σ:St) (H:Hp) (Q:VK),Inv X pins σ H s->t σ H Q->wpAny (model X.prog X.w) X.A (eval e X.env) (EP X pins σ Q) X.xe s
def PT (X:Cx) (e:Expr) (t:TT):Prop:=
 ∀ (pins:Pn) (s:Shared) (σ:St) (H:Hp) (Q:Bool->Hp->Prop),Inv X pins σ H s->t σ H Q->wpAny (model X.prog X.w) X.A (isTrue e X.env (eval e X.env)) (TP X pins σ Q) X.xe s
def PW (X:Cx) (e:Expr) (t:TT):Prop:=
 ∀ (whole:Sem Value) (pins:Pn) (s:Shared) (σ:St) (H:Hp) (Q:Bool->Hp->Prop),Inv X pins σ H s->t σ H Q->wpAny (model X.prog X.w) X.A (isTrue e X.env whole) (TP X pins σ Q) X.xe s
theorem PW.pt{t:TT}(h:PW X e t):PT X e t:=h _
def PA (X:Cx) (es:List Expr) (t:TA):Prop:=
 ∀ (pos:Pos) (pins:Pn) (s:Shared) (σ:St) (H:Hp) (Q:List V->Hp->Prop),Inv X pins σ H s->t σ H Q->wpAny (model X.prog X.w) X.A (spliced (backTo pos (starEach es X.env))) (AP X pins σ Q) X.xe s
def PS (X:Cx) (st:Stmt) (t:TS):Prop:=
 ∀ (pins:Pn) (s:Shared) (σ:St) (H:Hp) (D:Ends),Inv X pins σ H s->t D σ H->wpAny (model X.prog X.w) X.A (exec st X.env) (SP X pins D) X.xe s
def PSs (X:Cx) (st:List Stmt) (t:TS):Prop:=
 ∀ (pins:Pn) (s:Shared) (σ:St) (H:Hp) (D:Ends),Inv X pins σ H s->t D σ H->wpAny (model X.prog X.w) X.A (execs st X.env) (SP X pins D) X.xe s
theorem thn{α:Type}{t:Sem α}{Q Q':α->Shared->Prop}(h:wpAny M A t Q E s)(hQ:∀ a s,Q a s->Q' a s):wpAny M A t Q' E s:=wpAny_mono h hQ fun _ _ x=>x
section
def jV (i:Nat):TE:=fun σ H Q=>∃ v,σ[i]?=some (some v)/\Q v H
def tC (v:V):TE:=fun _ H Q=>Q v H
theorem cT{x:Str}(hN:X.N[i]?=some x)(hv:Vis X.env.scope x)(hd:autoParam ((x == ("__debug__":Str))=false) wP)(hcd:autoParam ((x == ("__classdict__":Str))=false) wP):PE X (.Name x pos) (jV i):=by
 intro pins s σ H Q I h;obtain⟨v,e,h⟩:=h;obtain⟨m,hn,hl⟩:=I.loc;obtain⟨u,r,l⟩:=hl i x v hN e hv;have fin:EP X pins σ Q u s:=⟨v,H,I,r,h⟩;rcases l with ⟨hk,hm⟩ | ⟨hk,c,hc,hcell⟩
 ·exact wpAny_Name (wpAny_loadName_local I.ok.kind hk hn hm fin) hd
 ·rcases hk with hk | hk
  ·exact wpAny_Name (wpAny_loadName_cell I.ok.kind hk hc hcell fin) hd
  ·exact wpAny_Name (wpAny_loadName_free I.ok.kind hk hc hcell fin hcd) hd
theorem yk{i j pos}:PE X (.Constant (.int i) j pos) (tC (.int i)):=fun _ _ _ H _ I h=>wpAny_Constant_int ⟨.int i,H,I.tok _,⟨_,rfl⟩,h⟩
theorem LI{b j pos}:PE X (.Constant (.bool b) j pos) (tC (.bl b)):=fun _ _ _ H _ I h=>Constant_bool ⟨.bl b,H,I,rfl,h⟩
theorem IY{j pos}:PE X (.Constant .none j pos) (tC .non):=fun _ _ _ H _ I h=>Constant_none ⟨.non,H,I,rfl,h⟩
theorem rG{x j pos}:PE X (.Constant (.str x) j pos) (tC (.str x)):=fun _ _ _ H _ I h=>Calls.Constant_str ⟨.str x,H,I.tok _,⟨_,rfl⟩,h⟩
def Gl (X:Cx) (x:Str):Prop:=X.env.kindOf x=some .globalImplicit
theorem eY{pins:Pn}{x:Str}{Q:VS}(I:Inv X pins σ H s)(hg:Gl X x)(hm:X.mg x=some u)(h:Q u s)(hd:autoParam ((x == ("__debug__":Str))=false) wP):wpAny (model X.prog X.w) X.A (eval (.Name x pos) X.env) Q E s:=
 Calls.Name_function_global I.ok.kind hg (Calls.loadGlobal_global (by rw[I.ok.glob];exact I.mod.glob.keeps I.bk) hm h) hd
theorem jz{pins:Pn}{x:Str}{Q:VS}(I:Inv X pins σ H s)(hg:Gl X x)(hm:X.mg x=none)(hv:bootBuiltins x=some u)(h:Q u s)(hn:autoParam (x≠"__name__") wP)(hd:autoParam ((x == ("__debug__":Str))=false) wP):wpAny (model X.prog X.w) X.A (eval (.Name x pos) X.env) Q E s:=by
 obtain⟨mb,h1,h2⟩:=I.mod.blt;exact Calls.Name_function_global I.ok.kind hg (Calls.loadGlobal_builtin (by rw[I.ok.glob];exact I.mod.glob.keeps I.bk) hm (by rw[I.ok.blt];exact h1.keeps I.bk) ((h2 x hn).trans hv) h) hd
theorem vz{x:Str}(hg:Gl X x)(hm:X.mg x=some u)(r:RelV v u)(hd:autoParam ((x == ("__debug__":Str))=false) wP):PE X (.Name x pos) (tC v):=
 fun _ _ _ H _ I h=>eY I hg hm ⟨v,H,I,r,h⟩ hd
theorem Fw{x:Str}(hg:Gl X x)(hm:X.mg x=none)(hv:bootBuiltins x=some u)(r:RelV v u)(hn:autoParam (x≠"__name__") wP)(hd:autoParam ((x == ("__debug__":Str))=false) wP):PE X (.Name x pos) (tC v):=
 fun _ _ _ H _ I h=>jz I hg hm hv ⟨v,H,I,r,h⟩ hn hd
variable {a b:Expr}{tb:TE}
def tB (t:TE):TT:=fun σ H Q=>t σ H fun x H1=>∃ c,x=.bl c/\Q c H1
theorem IL{t:TE}(h:PE X e t)(he:autoParam (∀ whole,isTrue e X.env whole=(do let v <- whole;standAt e.pos;holding [v] (truthy v))) wT):PT X e (tB t):=by
 intro pins s σ H Q I hw;refine isTrue_plain (thn (h pins s σ H _ I hw) fun v s1 Z=>?_) (he _);obtain⟨x,H1,I1,r1,q1⟩:=Z;obtain⟨d,rfl,q⟩:=q1;cases r1;exact wpAny_truthy_bool ⟨H1,I1,q⟩
variable {tA tB':TT}{rest:List Expr}
def Iy (t u:TT):TT:=fun σ H Q=>t σ H fun c H1=>if c=true then u σ H1 Q else Q false H1
def tOr (t u:TT):TT:=fun σ H Q=>t σ H fun c H1=>if c=true then Q true H1 else u σ H1 Q
def Ip (t:TT):TT:=fun σ H Q=>t σ H fun c H1=>Q (!c) H1
theorem E_(ha:PT X a tA):PW X (.BoolOp .And [a] pos) tA:=by
 intro wh pins s σ H Q I h;refine isTrue_and (thn (ha pins s σ H Q I h) fun c s1 e=>?_);cases c with
 | true=>exact isTrue_and_nil e
 | false=>exact e
theorem IJ(ha:PT X a tA):PW X (.BoolOp .Or [a] pos) tA:=by
 intro wh pins s σ H Q I h;refine isTrue_or (thn (ha pins s σ H Q I h) fun c s1 e=>?_);cases c with
 | false=>exact isTrue_or_nil e
 | true=>exact e
theorem IK(ha:PT X a tA)(hb:PW X (.BoolOp .And (b::rest) pos) tB'):PW X (.BoolOp .And (a::b::rest) pos) (Iy tA tB'):=by
 intro wh pins s σ H Q I h;refine isTrue_and (thn (ha pins s σ H _ I h) fun c s1 Z=>?_);obtain⟨H1,I1,q1⟩:=Z;cases c with
 | true=>exact hb wh pins s1 σ H1 Q I1 q1
 | false=>exact⟨H1,I1,q1⟩
theorem Lw(ha:PT X a tA)(hb:PW X (.BoolOp .Or (b::rest) pos) tB'):PW X (.BoolOp .Or (a::b::rest) pos) (tOr tA tB'):=by
 intro wh pins s σ H Q I h;refine isTrue_or (thn (ha pins s σ H _ I h) fun c s1 Z=>?_);obtain⟨H1,I1,q1⟩:=Z;cases c with
 | true=>exact⟨H1,I1,q1⟩
 | false=>exact hb wh pins s1 σ H1 Q I1 q1
theorem IM(ha:PT X a tA):PT X (.UnaryOp .Not a pos) (Ip tA):=by
 intro pins s σ H Q I h;exact isTrue_not (ha pins s σ H (fun c H1=>Q (!c) H1) I h)
def G8 (ta tb:TE):TE:=fun σ H Q=>ta σ H fun x H1=>∃ c,x=.bl c/\if c=true then tb σ H1 Q else Q (.bl false) H1
def K_ (ta tb:TE):TE:=fun σ H Q=>ta σ H fun x H1=>∃ c,x=.bl c/\if c=true then Q (.bl true) H1 else tb σ H1 Q
theorem IX{op}{t:TE}(h:PE X a t):PE X (.BoolOp op [a] pos) t:=fun pins s σ H Q I hw=>BoolOp_one (h pins s σ H Q I hw)
theorem Ja(ha:PE X a ta)(hb:PE X (.BoolOp .And (b::rest) pos) tb):PE X (.BoolOp .And (a::b::rest) pos) (G8 ta tb):=by
 intro pins s σ H Q I h;refine BoolOp_and (thn (ha pins s σ H _ I h) fun v s1 Z=>?_);obtain⟨x,H1,I1,r1,q1⟩:=Z;obtain⟨c,rfl,q1⟩:=q1;cases r1;refine wpAny_truthy_bool ?_;cases c with
 | true=>exact hb pins s1 σ H1 Q I1 q1
 | false=>exact⟨.bl false,H1,I1,rfl,q1⟩
theorem LF(ha:PE X a ta)(hb:PE X (.BoolOp .Or (b::rest) pos) tb):PE X (.BoolOp .Or (a::b::rest) pos) (K_ ta tb):=by
 intro pins s σ H Q I h;refine BoolOp_or (thn (ha pins s σ H _ I h) fun v s1 Z=>?_);obtain⟨x,H1,I1,r1,q1⟩:=Z;obtain⟨c,rfl,q1⟩:=q1;cases r1;refine wpAny_truthy_bool ?_;cases c with
 | false=>exact hb pins s1 σ H1 Q I1 q1
 | true=>exact⟨.bl true,H1,I1,rfl,q1⟩
end
def SqL (K:Fg0) (H:Hp) (a:Addr) (xs:List V):Prop:=
 Rd H a (.lst xs)\/
  ∃ (o:Obj) (its:Array Value) (n:Nat),K.lookup a=some o/\o.cls=.type "list"/\o.dict=none/\o.data=.seq its n/\its.size<=sizeLine/\Vals xs its.toList
def SqT (K:Fg0) (H:Hp) (a:Addr) (xs:List V):Prop:=
 Rd H a (.tup xs)\/
  ∃ (o:Obj) (its:Array Value) (n:Nat),K.lookup a=some o/\o.cls=.type "tuple"/\o.data=.seq its n/\its.size<=sizeLine/\Vals xs its.toList
noncomputable def N8:Value->Option V
 | .none=>some .non
 | .bool b=>some (.bl b)
 | .int i _=>some (.int i)
 | .str x _=>some (.str x)
 | .bytes b _=>some (.byt b)
 | .float b _=>some (.flt b)
 | .ref a=>some (.ref a)
 | .type n=>some (.ty n)
 | _=>none
theorem RelV.abs{x:V}(r:RelV x u):N8 u=some x:=by
 cases x with
 | non=>cases r;rfl
 | bl _=>cases r;rfl
 | int _=>obtain⟨t,rfl⟩:=r;rfl
 | str _=>obtain⟨t,rfl⟩:=r;rfl
 | byt _=>obtain⟨t,rfl⟩:=r;rfl
 | flt _=>obtain⟨t,rfl⟩:=r;rfl
 | ref _=>cases r;rfl
 | ty _=>cases r;rfl
theorem RelV.inj{x:V}(r:RelV x u)(q:RelV y u):x=y:=Option.some.inj (r.abs.symm.trans q.abs)
theorem Vals.inj:∀ {xs ys:List V} {us:Lv0},Vals xs us->Vals ys us->xs=ys
 | _,_,_,.nil,.nil=>rfl
 | _,_,_,.cons r t,.cons r' t'=>by rw[r.inj r',Vals.inj t t']
section
variable {pins:Pn}{xs ys:List V}
theorem SqL.of(h:H a=some (.lst xs)):SqL K H a xs:=.inl (.inl h)
theorem SqT.of(h:H a=some (.tup xs)):SqT K H a xs:=.inl (.inl h)
theorem Inv.list(I:Inv X pins σ H s)(h:SqL X.K H a xs):∃ its:Lv0,Vals xs its/\PlainL s.heap a its.toArray/\xs.length<=sizeLine:=by
 rcases h with h | ⟨o,its,n,hk,hc,hd,hs,hz,r⟩
 ·obtain⟨z,its,n,r,e⟩:=h.ok I.hok;exact⟨its,r,⟨_,n,e,rfl,rfl,rfl⟩,z⟩
 ·refine⟨its.toList,r,⟨o,n,I.kIn a o hk,hc,hd,by simpa using hs⟩,?_⟩;have e:=r.length;simp only[Array.length_toList] at e;lia
theorem Inv.tuple(I:Inv X pins σ H s)(h:SqT X.K H a xs):∃ its:Lv0,Vals xs its/\IsTup s.heap a its.toArray/\xs.length<=sizeLine:=by
 rcases h with h | ⟨o,its,n,hk,hc,hs,hz,r⟩
 ·obtain⟨z,its,r,p⟩:=h.ok I.hok;exact⟨its,r,p,z⟩
 ·refine⟨its.toList,r,⟨o,I.kIn a o hk,hc,n,by simpa using hs⟩,?_⟩;have e:=r.length;simp only[Array.length_toList] at e;lia
theorem Inv.Dm(I:Inv X pins σ H s)(h:SqL X.K H a xs)(h':SqL X.K H a ys):xs=ys:=by
 obtain⟨its,r,⟨o,n,e,_,_,d⟩,_⟩:=I.list h;obtain⟨its',r',⟨o',n',e',_,_,d'⟩,_⟩:=I.list h';rw[e] at e';cases e';rw[d] at d';injection d' with d1 _
 have:its=its':=by simpa using congrArg Array.toList d1
 subst this;exact r.inj r'
theorem Inv.Ar(I:Inv X pins σ H s)(h:SqT X.K H a xs)(h':SqT X.K H a ys):xs=ys:=by
 obtain⟨its,r,⟨o,e,_,n,d⟩,_⟩:=I.tuple h;obtain⟨its',r',⟨o',e',_,n',d'⟩,_⟩:=I.tuple h';rw[e] at e';cases e';rw[d] at d';injection d' with d1 _
 have:its=its':=by simpa using congrArg Array.toList d1
 subst this;exact r.inj r'
end
noncomputable abbrev Cx.ng (X:Cx) (E:VS):Cx:={ X with xe:=E }
noncomputable abbrev Cx.nox (X:Cx):Cx:=X.ng fun _ _=>False
theorem Cx.Ok.ng(ok:X.Ok)(E:VS):(X.ng E).Ok:=
 ⟨ok.mod,ok.kind,ok.glob,ok.blt,ok.above,ok.inj,ok.has,ok.cab,ok.hd,ok.frames,ok.stk,ok.exf,ok.bs,ok.bsz,ok.noex,ok.exfs,ok.i6,ok.frf,ok.tb⟩
theorem Cx.Ok.eJ(ok:(X.ng E).Ok):X.Ok:=
 ⟨ok.mod,ok.kind,ok.glob,ok.blt,ok.above,ok.inj,ok.has,ok.cab,ok.hd,ok.frames,ok.stk,ok.exf,ok.bs,ok.bsz,ok.noex,ok.exfs,ok.i6,ok.frf,ok.tb⟩
section
variable {pins:Pn}
theorem Inv.ng(I:Inv X pins σ H s)(E:VS):Inv (X.ng E) pins σ H s:=⟨I.ok.ng E,I.os,I.bare,I.base,I.loc,I.cell,I.free,I.freeC,I.pin,I.hok,I.len⟩
theorem Inv.eJ(I:Inv (X.ng E) pins σ H s):Inv X pins σ H s:=⟨I.ok.eJ,I.os,I.bare,I.base,I.loc,I.cell,I.free,I.freeC,I.pin,I.hok,I.len⟩
theorem SP.eJ{D:Ends}{f:Flow}(h:SP (X.ng E) pins D f s'):SP X pins D f s':=by
 cases f with
 | next=>obtain⟨σ',H',I,q⟩:=h;exact⟨σ',H',I.eJ,q⟩
 | brk=>obtain⟨σ',H',I,q⟩:=h;exact⟨σ',H',I.eJ,q⟩
 | cont=>obtain⟨σ',H',I,q⟩:=h;exact⟨σ',H',I.eJ,q⟩
 | ret u=>obtain⟨v,σ',H',I,r,q⟩:=h;exact⟨v,σ',H',I.eJ,r,q⟩
theorem PSs.nox{st:List Stmt}{t:TS}(h:PSs X.nox st t):PSs X st t:=fun pins s σ H D I hw=>
 wpAny_mono (h pins s σ H D (I.ng _) hw) (fun _ _ q=>q.eJ) fun _ _ z=>False.elim z
end
section
variable {st:Stmt}{rest:List Stmt}{t u:TS}
def G6:TS:=fun D σ H=>D.nx σ H
def Av (t u:TS):TS:=fun D σ H=>t { D with nx:=u D } σ H
theorem Fe:PSs X [] G6:=fun _ _ σ H _ I h=>wpAny_execs_nil ⟨σ,H,I,h⟩
theorem eh(h1:PS X st t)(h2:PSs X rest u):PSs X (st::rest) (Av t u):=by
 intro pins s σ H D I h;refine wpAny_execs_cons (thn (h1 pins s σ H { D with nx:=u D } I h) fun f s1 q=>?_);cases f with
 | next=>
  obtain⟨σ',H',I',q⟩:=q;exact h2 pins s1 σ' H' D I' q
 | ret v=>exact q
 | brk=>exact q
 | cont=>exact q
theorem lA(h1:PS X st t):PSs X [st] t:=by
 intro pins s σ H D I h;refine wpAny_execs_cons (thn (h1 pins s σ H D I h) fun f s1 q=>?_);cases f with
 | next=>exact wpAny_execs_nil q
 | ret v=>exact q
 | brk=>exact q
 | cont=>exact q
theorem Inv.quiet{pins:Pn}(I:Inv X pins σ H s):interactive X.env=false:=by simp [interactive,I.ok.kind]
def BZ (te:TE):TS:=fun D σ H=>te σ H fun _ H1=>D.nx σ H1
theorem lB(he:PE X e te)(hs:autoParam (swapsWith e none pos.line X.env=pure false) wE):PS X (.Expr e pos) (BZ te):=by
 intro pins s σ H D I h;exact wpAny_Expr_any (thn (he pins s σ H _ I h) fun v s1 ⟨x,H1,I1,r1,q1⟩=>⟨σ,H1,I1,q1⟩) I.quiet hs
def Io (te:TE):TS:=fun D σ H=>te σ H D.rt
theorem Cw(he:PE X e te):PS X (.Return (some e) pos) (Io te):=by
 intro pins s σ H D I h;exact wpAny_Return_some (thn (he pins s σ H _ I h) fun v s1 ⟨x,H1,I1,r1,q1⟩=>⟨x,σ,H1,I1,r1,q1⟩)
def Iu (c:TT) (t u:TS):TS:=fun D σ H=>c σ H fun b H1=>if b=true then t D σ H1 else u D σ H1
theorem Hg{c:Expr}{a b:List Stmt}{tc:TT}(hc:PT X c tc)(ha:PSs X a t)(hb:PSs X b u):PS X (.If c a b pos) (Iu tc t u):=by
 intro pins s σ H D I h;refine wpAny_If (thn (hc pins s σ H _ I h) fun d s1 Z=>?_);obtain⟨H1,I1,q1⟩:=Z;cases d with
 | true=>exact ha pins s1 σ H1 D I1 q1
 | false=>exact hb pins s1 σ H1 D I1 q1
def BX:TS:=fun _ _ _=>False
theorem Cz:PS X st BX:=fun _ _ _ _ _ _ h=>h.elim
end
abbrev TG:=V->St->Hp->(St->Hp->Prop)->Prop
abbrev TGs:=List V->St->Hp->(St->Hp->Prop)->Prop
def PG (X:Cx) (target:Expr) (t:TG):Prop:=
 ∀ (pins:Pn) (s:Shared) (σ:St) (H:Hp) (v:V) (u:Value) (Q:St->Hp->Prop),Inv X pins σ H s->RelV v u->t v σ H Q->
  wpAny (model X.prog X.w) X.A (assign target X.env u) (fun _ s'=>∃ σ' H',Inv X pins σ' H' s'/\Q σ' H') X.xe s
def PGs (X:Cx) (ts:List Expr) (t:TGs):Prop:=
 ∀ (pins:Pn) (s:Shared) (σ:St) (H:Hp) (vs:List V) (us:Lv0) (Q:St->Hp->Prop),Inv X pins σ H s->Vals vs us->t vs σ H Q->
  wpAny (model X.prog X.w) X.A (assignInOrder ((assignEach ts X.env).map (·.2)) us) (fun _ s'=>∃ σ' H',Inv X pins σ' H' s'/\Q σ' H') X.xe s
noncomputable abbrev Eu:=V->V->V->Hp->(Hp->Prop)->Prop
def KO (X:Cx) (t:Eu):Prop:=
 ∀ (pins:Pn) (s:Shared) (σ:St) (H:Hp) (o i v:V) (ov iv u:Value) (Q:Hp->Prop),Inv X pins σ H s->RelV o ov->RelV i iv->RelV v u->t o i v H Q->
  wpAny (model X.prog X.w) X.A (setItem ov iv u) (fun _ s'=>∃ H',Inv X pins σ H' s'/\Q H') X.xe s
abbrev TIp:=V->V->Hp->VK->Prop
def PIp (X:Cx) (op:Operator) (t:TIp):Prop:=
 ∀ (pins:Pn) (s:Shared) (σ:St) (H:Hp) (x y:V) (v u:Value) (Q:VK),Inv X pins σ H s->RelV x v->RelV y u->t x y H Q->
  wpAny (model X.prog X.w) X.A (inplaceOp op v u) (EP X pins σ Q) X.xe s
def hX (i:Nat):TG:=fun v σ H Q=>Q (σ.set i (some v)) H
theorem bI{x:Str}(hN:X.N.Nodup)(hi:X.N[i]?=some x)(hx:Loc X.env.scope x)(hf:X.fn x=true\/X.env.scope.names.lookup x=some .local:=by first | exact .inl rfl | exact .inr rfl | assumption):PG X (.Name x pos) (hX i):=by
 intro pins s σ H v u Q I r h;exact wpAny_assign_Name (fe I hN hi hx r (fun s' I'=>⟨_,H,I',h⟩) hf)
def Ms:TGs:=fun vs σ H Q=>vs=[]/\Q σ H
def HE (t:TG) (u:TGs):TGs:=fun vs σ H Q=>∃ v r,vs=v::r/\t v σ H fun σ' H'=>u r σ' H' Q
theorem eX:PGs X [] Ms:=by
 intro pins s σ H vs us Q I r h;obtain⟨e,h⟩:=h;subst e;cases r;exact assignInOrder_nil ⟨σ,H,I,h⟩
theorem br{t:TG}{u:TGs}(h1:PG X e t)(h2:PGs X es u)(hs:autoParam ((assignEach (e::es) X.env).map (·.2)=assign e X.env::(assignEach es X.env).map (·.2)) wE):PGs X (e::es) (HE t u):=by
 intro pins s σ H vs us Q I r h;obtain⟨v,vr,e1,h⟩:=h;subst e1;cases r with
 | cons r rr=>
  rw[hs];refine assignInOrder_cons (thn (h1 pins s σ H _ _ _ I r h) fun _ s1 Z=>?_);obtain⟨σ1,H1,I1,q1⟩:=Z;exact h2 pins s1 σ1 H1 _ _ Q I1 rr q1
def Kd (K:Fg0) (n:Nat) (t:TGs):TG:=fun v σ H Q=>∃ a xs,v=.ref a/\SqT K H a xs/\xs.length=n/\t xs σ H Q
theorem CD{t:TGs}(hc:X.calm=true)(h:PGs X es t)(hn:autoParam ((assignEach es X.env).length=n) wE)(hst:autoParam ((assignEach es X.env).findIdx? (·.1)=none) wE):PG X (.Tuple es k pos) (Kd X.K n t):=by
 intro pins s σ H v u Q I r hw;obtain⟨a,xs,e1,hq,hl,hw⟩:=hw;subst e1;cases r;obtain⟨its,rv,ht,hz⟩:=I.tuple hq;refine assign_Tuple_tuple (I.ok.hd hc) ht (by simp [hn,<- hl,rv.length]) hst fun h' hx=>?_;have I1:Inv X pins σ H { s with heap:=h' }:=I.kept (t':=s.toks) fun b o e=>hx b o (Nat.ne_of_lt (Heap.lt_size e)) e;exact h pins _ σ H xs _ Q I1 (by simpa using rv) hw
def DE (to ti:TE) (t:Eu):TG:=fun v σ H Q=>to σ H fun o H1=>ti σ H1 fun i H2=>t o i v H2 fun H3=>Q σ H3
theorem CF{o i:Expr}{to ti:TE}{t:Eu}(ho:PE X o to)(hi:PE X i ti)(hs:KO X t)(ha:∀ v,assign (.Subscript o i pos) X.env v=(do
   let ov <- holding [v] (eval o X.env)
   let iv <- holding [v,ov] (eval i X.env)
   standAt pos
   holding [v,ov,iv] (setItem ov iv v)
   release [v,ov,iv] []):=by intro _;rfl):PG X (.Subscript o i pos) (DE to ti t):=by
 intro pins s σ H v u Q I r h;rw[ha];refine wpAny_bind (wpAny_holding (thn (ho pins s σ H _ I h) fun ov s1 Z=>?_));obtain⟨x,H1,I1,r1,q1⟩:=Z;refine wpAny_bind (wpAny_holding (thn (hi pins s1 σ H1 _ I1 q1) fun iv s2 Z=>?_));obtain⟨y,H2,I2,r2,q2⟩:=Z;refine wpAny_bind (wpAny_standAt (wpAny_bind (wpAny_holding (thn (hs pins s2 σ H2 x y v ov iv u _ I2 r1 r2 r q2) fun _ s3 Z=>?_))));obtain⟨H3,I3,q3⟩:=Z;exact wpAny_release ⟨σ,H3,I3,q3⟩
def j_ (te:TE) (g:TG):TS:=fun D σ H=>te σ H fun x H1=>g x σ H1 D.nx
theorem yi{g:TG}(he:PE X e te)(hg:PG X tg g)(hs:autoParam (swapsWithSole [tg] e pos.line X.env=pure false) wE)(hw:autoParam (swappedStores [tg] e X.env=pure none) wE)(h1:autoParam ((assignEach [tg] X.env).map (·.2)=[assign tg X.env]) wE):PS X (.Assign [tg] e pos) (j_ te g):=by
 intro pins s σ H D I h;refine wpAny_Assign_stores (thn (he pins s σ H _ I h) fun v s1 Z=>?_) hs hw;obtain⟨x,H1,I1,r1,q1⟩:=Z;rw[h1];exact thn (hg pins s1 σ H1 x v _ I1 r1 q1) fun _ s2 q=>q
theorem IQ{x:Str}{pos':Pos}(hN:X.N.Nodup)(hi:X.N[i]?=some x)(hx:Loc X.env.scope x)(he:PE X e te)(hs:autoParam (swapsWith e (some (.Name x pos')) pos.line X.env=pure false) wE)(hf:X.fn x=true\/X.env.scope.names.lookup x=some .local:=by first | exact .inl rfl | exact .inr rfl | assumption) :
  PS X (.Assign [.Name x pos'] e pos) (j_ te (hX i)):=by
 intro pins s σ H D I h;refine wpAny_Assign_Name (thn (he pins s σ H _ I h) fun v s1 Z=>?_) hs;obtain⟨y,H1,I1,r1,q1⟩:=Z;exact fe I1 hN hi hx r1 (fun s2 I2=>⟨_,H1,I2,q1⟩) hf
def K9 (i j:Nat) (ta:TA):TS:=fun D σ H=>ta σ H fun vs H1=>∃ v w,vs=[v,w]/\D.nx ((σ.set i (some v)).set j (some w)) H1
theorem IS{j:Nat}{x y:Str}{a b:Expr}{ta:TA}{px py pt:Pos}{kt k2 pt2}(hc:X.calm=true)(hN:X.N.Nodup)(hi:X.N[i]?=some x)(hj:X.N[j]?=some y)(hij:i≠j)(hx:X.env.scope.names.lookup x=some .local)(hy:X.env.scope.names.lookup y=some .local)(ha:PA X [a,b] ta)(hw:swappedStores [.Tuple [.Name x px,.Name y py] kt pt] (.Tuple [a,b] k2 pt2) X.env=pure (some [x,y]))(hs:autoParam (swapsWithSole [.Tuple [.Name x px,.Name y py] kt pt] (.Tuple [a,b] k2 pt2) pos.line X.env=pure false) wE) :
  PS X (.Assign [.Tuple [.Name x px,.Name y py] kt pt] (.Tuple [a,b] k2 pt2) pos) (K9 i j ta):=by
 intro pins s σ H D I h;rw[exec_Assign_arm];refine wpAny_bind (wpAny_standAt ?_);rw[hs];refine wpAny_bind (wpAny_pure ?_);rw[if_neg (by decide)];refine wpAny_bind (Tuple_ (thn (ha _ pins s σ H _ I h) fun us s1 Z=>?_));obtain⟨vs,H1,I1,r1,q1⟩:=Z;obtain⟨v,w,e1,q1⟩:=q1;subst e1;obtain⟨u1,u2,rfl,rv,rw'⟩:∃ u1 u2,us=[u1,u2]/\RelV v u1/\RelV w u2:=by
  cases r1 with
  | cons p q=>
   cases q with
   | cons p' q'=>
    cases q';exact⟨_,_,rfl,p,p'⟩
 refine wpAny_newObj_type ?_ (by show 2<=sizeLine;decide);have I2:Inv X pins σ H1 { s1 with heap:=s1.heap.push { cls:=.type "tuple",data:=.seq [u1,u2].toArray } }:=I1.kept (t':=s1.toks) fun b o e=>Heap.get?_push_of_some _ e;rw[hw];refine wpAny_bind (wpAny_pure ?_);show wpAny (model X.prog X.w) X.A (do rule "assign.swapped-stores";let items <- unpackItems (.ref s1.heap.objs.size) 2 none;assignInOrder [fun v=>bindName X.env y v,fun v=>bindName X.env x v] items.reverse;pure Flow.next) _ _ _;refine wpAny_bind (wpAny_rule (wpAny_bind (unpackItems_tuple (items:=#[u1,u2]) (I.ok.hd hc) (IsTup.new s1.heap _) fun h' hx'=>?_)));have I3:=I2.kept (h':=h') (t':=s1.toks) fun b o e=>hx' b o (Nat.ne_of_lt (Heap.lt_size e)) e;show wpAny _ _ (assignInOrder [fun v=>bindName X.env y v,fun v=>bindName X.env x v] [u2,u1] >>= fun _=>pure Flow.next) _ _ _;refine wpAny_bind (assignInOrder_cons (wpAny_bindName (fe I3 hN hj (.inl hy) rw' (fun s2 I4=>?_) (.inr hy))));refine assignInOrder_cons (wpAny_bindName (fe I4 hN hi (.inl hx) rv (fun s3 I5=>assignInOrder_nil (wpAny_pure ?_)) (.inr hx)));rw[List.set_comm _ _ (Ne.symm hij)] at I5;exact⟨_,H1,I5,q1⟩
def G7 (to ti te:TE) (tget:V->V->Hp->VK->Prop) (tip:TIp) (tset:Eu):TS:=fun D σ H=>to σ H fun o H1=>ti σ H1 fun i H2=>tget o i H2 fun x H3=>te σ H3 fun y H4=>tip x y H4 fun z H5=>tset o i z H5 fun H6=>D.nx σ H6
def M7 (X:Cx) (t:V->V->Hp->VK->Prop):Prop:=
 ∀ (pins:Pn) (s:Shared) (σ:St) (H:Hp) (o i:V) (ov iv:Value) (Q:VK),Inv X pins σ H s->RelV o ov->RelV i iv->t o i H Q->
  wpAny (model X.prog X.w) X.A (getItem ov iv) (EP X pins σ Q) X.xe s
theorem Fg{o i:Expr}{to ti:TE}{tget:V->V->Hp->VK->Prop}{tip:TIp}{tset:Eu}{op:Operator}{tpos:Pos}(ho:PE X o to)(hi:PE X i ti)(hg:M7 X tget)(he:PE X e te)(hp:PIp X op tip)(hs:KO X tset)(ha:∀ ov iv new,augStore i ov iv new=(do holding [new,ov,iv] (setItem ov iv new);release [new,ov,iv] [];pure .next):=by intros;rfl):PS X (.AugAssign (.Subscript o i tpos) op e pos) (G7 to ti te tget tip tset):=by
 intro pins s σ H D I h;refine wpAny_AugAssign_SubscriptAny (thn (ho pins s σ H _ I h) fun ov s1 Z=>?_) ha;obtain⟨x1,H1,I1,r1,q1⟩:=Z;refine thn (hi pins s1 σ H1 _ I1 q1) fun iv s2 Z=>?_;obtain⟨x2,H2,I2,r2,q2⟩:=Z;refine thn (hg pins s2 σ H2 x1 x2 ov iv _ I2 r1 r2 q2) fun old s3 Z=>?_;obtain⟨x3,H3,I3,r3,q3⟩:=Z;refine thn (he pins s3 σ H3 _ I3 q3) fun v s4 Z=>?_;obtain⟨x4,H4,I4,r4,q4⟩:=Z;refine thn (hp pins s4 σ H4 x3 x4 old v _ I4 r3 r4 q4) fun new s5 Z=>?_;obtain⟨x5,H5,I5,r5,q5⟩:=Z;exact thn (hs pins s5 σ H5 x1 x2 x5 ov iv new _ I5 r1 r2 r5 q5) fun _ s6 ⟨H6,I6,q6⟩=>⟨σ,H6,I6,q6⟩
noncomputable def ipI (f:Int->Int->Int):TIp:=fun x y H Q=>∃ i j,x=.int i/\y=.int j/\Q (.int (f i j)) H
theorem JP:PIp X .Add (ipI fun i j=>i + j):=by
 intro pins s σ H x y v u Q I r1 r2 h;obtain⟨i,j,e1,e2,q⟩:=h;subst e1;subst e2;obtain⟨t,rfl⟩:=r1;obtain⟨t',rfl⟩:=r2;exact iadd_int ⟨.int _,H,I.tok _,⟨_,rfl⟩,q⟩
set_option genInjectivity false in
structure It where
 go:Nat->Hp->Prop
 yld:Nat->Hp->V->Hp->Prop
 stop:Nat->Hp->Prop
def eU (X:Cx) (pins:Pn) (H:Hp) (b:Addr):Prop:=
 H b=none/\b≠X.env.locals/\b∉X.fs/\(b∈X.ex\/X.s₀.heap.objs.size<=b)/\(∀ x c,X.env.cells.lookup x=some c->c≠b)/\∀ p∈X.pn++pins,p.1≠b
theorem Inv.qv{pins:Pn}{H':Hp}{b:Addr}(I:Inv X pins σ H s)(hb:s.heap.objs.size<=b)(hn:H' b=none):eU X pins H' b:=by
 refine⟨hn,Nat.ne_of_gt (Nat.lt_of_lt_of_le I.lt hb),I.Nq hb,.inr (Nat.le_trans I.sz hb),fun x c e z=>?_,fun p hp z=>?_⟩
 ·obtain⟨v,q⟩:=I.cell x c e;exact absurd (Nat.lt_of_lt_of_le q.lt (by rw[z];exact hb)) (Nat.lt_irrefl _)
 ·exact absurd (Nat.lt_of_lt_of_le (Heap.lt_size (I.pin p hp).1) (by rw[z];exact hb)) (Nat.lt_irrefl _)
structure Turn (P:Program) (w:World) (K:Fg0) (tg:Expr) (J:It) (fp:La0) (it:Addr) (tn:Nat->Heap->Prop):Prop where
 mem:it∈fp
 obj:∀ i h,tn i h->∀ b∈fp,∃ o,h.get? b=some o/\∀ v,o.data≠.cell v
 keep:∀ i h h',tn i h->(∀ b∈fp,∀ o,h.get? b=some o->h'.get? b=some o)->tn i h'
 item:∀ (X:Cx),X.prog=P->X.w=w->X.K=K->X.calm=true->∀ (i:Nat) (pins:Pn) (s:Shared) (σ:St) (H:Hp) (E:VS),Inv X pins σ H s->(∀ b∈fp,eU X pins H b)->tn i s.heap->J.go i H->
  wpAny (model P w) X.A (pyNext (.ref it)) (fun r s1=>∃ u,r=some u/\
   wpAny (model P w) X.A (letOwnedTupleGo tg (.ref it) u) (fun _ s2=>∃ x H',Inv X pins σ H' s2/\RelV x u/\J.yld i H x H'/\tn (i + 1) s2.heap/\∀ b∈fp,H' b=none) E s1) E s
 done:∀ (X:Cx),X.prog=P->X.w=w->X.K=K->X.calm=true->∀ (i:Nat) (pins:Pn) (s:Shared) (σ:St) (H:Hp) (E:VS),Inv X pins σ H s->(∀ b∈fp,eU X pins H b)->tn i s.heap->J.stop i H->
  wpAny (model P w) X.A (pyNext (.ref it)) (fun r s1=>r=none/\Inv X pins σ H s1) E s
 self:∀ (A:Around) (i:Nat) (s:Shared) (Q:VS) (E:VS),tn i s.heap->Q (.ref it) s->wpAny (model P w) A (pyIter (.ref it)) Q E s
abbrev TI:=St->Hp->(It->Hp->Prop)->Prop
def PIE (X:Cx) (pins:Pn) (σ:St) (tg:Expr) (R:It->Hp->Prop) (itv:Value) (s2:Shared):Prop:=
 ∃ (it:Addr) (fp:La0) (tn:Nat->Heap->Prop) (J:It) (H':Hp),itv=.ref it/\Inv X pins σ H' s2/\Turn X.prog X.w X.K tg J fp it tn/\tn 0 s2.heap/\(∀ b∈fp,eU X pins H' b)/\R J H'
def PI (X:Cx) (tg iter:Expr) (wi:TI):Prop:=
 ∀ (pins:Pn) (s:Shared) (σ:St) (H:Hp) (R:It->Hp->Prop),Inv X pins σ H s->wi σ H R->
  wpAny (model X.prog X.w) X.A (eval iter X.env) (fun v s1=>wpAny (model X.prog X.w) X.A (pyIter v) (PIE X pins σ tg R) X.xe s1) X.xe s
theorem z9{it:Addr}{o:Obj}{n:String}{vs:Array Value}{Q:Unit->Shared->Prop}(ho:s.heap.get? it=some o)(hc:o.cls=.type n)(hd:o.data=.fields vs)(hn:["enumerate","zip","dict_itemiterator","dict_reverseitemiterator","odict_iterator","itertools.zip_longest","itertools.pairwise"].contains n=false)(hQ:Q () s):wpAny M A (letOwnedTupleGo tg (.ref it) u) Q E s:=by
 unfold letOwnedTupleGo;cases tg <;> first
  | exact wpAny_pure hQ
  | (cases u <;> first
    | exact wpAny_pure hQ
    | (refine wpAny_bind (wpAny_load ho ?_);rw[hc,hd];show wpAny M A (if (["enumerate","zip","dict_itemiterator","dict_reverseitemiterator","odict_iterator","itertools.zip_longest","itertools.pairwise"].contains n && vs[0]? == some (rawInt _))=true then _ else _) Q E s;rw[if_neg (by intro h;rw[hn,Bool.false_and] at h;cases h)];exact wpAny_pure hQ))
noncomputable def Itl (K:Fg0) (a:Addr):It:=
 ⟨fun i H=>∃ xs x,SqL K H a xs/\xs[i]?=some x,fun i H x H'=>H'=H/\∀ xs,SqL K H a xs->xs[i]?=some x,fun i H=>∃ xs,SqL K H a xs/\xs.length<=i⟩
noncomputable def Itt (K:Fg0) (a:Addr):It:=
 ⟨fun i H=>∃ xs x,SqT K H a xs/\xs[i]?=some x,fun i H x H'=>H'=H/\∀ xs,SqT K H a xs->xs[i]?=some x,fun i H=>∃ xs,SqT K H a xs/\xs.length<=i⟩
noncomputable def Itr (lo:Int) (n:Nat):It:=⟨fun i _=>i < n,fun i H x H'=>H'=H/\x=.int (lo + i),fun i _=>n<=i⟩
theorem Ap(a it:Addr):Turn P w K tg (Itl K a) [it] it (fun i h=>h.IsListIter it a i) where
 mem:=by simp
 obj:=fun i h st b hb=>by
  have e:b=it:=by simpa using hb
  subst e;obtain⟨o,e,c,d⟩:=st;exact⟨o,e,fun v z=>by rw[d] at z;cases z⟩
 keep:=fun i h h' st k=>st.at fun o e=>k it (by simp) o e
 item:=by
  intro X hP hw hK hc i pins s σ H E I hf st hg;subst hP hw hK;obtain⟨xs,x,hq,hx⟩:=hg;obtain⟨its,rv,p,hz⟩:=I.list hq;obtain⟨u,hu,ru⟩:=rv.get hx;obtain⟨f0,f1,f2,f3,f4,f5⟩:=hf it (by simp);refine wpAny_pyNext_list_item st p.isList (x:=u) (by simpa using hu) fun h' st' sb=>?_;have I1:Inv X pins σ H { s with heap:=h' }:=I.turned (t':=s.toks) (fun b o hb e=>(sb.2 b hb).trans e) f0 f1 f3 f4 f5;obtain⟨o,e,c,d⟩:=id st';exact⟨u,rfl,z9 (s:={ s with heap:=h' }) e c d (by decide) ⟨x,H,I1,ru,⟨rfl,fun ys hy=>by rw[I.Dm hy hq];exact hx⟩,st',fun b hb=>(hf b hb).1⟩⟩
 done:=by
  intro X hP hw hK hc i pins s σ H E I hf st hg;subst hP hw hK;obtain⟨xs,hq,hx⟩:=hg;obtain⟨its,rv,p,hz⟩:=I.list hq;obtain⟨f0,f1,f2,f3,f4,f5⟩:=hf it (by simp);have hl:=rv.length;exact wpAny_pyNext_list_end (I.ok.hd hc) st p.isList (by simp;lia) fun h' eb=>⟨rfl,I.turned (t':=s.toks) (fun b o hb e=>eb b o hb e) f0 f1 f3 f4 f5⟩
 self:=fun _ _ _ _ _ st h=>wpAny_pyIter_listiter st h
theorem xR(a it:Addr):Turn P w K tg (Itt K a) [it] it (fun i h=>h.IsTupleIter it a i) where
 mem:=by simp
 obj:=fun i h st b hb=>by
  have e:b=it:=by simpa using hb
  subst e;obtain⟨o,e,c,d⟩:=st;exact⟨o,e,fun v z=>by rw[d] at z;cases z⟩
 keep:=fun i h h' st k=>st.at fun o e=>k it (by simp) o e
 item:=by
  intro X hP hw hK hc i pins s σ H E I hf st hg;subst hP hw hK;obtain⟨xs,x,hq,hx⟩:=hg;obtain⟨its,rv,p,hz⟩:=I.tuple hq;obtain⟨u,hu,ru⟩:=rv.get hx;obtain⟨f0,f1,f2,f3,f4,f5⟩:=hf it (by simp);refine wpAny_pyNext_tuple_item st (show s.heap.IsTuple a its.toArray from p) (x:=u) (by simpa using hu) fun h' st' sb=>?_;have I1:Inv X pins σ H { s with heap:=h' }:=I.turned (t':=s.toks) (fun b o hb e=>(sb.2 b hb).trans e) f0 f1 f3 f4 f5;obtain⟨o,e,c,d⟩:=id st';exact⟨u,rfl,z9 (s:={ s with heap:=h' }) e c d (by decide) ⟨x,H,I1,ru,⟨rfl,fun ys hy=>by rw[I.Ar hy hq];exact hx⟩,st',fun b hb=>(hf b hb).1⟩⟩
 done:=by
  intro X hP hw hK hc i pins s σ H E I hf st hg;subst hP hw hK;obtain⟨xs,hq,hx⟩:=hg;obtain⟨its,rv,p,hz⟩:=I.tuple hq;obtain⟨f0,f1,f2,f3,f4,f5⟩:=hf it (by simp);have hl:=rv.length;exact wpAny_pyNext_tuple_end (I.ok.hd hc) st (show s.heap.IsTuple a its.toArray from p) (by simp;lia) fun h' eb=>⟨rfl,I.turned (t':=s.toks) (fun b o hb e=>eb b o hb e) f0 f1 f3 f4 f5⟩
 self:=fun _ _ _ _ _ st h=>wpAny_pyIter_tupleiter st h
theorem xS(it:Addr)(lo:Int)(n:Nat):Turn P w K tg (Itr lo n) [it] it (fun i h=>IsRangeIter h it (lo + (i:Nat) * 1) ((n:Int) - (i:Nat)) 1) where
 mem:=by simp
 obj:=fun i h st b hb=>by
  have e:b=it:=by simpa using hb
  subst e;exact⟨_,st,fun v z=>by
   have z':Data.fields _=Data.cell v:=z;cases z'⟩
 keep:=fun i h h' st k=>k it (by simp) _ st
 item:=by
  intro X hP hw hK hc i pins s σ H E I hf st hg;subst hP hw hK;obtain⟨f0,f1,f2,f3,f4,f5⟩:=hf it (by simp);have W:=Walks.range (prog:=X.prog) (w:=X.w) (I.ok.hd hc) it lo 1 n;refine W.item i s _ _ hg st fun v h' tk hv st' kk=>?_;obtain⟨t,rfl⟩:=hv;have I1:Inv X pins σ H { s with heap:=h',toks:=tk }:=I.turned (fun b o hb e=>kk b o (by simpa using hb) e) f0 f1 f3 f4 f5;refine⟨_,rfl,z9 (s:={ s with heap:=h',toks:=tk }) (n:="range_iterator") st' rfl rfl (by decide) ⟨.int (lo + i),H,I1,⟨t,?_⟩,⟨rfl,rfl⟩,st',fun b hb=>(hf b hb).1⟩⟩;rw[Int.mul_one]
 done:=by
  intro X hP hw hK hc i pins s σ H E I hf st hg;subst hP hw hK;obtain⟨f0,f1,f2,f3,f4,f5⟩:=hf it (by simp);exact wpAny_pyNext_range_end (I.ok.hd hc) st (by have:n<=i:=hg;lia) fun h' eb=>⟨rfl,I.turned (t':=s.toks) (fun b o hb e=>eb b o hb e) f0 f1 f3 f4 f5⟩
 self:=fun _ _ _ _ _ st h=>wpAny_pyIter_rangeiter st h
def Hv (K:Fg0) (tl:TE):TI:=fun σ H R=>tl σ H fun x H1=>∃ a,x=.ref a/\(∃ xs,SqL K H1 a xs)/\R (Itl K a) H1
def Mc (K:Fg0) (tl:TE):TI:=fun σ H R=>tl σ H fun x H1=>∃ a,x=.ref a/\(∃ xs,SqT K H1 a xs)/\R (Itt K a) H1
theorem Fo{tl:TE}(hl:PE X l tl):PI X tg l (Hv X.K tl):=by
 intro pins s σ H R I h;refine thn (hl pins s σ H _ I h) fun v s1 Z=>?_;obtain⟨x,H1,I1,r1,q1⟩:=Z;obtain⟨a,e,⟨xs,hq⟩,q⟩:=q1;subst e;cases r1;obtain⟨its,rv,p,hz⟩:=I1.list hq;refine wpAny_pyIter_list p.isList ?_;refine⟨s1.heap.objs.size,[s1.heap.objs.size],_,_,H1,rfl,I1.kept (t':=s1.toks) fun b o e=>Heap.get?_push_of_some _ e,Ap a _,⟨_,Heap.get?_push_size _ rfl,rfl,rfl⟩,fun b hb=>?_,q⟩;have e:b=s1.heap.objs.size:=by simpa using hb
 subst e;exact I1.qv (Nat.le_refl _) (I1.hok.fresh (Nat.le_refl _))
theorem IV{tl:TE}(hl:PE X l tl):PI X tg l (Mc X.K tl):=by
 intro pins s σ H R I h;refine thn (hl pins s σ H _ I h) fun v s1 Z=>?_;obtain⟨x,H1,I1,r1,q1⟩:=Z;obtain⟨a,e,⟨xs,hq⟩,q⟩:=q1;subst e;cases r1;obtain⟨its,rv,p,hz⟩:=I1.tuple hq;refine wpAny_pyIter_tuple (show s1.heap.IsTuple a its.toArray from p) ?_;refine⟨s1.heap.objs.size,[s1.heap.objs.size],_,_,H1,rfl,I1.kept (t':=s1.toks) fun b o e=>Heap.get?_push_of_some _ e,xR a _,⟨_,Heap.get?_push_size _ rfl,rfl,rfl⟩,fun b hb=>?_,q⟩;have e:b=s1.heap.objs.size:=by simpa using hb
 subst e;exact I1.qv (Nat.le_refl _) (I1.hok.fresh (Nat.le_refl _))
theorem Cr{pins:Pn}{R:It->Hp->Prop}{lo hi:Int}{t u v:Tok}{tk:Nat}(I:Inv X pins σ H s)(h1:-(2 ^ 62)<=lo)(h2:lo < 2 ^ 62)(h3:-(2 ^ 62)<=hi)(h4:hi < 2 ^ 62)(q:R (Itr lo (hi - lo).toNat) H):wpAny (model X.prog X.w) X.A (pyIter (.ref s.heap.objs.size)) (PIE X pins σ tg R) E { s with heap:=s.heap.push { cls:=.type "range",data:=.fields #[.int lo t,.int hi u,.int 1 v] },toks:=tk }:=by
 refine wpAny_pyIter_range (IsRange.new ..) (small_one h1 h2 h3 h4) ?_;have I1:Inv X pins σ H { s with heap:=s.heap.push { cls:=.type "range",data:=.fields #[.int lo t,.int hi u,.int 1 v] },toks:=tk }:=I.kept fun b o e=>Heap.get?_push_of_some _ e;refine⟨(s.heap.push { cls:=.type "range",data:=.fields #[.int lo t,.int hi u,.int 1 v] }).objs.size,[(s.heap.push { cls:=.type "range",data:=.fields #[.int lo t,.int hi u,.int 1 v] }).objs.size],_,_,H,rfl,
  I1.kept (t':=tk) fun b o e=>Heap.get?_push_of_some _ e,xS _ lo (hi - lo).toNat,?_,fun b hb=>?_,q⟩
 ·have e1:lo + ((0:Nat):Int) * 1=lo:=by simp
  have e2:(((hi - lo).toNat:Nat):Int) - ((0:Nat):Int)=Builtin.Range.rangeSize lo hi 1:=by rw[rangeSize_one];split <;> lia
  show IsRangeIter _ _ (lo + ((0:Nat):Int) * 1) ((((hi - lo).toNat:Nat):Int) - ((0:Nat):Int)) 1;rw[e1,e2];exact Heap.get?_push_size _ rfl
 ·have e:b=(s.heap.push { cls:=.type "range",data:=.fields #[.int lo t,.int hi u,.int 1 v] }).objs.size:=by simpa using hb
  subst e;exact I1.qv (Nat.le_refl _) (I1.hok.fresh (Nat.le_refl _))
def Hu (ta:TA):TI:=fun σ H R=>ta σ H fun vs H1=>∃ j:Int,vs=[.int j]/\-(2 ^ 62)<=j/\j < 2 ^ 62/\R (Itr 0 j.toNat) H1
theorem AR{a:Expr}{ta:TA}(hg:Gl X "range")(hm:X.mg "range"=none)(ha:PA X [a] ta)(hs:autoParam (starEach [a] X.env=[(false,eval a X.env)]) wE):PI X tg (.Call (.Name "range" p) [a] [] pos) (Hu ta):=by
 intro pins s σ H R I h;refine Call_ (jz I hg hm boot_range (PyProof.Rows.callWith_type1 (thn (ha pos pins s σ H _ I h) fun us s1 Z=>?_) hs rfl));obtain⟨vs,H1,I1,r1,q1⟩:=Z;obtain⟨j,e,q1,q2,q⟩:=q1;subst e;cases r1 with
 | cons r rr=>
  cases rr;obtain⟨t,rfl⟩:=r;exact call_range_1 (Cr I1 (by lia) (by lia) q1 q2 (by simpa using q))
def Iw (wi:TI) (g:TG) (tb:TS):TS:=fun D σ H=>wi σ H fun J H1=>∃ W:Nat->Nat->St->Hp->Prop,(∃ m,W 0 m σ H1)/\∀ i m σ H,W i m σ H->
 (J.stop i H/\D.nx σ H)\/(J.go i H/\∃ N:St->Hp->Prop,(∀ σ' H',N σ' H'->∃ m',m' < m/\W (i + 1) m' σ' H')/\∀ x H',J.yld i H x H'->g x σ H' fun σ2 H2=>tb { D with nx:=N,ct:=N,bk:=D.nx } σ2 H2)
noncomputable def rF (fp:La0) (h:Heap):Pn:=fp.filterMap fun b=>(h.get? b).map fun o=>(b,o)
theorem eO{b:Addr}{o:Obj}(hb:b∈fp)(e:h.get? b=some o):(b,o)∈rF fp h:=List.mem_filterMap.mpr ⟨b,hb,by rw[e];rfl⟩
theorem ui{p:Addr×Obj}(hp:p∈rF fp h):p.1∈fp/\h.get? p.1=some p.2:=by
 obtain⟨b,hb,e⟩:=List.mem_filterMap.mp hp;cases q:h.get? b with
 | none=>rw[q] at e;cases e
 | some o=>
  rw[q] at e;have e':(b,o)=p:=Option.some.inj e;subst e';exact⟨hb,q⟩
theorem Inv.pinned{pins:Pn}(I:Inv X pins σ H s)(hf:∀ b∈fp,eU X pins H b)(ho:∀ b∈fp,∃ o,s.heap.get? b=some o/\∀ v,o.data≠.cell v):Inv X (pins++rF fp s.heap) σ H s:=
 I.g9 fun p hp=>(List.mem_append.mp hp).elim (fun z=>I.pin p (List.mem_append_right _ z)) fun z=>by
  obtain⟨hb,e⟩:=ui z;obtain⟨f0,f1,f2,_⟩:=hf p.1 hb;obtain⟨o,e',d⟩:=ho p.1 hb;rw[e] at e';cases e';exact⟨e,f0,f1,f2,d⟩
theorem Inv.qQ{pins pl:Pn}(I:Inv X (pins++pl) σ H s):Inv X pins σ H s:=I.g9 fun p hp=>I.pin p (List.mem_append_right _ (List.mem_append_left _ hp))
theorem CA{iter:Expr}{wi:TI}{g:TG}{tb:TS}(hp:PassesOwn (model X.prog X.w) X.A X.env X.xe)(hc:X.calm=true)(hi:PI X tg iter wi)(hg:PG X tg g)(hb:PSs X body tb)(hs:autoParam (∀ x,foldedSetIterable iter X.env x=pure x) wT):PS X (.For tg iter body [] pos) (Iw wi g tb):=by
 intro pins s σ H D I h;refine wpAny_For (thn (hi pins s σ H _ I h) fun v s1 h1=>thn h1 fun itv s2 h2=>?_) hs;obtain⟨it,fp,tn,J,H2,e,I2,T,st2,f2,W,⟨m0,w0⟩,turn⟩:=h2;subst e;have stat:∀ {H':Hp},(∀ b∈fp,H' b=none)->∀ b∈fp,eU X pins H' b:=fun hn b hb=>⟨hn b hb,(f2 b hb).2⟩;refine codeAny_forLoop_any (fun n s'=>∃ i σ' H',Inv X pins σ' H' s'/\tn i s'.heap/\(∀ b∈fp,H' b=none)/\W i n σ' H') ?_ m0 ⟨0,σ,H2,I2,st2,fun b hb=>(f2 b hb).1,w0⟩;rintro n s3 ⟨i,σ3,H3,I3,st3,fr3,w3⟩;rcases turn i n σ3 H3 w3 with ⟨stop,qn⟩ | ⟨go,N,hN,step⟩
 ·refine wpAny_passesOwn hp (thn (T.done X rfl rfl rfl hc i pins s3 σ3 H3 X.xe I3 (stat fr3) st3 stop) fun r s4 Z=>?_);obtain⟨hr,I4⟩:=Z;subst hr;exact wpAny_execs_nil ⟨σ3,H3,I4,qn⟩
 ·refine wpAny_passesOwn hp (thn (T.item X rfl rfl rfl hc i pins s3 σ3 H3 X.xe I3 (stat fr3) st3 go) fun r s4 Z=>?_);obtain⟨u,hr,h4⟩:=Z;subst hr;refine wpAny_passesOwn hp (thn h4 fun _ s5 Z=>?_);obtain⟨x,H5,I5,r5,y5,st5,fr5⟩:=Z;have I5':=I5.pinned (stat fr5) (T.obj _ _ st5);refine wpAny_passesOwn hp (thn (hg _ s5 σ3 H5 x u _ I5' r5 (step x H5 y5)) fun _ s6 Z=>?_);obtain⟨σ6,H6,I6,q6⟩:=Z;refine wpAny_passesOwn hp (thn (hb _ s6 σ6 H6 _ I6 q6) fun f s7 q7=>?_);have again:∀ {σ7:St} {H7:Hp},Inv X (pins++rF fp s5.heap) σ7 H7 s7->N σ7 H7->∃ m,m < n/\∃ i σ' H',Inv X pins σ' H' s7/\tn i s7.heap/\(∀ b∈fp,H' b=none)/\W i m σ' H':=fun {σ7 H7} I7 n7=>by
   obtain⟨m',hm,w7⟩:=hN σ7 H7 n7;refine⟨m',hm,i + 1,σ7,H7,I7.qQ,T.keep _ _ _ st5 fun b hb o e=>(I7.pin (b,o) (List.mem_append_right _ (List.mem_append_right _ (eO hb e)))).1,fun b hb=>?_,w7⟩;obtain⟨o,e,d⟩:=T.obj _ _ st5 b hb;exact(I7.pin (b,o) (List.mem_append_right _ (List.mem_append_right _ (eO hb e)))).2.1
  cases f with
  | next=>obtain⟨σ7,H7,I7,n7⟩:=q7;exact again I7 n7
  | cont=>obtain⟨σ7,H7,I7,n7⟩:=q7;exact again I7 n7
  | brk=>obtain⟨σ7,H7,I7,q7⟩:=q7;exact⟨σ7,H7,I7.qQ,q7⟩
  | ret v=>obtain⟨x7,σ7,H7,I7,r7,q7⟩:=q7;exact⟨x7,σ7,H7,I7.qQ,r7,q7⟩
abbrev R2:=V->V->Hp->VK->Prop
def OpR (X:Cx) (f:Value->Value->Sem Value) (r:R2):Prop:=
 ∀ (pins:Pn) (s:Shared) (σ:St) (H:Hp) (x y:V) (v u:Value) (Q:VK),Inv X pins σ H s->RelV x v->RelV y u->r x y H Q->
  wpAny (model X.prog X.w) X.A (f v u) (EP X pins σ Q) X.xe s
def UnR (X:Cx) (f:Value->Sem Value) (r:V->Hp->VK->Prop):Prop:=
 ∀ (pins:Pn) (s:Shared) (σ:St) (H:Hp) (x:V) (v:Value) (Q:VK),Inv X pins σ H s->RelV x v->r x H Q->
  wpAny (model X.prog X.w) X.A (f v) (EP X pins σ Q) X.xe s
def bS (X:Cx) (f:Value) (r:List V->Hp->VK->Prop):Prop:=
 ∀ (pins:Pn) (s:Shared) (σ:St) (H:Hp) (xs:List V) (us:Lv0) (Q:VK),Inv X pins σ H s->Vals xs us->r xs H Q->
  wpAny (model X.prog X.w) X.A (call f us) (EP X pins σ Q) X.xe s
def tOp (r:R2) (ta tb:TE):TE:=fun σ H Q=>ta σ H fun x H1=>tb σ H1 fun y H2=>r x y H2 Q
def tUn (r:V->Hp->VK->Prop) (ta:TE):TE:=fun σ H Q=>ta σ H fun x H1=>r x H1 Q
def rI (C:Int->Int->Prop) (g:Int->Int->V):R2:=fun x y H Q=>∃ i j,x=.int i/\y=.int j/\C i j/\Q (g i j) H
def rI0 (g:Int->Int->V):R2:=fun x y H Q=>∃ i j,x=.int i/\y=.int j/\Q (g i j) H
noncomputable def rU (g:Int->V):V->Hp->VK->Prop:=fun x H Q=>∃ i,x=.int i/\Q (g i) H
section
variable {a b c:Expr}{tb tc:TE}
theorem Kw(ha:PE X a ta)(hb:PE X b tb){pins:Pn}{R:V->V->Hp->Prop}(I:Inv X pins σ H s)(h:ta σ H fun x H1=>tb σ H1 fun y H2=>R x y H2){Q:VS}{f:Value->Value->Sem Value}(hf:∀ v u s2 x y H2,Inv X pins σ H2 s2->RelV x v->RelV y u->R x y H2->wpAny (model X.prog X.w) X.A (f v u) Q X.xe s2) :
  wpAny (model X.prog X.w) X.A (eval a X.env) (fun v s₁=>wpAny (model X.prog X.w) X.A (eval b X.env) (fun u s₂=>wpAny (model X.prog X.w) X.A (f v u) Q X.xe s₂) X.xe s₁) X.xe s:=by
 refine thn (ha pins s σ H _ I h) fun v s1 Z=>?_;obtain⟨x,H1,I1,r1,q1⟩:=Z;refine thn (hb pins s1 σ H1 _ I1 q1) fun u s2 Z=>?_;obtain⟨y,H2,I2,r2,q2⟩:=Z;exact hf v u s2 x y H2 I2 r1 r2 q2
theorem rH{op:Operator}{r:R2}(ho:OpR X (binaryOp op) r)(ha:PE X a ta)(hb:PE X b tb):PE X (.BinOp a op b pos) (tOp r ta tb):=by
 intro pins s σ H Q I h;exact wpAny_BinOp (Kw ha hb I h fun v u s2 x y H2 I2 rx ry q=>ho pins s2 σ H2 x y v u Q I2 rx ry q)
theorem LD{op:UnaryOp}{r:V->Hp->VK->Prop}(ho:UnR X (unaryOp op) r)(ha:PE X a ta):PE X (.UnaryOp op a pos) (tUn r ta):=by
 intro pins s σ H Q I h;exact UnaryOp_ (thn (ha pins s σ H _ I h) fun v s1 ⟨x,H1,I1,r1,q1⟩=>ho pins s1 σ H1 x v Q I1 r1 q1)
theorem opI{f:Value->Value->Sem Value}{C:Int->Int->Prop}(rule:∀ (i j:Int) (t u:Tok) (s:Shared) (Q:VS) (E:VS),C i j->Q (.int (g i j) s.toks) { s with toks:=s.toks + 1 }->wpAny (model X.prog X.w) X.A (f (.int i t) (.int j u)) Q E s) :
  OpR X f (rI C fun i j=>.int (g i j)):=by
 intro pins s σ H x y v u Q I rx ry h;obtain⟨i,j,rfl,rfl,hc,q⟩:=h;obtain⟨t,rfl⟩:=rx;obtain⟨t',rfl⟩:=ry;exact rule i j t t' s _ _ hc ⟨.int (g i j),H,I.tok _,⟨_,rfl⟩,q⟩
theorem yo{f:Value->Value->Sem Value}(rule:∀ (i j:Int) (t u:Tok) (s:Shared) (Q:VS) (E:VS),Q (.int (g i j) s.toks) { s with toks:=s.toks + 1 }->wpAny (model X.prog X.w) X.A (f (.int i t) (.int j u)) Q E s) :
  OpR X f (rI0 fun i j=>.int (g i j)):=by
 intro pins s σ H x y v u Q I rx ry h;obtain⟨i,j,rfl,rfl,q⟩:=h;obtain⟨t,rfl⟩:=rx;obtain⟨t',rfl⟩:=ry;exact rule i j t t' s _ _ ⟨.int (g i j),H,I.tok _,⟨_,rfl⟩,q⟩
theorem Jn{f:Value->Value->Sem Value}{g:Int->Int->Bool}(rule:∀ (i j:Int) (t u:Tok) (s:Shared) (Q:VS) (E:VS),Q (.bool (g i j)) s->wpAny (model X.prog X.w) X.A (f (.int i t) (.int j u)) Q E s) :
  OpR X f (rI0 fun i j=>.bl (g i j)):=by
 intro pins s σ H x y v u Q I rx ry h;obtain⟨i,j,rfl,rfl,q⟩:=h;obtain⟨t,rfl⟩:=rx;obtain⟨t',rfl⟩:=ry;exact rule i j t t' s _ _ ⟨.bl (g i j),H,I,rfl,q⟩
def KS (i j:Int):Prop:=0 < j/\j < 1073741824
def Ey (i j:Int):Prop:=0<=j/\j<=1000000/\i.natAbs < 2 ^ 64
def Ez (i j:Int):Prop:=(-(2 ^ 64) < i/\i < 2 ^ 64)\/(-(2 ^ 64) < j/\j < 2 ^ 64)
theorem Ez.ok{i j:Int}(h:Ez i j):IntMulOk i j:=by
 rcases h with ⟨h1,h2⟩ | ⟨h1,h2⟩
 ·exact .of_left (intBits_le_64 h1 h2)
 ·exact .of_right (intBits_le_64 h1 h2)
theorem Jm:OpR X (binaryOp .Add) (rI0 fun i j=>.int (i + j)):=yo fun _ _ _ _ _ _ _ q=>add_int q
theorem Jf:OpR X (binaryOp .Sub) (rI0 fun i j=>.int (i - j)):=yo fun _ _ _ _ _ _ _ q=>sub_int q
theorem Ji:OpR X (binaryOp .Mult) (rI Ez fun i j=>.int (i * j)):=opI fun _ _ _ _ _ _ _ hc q=>mul_int q hc.ok
theorem FE:OpR X (binaryOp .FloorDiv) (rI KS fun i j=>.int (i / j)):=opI fun i j _ _ _ _ _ hc q=>by
 have h1:(0:Int) < j:=hc.1;have h2:j < 1073741824:=hc.2;exact floordiv_int (by lia) (by rw[Int.fdiv_eq_ediv_of_nonneg i (by lia)];exact q) (.inl (PyProof.noPylong_small (by lia)))
theorem Jj:OpR X (binaryOp .Mod) (rI (fun _ j=>0 < j) fun i j=>.int (i % j)):=opI fun i j _ _ _ _ _ hc q=>by
 have h1:(0:Int) < j:=hc;exact mod_int' (by lia) (by rw[Int.fmod_eq_emod_of_nonneg i (by lia)];exact q)
theorem C5:OpR X (binaryOp .Pow) (rI Ey fun i j=>.int (i ^ j.toNat)):=opI fun _ _ _ _ _ _ _ hc q=>pow_int_small hc.1 hc.2.1 hc.2.2 q
theorem unI{f:Value->Sem Value}{g:Int->Int}(rule:∀ (i:Int) (t:Tok) (s:Shared) (Q:VS) (E:VS),Q (.int (g i) s.toks) { s with toks:=s.toks + 1 }->wpAny (model X.prog X.w) X.A (f (.int i t)) Q E s) :
  UnR X f (rU fun i=>.int (g i)):=by
 intro pins s σ H x v Q I rx h;obtain⟨i,rfl,q⟩:=h;obtain⟨t,rfl⟩:=rx;exact rule i t s _ _ ⟨.int (g i),H,I.tok _,⟨_,rfl⟩,q⟩
theorem Ih:UnR X (unaryOp .USub) (rU fun i=>.int (-i)):=unI fun _ _ _ _ _ q=>neg_int q
theorem yS{pins:Pn}{Q:VK}{k k':Bool}(I:Inv X pins σ H s)(q:Q (.bl k) H)(e:k=k'):EP X pins σ Q (.bool k') s:=by
 subst e;exact⟨.bl k,H,I,rfl,q⟩
theorem LN:OpR X (compareOp .Lt) (rI0 fun i j=>.bl (decide (i < j))):=Jn fun _ _ _ _ _ _ _ q=>lt_int q
theorem LO:OpR X (compareOp .LtE) (rI0 fun i j=>.bl (decide (i<=j))):=Jn fun _ _ _ _ _ _ _ q=>le_int q
theorem LP:OpR X (compareOp .Gt) (rI0 fun i j=>.bl (decide (j < i))):=Jn fun _ _ _ _ _ _ _ q=>gt_int q
theorem OpR.or{f:Value->Value->Sem Value}{r r':R2}(h:OpR X f r)(h':OpR X f r'):OpR X f (fun x y H Q=>r x y H Q\/r' x y H Q):=by
 intro pins s σ H x y v u Q I rx ry q;rcases q with q | q
 ·exact h pins s σ H x y v u Q I rx ry q
 ·exact h' pins s σ H x y v u Q I rx ry q
theorem ba(b:Expr)(h:autoParam (op≠.In) wP)(h2:autoParam (op≠.NotIn) wP):behindInMarks op b=false:=by
 have e1:(op == CmpOp.In)=false:=by cases op <;> first | rfl | exact absurd rfl h
 have e2:(op == CmpOp.NotIn)=false:=by cases op <;> first | rfl | exact absurd rfl h2
 cases b <;> simp [behindInMarks,e1,e2]
theorem Fu{r:R2}(ho:OpR X (compareOp op) r)(ha:PE X a ta)(hb:PE X b tb)(hm:behindInMarks op b=false):PE X (.Compare a [op] [b] pos) (tOp r ta tb):=by
 intro pins s σ H Q I h;exact wpAny_Compare1 (Kw ha hb I h fun v u s2 x y H2 I2 rx ry q=>ho pins s2 σ H2 x y v u Q I2 rx ry q) hm
def zv (t:TE):TT:=fun σ H Q=>t σ H fun x H'=>∃ k,x=.bl k/\Q k H'
theorem Fc{r:R2}(ho:OpR X (compareOp op) r)(ha:PE X a ta)(hb:PE X b tb)(hm:behindInMarks op b=false):PT X (.Compare a [op] [b] pos) (zv (tOp r ta tb)):=by
 intro pins s σ H Q I h;refine wpAny_isTrue_Compare1 (thn (ha pins s σ H _ I h) fun v s1 ⟨x,H1,I1,r1,q1⟩=>thn (hb pins s1 σ H1 _ I1 q1) fun u s2 ⟨y,H2,I2,r2,q2⟩=>
  thn (ho pins s2 σ H2 x y v u _ I2 r1 r2 q2) fun c s3 ⟨z,H3,I3,r3,k,e,q3⟩=>?_) hm
 subst e;cases r3;exact wpAny_truthy_bool ⟨H3,I3,q3⟩
def qT (r r':R2) (ta tb tc:TE):TE:=fun σ H Q=>ta σ H fun x H1=>tb σ H1 fun y H2=>r x y H2 fun z H3=>∃ k,z=.bl k/\
 (if k=true then tc σ H3 fun w' H4=>r' y w' H4 Q else Q (.bl false) H3)
theorem CM{op':CmpOp}{r r':R2}(ho:OpR X (compareOp op) r)(ho':OpR X (compareOp op') r')(ha:PE X a ta)(hb:PE X b tb)(hc:PE X c tc)(hm:lastMarks [op,op'] [b,c]=false:=by with_unfolding_all rfl):PE X (.Compare a [op,op'] [b,c] pos) (qT r r' ta tb tc):=by
 intro pins s σ H Q I h;refine Compare_chain (thn (ha pins s σ H _ I h) fun v s1 ⟨x,H1,I1,r1,q1⟩=>chain_link (thn (hb pins s1 σ H1 _ I1 q1) fun u s2 ⟨y,H2,I2,r2,q2⟩=>
  thn (ho pins s2 σ H2 x y v u _ I2 r1 r2 q2) fun d s3 ⟨z,H3,I3,r3,k,e,q3⟩=>?_)) hm
 subst e;cases r3;refine wpAny_truthy_bool ?_;cases k with
 | false=>exact ite_ff ⟨.bl false,H3,I3,rfl,q3⟩
 | true=>exact ite_tt (chain_last (thn (hc pins s3 σ H3 _ I3 q3) fun w' s4 ⟨z',H4,I4,r4,q4⟩=>ho' pins s4 σ H4 y z' u w' Q I4 r2 r4 q4))
theorem Cv{op':CmpOp}{r r':R2}(ho:OpR X (compareOp op) r)(ho':OpR X (compareOp op') r')(ha:PE X a ta)(hb:PE X b tb)(hc:PE X c tc)(hm:lastMarks [op,op'] [b,c]=false:=by with_unfolding_all rfl):PT X (.Compare a [op,op'] [b,c] pos) (zv (qT r r' ta tb tc)):=by
 intro pins s σ H Q I h;refine isTrue_chain (thn (ha pins s σ H _ I h) fun v s1 ⟨x,H1,I1,r1,q1⟩=>test_link (thn (hb pins s1 σ H1 _ I1 q1) fun u s2 ⟨y,H2,I2,r2,q2⟩=>
  thn (ho pins s2 σ H2 x y v u _ I2 r1 r2 q2) fun d s3 ⟨z,H3,I3,r3,k,e,q3⟩=>?_)) hm
 subst e;cases r3;refine wpAny_truthy_bool ?_;cases k with
 | false=>
  obtain⟨k',e',q'⟩:=q3;cases e';exact ite_ff ⟨H3,I3,q'⟩
 | true=>
  refine ite_tt (test_last (thn (hc pins s3 σ H3 _ I3 q3) fun w' s4 ⟨z',H4,I4,r4,q4⟩=>thn (ho' pins s4 σ H4 y z' u w' _ I4 r2 r4 q4) fun d' s5 Z=>?_));obtain⟨z2,H5,I5,r5,k2,e2,q5⟩:=Z;subst e2;cases r5;exact wpAny_truthy_bool ⟨H5,I5,q5⟩
theorem mU:(sizeLine:Nat) < 2 ^ 63:=by rw[sizeLine_eq];decide
theorem yn:OpR X (binaryOp .Add) (fun x y H Q=>∃ i j,x=.str i/\y=.str j/\i.length + j.length<=sizeLine/\Q (.str (i++j)) H):=by
 intro pins s σ H x y v u Q I rx ry h;obtain⟨i,j,rfl,rfl,hz,q⟩:=h;obtain⟨t,rfl⟩:=rx;obtain⟨t',rfl⟩:=ry;exact add_str (fun t' tk=>⟨.str (i++j),H,I.tok _,⟨_,rfl⟩,q⟩) hz
theorem vals1{x:V}(r:Vals [x] us):∃ u,us=[u]/\RelV x u:=by
 cases r with
 | cons r1 r2=>cases r2;exact⟨_,rfl,r1⟩
theorem vals2{x:V}(r:Vals [x,y] us):∃ u w',us=[u,w']/\RelV x u/\RelV y w':=by
 cases r with
 | cons r1 r2=>
  cases r2 with
  | cons r3 r4=>cases r4;exact⟨_,_,rfl,r1,r3⟩
theorem Bn(hc:X.calm=true):bS X (.builtin "max") (fun xs H Q=>∃ i j,xs=[.int i,.int j]/\Q (.int (if j > i then j else i)) H):=by
 intro pins s σ H xs us Q I r h;obtain⟨i,j,rfl,q⟩:=h;obtain⟨u,w',rfl,⟨t,rfl⟩,⟨t',rfl⟩⟩:=vals2 r;refine max_two_ints (I.ok.hd hc) fun h' tk k=>⟨_,H,I.kept k,?_,q⟩;by_cases hj:j > i
 ·rw[if_pos hj,if_pos hj];exact⟨_,rfl⟩
 ·rw[if_neg hj,if_neg hj];exact⟨_,rfl⟩
theorem Bm(hc:X.calm=true):bS X (.builtin "min") (fun xs H Q=>∃ i j,xs=[.int i,.int j]/\Q (.int (if j < i then j else i)) H):=by
 intro pins s σ H xs us Q I r h;obtain⟨i,j,rfl,q⟩:=h;obtain⟨u,w',rfl,⟨t,rfl⟩,⟨t',rfl⟩⟩:=vals2 r;refine min_two_ints (I.ok.hd hc) fun h' tk k=>⟨_,H,I.kept k,?_,q⟩;by_cases hj:j < i
 ·rw[if_pos hj,if_pos hj];exact⟨_,rfl⟩
 ·rw[if_neg hj,if_neg hj];exact⟨_,rfl⟩
end
structure zg (h:Heap) (x dx C:Addr) (mA:SV):Prop where
 obj:h.get? x=some (PySem.W.instObj C dx)
 ns:h.Ns1 dx mA
 ne:dx≠x
theorem lF(n:h.Ns1 dx mA):∃ od,h.get? dx=some od/\∀ name,PySem.W.lookIn name od=some (mA name):=by
 obtain⟨o,es,ep,ho,hd,hk,_,hm⟩:=n;refine⟨o,ho,fun name=>?_⟩;have e:=hm name;unfold nsFind findBy at e;rw[<- Array.find?_toList] at e;unfold PySem.W.lookIn;rw[hd];dsimp only;split
 ·rename_i y q;rw[q] at e;exact congrArg some e
 ·rename_i q;rw[q] at e;have a:es.toList.any (·.refKey)=false:=by
   rw[List.any_eq_false];intro y hy;obtain⟨z,t,hkey⟩:=hk y (Array.mem_toList_iff.mp hy);simp [DictEntry.refKey,hkey]
  have a':¬ es.toList.any (·.refKey)=true:=by rw[a];exact Bool.false_ne_true
  rw[if_neg a'];exact congrArg some e
theorem zg.look{x:Addr}(I:zg h x dx C mA):∃ od,PySem.W.InstAt h x (PySem.W.instObj C dx) C (some od)/\∀ name,PySem.W.lookIn name od=some (mA name):=
 let ⟨od,ho,hl⟩:=lF I.ns
 ⟨od,⟨I.obj,rfl,rfl,ho⟩,hl⟩
section
variable {x:Addr}{v:Value}
theorem get_map{expr:Bool}{Q:VS}(X:K.In s.heap)(I:zg s.heap x dx C mA)(hg:PySem.W.plainGet K C name=true)(hh:PySem.W.hasDictIn K C=true)(ha:PySem.W.findIn K (.ref C) name=some none)(hv:mA name=some v)(hv':PySem.W.handedIn v=true)(h:Q v { s with toks:=s.toks + 1 }) :
  wpAny (model prog w) A (getAttr (.ref x) name expr) Q E s:=by
 obtain⟨od,J,hl⟩:=I.look;exact PySem.W.get_value X J (PySem.W.plainGet_of hg).1 (PySem.W.findObj_own hh ha rfl (by rw[hl,hv])) hv' h
theorem DD{pl:Sem Bool}(X:K.In s.heap)(I:zg s.heap x dx C mA)(hg:PySem.W.plainGet K C name=true)(hf:PySem.W.findIn K (.ref C) name=some (some (.ref f)))(ht:PySem.W.isFn K (.ref f)=true)(hv:mA name=none)(h:Q (.ref f,[.ref x]) s) :
  wpAny (model prog w) A (getMethod (.ref x) name pl) Q E s:=by
 obtain⟨od,J,hl⟩:=I.look;exact PySem.W.method_fn X J (PySem.W.plainGet_of hg).1 (PySem.W.plainGet_of hg).2 hf (beq_iff_eq.mp ht) (by show (PySem.W.lookIn name od).map (·.isSome)=some false;rw[hl,hv];rfl) h
theorem EM{ns:Ls0}{Q:Unit->Shared->Prop}(X:K.In s.heap)(I:zg s.heap x dx C mA)(hs:PySem.W.findIn K (.ref C) "__setattr__"=some (some (.builtin "object.__setattr__")))(hp:PySem.W.plainOver K C=true)(ht:PySem.W.takerIn K C name=some none)(hh:PySem.W.hasDictIn K C=true)(hw:PySem.Within mA ns)(hsz:ns.length<=sizeLine)(h:∀ h',zg h' x dx C (fun y=>if y=name then some v else mA y)->Heap.SameBut dx s.heap h'->Q () { s with heap:=h',toks:=s.toks + 2 }) :
  wpAny (model prog w) A (setAttr (.ref x) name v) Q E s:=by
 obtain⟨od,J,hl⟩:=I.look;refine PySem.W.set_plain X J hs (PySem.W.osa_open (s:={ s with toks:=s.toks + 1 }) (r:=none) X J hp ht fun b=>?_);obtain⟨cd,hc,hd'⟩:=PySem.W.any_some hh;have hx:s.heap.get? x=some ⟨.ref C,some dx,.plain,#[]⟩:=I.obj;refine wpAny_bind (wpAny_pure (wpAny_bind (wpAny_bind (wpAny_loadPart hx (wpAny_bind (PySem.W.Looks.here (s:={ s with toks:=s.toks + 1 }) (PySem.W.looks_clsIn X hc) ?_))))));rw[hd'];refine wpAny_pure (a:=some dx) (wpAny_bind (wpAny_pure (wpAny_bind ?_)));refine wpAny_nsSet1 (s:={ s with toks:=s.toks + 1 }) I.ns fun h' hn2 hs2=>?_;obtain⟨oD,esD,epD,hoD,hdD,hcD⟩:=hn2.count (PySem.Within.cons name v hw);refine wpAny_bind (wpAny_lookBehind hoD (by rw[hdD];exact pastItsLine_dict (Nat.le_trans hcD (by rw[List.length_cons];lia))) ?_);exact wpAny_pure (h _ ⟨(hs2.2 _ (Ne.symm I.ne)).trans I.obj,hn2,I.ne⟩ hs2)
theorem Di{vs:Lv0}(X:K.In s.heap)(hm:PySem.W.makesIn K C=true)(hi:PySem.W.findIn K (.ref C) "__init__"=some (some (.ref f)))(hf:PySem.W.typeIn K (.ref f)=some (.type "function"))(h:codeAny (model prog w) (A.under (.builtin "type.__call__" ⟨.ref C::vs,kw⟩)) (.call (.ref f) ⟨.ref (s.heap.objs.size + 1)::vs,kw⟩) (PySem.W.InitBack (s.heap.objs.size + 1) R)
   { s with heap:=(s.heap.push PySem.W.emptyDict).push (PySem.W.instObj C s.heap.objs.size) }) :
  codeAny (model prog w) A (.call (.ref C) ⟨vs,kw⟩) R s:=by
 obtain⟨hh,g,d,t,os⟩:=s;exact PySem.W.make_core (PySem.W.makes_of X hm) (PySem.W.looks_findIn X hi) (fun self=>PySem.W.bind_fn X self hf) (.inl rfl) h
theorem A4(X:K.In s.heap)(hm:PySem.W.makesIn K C=true)(hi:PySem.W.findIn K (.ref C) "__init__"=some (some (.builtin "object.__init__")))(hb:∀ self,PySem.W.Looks (model prog w) s.heap (bindSpecial (.builtin "object.__init__") self) (.builtin "object.__init__",[self]))(h:codeAny (model prog w) (A.under (.builtin "type.__call__" ⟨[.ref C],[]⟩)) (.call (.builtin "object.__init__") ⟨[.ref (s.heap.objs.size + 1)],[]⟩) (PySem.W.InitBack (s.heap.objs.size + 1) R)
   { s with heap:=(s.heap.push PySem.W.emptyDict).push (PySem.W.instObj C s.heap.objs.size) }) :
  codeAny (model prog w) A (.call (.ref C) ⟨[],[]⟩) R s:=by
 obtain⟨hh,g,d,t,os⟩:=s;exact PySem.W.make_core (PySem.W.makes_of X hm) (PySem.W.looks_findIn X hi) hb (.inr ⟨rfl,rfl⟩) h
end
noncomputable def gX (f:Str) (v:V):List (Str×V)->List (Str×V)
 | []=>[(f,v)]
 | (g,x)::r=>if g=f then (g,v)::r else (g,x)::gX f v r
theorem kG (f g:Str) (v:V):∀ fs:List (Str×V),(gX f v fs).lookup g=if g=f then some v else fs.lookup g
 | []=>by
  show List.lookup g [(f,v)]=_;by_cases h:g=f
  ·have hb:(g == f)=true:=beq_iff_eq.mpr h;simp only[List.lookup,hb,if_pos h]
  ·have hb:(g == f)=false:=beq_eq_false_iff_ne.mpr h;simp only[List.lookup,hb,if_neg h]
 | (k,x)::r=>by
  have ih:=kG f g v r;rw[show gX f v ((k,x)::r)=(if k=f then (k,v)::r else (k,x)::gX f v r) from rfl];by_cases hk:k=f
  ·rw[if_pos hk];by_cases h:g=k
   ·have hb:(g == k)=true:=beq_iff_eq.mpr h;simp only[List.lookup,hb,if_pos (h.trans hk)]
   ·have hb:(g == k)=false:=beq_eq_false_iff_ne.mpr h;simp only[List.lookup,hb,if_neg (fun e:g=f=>h (e.trans hk.symm))]
  ·rw[if_neg hk];by_cases h:g=k
   ·have hb:(g == k)=true:=beq_iff_eq.mpr h;simp only[List.lookup,hb,if_neg (fun e:g=f=>hk (h.symm.trans e))]
   ·have hb:(g == k)=false:=beq_eq_false_iff_ne.mpr h;simp only[List.lookup,hb];exact ih
theorem i5 (f:Str) (v:V):∀ fs:List (Str×V),f∈(gX f v fs).map (·.1)/\∀ g,g∈fs.map (·.1)->g∈(gX f v fs).map (·.1)
 | []=>⟨by simp [gX],fun g h=>by simp at h⟩
 | (k,x)::r=>by
  obtain⟨i1,i2⟩:=i5 f v r;rw[show gX f v ((k,x)::r)=(if k=f then (k,v)::r else (k,x)::gX f v r) from rfl];by_cases hk:k=f
  ·rw[if_pos hk];subst hk;exact⟨by simp,fun g h=>by simpa using h⟩
  ·rw[if_neg hk];refine⟨?_,fun g h=>?_⟩
   ·rw[List.map_cons];exact List.mem_cons_of_mem _ i1
   ·rw[List.map_cons] at h ⊢;rcases List.mem_cons.mp h with e | e
    ·exact List.mem_cons.mpr (.inl e)
    ·exact List.mem_cons_of_mem _ (i2 g e)
theorem pM (f:Str) (v:V):∀ fs:List (Str×V),(gX f v fs).length<=fs.length + 1
 | []=>by simp [gX]
 | (k,x)::r=>by
  have ih:=pM f v r;rw[show gX f v ((k,x)::r)=(if k=f then (k,v)::r else (k,x)::gX f v r) from rfl];by_cases hk:k=f
  ·rw[if_pos hk,List.length_cons,List.length_cons];lia
  ·rw[if_neg hk,List.length_cons,List.length_cons];lia
theorem lU.some_of(r:lU (some v) o):∃ u,o=some u/\RelV v u:=by
 cases o with
 | none=>exact(show False from r).elim
 | some u=>exact⟨u,rfl,r⟩
theorem lU.none_of(r:lU none o):o=none:=by
 cases o with
 | none=>rfl
 | some u=>exact(show False from r).elim
theorem ux(r:RelV v u):PySem.W.handedIn u=true:=by
 cases v with
 | non=>cases (show u=Value.none from r);rfl
 | bl b=>cases (show u=Value.bool b from r);rfl
 | int i=>obtain⟨t,e⟩:=(show ∃ t,u=Value.int i t from r);cases e;rfl
 | str x=>obtain⟨t,e⟩:=(show ∃ t,u=Value.str x t from r);cases e;rfl
 | byt b=>obtain⟨t,e⟩:=(show ∃ t,u=Value.bytes b t from r);cases e;rfl
 | flt b=>obtain⟨t,e⟩:=(show ∃ t,u=Value.float b t from r);cases e;rfl
 | ref a=>cases (show u=Value.ref a from r);rfl
 | ty n=>cases (show u=Value.type n from r);rfl
section
variable {H':Hp}{fs fs':List (Str×V)}
theorem nQ(hok:HOk P w H h)(e:H a=some (.ins C dx fs)):∃ mA,zg h a dx C mA/\(∀ f,lU (fs.lookup f) (mA f))/\PySem.Within mA (fs.map (·.1))/\fs.length<=1000/\H dx=some (.own a):=by
 obtain⟨d,z,ne,ob,mA,n,r,q⟩:=(show b9 P w H h a (.ins C dx fs) from hok a _ e);exact⟨mA,⟨ob,n,ne⟩,r,q,z,d⟩
end
structure Cls (K:Fg0) (C:Addr):Prop where
 pg:PySem.W.plainGet K C Str.empty=true
 hd:PySem.W.hasDictIn K C=true
 po:PySem.W.plainOver K C=true
 sa:PySem.W.findIn K (.ref C) "__setattr__"=some (some (.builtin "object.__setattr__"))
theorem Cls.get(c:Cls K C)(f:Str):PySem.W.plainGet K C f=true:=c.pg
def bO (K:Fg0) (C:Addr) (f:Str):Prop:=PySem.W.findIn K (.ref C) f=some none
theorem bO.K7{f:Str}(n:bO K C f):PySem.W.takerIn K C f=some none:=by
 unfold PySem.W.takerIn;rw[show PySem.W.findIn K (.ref C) f=some none from n]
 rfl
structure Meth (K:Fg0) (C:Addr) (m:Str) (f:Addr):Prop where
 at_:PySem.W.findIn K (.ref C) m=some (some (.ref f))
 fn:PySem.W.isFn K (.ref f)=true
 kp:PySem.W.keepIn K (.ref f)=true
section
variable {pins:Pn}{fs:List (Str×V)}{f:Str}
theorem yP{b:Bool}{Q:VS}(I:Inv X pins σ H s)(e:H a=some (.ins C dx fs))(c:Cls X.K C)(n:bO X.K C f)(l:fs.lookup f=some v)(h:∀ u s',Inv X pins σ H s'->RelV v u->Q u s'):wpAny (model X.prog X.w) A (getAttr (.ref a) f b) Q E s:=by
 obtain⟨mA,O,r,_,_,_⟩:=nQ I.hok e;obtain⟨u,hu,ru⟩:=lU.some_of (v:=v) (o:=mA f) (by rw[<- l];exact r f);exact get_map I.kIn O (c.get f) c.hd n hu (ux ru) (h u _ (I.tok _) ru)
theorem mV{g:Addr}{pl:Sem Bool}(I:Inv X pins σ H s)(e:H a=some (.ins C dx fs))(c:Cls X.K C)(k:Meth X.K C m g)(l:fs.lookup m=none)(h:Q (.ref g,[.ref a]) s):wpAny (model X.prog X.w) A (getMethod (.ref a) m pl) Q E s:=by
 obtain⟨mA,O,r,_,_,_⟩:=nQ I.hok e;have hn:mA m=none:=lU.none_of (by rw[<- l];exact r m);exact DD I.kIn O (c.get m) k.at_ k.fn hn h
theorem x8{Q:Unit->Shared->Prop}(I:Inv X pins σ H s)(e:H a=some (.ins C dx fs))(c:Cls X.K C)(n:bO X.K C f)(hl:fs.length < 1000)(ry:RelV y u)(h:∀ s',Inv X pins σ (upd H a (.ins C dx (gX f y fs))) s'->Q () s'):wpAny (model X.prog X.w) A (setAttr (.ref a) f u) Q E s:=by
 obtain⟨mA,O,r,wi,_,ho⟩:=nQ I.hok e;have hz:(fs.map (·.1)).length<=sizeLine:=by rw[lM0,sizeLine_eq];lia
 refine EM I.kIn O c.sa c.po n.K7 c.hd wi hz fun h' O' sb=>h _ ?_;have hd:∃ o,h'.get? dx=some o:=let ⟨o,_,_,e',_⟩:=O'.ns;⟨o,e'⟩
 refine I.write (x:=a) (e:=dx) (by rw[e];exact True.intro) (.inr ho) (fun b q hb z=>(sb.2 b hb).trans z) hd ?_;refine⟨by rw[ah O.ne];exact ho,?_,O.ne,O'.obj,_,O'.ns,fun g=>?_,fun g hg=>?_⟩
 ·have:=pM f y fs;lia
 ·show lU ((gX f y fs).lookup g) (if g=f then some u else mA g);rw[kG];by_cases q:g=f
  ·rw[if_pos q,if_pos q];exact ry
  ·rw[if_neg q,if_neg q];exact r g
 ·by_cases q:g=f
  ·rw[q];exact(i5 f y fs).1
  ·refine(i5 f y fs).2 g (wi g fun z=>hg ?_);show (if g=f then some u else mA g)=none;rw[if_neg q];exact z
theorem Inv.made(I:Inv X pins σ H s):Inv X pins σ (upd (upd H s.heap.objs.size (.own (s.heap.objs.size + 1))) (s.heap.objs.size + 1) (.ins C s.heap.objs.size []))
  { s with heap:=(s.heap.push PySem.W.emptyDict).push (PySem.W.instObj C s.heap.objs.size) }:=by
 have e1:(s.heap.push PySem.W.emptyDict).get? s.heap.objs.size=some PySem.W.emptyDict:=Heap.get?_push_size s.heap rfl;have e2:((s.heap.push PySem.W.emptyDict).push (PySem.W.instObj C s.heap.objs.size)).get? (s.heap.objs.size + 1)=some (PySem.W.instObj C s.heap.objs.size):=by
  have:=Heap.get?_push_size (s.heap.push PySem.W.emptyDict) (o:=PySem.W.instObj C s.heap.objs.size) rfl
  rwa [Heap.size_push] at this
 have e3:(s.heap.push PySem.W.emptyDict).Ns s.heap.objs.size (fun _=>none):=⟨PySem.W.emptyDict,#[],_,e1,rfl,(fun e he=>absurd he (by simp)),fun _=>rfl⟩;have I1:=I.laid (a:=s.heap.objs.size) (o:=.own (s.heap.objs.size + 1)) (h':=s.heap.push PySem.W.emptyDict) (t':=s.toks) (fun b u q=>Heap.get?_push_of_some _ q) (Nat.le_refl _) ⟨_,e1⟩;refine I1.laid (a:=s.heap.objs.size + 1) (o:=.ins C s.heap.objs.size []) (t':=s.toks) (fun b u q=>Heap.get?_push_of_some _ q) (Nat.le_of_eq (Heap.size_push _ _)) ?_;have ne:s.heap.objs.size≠s.heap.objs.size + 1:=Nat.ne_of_lt (Nat.lt_succ_self _);refine⟨by rw[ah ne,ar],Nat.zero_le _,ne,e2,fun _=>none,(Heap.Ns1.of_empty e3).at fun o q=>Heap.get?_push_of_some _ q,fun _=>True.intro,fun y hy=>absurd rfl hy⟩
theorem Ai{env:Env}{f:Str}{Q:VS}(hb:attributeBase e f env (eval e env)=eval e env)(h:wpAny (model prog w) A (eval e env) (fun o s₁=>wpAny (model prog w) A (getAttr o f true) Q E s₁) E s):wpAny (model prog w) A (eval (.Attribute e f pos) env) Q E s:=
 Attribute_any_ h (by rw[arm_eval_Attribute,hb])
end
def La (K:Fg0) (ta:TE) (f:Str):TE:=fun σ H Q=>ta σ H fun x H1=>∃ a C dx fs v,x=.ref a/\H1 a=some (.ins C dx fs)/\Cls K C/\bO K C f/\fs.lookup f=some v/\Q v H1
def ID (K:Fg0) (ta tv:TE) (f:Str):TS:=fun D σ H=>tv σ H fun y H1=>ta σ H1 fun x H2=>∃ a C dx fs,x=.ref a/\H2 a=some (.ins C dx fs)/\Cls K C/\bO K C f/\fs.length < 1000/\
 D.nx σ (upd H2 a (.ins C dx (gX f y fs)))
section
variable {o value:Expr}{f:Str}{pos' tpos:Pos}{tv:TE}
theorem I9(he:PE X e ta)(hb:attributeBase e f X.env (eval e X.env)=eval e X.env):PE X (.Attribute e f pos) (La X.K ta f):=by
 intro pins s σ H Q I h;refine Ai hb (thn (he pins s σ H _ I h) fun u s1 Z=>?_);obtain⟨x,H1,I1,rx,a,C,dx,fs,v,ex,ea,c,n,l,q⟩:=Z;subst ex;obtain rfl:u=Value.ref a:=rx;exact yP I1 ea c n l fun u' s2 I2 ru=>⟨v,H1,I2,ru,q⟩
theorem IT(ha:PE X o ta)(hv:PE X value tv)(hs:swapsWith value (some (.Attribute o f pos')) pos.line X.env=pure false):PS X (.Assign [.Attribute o f pos'] value pos) (ID X.K ta tv f):=by
 intro pins s σ H D I h;refine plainObj_wpAny_Assign_Attribute (thn (hv pins s σ H _ I h) fun u s1 ⟨y,H1,I1,ry,q⟩=>thn (ha pins s1 σ H1 _ I1 q) fun ov s2 Z=>?_) hs;obtain⟨x,H2,I2,rx,a,C,dx,fs,ex,ea,c,n,l,q2⟩:=Z;subst ex;obtain rfl:ov=Value.ref a:=rx;exact x8 I2 ea c n l ry fun s3 I3=>⟨σ,_,I3,q2⟩
theorem Hm{pl:Sem Bool}{args:List Expr}{pins:Pn}{Q:VS}(he:PE X e te)(I:Inv X pins σ H s)(h:te σ H fun x H1=>∃ a C dx fs g,x=.ref a/\H1 a=some (.ins C dx fs)/\Cls X.K C/\Meth X.K C m g/\fs.lookup m=none/\
   ∀ s1,Inv X pins σ H1 s1->wpAny (model X.prog X.w) X.A (callWith pos (.ref g) [.ref a] (backTo pos (starEach args X.env)) (backToKw pos (keywordEach [] X.env))) Q X.xe s1)(ht:eval (.Call (.Attribute e m apos) args [] pos) X.env=(do
   let ov <- eval e X.env
   standAt apos.atName
   let (f,first) <- holding [ov] (getMethod ov m pl)
   callWith pos f first (backTo pos (starEach args X.env)) (backToKw pos (keywordEach [] X.env)))) :
  wpAny (model X.prog X.w) X.A (eval (.Call (.Attribute e m apos) args [] pos) X.env) Q X.xe s:=by
 refine PySem.W.methodCall_KW (pl:=pl) (thn (he pins s σ H _ I h) fun u s1 Z=>?_) ht;obtain⟨x,H1,I1,rx,a,C,dx,fs,g,ex,ea,c,k,l,q⟩:=Z;subst ex;obtain rfl:u=Value.ref a:=rx;exact mV I1 ea c k l (q s1 I1)
end
section
variable {pins:Pn}{Q:VS}{c:Value}{b:Bool}
inductive k8 (K:Fg0) (H:Hp):V->Value->Prop where
 | non:k8 K H .non (.type "NoneType")
 | bl (x:Bool):k8 K H (.bl x) (.type "bool")
 | int (i:Int):k8 K H (.int i) (.type "int")
 | str (x:Str):k8 K H (.str x) (.type "str")
 | flt (x:UInt64):k8 K H (.flt x) (.type "float")
 | lst {a:Addr} {xs:List V} (e:H a=some (.lst xs)):k8 K H (.ref a) (.type "list")
 | frz {a:Addr} {o:Obj} {xs:List V} (e:H a=some (.frz o (.lst xs))):k8 K H (.ref a) (.type "list")
 | tup {a:Addr} {xs:List V} (e:H a=some (.tup xs)):k8 K H (.ref a) (.type "tuple")
 | dK {a:Addr} {kvs:List (Key×V)} (e:H a=some (.dK kvs)):k8 K H (.ref a) (.type "dict")
 | dT {a:Addr} {kvs:List (List Key×V)} (e:H a=some (.dT kvs)):k8 K H (.ref a) (.type "dict")
 | ins {a C dx:Addr} {fs:List (Str×V)} (e:H a=some (.ins C dx fs)) (cl:Cls K C) (ha:PySem.W.findIn K (.ref C) "__class__"=some (some (.builtin "object.__class__")))
   (hn:PySem.W.specialIn K (.builtin "object.__class__") "__get__"=some (some (.builtin "getset_descriptor.__get__"))) (htk:PySem.W.takesIn K (.builtin "object.__class__")=some true)
   (hm:PySem.W.mroIn K C (.type "object")=some true):k8 K H (.ref a) (.ref C)
theorem ur{x:V}{t:Value}(I:Inv X pins σ H s)(rx:RelV x u)(ty:k8 X.K H x t)(e:PySem.W.kitOne X.K t c=some b)(h:∀ tk,Q (.bool b) { s with toks:=tk }) :
  wpAny (model X.prog X.w) A (call (.builtin "isinstance") [u,c]) Q E s:=by
 cases ty with
 | non=>cases (show u=Value.none from rx);exact PySem.W.kia_one PySem.W.kitx_none I.kIn True.intro e (fun z=>nomatch z) h
 | bl y=>cases (show u=Value.bool y from rx);exact PySem.W.kia_one PySem.W.kitx_bool I.kIn True.intro e (fun z=>nomatch z) h
 | int i=>obtain⟨t,q⟩:=(show ∃ t,u=Value.int i t from rx);cases q;exact PySem.W.kia_one PySem.W.kitx_int I.kIn True.intro e (fun z=>nomatch z) h
 | str y=>obtain⟨t,q⟩:=(show ∃ t,u=Value.str y t from rx);cases q;exact PySem.W.kia_one PySem.W.kitx_str I.kIn True.intro e (fun z=>nomatch z) h
 | flt y=>obtain⟨t,q⟩:=(show ∃ t,u=Value.float y t from rx);cases q;exact PySem.W.kia_one PySem.W.kitx_float I.kIn True.intro e (fun z=>nomatch z) h
 | @lst a xs ea=>
  cases (show u=Value.ref a from rx);obtain⟨_,_,n,_,h1⟩:=(show b9 X.prog X.w H s.heap a (.lst xs) from I.hok a _ ea);exact PySem.W.kia_one PySem.W.kitx_list I.kIn ⟨_,h1,rfl⟩ e (fun z=>nomatch z) h
 | @frz a ob xs ea=>
  cases (show u=Value.ref a from rx);obtain⟨_,_,_,n,_,h1⟩:=(show b9 X.prog X.w H s.heap a (.frz ob (.lst xs)) from I.hok a _ ea);exact PySem.W.kia_one PySem.W.kitx_list I.kIn ⟨_,h1,rfl⟩ e (fun z=>nomatch z) h
 | @tup a xs ea=>
  cases (show u=Value.ref a from rx);obtain⟨_,_,_,p⟩:=(show b9 X.prog X.w H s.heap a (.tup xs) from I.hok a _ ea);obtain⟨o,h1,h2,_⟩:=p;exact PySem.W.kia_one PySem.W.kitx_tuple I.kIn ⟨o,h1,h2⟩ e (fun z=>nomatch z) h
 | @dK a kvs ea=>
  cases (show u=Value.ref a from rx);obtain⟨_,_,vs,_,p⟩:=(show b9 X.prog X.w H s.heap a (.dK kvs) from I.hok a _ ea);obtain⟨o,es,ep,h1,h2,_⟩:=p;exact PySem.W.kia_one PySem.W.kitx_dict I.kIn ⟨o,h1,h2.1⟩ e (fun z=>nomatch z) h
 | @dT a kvs ea=>
  cases (show u=Value.ref a from rx);obtain⟨_,_,xs,_,o,es,ep,h1,h2,_⟩:=(show b9 X.prog X.w H s.heap a (.dT kvs) from I.hok a _ ea);exact PySem.W.kia_one PySem.W.kitx_dict I.kIn ⟨o,h1,h2.1⟩ e (fun z=>nomatch z) h
 | @ins a C dx fs ea cl ha hn htk hm=>
  cases (show u=Value.ref a from rx);obtain⟨mA,O,_⟩:=nQ I.hok ea;obtain⟨od,J,_⟩:=O.look;exact PySem.W.kia_one (PySem.W.kitx_own (cl.get _) cl.hd ha hn htk hm) I.kIn J e (fun z=>nomatch z) h
end
structure bF (k:Nat) (A:Around):Prop where
 hd:A.handled=none
 dp:A.depth + 3 * k + 5 < recursionLimit
 un:A.units + 16 * k + 200 < cLine
 gd:A.guards=some []
theorem bF.mono{j:Nat}(r:bF k A)(h:j<=k):bF j A:=⟨r.hd,by have:=r.dp;lia,by have:=r.un;lia,r.gd⟩
theorem bF.deeper(r:bF (k + 1) A)(env:Env):bF k (A.deeper env):=
 ⟨r.hd,by have:=r.dp;show A.depth + 1 + 3 * k + 5 < _;lia,by have:=r.un;show A.units + 3 + 16 * k + 200 < _;lia,r.gd⟩
theorem yE:(A.under (.builtin "type.__call__" ⟨.ref C::us,kw⟩)).depth=A.depth + 1:=by
 first | rfl | simp [Around.under,Code.weight,Code.isCreation,Code.isGuard,Code.isCaller,Code.frames,Code.isFrame,guardIds]
theorem yD:(A.under (.builtin "type.__call__" ⟨.ref C::us,kw⟩)).units=A.units + 1:=by
 first | rfl | simp [Around.under,Code.cUnits,Code.frames,Code.isFrame]
theorem xc:(A.under (.builtin "type.__call__" ⟨.ref C::us,kw⟩)).guards=A.guards:=by
 first | rfl | simp [Around.under,pushGuards,Code.guards,Code.isGuard,guardIds] | (cases A;simp [Around.under,pushGuards,Code.guards,Code.isGuard,guardIds])
theorem bF.make(r:bF (k + 1) A)(C:Addr)(us:Lv0)(kw:List (Str×Value)):bF k (A.under (.builtin "type.__call__" ⟨.ref C::us,kw⟩)):=
 ⟨r.hd,by have:=r.dp;rw[yE];lia,by have:=r.un;rw[yD];lia,by have:=r.gd;rw[xc];exact this⟩
theorem bF.depth(r:bF k A):A.depth < recursionLimit:=by have:=r.dp;lia
theorem bF.units(r:bF k A):A.units + 64 < cLine:=by have:=r.un;lia
def qh:TA:=fun _ H Q=>Q [] H
def nj (ta:TE) (tr:TA):TA:=fun σ H Q=>ta σ H fun x H1=>tr σ H1 fun xs H2=>Q (x::xs) H2
theorem jx:PA X [] qh:=fun _ _ _ _ H Q I h=>Calls.spliced_nil ⟨[],H,I,.nil,h⟩
theorem cv(ha:PE X e te)(hr:PA X es t)(hs:autoParam (starEach (e::es) X.env=(false,eval e X.env)::starEach es X.env) wE):PA X (e::es) (nj te t):=by
 intro pos pins s σ H Q I h;rw[hs];show wpAny _ _ (spliced ((false,eval e X.env)::backTo pos (starEach es X.env))) _ _ s;refine Calls.spliced_cons (thn (ha pins s σ H _ I h) fun u s1 Z=>?_);obtain⟨x,H1,I1,r1,q1⟩:=Z;exact thn (hr pos pins s1 σ H1 _ I1 q1) fun us s2 ⟨xs,H2,I2,r2,q2⟩=>⟨x::xs,H2,I2,.cons r1 r2,q2⟩
def Il (t:TA):TE:=fun σ H Q=>t σ H fun xs H1=>xs.length<=sizeLine/\∀ p,H1 p=none->Q (.ref p) (upd H1 p (.tup xs))
def Iq (t:TA):TE:=fun σ H Q=>t σ H fun xs H1=>xs.length<=sizeLine/\∀ p,H1 p=none->Q (.ref p) (upd H1 p (.lst xs))
theorem CH{x1}(h:PA X es t):PE X (.Tuple es x1 pos) (Il t):=by
 intro pins s σ H Q I hq;refine wpAny_Tuple_spliced (thn (h pos pins s σ H _ I hq) fun us s1 ⟨xs,H1,I1,r,z,q⟩=>⟨by rw[<- r.length];exact z,?_⟩);have hf:H1 s1.heap.objs.size=none:=I1.hok.fresh (Nat.le_refl _);refine⟨.ref s1.heap.objs.size,upd H1 s1.heap.objs.size (.tup xs),I1.laid (t':=s1.toks) (fun b u e=>Heap.get?_push_of_some _ e) (Nat.le_refl _) ?_,rfl,q _ hf⟩;exact⟨z,us,r,⟨_,Heap.get?_push_size _ rfl,rfl,_,rfl⟩⟩
theorem CJ(h:PA X es t):PE X (.List es pos) (Iq t):=by
 intro pins s σ H Q I hq;refine wpAny_List_spliced (thn (h pos pins s σ H _ I hq) fun us s1 ⟨xs,H1,I1,r,z,q⟩=>⟨by rw[<- r.length];exact z,?_⟩);have hf:H1 s1.heap.objs.size=none:=I1.hok.fresh (Nat.le_refl _);refine⟨.ref s1.heap.objs.size,upd H1 s1.heap.objs.size (.lst xs),I1.laid (t':=s1.toks) (fun b u e=>Heap.get?_push_of_some _ e) (Nat.le_refl _) ?_,rfl,q _ hf⟩;exact⟨z,us,0,r,Heap.get?_push_size _ rfl⟩
abbrev Sp:=List V->Hp->VK->XK->Prop
abbrev CXT:=List Env->Hp->Shared->XK->Value->Shared->Prop
structure xM (P:Program) (w:World) (K:Fg0) (mg:SV) (base:Heap) (A:Around) (outer:List Env) (s:Shared) (H:Hp):Prop where
 frames:A.frames=some outer
 mod:Mod K mg base
 bs:∀ b o,base.get? b=some o->s.heap.get? b=some o/\Kpt H b o
 bsz:base.objs.size<=s.heap.objs.size
 i6:s.heap.FunFrames base outer
 frf:∀ b∈frs outer,H b=none
 hok:HOk P w H s.heap
 bare:AllBare s.gens
 tb:TabsAt base H
def CE (outer:List Env) (P:Program) (w:World) (H:Hp) (s:Shared) (Q:VK) (u:Value) (s':Shared):Prop:=
 ∃ v H',s'.os=s.os/\AllBare s'.gens/\Un (frs outer) [] H H' s.heap s'.heap/\HOk P w H' s'.heap/\RelV v u/\Q v H'
def CR (CX:CXT) (outer:List Env) (P:Program) (w:World) (H:Hp) (s:Shared) (Q:VK) (E:XK) (r:Result) (s':Shared):Prop:=
 match r with
 | .ok (.ret u)=>CE outer P w H s Q u s'
 | .ok _=>False
 | .error e=>CX outer H s E e s'
structure aG (P:Program) (w:World) (K:Fg0) (mg:SV) (base:Heap) (CX:CXT) (k:Nat) (f:Addr) (fd:FuncData) (ps:Ls0) (sp:Sp):Prop where
 len:∀ vs H Q E,sp vs H Q E->vs.length=ps.length
 run:∀ (A:Around) (outer:List Env) (s:Shared) (H:Hp) (args:Args) (us:Lv0) (vs:List V) (Q:VK) (E:XK),bF k A->xM P w K mg base A outer s H->BindsTo s fd args (ps.zip us)->Vals vs us->sp vs H Q E->
  codeAny (model P w) A (.call (.ref f) args) (CR CX outer P w H s Q E) s
theorem aG.imp{CX:CXT}{sp sp':Sp}(F:aG P w K mg base CX k f fd ps sp)(h:∀ vs H Q E,sp' vs H Q E->sp vs H Q E):aG P w K mg base CX k f fd ps sp':=
 ⟨fun vs H Q E q=>F.len vs H Q E (h _ _ _ _ q),fun A outer s H args us vs Q E hr he hb hv hs=>F.run A outer s H args us vs Q E hr he hb hv (h _ _ _ _ hs)⟩
theorem xM.make(e:xM P w K mg base A outer s H)(C:Addr)(us:Lv0)(kw:List (Str×Value)) :
  xM P w K mg base (A.under (.builtin "type.__call__" ⟨.ref C::us,kw⟩)) outer s H:=⟨by first | exact e.frames | (simpa [Around.under,Code.envs,Code.isFrame,pushEnvs] using e.frames),e.mod,e.bs,e.bsz,e.i6,e.frf,e.hok,e.bare,e.tb⟩
section
variable {pins:Pn}
theorem Inv.Gw(I:Inv X pins σ H s):xM X.prog X.w X.K X.mg X.base X.A X.stack s H:=
 ⟨I.ok.frames,I.ok.mod,I.bs,Nat.le_trans I.ok.bsz I.sz,I.stack,I.nk,I.hok,I.bare,I.tb⟩
theorem Inv.after{Q:VK}(I:Inv X pins σ H s)(h:CE X.stack X.prog X.w H s Q u s'):EP X pins σ Q u s':=by
 obtain⟨v,H',os,bare,un,hok,r,q⟩:=h;obtain⟨hh,g,d,t,os'⟩:=s';obtain rfl:os'=s.os:=os;exact⟨v,H',I.call (h':=hh) (g':=g) (d':=d) (t':=t) (ch:=[]) un hok bare (fun b z=>absurd z (by simp)),r,q⟩
end
def tV (sp:Sp) (dvs:List V) (E:XK) (t:TA):TE:=fun σ H Q=>t σ H fun vs H1=>sp (vs++dvs) H1 Q E
def tU (C:Addr) (m:Str) (sp:Sp) (dvs:List V) (E:XK) (ta:TE) (t:TA):TE:=fun σ H Q=>ta σ H fun x H1=>∃ a dx fs,x=.ref a/\H1 a=some (.ins C dx fs)/\fs.lookup m=none/\
 t σ H1 fun vs H2=>sp (x::(vs++dvs)) H2 Q E
def BY (C:Addr) (sp:Sp) (dvs:List V) (E:XK) (t:TA):TE:=fun σ H Q=>t σ H fun vs H1=>∀ x dx,H1 x=none->H1 dx=none->dx≠x->
 sp (.ref x::(vs++dvs)) (upd (upd H1 dx (.own x)) x (.ins C dx [])) (fun v H2=>v=.non/\Q (.ref x) H2) E
def Binds (K:Fg0) (fd:FuncData) (ps:Ls0) (ds:Lv0):Prop:=
 ∀ (s:Shared) (us:Lv0),K.In s.heap->(us++ds).length=ps.length->BindsTo s fd ⟨us,[]⟩ (ps.zip (us++ds))
theorem Binds.all(h:∀ us:Lv0,us.length=ps.length->bindArgs fd ⟨us,[]⟩=pure (ps.zip us)):Binds K fd ps []:=fun s us _ hl=>by
 rw[List.append_nil] at hl ⊢;exact .of_eq (h us hl)
def Passes (CX:CXT) (X:Cx) (E:XK):Prop:=∀ (pins:Pn) (σ:St) (H:Hp) (s:Shared) (e:Value) (s':Shared),Inv X pins σ H s->CX X.stack H s E e s'->X.xe e s'
section
variable {CX:CXT}{sp:Sp}{dvs:List V}{ds:Lv0}{E:XK}{x:Str}{o:Expr}
theorem oU{pins:Pn}{Q:VK}(F:aG X.prog X.w X.K X.mg X.base CX k f fd ps sp)(hr:bF k X.A)(hb:Binds X.K fd ps ds)(hd:Vals dvs ds)(hx:Passes CX X E)(I:Inv X pins σ H s)(r:Vals vs us)(h:sp (vs++dvs) H Q E):wpAny (model X.prog X.w) X.A (call (.ref f) us) (EP X pins σ Q) X.xe s:=by
 have r2:Vals (vs++dvs) (us++ds):=r.append hd;have hl:(us++ds).length=ps.length:=by rw[<- r2.length];exact F.len _ _ _ _ h
 refine wpAny_call (codeAny_mono (F.run X.A X.stack s H ⟨us,[]⟩ (us++ds) (vs++dvs) Q E hr I.Gw (hb s us I.kIn hl) r2 h) fun r s' hq=>?_);cases r with
 | error e=>exact hx pins σ H s e s' I hq
 | ok fl=>
  cases fl with
  | ret u=>exact I.after hq
  | next=>exact False.elim hq
  | brk=>exact False.elim hq
  | cont=>exact False.elim hq
theorem Fv(F:aG X.prog X.w X.K X.mg X.base CX k f fd ps sp)(hr:bF k X.A)(hg:Gl X x)(hm:X.mg x=some (.ref f))(hk:PySem.W.keepIn X.K (.ref f)=true)(hb:Binds X.K fd ps ds)(hd:Vals dvs ds)(hx:Passes CX X E)(ha:PA X (e::es) t)(hdb:autoParam ((x == ("__debug__":Str))=false) wP)(he:autoParam (starEach (e::es) X.env=(false,eval e X.env)::starEach es X.env) wE)(hpl:autoParam ((backTo pos (starEach es X.env)).any (·.1)=false) wE) :
  PE X (.Call (.Name x p) (e::es) [] pos) (tV sp dvs E t):=by
 intro pins s σ H Q I h;refine wpAny_Call_Name_kw (eY I hg hm ?_ hdb);refine PySem.W.callWith_K (h₀:=X.base) I.ok.mod.kin hk (thn (ha pos pins s σ H _ I h) fun us s1 ⟨vs,H1,I1,r,q⟩=>⟨I1.kIn,?_⟩) he hpl;exact oU F hr hb hd hx I1 r q
theorem CS(F:aG X.prog X.w X.K X.mg X.base CX k f fd ps sp)(hr:bF k X.A)(hg:Gl X x)(hm:X.mg x=some (.ref f))(hk:PySem.W.keepIn X.K (.ref f)=true)(hb:Binds X.K fd ps ds)(hd:Vals dvs ds)(hx:Passes CX X E)(hdb:autoParam ((x == ("__debug__":Str))=false) wP):PE X (.Call (.Name x p) [] [] pos) (tV sp dvs E qh):=by
 intro pins s σ H Q I h;refine wpAny_Call_Name_kw (eY I hg hm ?_ hdb);exact PySem.W.callWith_K0 I.kIn hk (oU (us:=[]) F hr hb hd hx I .nil h)
theorem Fs{pl:Sem Bool}(he:PE X o ta)(c:Cls X.K C)(hm:Meth X.K C m f)(F:aG X.prog X.w X.K X.mg X.base CX k f fd ps sp)(hr:bF k X.A)(hb:Binds X.K fd ps ds)(hd:Vals dvs ds)(hx:Passes CX X E)(ha:PA X (e::es) t)(hst:autoParam (starEach (e::es) X.env=(false,eval e X.env)::starEach es X.env) wE)(hpl:autoParam ((backTo pos (starEach es X.env)).any (·.1)=false) wE)(ht:eval (.Call (.Attribute o m apos) (e::es) [] pos) X.env=(do
   let ov <- eval o X.env
   standAt apos.atName
   let (f,first) <- holding [ov] (getMethod ov m pl)
   callWith pos f first (backTo pos (starEach (e::es) X.env)) (backToKw pos (keywordEach [] X.env))):=by rfl) :
  PE X (.Call (.Attribute o m apos) (e::es) [] pos) (tU C m sp dvs E ta t):=by
 intro pins s σ H Q I h;refine PySem.W.methodCall_KW (pl:=pl) (thn (he pins s σ H _ I h) fun u s1 Z=>?_) ht;obtain⟨x,H1,I1,rx,a,dx,fs,ex,ea,l,q⟩:=Z;subst ex;obtain rfl:u=Value.ref a:=rx;refine mV I1 ea c hm l ?_;refine PySem.W.callWith_K (first:=[.ref a]) (h₀:=X.base) I.ok.mod.kin hm.kp (thn (ha pos pins s1 σ H1 _ I1 q) fun us s2 ⟨vs,H2,I2,r,q2⟩=>⟨I2.kIn,?_⟩) hst hpl;exact oU (us:=.ref a::us) (vs:=.ref a::vs) F hr hb hd hx I2 (.cons rfl r) q2
theorem wV{pl:Sem Bool}(he:PE X o ta)(c:Cls X.K C)(hm:Meth X.K C m f)(F:aG X.prog X.w X.K X.mg X.base CX k f fd ps sp)(hr:bF k X.A)(hb:Binds X.K fd ps ds)(hd:Vals dvs ds)(hx:Passes CX X E)(ht:eval (.Call (.Attribute o m apos) [] [] pos) X.env=(do
   let ov <- eval o X.env
   standAt apos.atName
   let (f,first) <- holding [ov] (getMethod ov m pl)
   callWith pos f first (backTo pos (starEach [] X.env)) (backToKw pos (keywordEach [] X.env))):=by rfl) :
  PE X (.Call (.Attribute o m apos) [] [] pos) (tU C m sp dvs E ta qh):=by
 intro pins s σ H Q I h;refine PySem.W.methodCall_KW (pl:=pl) (thn (he pins s σ H _ I h) fun u s1 Z=>?_) ht;obtain⟨x,H1,I1,rx,a,dx,fs,ex,ea,l,q⟩:=Z;subst ex;obtain rfl:u=Value.ref a:=rx;refine mV I1 ea c hm l ?_;exact PySem.W.callWith_K0 (first:=[.ref a]) I1.kIn hm.kp (oU (us:=[.ref a]) (vs:=[.ref a]) F hr hb hd hx I1 (.cons rfl .nil) q)
structure Mk (K:Fg0) (C f:Addr):Prop where
 makes:PySem.W.makesIn K C=true
 init:PySem.W.findIn K (.ref C) "__init__"=some (some (.ref f))
 fn:PySem.W.isFn K (.ref f)=true
 kp:PySem.W.keepIn K (.ref C)=true
theorem Cd{pins:Pn}{Q:VK}(M:Mk X.K C f)(F:aG X.prog X.w X.K X.mg X.base CX k f fd ps sp)(hr:bF (k + 1) X.A)(hb:Binds X.K fd ps ds)(hd:Vals dvs ds)(hx:Passes CX X E)(I:Inv X pins σ H s)(r:Vals vs us)(h:∀ x dx,H x=none->H dx=none->dx≠x->sp (.ref x::(vs++dvs)) (upd (upd H dx (.own x)) x (.ins C dx [])) (fun v H2=>v=.non/\Q (.ref x) H2) E) :
  wpAny (model X.prog X.w) X.A (call (.ref C) us) (EP X pins σ Q) X.xe s:=by
 have hq:=h (s.heap.objs.size + 1) s.heap.objs.size (I.hok.fresh (Nat.le_succ _)) (I.hok.fresh (Nat.le_refl _)) (Nat.ne_of_lt (Nat.lt_succ_self _));have I2:=Inv.made (C:=C) I;have r2:Vals (V.ref (s.heap.objs.size + 1)::(vs++dvs)) (Value.ref (s.heap.objs.size + 1)::(us++ds)):=.cons rfl (r.append hd);have hl:(Value.ref (s.heap.objs.size + 1)::us++ds).length=ps.length:=by
  have e:=r2.length;rw[F.len _ _ _ _ hq] at e;exact e.symm
 refine wpAny_call (Di (f:=f) I.kIn M.makes M.init (beq_iff_eq.mp M.fn) (codeAny_mono (F.run _ X.stack _ _ ⟨Value.ref (s.heap.objs.size + 1)::us,[]⟩ (Value.ref (s.heap.objs.size + 1)::(us++ds)) _ _ E (hr.make C us [])
  (I2.Gw.make C us []) (hb _ (Value.ref (s.heap.objs.size + 1)::us) I2.kIn hl) r2 hq) fun r s' hq'=>?_))
 cases r with
 | error e=>exact hx pins σ _ _ e s' I2 hq'
 | ok fl=>
  cases fl with
  | ret u=>
   obtain⟨v,H',I3,rv,ev,q3⟩:=I2.after hq';subst ev;exact⟨rv,⟨V.ref (s.heap.objs.size + 1),H',I3,rfl,q3⟩⟩
  | next=>exact False.elim hq'
  | brk=>exact False.elim hq'
  | cont=>exact False.elim hq'
theorem Ft(M:Mk X.K C f)(F:aG X.prog X.w X.K X.mg X.base CX k f fd ps sp)(hr:bF (k + 1) X.A)(hg:Gl X x)(hm:X.mg x=some (.ref C))(hb:Binds X.K fd ps ds)(hd:Vals dvs ds)(hx:Passes CX X E)(ha:PA X (e::es) t)(hdb:autoParam ((x == ("__debug__":Str))=false) wP)(he:autoParam (starEach (e::es) X.env=(false,eval e X.env)::starEach es X.env) wE)(hpl:autoParam ((backTo pos (starEach es X.env)).any (·.1)=false) wE) :
  PE X (.Call (.Name x p) (e::es) [] pos) (BY C sp dvs E t):=by
 intro pins s σ H Q I h;refine wpAny_Call_Name_kw (eY I hg hm ?_ hdb);refine PySem.W.callWith_K (h₀:=X.base) I.ok.mod.kin M.kp (thn (ha pos pins s σ H _ I h) fun us s1 ⟨vs,H1,I1,r,q⟩=>⟨I1.kIn,?_⟩) he hpl;exact Cd M F hr hb hd hx I1 r q
end
structure au (N P:Ls0) (sc:Scope):Prop where
 kind:sc.kind=.function
 co:sc.isCoroutine=false
 gen:sc.isGenerator=false
 nd:N.Nodup
 pre:N.take P.length=P
 par:∀ x∈P,sc.names.lookup x=some .local\/sc.names.lookup x=some .cell
 nofree:∀ y∈sc.names,y.2≠.free
theorem uO {kindOf:Str->Option NameKind} {x:Str}:∀ {binds:List (Str×Value)} {m:SV},(∀ v,(x,v)∉binds)->bindL kindOf binds m x=m x
 | [],_,_=>rfl
 | (n,v)::r,m,h=>by
  unfold bindL;rw[uO fun w hw=>h w (List.mem_cons_of_mem _ hw)];split
  ·have:x≠n:=by rintro rfl;exact h v List.mem_cons_self
   simp [this]
  ·rfl
theorem uQ {kindOf:Str->Option NameKind} {x:Str}:∀ {binds:List (Str×Value)} {m:SV},(∀ v,(x,v)∉binds)->bindC kindOf binds m x=m x
 | [],_,_=>rfl
 | (n,v)::r,m,h=>by
  unfold bindC;rw[uQ fun w hw=>h w (List.mem_cons_of_mem _ hw)];split
  ·rfl
  ·have:x≠n:=by rintro rfl;exact h v List.mem_cons_self
   simp [this]
theorem uP {kindOf:Str->Option NameKind} {x:Str} {v:Value}:∀ {P:Ls0} {vs:Lv0} {i:Nat} {m:SV},P.Nodup->P[i]?=some x->vs[i]?=some v->kindOf x=some .local->
  bindL kindOf (P.zip vs) m x=some v
 | [],_,_,_,_,h,_,_=>by simp at h
 | _::_,[],_,_,_,_,h,_=>by simp at h
 | p::P,w::vs,0,m,nd,h1,h2,hk=>by
  simp at h1 h2;subst h1;subst h2;show bindL kindOf ((p,w)::P.zip vs) m p=_;unfold bindL;rw[uO fun v hv=>(List.nodup_cons.mp nd).1 (List.of_mem_zip hv).1,if_pos hk];simp
 | p::P,w::vs,i + 1,m,nd,h1,h2,hk=>by
  show bindL kindOf ((p,w)::P.zip vs) m x=_;unfold bindL;exact uP (i:=i) (List.nodup_cons.mp nd).2 (by simpa using h1) (by simpa using h2) hk
theorem uR {kindOf:Str->Option NameKind} {x:Str} {v:Value}:∀ {P:Ls0} {vs:Lv0} {i:Nat} {m:SV},P.Nodup->P[i]?=some x->vs[i]?=some v->kindOf x≠some .local->
  bindC kindOf (P.zip vs) m x=some v
 | [],_,_,_,_,h,_,_=>by simp at h
 | _::_,[],_,_,_,_,h,_=>by simp at h
 | p::P,w::vs,0,m,nd,h1,h2,hk=>by
  simp at h1 h2;subst h1;subst h2;show bindC kindOf ((p,w)::P.zip vs) m p=_;unfold bindC;rw[uQ fun v hv=>(List.nodup_cons.mp nd).1 (List.of_mem_zip hv).1,if_neg hk];simp
 | p::P,w::vs,i + 1,m,nd,h1,h2,hk=>by
  show bindC kindOf ((p,w)::P.zip vs) m x=_;unfold bindC;exact uR (i:=i) (List.nodup_cons.mp nd).2 (by simpa using h1) (by simpa using h2) hk
noncomputable def start (N:Ls0) (vs:List V):St:=vs.map some++List.replicate (N.length - vs.length) none
noncomputable def j1 (CX:CXT) (P:Program) (w:World) (K:Fg0) (mg:SV) (base:Heap) (N:Ls0) (qual:Str) (scope:Scope) (f:Addr) (cd:Value) (A:Around) (outer:List Env) (s:Shared) (H:Hp) (E:XK):Cx where
 prog:=P
 w:=w
 K:=K
 mg:=mg
 base:=base
 A:=A.deeper (envOfC qual scope s.heap.objs.size f cd)
 N:=N
 s₀:=s
 H₀:=H
 env:=envOfC qual scope s.heap.objs.size f cd
 outer:=outer
 stack:=envOfC qual scope s.heap.objs.size f cd::outer
 ex:=[]
 calm:=true
 fn:=fun _=>true
 pn:=[]
 xe:=fun e s'=>wpAny (model P w) (A.deeper (envOfC qual scope s.heap.objs.size f cd)) (leaving (envOfC qual scope s.heap.objs.size f cd) e) (fun _ s''=>CX outer H s E e s'') (fun e' s''=>CX outer H s E e' s'') s'
theorem xE{sc:Scope}{x:Str}(h:sc.names.lookup x=some .cell):∃ c,(cellsFrom n sc.names []).lookup x=some c:=by
 have q:=PySem.W.cellsFrom_some sc.names n [] (.inl h);exact Option.isSome_iff_exists.mp q
theorem A_{CX:CXT}{N:Ls0}{cd:Value}{s1:Shared}{E:XK}(S:au N ps scope)(hd:A.handled=none)(e0:xM P w K mg base A outer s H)(hl:vs.length=ps.length)(r:Vals vs us)(x:InCallC s s.heap.objs.size (bindL (envOfC qual scope s.heap.objs.size f cd).kindOf (ps.zip us) fun _=>none) (cellsFrom (s.heap.objs.size + 1) scope.names []) (bindC (envOfC qual scope s.heap.objs.size f cd).kindOf (ps.zip us) fun _=>none) s1) :
  Inv (j1 CX P w K mg base N qual scope f cd A outer s H E) [] (start N vs) H s1:=by
 have hpl:ps.length<=N.length:=by have:=congrArg List.length S.pre;rw[List.length_take] at this;lia
 obtain⟨h1,tk,rfl,hk⟩:=x.done;have noA:∀ b:Addr,b∉(j1 CX P w K mg base N qual scope f cd A outer s H E).ex:=fun b z=>absurd (show b∈([]:La0) from z) (by simp);refine⟨⟨e0.mod,S.kind,rfl,rfl,Nat.le_refl _,fun y z c h1 h2=>?_,fun y hy=>?_,fun y c _ h=>?_,fun _=>hd,Around.frames_deeper e0.frames,.inr ⟨rfl,rfl⟩,fun b z=>absurd z (noA b),e0.bs,e0.bsz,fun b _ _=>noA b,fun b z=>absurd z (noA b),e0.i6,e0.frf,e0.tb⟩,
  rfl,e0.bare,Un.kept hk,⟨_,x.toInCall.ns,fun i y v h1 h2 h3=>?_⟩,fun y c h=>⟨_,x.cell y c h⟩,e0.hok.fresh (Nat.le_refl _),fun y c h=>?_,fun p hp=>absurd (show p∈([]:Pn) from hp) (by simp),e0.hok.kept hk,?_⟩
 ·exact name_of_addr x.apart (PySem.mem_of_lookup h1) (PySem.mem_of_lookup h2)
 ·have hy:scope.names.lookup y=some .cell\/scope.names.lookup y=some .free:=hy;rcases hy with hy | hy
  ·exact xE hy
  ·exact absurd rfl (S.nofree _ (PySem.mem_of_lookup hy))
 ·exact Nat.le_of_lt (x.above y c (PySem.mem_of_lookup h))
 ·have hi:i < vs.length:=by
   unfold start at h2;by_cases hi:i < vs.length
   ·exact hi
   ·rw[List.getElem?_append_right (by simpa using hi)] at h2;rw[List.getElem?_replicate] at h2;split at h2 <;> cases h2
  have ha:vs[i]?=some v:=by
   unfold start at h2;rw[List.getElem?_append_left (by simpa using hi),List.getElem?_map] at h2;cases e:vs[i]? with
   | none=>rw[e] at h2;cases h2
   | some a=>rw[e] at h2;cases h2;rfl
  obtain⟨u,hu,rv⟩:=r.get ha;have hp:ps[i]?=some y:=by
   rw[<- S.pre,List.getElem?_take_of_lt (by lia)];exact h1
  have ndP:ps.Nodup:=by rw[<- S.pre];exact S.nd.sublist (List.take_sublist _ _)
  refine⟨u,rv,?_⟩;rcases S.par y (List.mem_of_getElem? hp) with k | k
  ·exact .inl ⟨k,uP ndP hp hu k⟩
  ·obtain⟨c,e⟩:=xE (n:=s.heap.objs.size + 1) k;refine .inr ⟨.inl k,c,e,?_⟩;have q:=x.cell y c e;rw[uR ndP hp hu (by show scope.names.lookup y≠_;rw[k];decide)] at q;exact q
 ·exact e0.hok.fresh (Nat.le_of_lt (x.above y c (PySem.mem_of_lookup h)))
 ·unfold start;show _=N.length;rw[List.length_append,lM0,List.length_replicate];lia
theorem DH{CX:CXT}{params:Arguments}{dV kV doc pm cdv ct oc:Value}{an od:Option Addr}{N:Ls0}{sp:Sp}(lk:K.lookup f=some ⟨oc,od,.func (PySem.W.fnOf name qual params body scope dV kV doc pm an cdv ct),osl⟩)(hcd:PySem.W.codeIn K cdv qual=true)(S:au N ps scope)(len:∀ vs H Q E,sp vs H Q E->vs.length=ps.length)(hbody:∀ (A:Around) (outer:List Env) (s:Shared) (H:Hp) (vs:List V) (Q:VK) (E:XK),bF k (A.deeper (envOfC qual scope s.heap.objs.size f cdv))->sp vs H Q E->
   ∃ t,PSs (j1 CX P w K mg base N qual scope f cdv A outer s H E) body t/\t { nx:=fun _ H'=>Q .non H',rt:=Q } (start N vs) H) :
  aG P w K mg base CX (k + 1) f (PySem.W.fnOf name qual params body scope dV kV doc pm an cdv ct) ps sp:=by
 refine⟨len,fun A outer s H args us vs Q E hr e0 hb r hsp=>?_⟩;have hl:=len _ _ _ _ hsp;have KX:K.In s.heap:=e0.mod.kin.keeps fun b o e=>(e0.bs b o e).1;have lim:s.heap.NoLimit:=e0.mod.nolimit.keeps fun b o e=>(e0.bs b o e).1;have hkind:∀ y∈ps.zip us,scope.names.lookup y.1=some .local\/(scope.names.lookup y.1=some .cell/\((cellsFrom (s.heap.objs.size + 1) scope.names []).lookup y.1).isSome=true):=fun ⟨n,v⟩ hy=>by
  rcases S.par n (List.of_mem_zip hy).1 with q | q
  ·exact .inl q
  ·exact .inr ⟨q,PySem.W.cellsFrom_some _ _ _ (.inl q)⟩
 refine codeAny_call_function hr.depth (KX _ _ lk) rfl S.co S.gen rfl (PySem.W.codeRec_of KX hcd) (hb _ _ _ _ ?_);refine wpAny_newFunctionEnv_cells S.kind hkind fun env he s1 x=>?_;subst he;refine⟨lim.keeps x.toInCall.keep,codeAny_func ?_⟩;obtain⟨t,ht,hq⟩:=hbody A outer s H vs Q E (hr.deeper _) hsp;have I:Inv (j1 CX P w K mg base N qual scope f cdv A outer s H E) [] (start N vs) H s1:=A_ S hr.hd e0 hl r x;refine wpAny_mono (ht [] s1 (start N vs) H _ I hq) (fun fl s' hs=>?_) fun e s' hs=>hs;have fin:∀ {σ':St} {H':Hp} {v:V} {u:Value},Inv (j1 CX P w K mg base N qual scope f cdv A outer s H E) [] σ' H' s'->RelV v u->Q v H'->CE outer P w H s Q u s':=
  fun {σ' H' v u} J rv q=>⟨v,H',J.os,J.bare,J.base,J.hok,rv,q⟩
 cases fl with
 | ret u=>
  obtain⟨v,σ',H',J,rv,q⟩:=hs;exact fin J rv q
 | next=>
  obtain⟨σ',H',J,q⟩:=hs;exact fin (v:=V.non) (u:=Value.none) J rfl q
 | brk=>
  obtain⟨_,_,_,q⟩:=hs;exact False.elim q
 | cont=>
  obtain⟨_,_,_,q⟩:=hs;exact False.elim q
section
variable {x:Str}{id T:String}
def tCB (r:List V->Hp->VK->Prop) (t:TA):TE:=fun σ H Q=>t σ H fun vs H1=>r vs H1 Q
theorem CQ(hc:bS X (.builtin id) r)(hg:Gl X x)(hm:X.mg x=none)(hv:bootBuiltins x=some (.builtin id))(ha:PA X (e::es) t)(hn:autoParam (x≠"__name__") wP)(hdb:autoParam ((x == ("__debug__":Str))=false) wP)(he:autoParam (starEach (e::es) X.env=(false,eval e X.env)::starEach es X.env) wE)(hpl:autoParam ((backTo pos (starEach es X.env)).any (·.1)=false) wE):PE X (.Call (.Name x p) (e::es) [] pos) (tCB r t):=by
 intro pins s σ H Q I h;refine wpAny_Call_Name_kw (jz I hg hm hv ?_ hn hdb);exact PyProof.Rows.callWith_builtin1 (thn (ha pos pins s σ H _ I h) fun us s1 ⟨vs,H1,I1,r1,q1⟩=>hc pins s1 σ H1 vs us Q I1 r1 q1) he hpl
theorem AW(hc:bS X (.type T) r)(hg:Gl X x)(hm:X.mg x=none)(hv:bootBuiltins x=some (.type T))(ha:PA X (e::es) t)(hn:autoParam (x≠"__name__") wP)(hdb:autoParam ((x == ("__debug__":Str))=false) wP)(he:autoParam (starEach (e::es) X.env=(false,eval e X.env)::starEach es X.env) wE)(hpl:autoParam ((backTo pos (starEach es X.env)).any (·.1)=false) wE):PE X (.Call (.Name x p) (e::es) [] pos) (tCB r t):=by
 intro pins s σ H Q I h;refine wpAny_Call_Name_kw (jz I hg hm hv ?_ hn hdb);exact PyProof.Rows.callWith_type1 (thn (ha pos pins s σ H _ I h) fun us s1 ⟨vs,H1,I1,r1,q1⟩=>hc pins s1 σ H1 vs us Q I1 r1 q1) he hpl
end
end L2
variable {prog:PySem.Program}{s s₀ s':PySem.Shared}{X:L2.Cx}{e p f l c C z i1 l1 l2 L:PySem.Addr}{te ta:L2.TE}{lo hi:Option PySem.Expr}{pos p2 apos cpos tp:PySem.Pos}{r:L2.V->Option Int->Option Int->L2.Hp->L2.VK->Prop}{n j k k1 k2:Nat}{σ:L2.St}{H H1 H2 H' H₀ F F':L2.Hp}{xs vs dvs:List L2.V}{ys:Array PySem.Value}{its its' us:Lv0}{y:L2.V}{v cls cd:PySem.Value}{o elt tg iter:PySem.Expr}{es:List PySem.Expr}{t:L2.TA}{name qual:PySem.Str}{kvs:List (L2.Key×L2.V)}{K:Fg0}{mg mA:SV}{base:PySem.Heap}{st:PySem.Stmt}{fd:PySem.FuncData}{N ps Nc:Ls0}{sp:L2.Sp}{osl:Array (Option PySem.Value)}{B newId:String}{sc scope:PySem.Scope}{env:PySem.Env}{g:L2.TG}{oe ob:PySem.Obj}{Q:Option PySem.Value->PySem.Shared->Prop}{fr:On}{ex:La0}{R:PySem.Result->PySem.Shared->Prop}{wi:L2.TI}{outer:List PySem.Env}{dx:Option PySem.Addr}{W:L2.St->L2.XK}
namespace HT
open PySem PyProof.Rows
noncomputable def sIx (n d:Nat):Option Int->Nat
 | none=>d
 | some v=>if v < 0 then (v + (n:Int)).toNat else min v.toNat n
end HT
namespace L2
open PySem PySem.Spec PyProof.Rows
abbrev TO:=St->Hp->(Option Int->Hp->Prop)->Prop
def PO (X:Cx) (e:Option Expr) (t:TO):Prop:=
 ∀ (pins:Pn) (s:Shared) (σ:St) (H:Hp) (Q:Option Int->Hp->Prop),Inv X pins σ H s->t σ H Q->
  wpAny (model X.prog X.w) X.A (evalPart e X.env) (fun u s'=>∃ o H',Inv X pins σ H' s'/\IsPart u o/\Q o H') X.xe s
def zw:TO:=fun _ H Q=>Q none H
def G4 (t:TE):TO:=fun σ H Q=>t σ H fun x H1=>∃ i,x=.int i/\Q (some i) H1
section
variable {e:Expr}{tl th:TO}
theorem Fi:PO X none zw:=by
 intro pins s σ H Q I h;rw[evalPart_none];exact wpAny_pure ⟨none,H,I,.none,h⟩
theorem Fh(h:PE X e te):PO X (some e) (G4 te):=by
 intro pins s σ H Q I hw;rw[evalPart_some];refine thn (h pins s σ H _ I hw) fun u s1 Z=>?_;obtain⟨x,H1,I1,r1,q1⟩:=Z;obtain⟨i,rfl,q⟩:=q1;obtain⟨t,rfl⟩:=r1;exact⟨some i,H1,I1,.int i t,q⟩
def SlR (X:Cx) (r:V->Option Int->Option Int->Hp->VK->Prop):Prop:=
 ∀ (pins:Pn) (s:Shared) (σ:St) (H:Hp) (x:V) (v vl vu:Value) (lo hi:Option Int) (sl:Addr) (Q:VK),Inv X pins σ H s->RelV x v->s.heap.IsSliceOf sl vl vu .none->IsPart vl lo->IsPart vu hi->r x lo hi H Q->
  ∃ T id,typeLookup (.type T) "__getitem__"=pure (some (.builtin id))/\s.TypeIs v T/\wpAny (model X.prog X.w) X.A (getItem v (.ref sl)) (EP X pins σ Q) X.xe s
def tSl (r:V->Option Int->Option Int->Hp->VK->Prop) (te:TE) (tl th:TO):TE:=fun σ H Q=>te σ H fun x H1=>tl σ H1 fun l H2=>th σ H2 fun u H3=>r x l u H3 Q
theorem CI(hr:SlR X r)(he:PE X e te)(hl:PO X lo tl)(hu:PO X hi th):PE X (.Subscript e (.Slice lo hi none p2) pos) (tSl r te tl th):=by
 intro pins s σ H Q I h;refine Subscript_ (thn (he pins s σ H _ I h) fun v s1 Z=>?_);obtain⟨x,H1,I1,r1,q1⟩:=Z;refine wpAny_Slice (thn (hl pins s1 σ H1 _ I1 q1) fun vl s2 ⟨l,H2,I2,pl,q2⟩=>thn (hu pins s2 σ H2 _ I2 q2) fun vu s3 Z=>?_);obtain⟨u,H3,I3,pu,q3⟩:=Z;rw[evalPart_none];refine wpAny_pure ?_;have I4:Inv X pins σ H3 { s3 with heap:=s3.heap.push { cls:=.type "slice",data:=.fields #[vl,vu,.none] } }:=I3.kept (t':=s3.toks) fun b ob q=>Heap.get?_push_of_some _ q;obtain⟨T,id,hT,ht,hg⟩:=hr pins { s3 with heap:=s3.heap.push { cls:=.type "slice",data:=.fields #[vl,vu,.none] } } σ H3 x v vl vu l u s3.heap.objs.size Q I4 r1 (Heap.IsSliceOf.new ..) pl pu q3;show wpAny (model X.prog X.w) X.A (subscriptTail e (.Slice lo hi none p2) v (.ref s3.heap.objs.size)) (EP X pins σ Q) X.xe { s3 with heap:=s3.heap.push { cls:=.type "slice",data:=.fields #[vl,vu,.none] } };exact tail_any (ops:=[.ref s3.heap.objs.size,v]) ht hT hg (by with_unfolding_all rfl)
noncomputable def Bi (xs:List V) (lo hi:Option Int):List V:=(xs.drop (HT.sIx xs.length 0 lo)).take (HT.sIx xs.length xs.length hi - HT.sIx xs.length 0 lo)
theorem xC(xs:List V)(lo hi:Option Int):(Bi xs lo hi).length<=xs.length:=by
 unfold Bi;rw[List.length_take,List.length_drop];lia
end
noncomputable def ixN (n:Nat) (i:Int):Option Nat:=if 0<=i then (if i < n then some i.toNat else none) else if -(n:Int)<=i then some (i + n).toNat else none
noncomputable def atI {α:Type} (xs:List α) (i:Int):Option α:=(ixN xs.length i).bind fun j=>xs[j]?
theorem zX{i:Int}(h:ixN n i=some j):seqIndex? i n=some j/\j < n/\-(n:Int)<=i/\i < n:=by
 unfold ixN at h;by_cases h0:0<=i
 ·rw[if_pos h0] at h;by_cases h1:i < n
  ·rw[if_pos h1] at h;have e:i.toNat=j:=Option.some.inj h;exact⟨by rw[seqIndex_of h0 h1,e],by lia,by lia,h1⟩
  ·rw[if_neg h1] at h;cases h
 ·rw[if_neg h0] at h;by_cases h1:-(n:Int)<=i
  ·rw[if_pos h1] at h;have e:(i + n).toNat=j:=Option.some.inj h;exact⟨by rw[seqIndex_neg (by lia) h1,e],by lia,h1,by lia⟩
  ·rw[if_neg h1] at h;cases h
theorem qJ{α:Type}{xs:List α}{i:Int}{v:α}(h:atI xs i=some v):∃ j,seqIndex? i xs.length=some j/\xs[j]?=some v/\j < xs.length/\-(xs.length:Int)<=i/\i < xs.length:=by
 unfold atI at h;cases e:ixN xs.length i with
 | none=>rw[e] at h;cases h
 | some j=>
  rw[e] at h;obtain⟨h1,h2,h3,h4⟩:=zX e;exact⟨j,h1,h,h2,h3,h4⟩
theorem GI{α:Type}{xs:List α}{v:α}(h:xs[j]?=some v):atI xs (j:Int)=some v:=by
 have hj:j < xs.length:=(gS0 h).1;have e:ixN xs.length (j:Int)=some j:=by
  unfold ixN;rw[if_pos (by lia),if_pos (by lia)];simp
 unfold atI;rw[e];exact h
def Ak (b:Expr):Prop:=∀ o i,subscripted b false o i=operate [o,i] (getItem o i)
def IxR (X:Cx) (r:R2):Prop:=
 ∀ (value slice:Expr) (pins:Pn) (s:Shared) (σ:St) (H:Hp) (x y:V) (v u:Value) (Q:VK),Inv X pins σ H s->RelV x v->RelV y u->r x y H Q->
  subscripted slice false v u=operate [v,u] (getItem v u)->wpAny (model X.prog X.w) X.A (subscriptTail value slice v u) (EP X pins σ Q) X.xe s
def MtR (X:Cx) (id:String) (r:V->List V->Hp->VK->Prop):Prop:=
 ∀ (pins:Pn) (s:Shared) (σ:St) (H:Hp) (x:V) (xs:List V) (v:Value) (us:Lv0) (Q:VK),Inv X pins σ H s->RelV x v->Vals xs us->r x xs H Q->
  wpAny (model X.prog X.w) X.A (call (.builtin id) (v::us)) (EP X pins σ Q) X.xe s
section
variable {a b:Expr}{tb:TE}
theorem IxR.or{r r':R2}(h:IxR X r)(h':IxR X r'):IxR X (fun x y H Q=>r x y H Q\/r' x y H Q):=by
 intro value slice pins s σ H x y v u Q I rx ry q hs;rcases q with q | q
 ·exact h value slice pins s σ H x y v u Q I rx ry q hs
 ·exact h' value slice pins s σ H x y v u Q I rx ry q hs
theorem LG{r:R2}(hr:IxR X r)(ha:PE X a ta)(hb:PE X b tb)(hs:Ak b):PE X (.Subscript a b pos) (tOp r ta tb):=by
 intro pins s σ H Q I h;exact Subscript_ (Kw ha hb I h fun v u s2 x y H2 I2 rx ry q=>hr a b pins s2 σ H2 x y v u Q I2 rx ry q (hs _ _))
def Ls (K:Fg0):R2:=fun x y H Q=>∃ p xs i v,x=.ref p/\y=.int i/\SqL K H p xs/\atI xs i=some v/\Q v H
def Lq (K:Fg0):R2:=fun x y H Q=>∃ p xs i v,x=.ref p/\y=.int i/\SqT K H p xs/\atI xs i=some v/\Q v H
def Lr:R2:=fun x y H Q=>∃ z i c,x=.str z/\y=.int i/\z.length<=sizeLine/\atI z.cps.toList i=some c/\Q (.str ⟨#[c]⟩) H
theorem Ga:IxR X (Ls X.K):=by
 intro value slice pins s σ H x y v u Q I rx ry h hs;obtain⟨p,xs,i,z,rfl,rfl,hq,he,q⟩:=h;cases rx;obtain⟨t,rfl⟩:=ry;obtain⟨its,r,pl,hz⟩:=I.list hq;obtain⟨j,h1,h2,h3,h4,h5⟩:=qJ he;obtain⟨w,ew,rw'⟩:=r.get h2;have hl:=r.length;have hn:=mU;have fin:EP X pins σ Q w s:=⟨z,H,I,rw',q⟩;by_cases h0:0<=i
 ·have hj:i.toNat=j:=by
   rw[seqIndex_of h0 h5] at h1;exact Option.some.inj h1
  exact item_listR pl.isList h0 (by lia) (by rw[hj];simpa using ew) fin hs
 ·have hj:(i + (its.toArray.size:Int)).toNat=j:=by
   rw[seqIndex_neg (by lia) h4] at h1;rw[List.size_toArray,<- hl];exact Option.some.inj h1
  exact subscriptTail_builtinR (x:=w) pl.isList.typeIs slot_list_getitem.lookup
   (wpAny_getItem_list_neg (Q:=fun r s'=>r=w/\EP X pins σ Q r s') pl.isList (by lia) (by rw[List.size_toArray] <;> lia) (by lia) (by rw[hj];simpa using ew) ⟨rfl,fin⟩) hs
theorem JH:IxR X (Lq X.K):=by
 intro value slice pins s σ H x y v u Q I rx ry h hs;obtain⟨p,xs,i,z,rfl,rfl,hq,he,q⟩:=h;cases rx;obtain⟨t,rfl⟩:=ry;obtain⟨its,r,pl,hz⟩:=I.tuple hq;obtain⟨j,h1,h2,h3,h4,h5⟩:=qJ he;obtain⟨w,ew,rw'⟩:=r.get h2;have hl:=r.length;have hn:=mU;have fin:EP X pins σ Q w s:=⟨z,H,I,rw',q⟩;exact subscriptTail_builtinR (x:=w) pl.typeIs slot_tuple_getitem.lookup
  (getItem_tuple (j:=j) (Q:=fun r s'=>r=w/\EP X pins σ Q r s') pl (by lia) (by lia) (by rw[List.size_toArray,<- hl];exact h1) (by simpa using ew) ⟨rfl,fin⟩) hs
theorem JI:IxR X Lr:=by
 intro value slice pins s σ H x y v u Q I rx ry h hs;obtain⟨z,i,c,rfl,rfl,hz,he,q⟩:=h;obtain⟨t,rfl⟩:=rx;obtain⟨t',rfl⟩:=ry;obtain⟨j,h1,h2,h3,h4,h5⟩:=qJ he;have hl:z.cps.toList.length=z.length:=by simp [Str.length]
 rw[hl] at h1 h4 h5;have hn:=mU;exact tail_any (typeIs_str s z t) slot_str_getitem.lookup (getItem_str (c:=c) (by
  have e1:decide (i < -(2 ^ 63:Int))=false:=decide_eq_false (by lia);have e2:decide (i≥2 ^ 63)=false:=decide_eq_false (by lia);rw[e1,e2,Bool.or_false]) (by rw[h1];simpa using h2) ⟨.str ⟨#[c]⟩,H,I.tok _,⟨_,rfl⟩,q⟩) hs
def rIx (K:Fg0):R2:=fun x y H Q=>Ls K x y H Q\/Lq K x y H Q\/Lr x y H Q
theorem JJ:IxR X (rIx X.K):=Ga.or (JH.or JI)
theorem yC(its:Lv0)(n j:Nat)(u:Value):Obj.mapSeq (·.setIfInBounds j u) { cls:=.type "list",data:=.seq its.toArray n }={ cls:=.type "list",data:=.seq (its.set j u).toArray n }:=by
 simp [Obj.mapSeq]
theorem Inv.lst {pins:Pn} {σ:St} {H:Hp} {s:Shared} {p:Addr} {xs:List V} (I:Inv X pins σ H s) (h:H p=some (.lst xs)) :
  ∃ (its:Lv0) (n:Nat),Vals xs its/\s.heap.get? p=some { cls:=.type "list",data:=.seq its.toArray n }/\xs.length<=sizeLine:=by
 obtain⟨z,its,n,r,e⟩:=I.hok p _ h;exact⟨its,n,r,e,z⟩
theorem Inv.Jw{pins:Pn}{ys:List V}{n':Nat}{f:Obj->Obj}(I:Inv X pins σ H s)(h:H p=some (.lst xs))(ho:s.heap.get? p=some { cls:=.type "list",data:=.seq its.toArray n })(hf:f { cls:=.type "list",data:=.seq its.toArray n }={ cls:=.type "list",data:=.seq its'.toArray n' })(r:Vals ys its')(hz:ys.length<=sizeLine)(t:Nat) :
  Inv X pins σ (upd H p (.lst ys)) { s with heap:=s.heap.update p f,toks:=t }:=by
 have e:(s.heap.update p f).get? p=some { cls:=.type "list",data:=.seq its'.toArray n' }:=by
  rw[Heap.get?_update_self f ho (by rw[hf] <;> rfl),hf]
 refine I.write (x:=p) (e:=p) (by rw[h];trivial) (.inl rfl) (fun b u hb q=>(Heap.get?_update_other _ _ (Ne.symm hb)).trans q) ⟨_,e⟩ ?_;exact⟨hz,its',n',r,e⟩
noncomputable def ub:V->V->V->Hp->(Hp->Prop)->Prop:=fun o i v H Q=>∃ p xs k j,o=.ref p/\i=.int k/\H p=some (.lst xs)/\ixN xs.length k=some j/\Q (upd H p (.lst (xs.set j v)))
theorem set_list:KO X ub:=by
 intro pins s σ H o i v ov iv u Q I ro ri rv h;obtain⟨p,xs,k,j,rfl,rfl,hp,hj,q⟩:=h;cases ro;obtain⟨t,rfl⟩:=ri;obtain⟨its,n,r,ho,hz⟩:=I.lst hp;obtain⟨h1,h2,h3,h4⟩:=zX hj;have hl:=r.length;have hn:=mU;have I':Inv X pins σ (upd H p (.lst (xs.set j v))) { s with heap:=s.heap.update p (Obj.mapSeq (·.setIfInBounds j u)) }:=
  I.Jw hp ho (yC its n j u) (r.set rv j) (by rw[List.length_set];exact hz) s.toks
 by_cases h0:0<=k
 ·have hk:k.toNat=j:=by
   rw[seqIndex_of h0 h4] at h1;exact Option.some.inj h1
  exact PySem.W.ki_setAt ho h0 (by lia) (by rw[List.size_toArray,<- hl];exact h4) (by rw[hk];exact⟨_,I',q⟩)
 ·have hk:(k + (its.toArray.size:Int)).toNat=j:=by
   rw[seqIndex_neg (by lia) h3] at h1;rw[List.size_toArray,<- hl];exact Option.some.inj h1
  exact PySem.W.ki_setBack ho (by lia) (by rw[List.size_toArray,<- hl];exact h3) (by lia) (by rw[hk];exact⟨_,I',q⟩)
theorem u_(lo hi:Option Int)(n:Nat):(sliceBounds lo hi none n).1=((HT.sIx n 0 lo:Nat):Int)/\(sliceBounds lo hi none n).2.1=((HT.sIx n n hi:Nat):Int)/\(sliceBounds lo hi none n).2.2=1:=by
 refine⟨?_,?_,rfl⟩
 ·cases lo with
  | none=>simp [sliceBounds,HT.sIx]
  | some i=>
   simp only[sliceBounds,HT.sIx,Option.getD_none,show (1:Int) > 0 by decide,if_true];by_cases h:i < 0
   ·simp only[h,if_true] <;> lia
   ·simp only[h,if_false] <;> lia
 ·cases hi with
  | none=>simp [sliceBounds,HT.sIx]
  | some i=>
   simp only[sliceBounds,HT.sIx,Option.getD_none,show (1:Int) > 0 by decide,if_true];by_cases h:i < 0
   ·simp only[h,if_true] <;> lia
   ·simp only[h,if_false] <;> lia
theorem sY(its:Lv0)(lo hi:Option Int):slicePick its.toArray lo hi none=((its.drop (HT.sIx its.length 0 lo)).take (HT.sIx its.length its.length hi - HT.sIx its.length 0 lo)).toArray:=by
 obtain⟨h1,h2,h3⟩:=u_ lo hi its.toArray.size;unfold slicePick;rw[h1,h2,h3];simp only[sliceRange_one,pick_run,List.size_toArray] <;> rfl
noncomputable def Lo (K:Fg0):V->Option Int->Option Int->Hp->VK->Prop:=fun x lo hi H Q=>∃ a xs,x=.ref a/\SqL K H a xs/\∀ p,H p=none->Q (.ref p) (upd H p (.lst (Bi xs lo hi)))
theorem EK:SlR X (Lo X.K):=by
 intro pins s σ H x v vl vu lo hi sl Q I rx hs pl pu h;obtain⟨a,xs,rfl,hx,q⟩:=h;cases rx;obtain⟨its,r,ht,hz⟩:=I.list hx;have hlen:=r.length;refine⟨"list",_,slot_list_getitem.lookup,ht.isList.typeIs,?_⟩;refine wpAny_getItem_list_slice ht.isList hs pl pu .none (by simp) ?_ (by rw[List.size_toArray] <;> lia);rw[sY,<- hlen];refine⟨.ref s.heap.objs.size,_,I.laid (t':=s.toks) (o:=.lst (Bi xs lo hi)) (fun b ob q=>Heap.get?_push_of_some _ q) (Nat.le_refl _) ?_,rfl,q _ (I.hok.fresh (Nat.le_refl _))⟩;exact⟨Nat.le_trans (xC xs lo hi) hz,_,0,(r.drop (HT.sIx xs.length 0 lo)).take (HT.sIx xs.length xs.length hi - HT.sIx xs.length 0 lo),Heap.get?_push_size _ rfl⟩
noncomputable def mf:V->Bool
 | .non=>true
 | .bl _=>true
 | .int _=>true
 | .str _=>true
 | _=>false
noncomputable def eqV:V->V->Bool
 | .non,.non=>true
 | .bl a,.bl b=>a == b
 | .bl a,.int b=>(if a then 1 else 0) == b
 | .int a,.bl b=>a == (if b then 1 else 0)
 | .int a,.int b=>a == b
 | .str a,.str b=>a == b
 | _,_=>false
theorem Kp{x:V}(ry:RelV y u)(rx:RelV x v)(fy:mf y=true)(fx:mf x=true):SeqAt.EqAt A s u v (eqV y x):=by
 cases y with
 | non=>
  cases ry;cases x with
  | non=>cases rx;exact SeqAt.EqAt.same _
  | bl b=>cases rx;exact SeqAt.EqAt.none_bool b
  | int b=>obtain⟨t,rfl⟩:=rx;exact SeqAt.EqAt.none_int b t
  | str b=>obtain⟨t,rfl⟩:=rx;exact SeqAt.EqAt.none_str b t
  | _=>exact absurd (show false=true from fx) Bool.false_ne_true
 | bl a=>
  cases ry;cases x with
  | non=>cases rx;exact SeqAt.EqAt.bool_none a
  | bl b=>cases rx;exact SeqAt.EqAt.bool_bool a b
  | int b=>obtain⟨t,rfl⟩:=rx;exact SeqAt.EqAt.bool_int a b t
  | str b=>obtain⟨t,rfl⟩:=rx;exact SeqAt.EqAt.bool_str a b t
  | _=>exact absurd (show false=true from fx) Bool.false_ne_true
 | int a=>
  obtain⟨t',rfl⟩:=ry;cases x with
  | non=>cases rx;exact SeqAt.EqAt.int_none a t'
  | bl b=>cases rx;exact SeqAt.EqAt.int_bool a t' b
  | int b=>obtain⟨t,rfl⟩:=rx;exact SeqAt.EqAt.int_int a t' b t
  | str b=>obtain⟨t,rfl⟩:=rx;exact SeqAt.EqAt.int_str a t' b t
  | _=>exact absurd (show false=true from fx) Bool.false_ne_true
 | str a=>
  obtain⟨t',rfl⟩:=ry;cases x with
  | non=>cases rx;exact SeqAt.EqAt.str_none a t'
  | bl b=>cases rx;exact SeqAt.EqAt.str_bool a t' b
  | int b=>obtain⟨t,rfl⟩:=rx;exact SeqAt.EqAt.str_int a t' b t
  | str b=>obtain⟨t,rfl⟩:=rx;exact SeqAt.EqAt.str_str a t' b t
  | _=>exact absurd (show false=true from fx) Bool.false_ne_true
 | _=>exact absurd (show false=true from fy) Bool.false_ne_true
noncomputable def eqU (x:V) (u:Value):Bool:=match u with
 | .none=>eqV .non x
 | .bool b=>eqV (.bl b) x
 | .int i _=>eqV (.int i) x
 | .str z _=>eqV (.str z) x
 | _=>false
theorem DL{x:V}(r:RelV y u)(f:mf y=true):eqU x u=eqV y x:=by
 cases y with
 | non=>cases r;rfl
 | bl b=>cases r;rfl
 | int i=>obtain⟨t,rfl⟩:=r;rfl
 | str z=>obtain⟨t,rfl⟩:=r;rfl
 | _=>exact absurd (show false=true from f) Bool.false_ne_true
theorem wo {x:V}:∀ {xs:List V} {us:Lv0},Vals xs us->xs.all mf=true->us.any (eqU x)=xs.any fun y=>eqV y x
 | _,_,.nil,_=>rfl
 | y::xs,u::us,.cons r t,f=>by
  rw[List.all_cons,Bool.and_eq_true] at f;rw[List.any_cons,List.any_cons,DL r f.1,wo t f.2]
theorem rX {A:Around} {s:Shared} {x:V} {v:Value} (rx:RelV x v) (fx:mf x=true):∀ {xs:List V} {us:Lv0},Vals xs us->xs.all mf=true->∀ u∈us,SeqAt.EqAt A s u v (eqU x u)
 | _,_,.nil,_=>fun u hu=>by cases hu
 | y::xs,u::us,.cons r t,f=>fun u' hu=>by
  rw[List.all_cons,Bool.and_eq_true] at f;rcases List.mem_cons.mp hu with rfl | hu
  ·rw[DL r f.1];exact Kp r rx f.1 fx
  ·exact rX rx fx t f.2 u' hu
noncomputable def inV (x:V) (xs:List V):Bool:=xs.any fun y=>eqV y x
def rIn (K:Fg0) (neg:Bool):R2:=fun x y H Q=>∃ p xs,y=.ref p/\(SqL K H p xs\/SqT K H p xs)/\mf x=true/\xs.all mf=true/\Q (.bl (if neg then !inV x xs else inV x xs)) H
theorem AY:OpR X (compareOp .In) (rIn X.K false):=by
 intro pins s σ H x y v u Q I rx ry h;obtain⟨p,xs,rfl,hq,fx,fs,q⟩:=h;cases ry;rcases hq with hq | hq
 ·obtain⟨its,r,pl,hz⟩:=I.list hq;refine SeqAt.in_listAt (eqU x) pl.isList (fun w hw=>rX rx fx r fs w (by simpa using hw)) ⟨.bl _,H,I,rfl,?_⟩;rw[show its.toArray.any (eqU x)=its.any (eqU x) by simp,wo r fs];exact q
 ·obtain⟨its,r,pl,hz⟩:=I.tuple hq;refine SeqAt.in_tupleAt (eqU x) pl (fun w hw=>rX rx fx r fs w (by simpa using hw)) ⟨.bl _,H,I,rfl,?_⟩;rw[show its.toArray.any (eqU x)=its.any (eqU x) by simp,wo r fs];exact q
theorem wc:bS X (.builtin "len") (fun xs H Q=>∃ p ys,xs=[.ref p]/\(SqL X.K H p ys\/SqT X.K H p ys)/\Q (.int ys.length) H):=by
 intro pins s σ H xs us Q I r h;obtain⟨p,ys,rfl,hq,q⟩:=h;obtain⟨u,rfl,rx⟩:=vals1 r;cases rx;have hn:=mU;rcases hq with hq | hq
 ·obtain⟨its,r',pl,hz⟩:=I.list hq;have hlen:=r'.length;exact Calls.call_len_list pl.isList (by simp only[List.size_toArray] <;> lia) ⟨.int ys.length,H,I.tok _,⟨s.toks + 1,by rw[List.size_toArray,hlen]⟩,q⟩
 ·obtain⟨its,r',pl,hz⟩:=I.tuple hq;have hlen:=r'.length;exact len_tuple pl (by simp only[List.size_toArray] <;> lia) ⟨.int ys.length,H,I.tok _,⟨s.toks + 1,by rw[List.size_toArray,hlen]⟩,q⟩
theorem wb:bS X (.builtin "len") (fun xs H Q=>∃ z,xs=[.str z]/\z.length<=sizeLine/\Q (.int z.length) H):=by
 intro pins s σ H xs us Q I r h;obtain⟨z,rfl,hz,q⟩:=h;obtain⟨u,rfl,t,rfl⟩:=vals1 r;have hn:=mU;exact len_str (by lia) ⟨.int z.length,H,I.tok _,⟨_,rfl⟩,q⟩
theorem bS.or{f:Value}{r r':List V->Hp->VK->Prop}(h:bS X f r)(h':bS X f r'):bS X f (fun xs H Q=>r xs H Q\/r' xs H Q):=by
 intro pins s σ H xs us Q I rs q;rcases q with q | q
 ·exact h pins s σ H xs us Q I rs q
 ·exact h' pins s σ H xs us Q I rs q
theorem wa:bS X (.type "list") (fun xs H Q=>∃ p ys,xs=[.ref p]/\(SqL X.K H p ys\/SqT X.K H p ys)/\∀ l,H l=none->Q (.ref l) (upd H l (.lst ys))):=by
 intro pins s σ H xs us Q I r h;obtain⟨p,ys,rfl,hq,q⟩:=h;obtain⟨u,rfl,rx⟩:=vals1 r;cases rx;have fin:∀ (its:Lv0),Vals ys its->ys.length<=sizeLine->∀ (h':Heap) (c':Nat),(∀ b o',s.heap.get? b=some o'->h'.get? b=some o')->
   h'.get? s.heap.objs.size=some { cls:=.type "list",dict:=none,data:=.seq its.toArray c',slots:=#[] }->EP X pins σ Q (.ref s.heap.objs.size) { s with heap:=h' }:=fun its r' hz h' c' kp e=>
  ⟨.ref s.heap.objs.size,_,I.laid (t':=s.toks) kp (Nat.le_refl _) (show b9 X.prog X.w _ h' _ (.lst ys) from ⟨hz,its,c',r',e⟩),rfl,q _ (I.hok.fresh (Nat.le_refl _))⟩
 rcases hq with hq | hq
 ·obtain⟨its,r',pl,hz⟩:=I.list hq;have hlen:=r'.length;obtain⟨o,ho,hc,n,hd⟩:=pl.isList;exact call_list_seq p (.inl rfl) ho hc hd (fun h' c' kp e=>fin its r' hz h' c' kp e) (by simp only[List.size_toArray] <;> lia)
 ·obtain⟨its,r',pl,hz⟩:=I.tuple hq;have hlen:=r'.length;obtain⟨o,ho,hc,n,hd⟩:=pl;exact call_list_seq p (.inr rfl) ho hc hd (fun h' c' kp e=>fin its r' hz h' c' kp e) (by simp only[List.size_toArray] <;> lia)
theorem tI:bS X (.type "tuple") (fun xs H Q=>∃ p ys,xs=[.ref p]/\((SqL X.K H p ys/\∀ l,H l=none->Q (.ref l) (upd H l (.tup ys)))\/(SqT X.K H p ys/\Q (.ref p) H))):=by
 intro pins s σ H xs us Q I r h;obtain⟨p,ys,rfl,h⟩:=h;obtain⟨u,rfl,rx⟩:=vals1 r;cases rx;rcases h with ⟨hq,q⟩ | ⟨hq,q⟩
 ·obtain⟨its,r',pl,hz⟩:=I.list hq;have hlen:=r'.length;refine call_tuple_list pl.isList (fun h' kp=>?_) (by simp only[List.size_toArray] <;> lia);have I1:Inv X pins σ H { s with heap:=h' }:=I.kept (t':=s.toks) kp;have I2:Inv X pins σ (upd H h'.objs.size (.tup ys)) { s with heap:=h'.push { cls:=.type "tuple",data:=.seq its.toArray } }:=
   I1.laid (t':=s.toks) (fun b o e=>Heap.get?_push_of_some _ e) (Nat.le_refl _) (show b9 X.prog X.w _ _ _ (.tup ys) from ⟨hz,its,r',IsTup.new _ _⟩)
  exact⟨.ref h'.objs.size,_,I2,rfl,q _ (I1.hok.fresh (Nat.le_refl _))⟩
 ·obtain⟨its,r',pl,hz⟩:=I.tuple hq;exact call_tuple_same pl ⟨.ref p,H,I,rfl,q⟩
def tyV (K:Fg0) (T:String) (x:V) (H:Hp):Prop:=match x with
 | .str _=>T="str"
 | .int _=>T="int"
 | .ref p=>(T="list"/\∃ xs,SqL K H p xs)\/(T="tuple"/\∃ o,K.lookup p=some o/\o.cls=.type "tuple"/\o.dict=none)\/
   (T="dict"/\((∃ kvs,H p=some (.dK kvs))\/∃ kvs,H p=some (.dT kvs)))\/(T="set"/\∃ S n,H p=some (.set S n))
 | _=>False
theorem BQ{pins:Pn}{T:String}{x:V}(I:Inv X pins σ H s)(r:RelV x v)(ty:tyV X.K T x H) :
  s.TypeIs v T/\∀ a,v=.ref a->∃ ob,s.heap.get? a=some ob/\ob.dict=none:=by
 cases x with
 | str z=>
  obtain⟨t,rfl⟩:=r;cases (show T="str" from ty);exact⟨typeIs_str s z t,fun _ e=>nomatch e⟩
 | int i=>
  obtain⟨t,rfl⟩:=r;cases (show T="int" from ty);exact⟨typeIs_int s i t,fun _ e=>nomatch e⟩
 | ref p=>
  cases r;rcases ty with ⟨rfl,xs,hq⟩ | ⟨rfl,o,hk,hc,hd⟩ | ⟨rfl,hk⟩ | ⟨rfl,S,n,hk⟩
  ·obtain⟨its,_,pl,_⟩:=I.list hq;refine⟨pl.isList.typeIs,fun a e=>?_⟩;cases e;obtain⟨o,n,e,c,hd,_⟩:=pl;exact⟨o,e,hd⟩
  ·refine⟨⟨o,I.kIn p o hk,hc⟩,fun a e=>?_⟩;cases e;exact⟨o,I.kIn _ o hk,hd⟩
  ·have z:∃ o,s.heap.get? p=some o/\o.ExactDict:=by
    rcases hk with ⟨kvs,hk⟩ | ⟨kvs,hk⟩
    ·obtain⟨_,_,_,_,o,_,_,e,ex,_⟩:=I.hok p _ hk;exact⟨o,e,ex⟩
    ·obtain⟨_,_,_,_,o,_,_,e,ex,_⟩:=I.hok p _ hk;exact⟨o,e,ex⟩
   obtain⟨o,e,ex⟩:=z;refine⟨⟨o,e,ex.1⟩,fun a e2=>?_⟩;cases e2;exact⟨o,e,ex.2.1⟩
  ·obtain⟨o,_,_,_,e,ex,_⟩:=I.hok p _ hk;refine⟨⟨o,e,ex.1⟩,fun a e2=>?_⟩;cases e2;exact⟨o,e,ex.2.1⟩
 | _=>exact False.elim ty
def Lb (K:Fg0) (T:String) (r:V->List V->Hp->VK->Prop) (to:TE):TE:=fun σ H Q=>to σ H fun x H1=>tyV K T x H1/\r x [] H1 Q
def tBM (K:Fg0) (T:String) (r:V->List V->Hp->VK->Prop) (to:TE) (t:TA):TE:=fun σ H Q=>to σ H fun x H1=>tyV K T x H1/\t σ H1 fun xs H2=>r x xs H2 Q
variable {e:Expr}{to:TE}{T id:String}{r:V->List V->Hp->VK->Prop}
theorem I_(pa:PlainAttrs T)(slot:Slot T name id)(hty:typeOf (.builtin id)=pure (.type "method_descriptor"))(hm:MtR X id r)(ho:PE X o to)(hbase:autoParam (attributeBase o name X.env (eval o X.env)=eval o X.env) wE)(hline:autoParam ((apos.endLine == cpos.line)=true) wE):PE X (.Call (.Attribute o name apos) [] [] cpos) (Lb X.K T r to):=by
 intro pins s σ H Q I h;refine wpAny_Call_method0_late hbase hline (thn (ho pins s σ H _ I h) fun v s1 Z=>?_);obtain⟨x,H1,I1,r1,ty,q1⟩:=Z;obtain⟨h1,h2⟩:=BQ I1 r1 ty;exact⟨T,id,pa,slot,hty,h1,h2,Calls.callWith_builtin rfl (PySem.evalArgs_none (hm pins s1 σ H1 x [] v [] Q I1 r1 .nil q1))⟩
theorem LH(pa:PlainAttrs T)(slot:Slot T name id)(hty:typeOf (.builtin id)=pure (.type "method_descriptor"))(hm:MtR X id r)(ho:PE X o to)(ha:PA X (e::es) t)(hbase:autoParam (attributeBase o name X.env (eval o X.env)=eval o X.env) wE)(hfew:((backTo cpos (starEach (e::es) X.env)).all (fun x=>!x.1) && (backToKw cpos (keywordEach [] X.env)).all (fun x=>x.1.isSome)
   && decide ((e::es).length + ([]:List Keyword).length + (if ([]:List Keyword).isEmpty then 0 else 1) < 30))=true:=by rfl)(hline:autoParam ((apos.endLine == cpos.line)=true) wE)(hs:autoParam (starEach (e::es) X.env=(false,eval e X.env)::starEach es X.env) wE)(hplain:autoParam ((backTo cpos (starEach es X.env)).any (·.1)=false) wE) :
  PE X (.Call (.Attribute o name apos) (e::es) [] cpos) (tBM X.K T r to t):=by
 intro pins s σ H Q I h;refine wpAny_Call_method_late hbase hfew hline rfl (thn (ho pins s σ H _ I h) fun v s1 Z=>?_);obtain⟨x,H1,I1,r1,ty,q1⟩:=Z;obtain⟨h1,h2⟩:=BQ I1 r1 ty;refine⟨T,id,pa,slot,hty,h1,h2,?_⟩;have hA:=ha cpos pins s1 σ H1 _ I1 q1;rw[hs] at hA ⊢;refine Calls.callWith_builtin (by show (false || (backTo cpos (starEach es X.env)).any (·.1))=false;rw[hplain] <;> rfl) (Calls.evalArgs_plain ?_);exact thn hA fun us s2 ⟨vs,H2,I2,r2,q2⟩=>hm pins s2 σ H2 x vs v us Q I2 r1 r2 q2
end
def MtM (X:Cx) (id:String) (r:V->List V->Hp->VK->Prop):Prop:=
 ∀ (pins:Pn) (s:Shared) (σ:St) (H:Hp) (x:V) (xs:List V) (v:Value) (us:Lv0) (Q:VK),Inv X pins σ H s->RelV x v->Vals xs us->r x xs H Q->
  wpAny (model X.prog X.w) X.A (call (.builtin id) (v::us)) (EP X pins σ Q) X.xe s
theorem Vals.one{x:V}(h:Vals [x] us):∃ u,us=[u]/\RelV x u:=by
 cases h with
 | cons r t=>cases t;exact⟨_,rfl,r⟩
theorem Vals.zero:∀ {us:Lv0},Vals [] us->us=[]
 | _,.nil=>rfl
theorem Vals.dropLast(h:Vals xs us):Vals xs.dropLast us.dropLast:=by
 induction h with
 | nil=>exact .nil
 | cons r t ih=>
  cases t with
  | nil=>exact .nil
  | cons q t'=>exact .cons r ih
theorem yU{α:Type}(l:List α):l.eraseIdx (l.length - 1)=l.dropLast:=by
 induction l with
 | nil=>rfl
 | cons a r ih=>
  cases r with
  | nil=>rfl
  | cons b r=>
   have e:(a::b::r).length - 1=((b::r).length - 1) + 1:=by
    have h1:(a::b::r).length=r.length + 2:=rfl;have h2:(b::r).length=r.length + 1:=rfl;lia
   rw[e,List.eraseIdx_cons_succ,ih]
   all_goals rfl
section
variable {pins:Pn}{b:Addr}{ys zs:List V}
theorem Inv.FV{f:Array Value->Array Value}(I:Inv X pins σ H s)(hH:H l=some (.lst xs))(e:s.heap.get? l=some { cls:=.type "list",data:=.seq its.toArray n })(hf:f its.toArray=its'.toArray)(hv:Vals ys its')(hz:ys.length<=sizeLine) :
  Inv X pins σ (upd H l (.lst ys)) { s with heap:=s.heap.update l (Obj.mapSeq f),toks:=t' }:=by
 have q:=PySem.IsL.update e f;rw[hf] at q;refine I.write (x:=l) (e:=l) (by rw[hH];exact trivial) (.inl rfl) (fun b' u hb hu=>(Heap.get?_update_other s.heap (Obj.mapSeq f) (Ne.symm hb)).trans hu) ⟨_,q⟩ ?_;exact⟨hz,its',_,hv,q⟩
theorem Inv.NA(I:Inv X pins σ H s)(hv:Vals ys its)(hz:ys.length<=sizeLine) :
  Inv X pins σ (upd H s.heap.objs.size (.lst ys)) { s with heap:=s.heap.push { cls:=.type "list",data:=.seq its.toArray },toks:=t' }:=
 I.laid (fun _ _ q=>Heap.get?_push_of_some _ q) (Nat.le_refl _) ⟨hz,its,0,hv,Heap.get?_push_size _ rfl⟩
theorem Inv.fresh(I:Inv X pins σ H s):H s.heap.objs.size=none:=I.hok.fresh (Nat.le_refl _)
theorem Inv.yI(I:Inv X pins σ H s)(hH:H l=some (.lst xs)):xs.length<=sizeLine/\∃ (its:Lv0) (n:Nat),Vals xs its/\xs.length=its.length/\s.heap.get? l=some { cls:=.type "list",data:=.seq its.toArray n }:=by
 obtain⟨z,its,n,r,e⟩:=I.hok l _ hH;exact⟨z,its,n,r,r.length,e⟩
end
noncomputable def vp:V->List V->Hp->VK->Prop:=fun x vs H Q=>∃ l xs y,x=.ref l/\vs=[y]/\H l=some (.lst xs)/\xs.length < sizeLine/\Q .non (upd H l (.lst (xs++[y])))
theorem A2:MtM X "list.append" vp:=by
 intro pins s σ H x vs v us Q I rx rv h;obtain⟨l,xs,y,rfl,rfl,hH,hz,q⟩:=h;cases rx;obtain⟨u,rfl,ru⟩:=rv.one;obtain⟨z,its,n,r,hl,e⟩:=I.yI hH;refine call_meets F.slot_list_append ⟨_,e,rfl⟩ F.entry_list_append (F.args_list_append_2 _ _) (PySem.list_append l its.toArray n u (by rw[List.size_toArray];lia)) ⟨e,?_⟩;refine⟨.non,_,I.FV (its':=its++[u]) hH e (by simp) (r.append (.cons ru .nil)) ?_,rfl,q⟩;rw[List.length_append,List.length_singleton];lia
noncomputable def Cu:V->List V->Hp->VK->Prop:=fun x vs H Q=>∃ l xs,x=.ref l/\vs=[]/\H l=some (.lst xs)/\Q .non (upd H l (.lst []))
theorem De:MtM X "list.clear" Cu:=by
 intro pins s σ H x vs v us Q I rx rv h;obtain⟨l,xs,rfl,rfl,hH,q⟩:=h;cases rx;have hus:=rv.zero;subst hus;obtain⟨z,its,n,r,hl,e⟩:=I.yI hH;refine call_meets F.slot_list_clear ⟨_,e,rfl⟩ F.entry_list_clear (F.args_list_clear_1 _) (AutoSeq1.list_clear_list_0 l its.toArray n (by rw[List.size_toArray];lia)) ⟨e,?_⟩;exact⟨.non,_,I.FV (its':=[]) (ys:=[]) hH e rfl .nil (Nat.zero_le _),rfl,q⟩
def Lu:R2:=fun x y H Q=>∃ l b xs zs,x=.ref l/\y=.ref b/\H l=some (.lst xs)/\H b=some (.lst zs)/\xs.length + zs.length<=sizeLine/\∀ p,H p=none->Q (.ref p) (upd H p (.lst (xs++zs)))
theorem Jl:OpR X (binaryOp .Add) Lu:=by
 intro pins s σ H x y v u Q I rx ry h;obtain⟨l,b,xs,zs,rfl,rfl,hH,hB,hz,q⟩:=h;cases rx;cases ry;obtain⟨z,its,n,r,hl,e⟩:=I.yI hH;obtain⟨z2,its2,n2,r2,hl2,e2⟩:=I.yI hB;refine PySem.P.add_list e e2 ?_ (by rw[List.size_toArray,List.size_toArray];lia);have ea:its.toArray++its2.toArray=(its++its2).toArray:=by simp
 rw[ea];exact⟨.ref _,_,I.NA (t':=s.toks) (r.append r2) (by rw[List.length_append];lia),rfl,q _ I.fresh⟩
theorem Lm{u:HO}(ok:HOk P w H h)(e:Rd H a u):b9 P w H h a u:=e.ok ok
theorem ME(ok:HOk P w H h)(e:Rd H a (.dK kvs)):kvs.length<=sizeLine/\(a == sysModules)=false/\∃ vs,KV kvs vs/\h.DictOf (qG P w) a vs:=
 show b9 P w H h a (.dK kvs) from Lm ok e
theorem HL(ok:HOk P w H h)(e:H a=some (.dK kvs)):kvs.length<=sizeLine/\(a == sysModules)=false/\∃ vs,KV kvs vs/\h.DictOf (qG P w) a vs:=ME ok (.inl e)
section
variable {pins:Pn}{v:V}{r:Value}{o:Option V}
theorem Inv.big(I:Inv X pins σ H s):sysModules < s.heap.objs.size:=by
 have h:mainGlobals < s.heap.objs.size:=(I.mod.glob.keeps I.bk).lt;exact Nat.lt_trans (by decide) h
end
theorem DS(h:Heap)(hb:sysModules < h.objs.size):b9 P w H (h.push { cls:=.type "dict",data:=.dict #[] }) h.objs.size (.dK []):=
 ⟨Nat.zero_le _,beq_eq_false_iff_ne.mpr (Ne.symm (Nat.ne_of_lt hb)),[],.nil,Heap.DictOf.new h⟩
def B0:TE:=fun _ H Q=>∀ p,H p=none->Q (.ref p) (upd H p (.dK []))
theorem CK:PE X (.Dict [] [] pos) B0:=fun pins s σ H Q I h=>
 wpAny_Dict_empty ⟨.ref s.heap.objs.size,_,I.laid (a:=s.heap.objs.size) (o:=.dK []) (t':=s.toks) (fun _ _ q=>Heap.get?_push_of_some _ q) (Nat.le_refl _) (DS s.heap I.big),rfl,h _ (I.hok.fresh (Nat.le_refl _))⟩
end L2
namespace Att
open PySem PySem.W PySem.Calls PyProof.Rows
theorem qr{P:Params}:∀ (ns:Li0) (vs:Lv0),WellAll P h vs (ns.map WData.int)->IntsAre vs ns:=by
 intro ns
 induction ns with
 | nil=>
  intro vs w;rw[List.map_nil] at w;cases w;exact .nil
 | cons n ns ih=>
  intro vs w;rw[List.map_cons] at w;cases w with
  | cons a b=>
   cases a;exact .cons _ _ (ih _ b)
theorem AA{l:OpenLaw}(hn:l.most=some n){P:Params}{args:List WData}{vals:Lv0}(hpre:l.row.toRowW.claim.pre args=true)(hwl:WellAll P h vals args) :
  ∃ a vs ns,vals=[Value.ref a]/\args=[WData.list (ns.map WData.int)]/\h.get? a=some { cls:=.type "list",data:=.seq vs.toArray }/\IntsAre vs ns/\ns.length<=n:=by
 have hsh:WShape.hasAll [] args [.list .int]=true:=(pre_splitW hpre).1;have hc:l.pre.holds [] { args:=args }=true:=(pre_splitW hpre).2;obtain⟨d,r,rfl,h1,h2⟩:=hasAllW_cons hsh;obtain rfl:=hasAllW_nil h2;obtain⟨xs,rfl,h3⟩:=hasW_list h1;obtain⟨ns,rfl⟩:=items_int h3;have hlen:ns.length<=n:=by
  unfold OpenLaw.pre at hc;have h4:(WTm.not (.lt (.lit (.int (n:Int))) (.len (.arg 0)))).holds [] { args:=[.list (ns.map .int)] }=true:=by
   have h4:=(holds_andW hc).1;rw[hn] at h4;exact h4
  have h5:=condW_of h4 (w_not (w_lt w_lit (w_len_list (w_arg rfl))));rw[lM0] at h5;refine Nat.le_of_not_lt fun q=>?_;have q':(n:Int) < ((ns.length:Nat):Int):=by lia
  first
   | (rw[decide_eq_true q'] at h5;exact absurd h5 (by decide))
   | (simp at h5;lia)
 cases hwl with
 | cons w1 w2=>
  cases w2;cases w1 with
  | list ho hall=>exact⟨_,_,ns,rfl,rfl,ho,qr ns _ hall,hlen⟩
theorem AO(l:OpenLaw)(args:List WData):l.row.toRowW.claim.post args (.bool true) args=true:=
 postW_of (r:=l.row.toRowW) (X:=(true == true))
  (show WShape.has [] (.bool true) .bool=true by first | rfl | decide | simp [WShape.has,WShape.arms,WShape.armsAll])
  (show (WTm.eq .res (.lit (.bool true))).value [] { args:=args,res:=some (.bool true),after:=args }=some (.bool (true == true)) from w_eq_bool (w_res rfl) w_lit) rfl
theorem xK{l:OpenLaw}{q:Program}{loose:Ls0}{XP:(SV)->Heap->Prop}{YP:World->Heap->Prop}{d:DefRec}(hn:l.most=some n)(hdf:d.params.defaults=[])(call:∀ (w:World) (s₀ s₁:Shared) (mg mb:SV) (fa:Addr) (o:Obj) (pm cd doc:Value) (a:Addr) (vs:Lv0) (ns:Li0),
   Ground q loose [] XP w s₀ mg mb s₁.heap->YP w s₁.heap->
   s₁.heap.get? fa=some o->o.data=.func (docDef d.name d.params d.body d.scope pm cd doc)->s₁.heap.CodeRec cd d.name->mg d.name=some (.ref fa)->
   s₁.heap.get? a=some { cls:=.type "list",data:=.seq vs.toArray }->IntsAre vs ns->ns.length<=n->s₁.gens=#[]->
   codeAny (model l.prog w) callerA (.call (.ref fa) ⟨[.ref a],[]⟩) (fun r s'=>r=.ok (.ret (.bool true))/\OldK s₁.heap s'.heap/\s'.os=s₁.os/\AllBare s'.gens) s₁) :
  WalkO q loose XP YP l.row.toRowW d [] (fun f vs=>PySem.call f vs):=by
 intro w s₀ s₁ mg mb G Y fa o pm cd doc dV kV ho hd hcd hD hmg hg args vals as hpre hlay hrd hwl hlo;obtain rfl:dV=.none:=Dflts.none hD hdf;obtain rfl:kV=.none:=Dflts.noKw hD;obtain⟨a,vs,ns,rfl,rfl,hobj,hints,hlen⟩:=AA hn hpre hwl;refine enter_call (codeAny_mono (call w s₀ s₁ mg mb fa o pm cd doc a vs ns G Y ho (fd_plain hd) hcd hmg hobj hints hlen hg) fun r s' hq=>?_);obtain⟨rfl,h2,h3,h4⟩:=hq;exact⟨.inl ⟨.bool true,.bool true,[],rfl,fun _=>rfl,.bool true,AO l _,fun _=>⟨List.Pairwise.nil,fun _ hm=>(nomatch hm)⟩⟩,h2,h3,h4⟩
end Att
namespace L2
open PySem PySem.Spec PyProof.Rows
theorem tQ:∀ {vs:Lv0} {ns:Li0},IntsAre vs ns->Vals (ns.map V.int) vs
 | _,_,.nil=>.nil
 | _,_,.cons n t h=>.cons ⟨t,rfl⟩ (tQ h)
def KP (H:Hp):Prop:=∀ b,H b=none\/(∃ o xs,H b=some (.frz o (.lst xs)))\/∃ ps,H b=some (.tbl ps)
noncomputable def inClass (s:Stmt) (j:Nat):Stmt:=match s with
 | .ClassDef _ _ _ body _ _ _ _ _ _ _=>body.getD j (.Pass ⟨0,0,0,0⟩)
 | _=>.Pass ⟨0,0,0,0⟩
noncomputable def gj (s:Stmt):Arguments:=match s with
 | .FunctionDef _ a _ _ _ _ _ _ _ _=>a
 | _=>{ posonlyargs:=[],args:=[],vararg:=none,kwonlyargs:=[],kw_defaults:=[],kwarg:=none,defaults:=[] }
noncomputable def cI (s:Stmt):List Stmt:=match s with
 | .FunctionDef _ _ b _ _ _ _ _ _ _=>b
 | _=>[]
noncomputable def ag (s:Stmt):Scope:=match s with
 | .FunctionDef _ _ _ _ _ _ sc _ _ _=>sc
 | _=>{ kind:=.function,names:=[],isGenerator:=false,isCoroutine:=false }
abbrev CX0:CXT:=fun _ _ _ _ _ _=>False
abbrev E0:XK:=fun _ _ _=>False
theorem kC:Passes CX0 X E0:=fun _ _ _ _ _ _ _ h=>h.elim
structure Fun (K:Fg0) (x qual:Str) (st:Stmt) (f:Addr) (fd:FuncData):Prop where
 ex:∃ (oc:Value) (od:Option Addr) (kV doc pm:Value) (an:Option Addr) (cdv ct:Value) (osl:Array (Option Value)),
  fd=PySem.W.fnOf x qual (gj st) (cI st) (ag st) .none kV doc pm an cdv ct/\K.lookup f=some ⟨oc,od,.func fd,osl⟩/\PySem.W.codeIn K cdv qual=true
 kp:PySem.W.keepIn K (.ref f)=true
theorem Fun.ok{x:Str}(F:Fun K x qual st f fd)(S:au N ps (ag st))(len:∀ vs H Q E,sp vs H Q E->vs.length=ps.length)(hbody:∀ (cdv:Value) (A:Around) (outer:List Env) (s:Shared) (H:Hp) (vs:List V) (Q:VK) (E:XK),bF k (A.deeper (envOfC qual (ag st) s.heap.objs.size f cdv))->sp vs H Q E->
   ∃ t,PSs (j1 CX0 P w K mg base N qual (ag st) f cdv A outer s H E).nox (cI st) t/\t { nx:=fun _ H'=>Q .non H',rt:=Q } (start N vs) H):aG P w K mg base CX0 (k + 1) f fd ps sp:=by
 obtain⟨oc,od,kV,doc,pm,an,cdv,ct,osl,rfl,lk,hcd⟩:=F.ex;refine DH lk hcd S len fun A outer s H vs Q E hr hsp=>?_;obtain⟨t,h,q⟩:=hbody cdv A outer s H vs Q E hr hsp;exact⟨t,h.nox,q⟩
theorem Fun.binds{x:Str}(F:Fun K x qual st f fd)(h:∀ (kV doc pm:Value) (an:Option Addr) (cdv ct:Value) (us:Lv0),us.length=ps.length->bindArgs (PySem.W.fnOf x qual (gj st) (cI st) (ag st) .none kV doc pm an cdv ct) ⟨us,[]⟩=pure (ps.zip us)):Binds K fd ps []:=by
 obtain⟨oc,od,kV,doc,pm,an,cdv,ct,osl,rfl,lk,hcd⟩:=F.ex;exact .all (h kV doc pm an cdv ct)
theorem vU{x:Str}{oc:Value}{od an:Option Addr}{kV doc pm cdv ct:Value}(l:K.lookup f=some ⟨oc,od,.func (PySem.W.fnOf x qual (gj st) (cI st) (ag st) .none kV doc pm an cdv ct),osl⟩)(c:PySem.W.codeIn K cdv qual=true)(k:PySem.W.keepIn K (.ref f)=true):Fun K x qual st f (PySem.W.fnOf x qual (gj st) (cI st) (ag st) .none kV doc pm an cdv ct):=⟨⟨oc,od,kV,doc,pm,an,cdv,ct,osl,rfl,l,c⟩,k⟩
theorem A9{A B:Prop}(h:B):if false=true then A else B:=by
 rw[if_neg Bool.false_ne_true];exact h
theorem A8{A B:Prop}(h:A):if true=true then A else B:=by
 rw[if_pos rfl];exact h
def aE (H H':Hp):Prop:=∀ b o,H b=some o->H' b=some o
theorem aE.refl(H:Hp):aE H H:=fun _ _ h=>h
theorem aE.trans(a:aE H H1)(b:aE H1 H2):aE H H2:=fun c o h=>b c o (a c o h)
theorem aE.free(e:aE H H')(h:H' l=Option.none):H l=Option.none:=by
 cases q:H l with
 | none=>rfl
 | some o=>
  rw[e l o q] at h;cases h
theorem aE.seq(e:aE H H')(h:SqL K H a xs):SqL K H' a xs:=by
 rcases h with (h | ⟨o,h⟩) | h
 ·exact .inl (.inl (e _ _ h))
 ·exact .inl (.inr ⟨o,e _ _ h⟩)
 ·exact .inr h
noncomputable def takes (cells:List (Str×Addr)):List (Str×NameKind)->List (Str×Addr)->List (Str×Addr)
 | [],acc=>acc
 | (n,k)::r,acc=>takes cells r (if k=NameKind.free then (n,(cells.lookup n).getD 0)::acc else acc)
theorem tH(h:∀ y∈sc.names,y.2=.free->∃ c,env.cells.lookup y.1=some c):closureFor sc env=pure (takes env.cells sc.names []):=by
 have go:∀ (l:List (Str×NameKind)) (acc:List (Str×Addr)),(∀ y∈l,y.2=.free->∃ c,env.cells.lookup y.1=some c)->
   (forIn l acc (fun (x:Str×NameKind) (cs:List (Str×Addr))=>match x with
    | (name,kind)=>if (kind == NameKind.free)=true then do let c <- cellOf env name;pure (ForInStep.yield ((name,c)::cs)) else pure (ForInStep.yield cs)):Sem (List (Str×Addr)))=pure (takes env.cells l acc):=by
  intro l
  induction l with
  | nil=>intro acc _;rfl
  | cons x l ih=>
   intro acc hl;obtain⟨n,k⟩:=x;rw[List.forIn_cons];by_cases hk:k=NameKind.free
   ·subst hk;obtain⟨c,hc⟩:=hl (n,.free) List.mem_cons_self rfl;have hc':env.cells.lookup n=some c:=hc;have e1:cellOf env n=pure c:=by unfold cellOf;rw[hc']
    have e2:takes env.cells ((n,NameKind.free)::l) acc=takes env.cells l ((n,c)::acc):=by
     show takes env.cells l (if NameKind.free=NameKind.free then (n,(env.cells.lookup n).getD 0)::acc else acc)=_;rw[if_pos rfl,hc']
     rfl
    rw[e2,<- ih ((n,c)::acc) fun y hy=>hl y (List.mem_cons_of_mem _ hy)];show ((if (NameKind.free == NameKind.free)=true then (do let c <- cellOf env n;pure (ForInStep.yield ((n,c)::acc))) else pure (ForInStep.yield acc)) >>= _)=_;rw[if_pos (by decide),e1,pure_bind,pure_bind]
   ·have e2:takes env.cells ((n,k)::l) acc=takes env.cells l acc:=by
     show takes env.cells l (if k=NameKind.free then _ else acc)=_;rw[if_neg hk]
    have hb:(k == NameKind.free)=false:=by simpa using hk
    rw[e2,<- ih acc fun y hy=>hl y (List.mem_cons_of_mem _ hy)];show ((if (k == NameKind.free)=true then _ else pure (ForInStep.yield acc)) >>= _)=_;rw[hb,if_neg Bool.false_ne_true,pure_bind]
 have:=go sc.names [] h;unfold closureFor
 first
  | exact(congrArg (fun z=>z >>= fun cs=>pure cs) this).trans (pure_bind _ _)
  | exact this
  | simpa using this
theorem tR {cells:List (Str×Addr)} {n:Str} {c:Addr}:∀ (names:List (Str×NameKind)) (acc:List (Str×Addr)),(takes cells names acc).lookup n=some c->
  acc.lookup n=some c\/((n,NameKind.free)∈names/\c=(cells.lookup n).getD 0)
 | [],_,h=>.inl h
 | (m,k)::r,acc,h=>by
  rcases tR r _ h with q | ⟨q1,q2⟩
  ·by_cases hk:k=NameKind.free
   ·rw[if_pos hk] at q;subst hk;by_cases e:n=m
    ·subst e;rw[List.lookup_cons,beq_self_eq_true] at q;exact .inr ⟨List.mem_cons_self,(Option.some.inj q).symm⟩
    ·have:(n == m)=false:=by simpa using e
     rw[List.lookup_cons,this] at q;exact .inl q
   ·rw[if_neg hk] at q;exact .inl q
  ·exact .inr ⟨List.mem_cons_of_mem _ q1,q2⟩
theorem tS {cells:List (Str×Addr)} {n:Str}:∀ (names:List (Str×NameKind)) (acc:List (Str×Addr)),(acc.lookup n).isSome=true->((takes cells names acc).lookup n).isSome=true
 | [],_,h=>h
 | (m,k)::r,acc,h=>by
  refine tS r _ ?_;by_cases hk:k=NameKind.free
  ·rw[if_pos hk];cases e:n == m with
   | true=>rw[List.lookup_cons,e];rfl
   | false=>rw[List.lookup_cons,e];exact h
  ·rw[if_neg hk];exact h
theorem oM {cells:List (Str×Addr)} {n:Str}:∀ (names:List (Str×NameKind)) (acc:List (Str×Addr)),(n,NameKind.free)∈names->((takes cells names acc).lookup n).isSome=true
 | [],_,h=>by simp at h
 | (m,k)::r,acc,h=>by
  rcases List.mem_cons.mp h with e | h
  ·cases e;refine tS r _ ?_;rw[if_pos rfl,List.lookup_cons,beq_self_eq_true]
   rfl
  ·exact oM r _ h
structure Blk (N:Ls0) (osc sc:Scope) (Nc:Ls0) (fr:On):Prop where
 kind:sc.kind=.function
 own:∀ y∈sc.names,y.2=.cell->sc.names.lookup y.1=some .cell
 free:∀ y∈sc.names,y.2=.free->osc.names.lookup y.1=some .cell\/osc.names.lookup y.1=some .free
 locs:∀ y∈sc.names,y.2=.local->sc.names.lookup y.1=some .local
 nd:Nc.Nodup
 len:Nc.length=fr.length
 whence:∀ p∈Nc.zip fr,(p.2.all fun j=>decide (N[j]?=some p.1) && decide (sc.names.lookup p.1=some .free))=true
noncomputable abbrev bcl (cells:List (Str×Addr)) (sc:Scope) (C:Addr):List (Str×Addr):=cellsFrom (C + 1) sc.names (takes cells sc.names [])
theorem Ac {x:Str} {c:Addr}:∀ (names:List (Str×NameKind)) (n:Nat) (acc:List (Str×Addr)),(cellsFrom n names acc).lookup x=some c->acc.lookup x=some c\/(n<=c/\(x,NameKind.cell)∈names)
 | [],_,_,h=>.inl h
 | (y,k)::r,n,acc,h=>by
  unfold cellsFrom at h;split at h
  ·rename_i hk;have ek:k=NameKind.cell:=by simpa using hk
   subst ek;rcases Ac r _ _ h with q | ⟨q1,q2⟩
   ·rw[List.lookup_cons] at q;cases hx:x == y with
    | true=>
     rw[hx] at q;cases q;rw[beq_iff_eq.mp hx];exact .inr ⟨Nat.le_refl _,List.mem_cons_self⟩
    | false=>rw[hx] at q;exact .inl q
   ·exact .inr ⟨Nat.le_of_succ_le q1,List.mem_cons_of_mem _ q2⟩
  ·rcases Ac r _ _ h with q | ⟨q1,q2⟩
   ·exact .inl q
   ·exact .inr ⟨q1,List.mem_cons_of_mem _ q2⟩
theorem yZ {x:Str} {c:Addr}:∀ (names:List (Str×NameKind)) (n:Nat) (acc:List (Str×Addr)),(x,NameKind.cell)∈names->(cellsFrom n names acc).lookup x=some c->n<=c
 | [],_,_,m,_=>nomatch m
 | (y,k)::r,n,acc,m,h=>by
  unfold cellsFrom at h;by_cases hr:(x,NameKind.cell)∈r
  ·split at h
   ·exact Nat.le_of_succ_le (yZ r _ _ hr h)
   ·exact yZ r _ _ hr h
  ·have e:(x,NameKind.cell)=(y,k):=(List.mem_cons.mp m).resolve_right hr;cases e;rw[if_pos (by rfl)] at h;rcases Ac r _ _ h with q | ⟨q1,_⟩
   ·rw[List.lookup_cons,beq_self_eq_true] at q;cases q;exact Nat.le_refl _
   ·exact Nat.le_of_succ_le q1
theorem yY {x:Str}:∀ (names:List (Str×NameKind)) (n:Nat) (acc:List (Str×Addr)),(x,NameKind.cell)∉names->(cellsFrom n names acc).lookup x=acc.lookup x
 | [],_,_,_=>rfl
 | (y,k)::r,n,acc,m=>by
  unfold cellsFrom;have hr:(x,NameKind.cell)∉r:=fun z=>m (List.mem_cons_of_mem _ z);split
  ·rename_i hk;have ek:k=NameKind.cell:=by simpa using hk
   subst ek;rw[yY r _ _ hr,List.lookup_cons];have:(x == y)=false:=by
    cases hx:x == y with
    | false=>rfl
    | true=>exact absurd (by rw[beq_iff_eq.mp hx];exact List.mem_cons_self) m
   rw[this]
  ·exact yY r _ _ hr
theorem y0:∀ (names:List (Str×NameKind)) (n:Nat) (acc:List (Str×Addr)),(∀ x y c,acc.lookup x=some c->acc.lookup y=some c->x=y)->(∀ x c,acc.lookup x=some c->c < n)->
  ∀ x y c,(cellsFrom n names acc).lookup x=some c->(cellsFrom n names acc).lookup y=some c->x=y
 | [],_,_,h,_=>h
 | (z,k)::r,n,acc,h,lt=>by
  unfold cellsFrom;split
  ·refine y0 r (n + 1) ((z,n)::acc) (fun x y c h1 h2=>?_) fun x c h1=>?_
   ·rw[List.lookup_cons] at h1 h2;cases hx:x == z with
    | true=>
     cases hy:y == z with
     | true=>rw[beq_iff_eq.mp hx,beq_iff_eq.mp hy]
     | false=>
      rw[hx] at h1;rw[hy] at h2;cases h1;exact absurd (lt y n h2) (Nat.lt_irrefl _)
    | false=>
     cases hy:y == z with
     | true=>
      rw[hx] at h1;rw[hy] at h2;cases h2;exact absurd (lt x n h1) (Nat.lt_irrefl _)
     | false=>rw[hx] at h1;rw[hy] at h2;exact h x y c h1 h2
   ·rw[List.lookup_cons] at h1;cases hx:x == z with
    | true=>rw[hx] at h1;cases h1;exact Nat.lt_succ_self _
    | false=>rw[hx] at h1;exact Nat.lt_succ_of_lt (lt x c h1)
  ·exact y0 r n acc h lt
theorem uj{g:Addr}{cl:List (Str×Addr)}{oe:Env}{Q:Env->Shared->Prop}(hQ:∀ h':Heap,h'.Ns s.heap.objs.size (fun _=>none)->(∀ b o,s.heap.get? b=some o->h'.get? b=some o)->(∀ n c,(cellsFrom (s.heap.objs.size + 1) sc.names cl).lookup n=some c->cl.lookup n=some c\/h'.IsCell c none)->
   Q { scope:=sc,locals:=s.heap.objs.size,globals:=g,cells:=cellsFrom (s.heap.objs.size + 1) sc.names cl,qual:=qual,func:=none,code:=oe.code,frame:=oe.frame,builtins:=oe.builtins } { s with heap:=h' }) :
  wpAny M A (newFunctionEnv sc g cl [] qual none .none (some oe)) Q E s:=by
 simp only[newFunctionEnv,Option.isSome_some,if_true];refine wpAny_bind (wpAny_alloc ?_);refine wpAny_bind (wpAny_layCells _ (fun name kind cells=>by cases hkc:kind == NameKind.cell <;> simp [hkc]) _ _ _ _ ?_);have go:∀ (names:List (Str×NameKind)) (h:Heap) (acc:List (Str×Addr)) (P:Str->Addr->Prop),(∀ n c,acc.lookup n=some c->P n c\/h.IsCell c none)->∀ n c,(cellsFrom h.objs.size names acc).lookup n=some c->P n c\/(pushCells h names).IsCell c none:=by
  intro names
  induction names with
  | nil=>intro h acc P x;exact x
  | cons p r ih=>
   intro h acc P x;obtain⟨y,k⟩:=p;unfold cellsFrom pushCells;split
   ·have:=ih (h.push { cls:=.type "cell",data:=.cell none }) ((y,h.objs.size)::acc) P fun n c e=>by
     rw[List.lookup_cons] at e;cases hx:n == y with
     | true=>rw[hx] at e;cases e;exact .inr ⟨_,Heap.get?_push_size _ rfl,rfl⟩
     | false=>
      rw[hx] at e;rcases x n c e with q | q
      ·exact .inl q
      ·exact .inr (q.keeps fun b o e=>Heap.get?_push_of_some _ e)
    rwa [Heap.size_push] at this
   ·exact ih h acc P x
 have ok:=go sc.names (s.heap.push { cls:=.type "dict",data:=.dict #[] }) cl (fun n c=>cl.lookup n=some c) fun n c e=>.inl e;rw[Heap.size_push] at ok;rw[show ({ s with heap:=s.heap.push { cls:=.type "dict",data:=.dict #[] } }:Shared).heap.objs.size=s.heap.objs.size + 1 from Heap.size_push ..];refine wpAny_bind ?_;rw[List.forIn_nil];exact wpAny_pure (wpAny_pure (hQ _ ((Heap.Ns.new s.heap (.type "dict")).keeps (pushCells_keeps _ _)) (fun b o e=>pushCells_keeps _ _ b o (Heap.get?_push_of_some _ e)) ok))
noncomputable abbrev bC (X:Cx) (sc:Scope) (Nc:Ls0) (s₀:Shared) (H₀:Hp) (C:Addr) (ex:La0) (pn:Pn):Cx where
 prog:=X.prog
 w:=X.w
 K:=X.K
 mg:=X.mg
 base:=X.base
 A:=X.A
 N:=Nc
 s₀:=s₀
 H₀:=H₀
 env:=compEnvC sc (bcl X.env.cells sc C) C X.env
 outer:=X.stack
 stack:=X.stack
 ex:=ex
 fn:=fun x=>sc.names.lookup x == some .cell
 calm:=X.calm
 pn:=pn
 xe:=fun _ _=>False
noncomputable def k7 (fr:On) (σ:St):St:=fr.map fun o=>o.bind fun j=>(σ[j]?).join
def H8 (J:It) (g:TG) (te:TE) (σ0:St) (H1:Hp) (Q:VK):Prop:=
 ∃ W:Nat->Nat->List V->St->Hp->Prop,(∃ m,W 0 m [] σ0 H1)/\∀ i m ys σc H,W i m ys σc H->ys.length < sizeLine/\
  ((J.stop i H/\∀ l,H l=none->Q (.ref l) (upd H l (.lst ys)))\/
   (J.go i H/\∀ x H',J.yld i H x H'->g x σc H' fun σ2 H2=>∃ N:VK,(∀ y H3,N y H3->∃ m',m' < m/\W (i + 1) m' (ys++[y]) σ2 H3)/\te σ2 H2 N))
def qS (fr:On) (wi:TI) (g:TG) (te:TE):TE:=fun σ H Q=>wi σ H fun J H1=>H8 J g te (k7 fr σ) H1 Q
theorem ku{x:Str}{k:NameKind}(h:(relabel sc env).names.lookup x=some k):sc.names.lookup x=some k\/(k=.cell/\sc.names.lookup x=some .free):=by
 have go:∀ l:List (Str×NameKind),(l.map fun (n,k)=>if (k == NameKind.free && env.scope.kind == .function && env.kindOf n == some .cell) then (n,NameKind.cell) else (n,k)).lookup x=some k->l.lookup x=some k\/(k=.cell/\l.lookup x=some .free):=by
  intro l
  induction l with
  | nil=>intro h;simp at h
  | cons p r ih=>
   intro h;obtain⟨n,k'⟩:=p;rw[List.map_cons] at h;by_cases hc:(k' == NameKind.free && env.scope.kind == .function && env.kindOf n == some .cell)=true
   ·have h2:List.lookup x ((n,NameKind.cell)::r.map fun (n,k)=>if (k == NameKind.free && env.scope.kind == .function && env.kindOf n == some .cell) then (n,NameKind.cell) else (n,k))=some k:=by
     have h3:=h;simp only[hc,if_true] at h3;exact h3
    have hk:k'=.free:=by
     simp only[Bool.and_eq_true] at hc;simpa using hc.1.1
    subst hk;cases hx:x == n with
    | true=>
     rw[List.lookup_cons,hx] at h2;rw[List.lookup_cons,hx];cases h2;exact .inr ⟨rfl,rfl⟩
    | false=>
     rw[List.lookup_cons,hx] at h2;rw[List.lookup_cons,hx];exact ih h2
   ·have hc':(k' == NameKind.free && env.scope.kind == .function && env.kindOf n == some .cell)=false:=by simpa using hc
    have h2:List.lookup x ((n,k')::r.map fun (n,k)=>if (k == NameKind.free && env.scope.kind == .function && env.kindOf n == some .cell) then (n,NameKind.cell) else (n,k))=some k:=by
     have h3:=h;simp only[hc',Bool.false_eq_true,if_false] at h3;exact h3
    cases hx:x == n with
    | true=>
     rw[List.lookup_cons,hx] at h2;rw[List.lookup_cons,hx];exact .inl h2
    | false=>
     rw[List.lookup_cons,hx] at h2;rw[List.lookup_cons,hx];exact ih h2
 exact go _ h
theorem vn{x:Str}(h:sc.names.lookup x=some .free):(relabel sc env).names.lookup x=some .cell\/(relabel sc env).names.lookup x=some .free:=by
 have go:∀ l:List (Str×NameKind),l.lookup x=some .free->(l.map fun (n,k)=>if (k == NameKind.free && env.scope.kind == .function && env.kindOf n == some .cell) then (n,NameKind.cell) else (n,k)).lookup x=some .cell\/(l.map fun (n,k)=>if (k == NameKind.free && env.scope.kind == .function && env.kindOf n == some .cell) then (n,NameKind.cell) else (n,k)).lookup x=some .free:=by
  intro l
  induction l with
  | nil=>intro h;simp at h
  | cons p r ih=>
   intro h;obtain⟨n,k'⟩:=p;rw[List.map_cons];by_cases hc:(k' == NameKind.free && env.scope.kind == .function && env.kindOf n == some .cell)=true
   ·simp only[hc,if_true];cases hx:x == n with
    | true=>left;simp [List.lookup_cons,hx]
    | false=>
     rw[List.lookup_cons,hx] at h;simp only[List.lookup_cons,hx];exact ih h
   ·have hc':(k' == NameKind.free && env.scope.kind == .function && env.kindOf n == some .cell)=false:=by simpa using hc
    simp only[hc',Bool.false_eq_true,if_false];cases hx:x == n with
    | true=>
     rw[List.lookup_cons,hx] at h
     right
     simp only[List.lookup_cons,hx];exact h
    | false=>
     rw[List.lookup_cons,hx] at h;simp only[List.lookup_cons,hx];exact ih h
 exact go _ h
section
variable {pins:Pn}
theorem gy(B:Blk X.N X.env.scope sc Nc fr)(ok:X.Ok){n:Str}(h:(takes X.env.cells sc.names []).lookup n=some c):X.env.cells.lookup n=some c:=by
 rcases tR _ _ h with q | ⟨q1,q2⟩
 ·simp at q
 ·obtain⟨c',hc'⟩:=ok.has n (B.free _ q1 rfl);rw[hc'] at q2;rw[hc',q2]
  rfl
theorem uN(B:Blk X.N X.env.scope sc Nc fr)(ok:X.Ok){n:Str}(h:(bcl X.env.cells sc C).lookup n=some c):X.env.cells.lookup n=some c\/C < c:=by
 rcases Ac _ _ _ h with q | ⟨q,_⟩
 ·exact .inl (gy B ok q)
 ·exact .inr q
theorem eu{n:Str}{k:NameKind}:∀ {l:List (Str×NameKind)},l.lookup n=some k->(n,k)∈l:=fun h=>PySem.mem_of_lookup h
theorem Ee(B:Blk X.N X.env.scope sc Nc fr){pn:Pn}(I:Inv X pins σ H₀ s₀)(hC:s₀.heap.objs.size<=C)(hex:∀ b∈ex,b < s₀.heap.objs.size/\b∉X.fs/\b≠X.env.locals/\(∀ x c,X.env.cells.lookup x=some c->c≠b)/\∀ o,X.base.get? b≠some o):(bC X sc Nc s₀ H₀ C ex pn).Ok where
 mod:=I.ok.mod
 kind:=B.kind
 glob:=I.ok.glob
 blt:=I.ok.blt
 above:=hC
 inj:=y0 _ _ _ (fun x y c h1 h2=>I.ok.inj x y c (gy B I.ok h1) (gy B I.ok h2)) fun x c h=>by
  obtain⟨v,o,e,_⟩:=I.cell x c (gy B I.ok h);exact Nat.lt_succ_of_lt (Nat.lt_of_lt_of_le (Heap.lt_size e) hC)
 has:=fun x hx=>by
  have hf:sc.names.lookup x=some .cell\/sc.names.lookup x=some .free:=by
   rcases hx with hx | hx
   ·rcases ku hx with q | ⟨_,q⟩
    ·exact .inl q
    ·exact .inr q
   ·rcases ku hx with q | ⟨_,q⟩
    ·exact .inr q
    ·exact .inr q
  refine Option.isSome_iff_exists.mp (PySem.W.cellsFrom_some _ _ _ ?_);rcases hf with q | q
  ·exact .inl q
  ·exact .inr (oM _ _ (eu q))
 cab:=fun x c h e=>by
  have h':sc.names.lookup x=some .cell:=by simpa using h
  exact Nat.le_trans hC (Nat.le_of_succ_le (yZ _ _ _ (eu h') e))
 hd:=I.ok.hd
 frames:=I.ok.frames
 stk:=.inl rfl
 exf:=fun b hb=>⟨fun e=>by have:=(hex b hb).1;rw[e] at this;exact absurd (Nat.lt_of_lt_of_le this hC) (Nat.lt_irrefl _),fun x c h=>by
  rcases uN B I.ok h with q | q
  ·exact(hex b hb).2.2.2.1 x c q
  ·exact fun z=>absurd (Nat.lt_trans (Nat.lt_of_lt_of_le (hex b hb).1 hC) q) (by rw[z];exact Nat.lt_irrefl _)⟩
 bs:=fun b o e=>I.bs b o e
 bsz:=Nat.le_trans I.ok.bsz I.sz
 noex:=fun b o e hb=>(hex b hb).2.2.2.2 o e
 exfs:=fun b hb hf=>by
  rcases List.mem_cons.mp (I.qU b hf) with e | e
  ·exact(hex b hb).2.2.1 e
  ·exact(hex b hb).2.1 e
 i6:=I.stack
 frf:=fun b hb=>I.nk b hb
 tb:=I.tb
end
noncomputable abbrev bL (us:Lv0) (n:Nat):Obj:={ cls:=.type "list",data:=.seq us.toArray n }
theorem yK{α:Type}{fr:List α}{x:Str}{o:α}(h1:Nc[i]?=some x)(h2:fr[i]?=some o):(x,o)∈Nc.zip fr:=by
 have h3:(Nc.zip fr)[i]?=some (x,o):=by
  rw[List.getElem?_zip_eq_some];exact⟨h1,h2⟩
 exact List.mem_of_getElem? h3
theorem Ah{pins:Pn}(B:Blk X.N X.env.scope sc Nc fr){s₄:Shared}{D:Addr}{o:Obj}{mC:SV}(ok:(bC X sc Nc s₀ H₀ C ex (X.pn++pins)).Ok)(I:Inv X pins σ H₀ s₀)(hC:s₀.heap.objs.size<=C)(ho:s₄.os=s₀.os)(hg:s₄.gens=s₀.gens)(hk:∀ b u,s₀.heap.get? b=some u->s₄.heap.get? b=some u)(hn:s₄.heap.Ns C mC)(hw:∀ x c,(bcl X.env.cells sc C).lookup x=some c->(takes X.env.cells sc.names []).lookup x=some c\/s₄.heap.IsCell c none)(hD:s₀.heap.get? D=some o)(hDH:H₀ D=none)(hDL:D≠X.env.locals)(hDf:D∉X.fs)(hDc:∀ v,o.data≠.cell v) :
  Inv (bC X sc Nc s₀ H₀ C ex (X.pn++pins)) [(D,o)] (k7 fr σ) H₀ s₄:=by
 have stk:∀ b,b≠X.env.locals->b∉X.fs->b∉frs X.stack:=fun b h1 h2 h3=>by
  rcases List.mem_cons.mp (I.qU b h3) with e | e
  ·exact h1 e
  ·exact h2 e
 have ltC:∀ {b:Addr} {u:Obj},s₀.heap.get? b=some u->b≠C:=fun e z=>absurd (Nat.lt_of_lt_of_le (Heap.lt_size e) (by rw[z];exact hC)) (Nat.lt_irrefl _);refine⟨ok,ho,by rw[hg];exact I.bare,Un.kept hk,⟨mC,hn,fun i x v h1 h2 h3=>?_⟩,fun x c h=>?_,I.hok.fresh hC,fun x c h=>?_,fun p hp=>?_,I.hok.kept hk,?_⟩
 ·have h2':(fr.map fun o=>o.bind fun j=>(σ[j]?).join)[i]?=some (some v):=h2;rw[List.getElem?_map] at h2';cases ef:fr[i]? with
  | none=>rw[ef] at h2';cases h2'
  | some oj=>
   rw[ef] at h2';have h4:(oj.bind fun j=>(σ[j]?).join)=some v:=Option.some.inj h2';cases oj with
   | none=>cases h4
   | some j=>
    have hz:=B.whence _ (yK h1 ef);have hz':(decide (X.N[j]?=some x) && decide (sc.names.lookup x=some .free))=true:=hz;rw[Bool.and_eq_true] at hz';have e1:X.N[j]?=some x:=of_decide_eq_true hz'.1;have e2:sc.names.lookup x=some .free:=of_decide_eq_true hz'.2;have h5:σ[j]?=some (some v):=by
     have h6:(σ[j]?).join=some v:=h4;cases e3:σ[j]? with
     | none=>rw[e3] at h6;cases h6
     | some y=>rw[e3] at h6;exact congrArg some h6
    have hkd:=B.free _ (eu e2) rfl;obtain⟨m,hm,hl⟩:=I.loc;have vis:Vis X.env.scope x:=by rcases hkd with k | k;exact .inr (.inl k);exact .inr (.inr k)
    obtain⟨u,r,l⟩:=hl j x v e1 h5 vis;refine⟨u,r,.inr ⟨vn e2,?_⟩⟩;rcases l with ⟨k,_⟩ | ⟨_,c,hc,hcell⟩
    ·have k':X.env.scope.names.lookup x=some .local:=k;rcases hkd with q | q
     ·rw[q] at k';cases k'
     ·rw[q] at k';cases k'
    ·obtain⟨c',hc'⟩:=Option.isSome_iff_exists.mp (oM (cells:=X.env.cells) sc.names [] (eu e2));have hc2:=gy B I.ok hc';rw[hc] at hc2;cases hc2;obtain⟨oc,ho1,ho2⟩:=hcell;exact⟨c,(yY _ _ _ fun z=>by have:=B.own _ z rfl;rw[e2] at this;cases this).trans hc',oc,hk _ _ ho1,ho2⟩
 ·rcases hw x c h with q | q
  ·obtain⟨v,oc,h1,h2⟩:=I.cell x c (gy B I.ok q);exact⟨v,oc,hk _ _ h1,h2⟩
  ·exact⟨_,q⟩
 ·rcases uN B I.ok h with q | q
  ·exact I.freeC x c q
  ·exact I.hok.fresh (Nat.le_trans hC (Nat.le_of_lt q))
 ·rcases List.mem_append.mp hp with hp | hp
  ·obtain⟨e1,e2,e3,e4,e5⟩:=I.pin p hp;exact⟨hk _ _ e1,e2,ltC e1,stk _ e3 e4,e5⟩
  ·have e:p=(D,o):=by simpa using hp
   subst e;exact⟨hk _ _ hD,hDH,ltC hD,stk _ hDL hDf,hDc⟩
 ·show (fr.map _).length=Nc.length;rw[lM0,B.len]
abbrev Runs (prog:Program) (w:World) (A:Around) {α:Type} (c:Sem α) (t:Shared) (Q:α->Shared->Prop):Prop:=wpAny (model prog w) A c Q (fun _ _=>False) t
theorem Runs.go{α:Type}{c:Sem α}{t:Shared}{Q Q':α->Shared->Prop}(h:Runs prog w A c t Q)(f:∀ a u,Q a u->Q' a u):wpAny (model prog w) A c Q' E t:=wpAny_mono h f fun _ _ z=>z.elim
theorem v7{it acc:Value}(J:Nat->Shared->Prop)(one:∀ k t,J k t->Runs prog w A (pyNext it) t fun r t1=>match r with
   | none=>R (.ok .next) t1
   | some v=>Runs prog w A (letOwnedTupleGo tg it v) t1 fun _ t2=>Runs prog w A (assign tg env v) t2 fun _ t3=>Runs prog w A (eval elt env) t3 fun x t4=>
     Runs prog w A (call (.builtin "list.append") [acc,x]) t4 fun _ t5=>∃ j,j < k/\J j t5)(k:Nat)(h:J k s):codeAny (model prog w) A (.compLoop (.ListComp elt [⟨tg,iter,[],0⟩] sc pos) 0 it acc env) R s:=
 PySem.W.kcp_loop J (fun k t hJ=>(one k t hJ).go fun r t1 q=>match r,q with
  | none,q=>q
  | some _,q=>Runs.go q fun _ _ q=>Runs.go q fun _ _ q=>Runs.go q fun _ _ q=>Runs.go q fun _ _ q=>q) k h
theorem sN(B:Blk X.N X.env.scope sc Nc fr)(hc:X.calm=true)(hg:∀ s₀ H₀ C ex pn,PG (bC X sc Nc s₀ H₀ C ex pn) tg g)(he:∀ s₀ H₀ C ex pn,PE (bC X sc Nc s₀ H₀ C ex pn) elt te){pins:Pn}{s2:Shared}{it:Addr}{fp:La0}{tn:Nat->Heap->Prop}{J:It}(I2:Inv X pins σ H2 s2)(T:Turn X.prog X.w X.K tg J fp it tn)(st2:tn 0 s2.heap)(f2:∀ b∈fp,eU X pins H2 b){Q:VK}(cw:H8 J g te (k7 fr σ) H2 Q){RR:Value->Addr->Result->Shared->Prop}(hRR:∀ D C s' H',Inv X pins σ H' s'->(∃ m,s'.heap.Ns C m)->eU X pins H' C->Q (.ref D) H'->RR (.ref D) C (.ok .next) s') :
  wpAny (model X.prog X.w) X.A (newList []) (fun acc s₃=>wpAny (model X.prog X.w) X.A (newFunctionEnv sc X.env.globals (takes X.env.cells sc.names []) [] X.env.qual none .none (some X.env)) (fun cenv s₄=>
   codeAny (model X.prog X.w) X.A (.compStart (.ListComp elt [⟨tg,iter,[],0⟩] sc pos) 0 (.ref it) acc { cenv with scope:=relabel sc X.env }) (RR acc cenv.locals) s₄) E s₃) E s2:=by
 obtain⟨W,⟨m0,w0⟩,turn⟩:=cw;refine wpAny_newObj_type (uj fun h₁ hns₁ old₁ cl₁=>?_);dsimp only at hns₁ old₁ cl₁ ⊢;generalize hH2:s2.heap.push { cls:=.type "list",dict:=none,data:=.seq ([]:Lv0).toArray }=hp at hns₁ old₁ cl₁ ⊢;have hCs:hp.objs.size=s2.heap.objs.size + 1:=by rw[<- hH2,Heap.size_push]
 generalize hCe:hp.objs.size=C at hns₁ cl₁ ⊢;generalize hDe:s2.heap.objs.size=D at hCs ⊢;have hDC:D≠C:=by rw[<- hCe,hCs];exact Nat.ne_of_lt (Nat.lt_succ_self _)
 have up:∀ b o,s2.heap.get? b=some o->hp.get? b=some o:=fun b o e=>by rw[<- hH2];exact Heap.get?_push_of_some _ e
 have hDp:hp.get? D=some (bL [] 0):=by rw[<- hH2,<- hDe];exact Heap.get?_push_size _ rfl
 have I3:Inv X pins σ H2 { s2 with heap:=hp }:=I2.kept (t':=s2.toks) up;have hD0:H2 D=none:=I2.hok.fresh (by rw[hDe];exact Nat.le_refl _);have fD:eU X pins H2 D:=I2.qv (by rw[hDe];exact Nat.le_refl _) hD0;have fpo:∀ b∈fp,∃ o,s2.heap.get? b=some o/\∀ v,o.data≠.cell v:=T.obj 0 _ st2;have fplt:∀ b∈fp,b < D:=fun b hb=>by obtain⟨o,e,_⟩:=fpo b hb;rw[<- hDe];exact Heap.lt_size e
 have hDfp:D∉fp:=fun hb=>Nat.lt_irrefl _ (fplt D hb);have hCfp:C∉fp:=fun hb=>by have:=fplt C hb;rw[<- hCe,hCs] at this;exact absurd (Nat.lt_of_succ_lt this) (Nat.lt_irrefl _)
 have nobase:∀ b,(b∈X.ex\/X.s₀.heap.objs.size<=b)->∀ o,X.base.get? b≠some o:=fun b h o e=>by
  rcases h with h | h
  ·exact I2.ok.noex b o e h
  ·exact absurd (Nat.lt_of_lt_of_le (Heap.lt_size e) (Nat.le_trans I2.ok.bsz h)) (Nat.lt_irrefl _)
 have hex:∀ b∈D::fp,b < hp.objs.size/\b∉X.fs/\b≠X.env.locals/\(∀ x c,X.env.cells.lookup x=some c->c≠b)/\∀ o,X.base.get? b≠some o:=fun b hb=>by
  have fb:eU X pins H2 b:=by
   rcases List.mem_cons.mp hb with e | hb
   ·rw[e];exact fD
   ·exact f2 b hb
  refine⟨?_,fb.2.2.1,fb.2.1,fb.2.2.2.2.1,nobase b fb.2.2.2.1⟩;rcases List.mem_cons.mp hb with e | hb
  ·rw[e,hCs];exact Nat.lt_succ_self _
  ·rw[hCs];exact Nat.lt_succ_of_lt (fplt b hb)
 have hCle:hp.objs.size<=C:=by rw[hCe];exact Nat.le_refl _
 have ok:(bC X sc Nc { s2 with heap:=hp } H2 C (D::fp) (X.pn++pins)).Ok:=Ee B I3 hCle hex;have old:∀ b u,hp.get? b=some u->h₁.get? b=some u:=old₁;have J0:Inv (bC X sc Nc { s2 with heap:=hp } H2 C (D::fp) (X.pn++pins)) [(D,bL [] 0)] (k7 fr σ) H2 { s2 with heap:=h₁ }:=
  Ah B ok I3 hCle rfl rfl old hns₁ cl₁ hDp hD0 fD.2.1 fD.2.2.1 (fun v z=>by cases z)
 have fpY:∀ {H':Hp} {u:Obj},(∀ b∈fp,H' b=none)->∀ b∈fp,eU (bC X sc Nc { s2 with heap:=hp } H2 C (D::fp) (X.pn++pins)) [(D,u)] H' b:=fun {H' u} hn b hb=>
  ⟨hn b hb,fun e=>hCfp (by have e':b=C:=e;rw[<- e'];exact hb),ok.exfs b (List.mem_cons_of_mem _ hb),.inl (List.mem_cons_of_mem _ hb),(ok.exf b (List.mem_cons_of_mem _ hb)).2,fun p hp'=>by
   rcases List.mem_append.mp hp' with q | q
   ·exact(f2 b hb).2.2.2.2.2 p q
   ·have e:p=(D,u):=by simpa using q
    rw[e];exact fun z=>hDfp (by have z':D=b:=z;rw[z'];exact hb)⟩
 have loop:codeAny (model X.prog X.w) X.A (.compLoop (.ListComp elt [⟨tg,iter,[],0⟩] sc pos) 0 (.ref it) (.ref D) (compEnvC sc (bcl X.env.cells sc C) C X.env)) (RR (.ref D) C) { s2 with heap:=h₁ }:=by
  refine v7 (fun n s'=>∃ (i:Nat) (ys:List V) (us:Lv0) (σc:St) (H':Hp),Inv (bC X sc Nc { s2 with heap:=hp } H2 C (D::fp) (X.pn++pins)) [(D,bL us us.length)] σc H' s'/\Vals ys us/\tn i s'.heap/\(∀ b∈fp,H' b=none)/\W i n ys σc H')
   ?_ m0 ⟨0,[],[],_,H2,J0,.nil,T.keep _ _ _ st2 (fun b _ o e=>old b o (up b o e)),fun b hb=>(f2 b hb).1,w0⟩
  rintro n s3 ⟨i,ys,us,σ3,H3,I3',rv,st3,fr3,w3⟩;obtain⟨hsz,hcase⟩:=turn i n ys σ3 H3 w3;rcases hcase with ⟨stop,qn⟩ | ⟨go,step⟩
  ·refine thn (T.done (bC X sc Nc { s2 with heap:=hp } H2 C (D::fp) (X.pn++pins)) rfl rfl rfl hc i _ s3 σ3 H3 _ I3' (fpY fr3) st3 stop) fun r s4 Z=>?_;obtain⟨hr,I4⟩:=Z;subst hr;obtain⟨pD,pH,_,_,_⟩:=I4.pin (D,bL us us.length) (List.mem_append_right _ List.mem_cons_self);obtain⟨mC',hnC,_⟩:=I4.loc;have un:Un (frs X.stack) fp H2 (upd H3 D (.lst ys)) s2.heap s4.heap:=by
    have u0:Un (frs X.stack) (D::fp) H2 H3 hp s4.heap:=I4.base;have neD:∀ {b:Addr} {o:Obj},s2.heap.get? b=some o->b≠D:=fun e=>by rw[<- hDe];exact Nat.ne_of_lt (Heap.lt_size e)
    have nx:∀ {b:Addr} {o:Obj},s2.heap.get? b=some o->b∉fp->b∉D::fp:=fun e h1 h2=>by
     rcases List.mem_cons.mp h2 with z | z
     ·exact neD e z
     ·exact h1 z
    have neT:∀ {b:Addr} {o:HO},H2 b=some o->b≠D:=fun e z=>by rw[z,hD0] at e;cases e
    exact⟨fun b o e n hb hx=>u0.keep b o (up b o e) n hb (nx e hx),fun b o e n hb hx=>u0.slot b o (up b o e) n hb (nx e hx),fun b o e n hx=>by rw[ah (neD e)];exact u0.free b o (up b o e) n (nx e hx),
     fun b o e hx=>u0.there b o (up b o e) (nx e hx),fun b xs e=>by rw[ah (neT e)];exact u0.tups b xs e,fun b o xs e=>by rw[ah (neT e)];exact u0.i7 b o xs e,fun b ps e=>by rw[ah (neT e)];exact u0.tbls b ps e⟩
   have hok:HOk X.prog X.w (upd H3 D (.lst ys)) s4.heap:=fun b u e=>by
    by_cases hb:b=D
    ·subst hb;rw[ar] at e;cases e;exact⟨Nat.le_of_lt hsz,us,us.length,rv,pD⟩
    ·rw[ah hb] at e;refine(I4.hok b u e).lK (fun c v _ q=>q) (fun c q=>?_) fun c xs q=>?_
     ·rw[ah (fun z=>by rw[z] at q;rw[show H3 D=none from pH] at q;cases q)];exact q
     ·rw[ah (fun z=>by rw[z] at q;rw[show H3 D=none from pH] at q;cases q)];exact q
   have I5:Inv X pins σ (upd H3 D (.lst ys)) s4:=I2.Af I4.os un hok I4.bare fun b hb=>⟨(f2 b hb).2.2.2.1,(f2 b hb).2.1,(f2 b hb).2.2.2.2.1,(f2 b hb).2.2.2.2.2⟩;refine hRR D C s4 _ I5 ⟨mC',hnC⟩ ?_ (qn D pH);have hC2:s2.heap.objs.size<=C:=by rw[hDe,<- hCe,hCs];exact Nat.le_succ _
   refine I2.qv hC2 ?_;rw[ah (Ne.symm hDC)];exact I4.free
  ·refine thn (T.item (bC X sc Nc { s2 with heap:=hp } H2 C (D::fp) (X.pn++pins)) rfl rfl rfl hc i _ s3 σ3 H3 _ I3' (fpY fr3) st3 go) fun r s4 Z=>?_;obtain⟨u,hr,h4⟩:=Z;subst hr;refine thn h4 fun _ s5 Z=>?_;obtain⟨x,H5,I5,r5,y5,st5,fr5⟩:=Z;have I5':=I5.pinned (fpY fr5) (T.obj _ _ st5);refine thn (hg _ _ _ _ _ _ s5 σ3 H5 x u _ I5' r5 (step x H5 y5)) fun _ s6 Z=>?_;obtain⟨σ6,H6,I6,N,hN,q6⟩:=Z;refine thn (he _ _ _ _ _ _ s6 σ6 H6 _ I6 q6) fun y s7 Z=>?_;obtain⟨yv,H7,I7,r7,q7⟩:=Z;obtain⟨pD,pH,pL,pF,pc⟩:=I7.pin (D,bL us us.length) (List.mem_append_right _ (List.mem_append_left _ List.mem_cons_self));have hlen:us.length=ys.length:=rv.length.symm;refine append_at (hsz:=by rw[List.size_toArray,hlen];exact Nat.le_of_lt hsz) pD fun h8 sb8 hD8=>?_;obtain⟨m',hm,w8⟩:=hN yv H7 q7;have st7:tn (i + 1) s7.heap:=T.keep _ _ _ st5 fun b hb o e=>(I7.pin (b,o) (List.mem_append_right _ (List.mem_append_right _ (eO hb e)))).1;have fr7:∀ b∈fp,H7 b=none:=fun b hb=>by
    obtain⟨o,e,d⟩:=T.obj _ _ st5 b hb;exact(I7.pin (b,o) (List.mem_append_right _ (List.mem_append_right _ (eO hb e)))).2.1
   have I7n:Inv (bC X sc Nc { s2 with heap:=hp } H2 C (D::fp) (X.pn++pins)) [] σ6 H7 s7:=I7.g9 fun p z=>absurd z (by simp);have I8:Inv (bC X sc Nc { s2 with heap:=hp } H2 C (D::fp) (X.pn++pins)) [] σ6 H7 { s7 with heap:=h8 }:=
    I7n.turned (t':=s7.toks) (it:=D) (fun b o hb e=>(sb8.2 b hb).trans e) pH pL (.inl List.mem_cons_self) (fun x c e=>(ok.exf D List.mem_cons_self).2 x c e) fun p hp'=>by
     have hp2:p∈X.pn++pins:=by simpa using hp'
     exact fD.2.2.2.2.2 p hp2
   have e8:h8.get? D=some (bL (us++[y]) (us++[y]).length):=by
    rw[hD8];simp
   refine⟨m',hm,i + 1,ys++[yv],us++[y],σ6,H7,I8.g9 fun p z=>?_,rv.append (.cons r7 .nil),T.keep _ _ _ st7 fun b hb o e=>(sb8.2 b fun z=>hDfp (by rw[<- z];exact hb)).trans e,fr7,w8⟩;have e:p=(D,bL (us++[y]) (us++[y]).length):=by simpa using z
   subst e;exact⟨e8,pH,pL,pF,fun v z=>by cases z⟩
 exact codeAny_compStart_list loop (wpAny_mono (T.self X.A 0 _ _ (fun _ _=>False) (T.keep _ _ _ st2 (fun b _ o e=>old b o (up b o e))) loop) (fun _ _ h=>h) fun _ _ h=>h.elim)
theorem v_{pins:Pn}(B:Blk X.N X.env.scope sc Nc fr)(I:Inv X pins σ H s):closureFor sc X.env=pure (takes X.env.cells sc.names []):=
 tH fun y hy hf=>I.ok.has y.1 (B.free y hy hf)
theorem zI(hc:X.calm=true)(hi:PI X tg iter wi)(B:Blk X.N X.env.scope sc Nc fr)(hg:∀ s₀ H₀ C ex pn,PG (bC X sc Nc s₀ H₀ C ex pn) tg g)(he:∀ s₀ H₀ C ex pn,PE (bC X sc Nc s₀ H₀ C ex pn) elt te)(hs:autoParam (∀ x,foldedSetIterable iter X.env x=pure x) wT) :
  PE X (.ListComp elt [⟨tg,iter,[],0⟩] sc pos) (qS fr wi g te):=by
 intro pins s σ H Q I h;rw[eval_ListComp];refine wpAny_comprehension_free (use:=none) rfl hs (v_ B I) B.kind B.locs (thn (hi pins s σ H _ I h) fun v s1 h1=>thn h1 fun itv s2 h2=>?_);obtain⟨it,fp,tn,J,H2,e,I2,T,st2,f2,cw⟩:=h2;subst e;refine sN (RR:=fun acc C=>compPost (model X.prog X.w) X.A X.xe none (EP X pins σ Q) acc C) B hc hg he I2 T st2 f2 cw fun D C s' H' I' hn fC q=>?_;obtain⟨m,hn⟩:=hn;exact⟨m,hn,fun h' sb=>⟨.ref D,H',I'.turned (t':=s'.toks) (fun b o hb e=>(sb.2 b hb).trans e) fC.1 fC.2.1 fC.2.2.2.1 fC.2.2.2.2.1 fC.2.2.2.2.2,rfl,q⟩⟩
theorem yh{x:Str}{px spos:Pos}(hN:X.N.Nodup)(hi':X.N[i]?=some x)(hx:X.env.scope.names.lookup x=some .local)(hc:X.calm=true)(hi:PI X tg iter wi)(B:Blk X.N X.env.scope sc Nc fr)(hg:∀ s₀ H₀ C ex pn,PG (bC X sc Nc s₀ H₀ C ex pn) tg g)(he:∀ s₀ H₀ C ex pn,PE (bC X sc Nc s₀ H₀ C ex pn) elt te)(hsw:autoParam (swapsWith (.ListComp elt [⟨tg,iter,[],0⟩] sc pos) (some (.Name x px)) spos.line X.env=pure true) wE)(hs:autoParam (∀ x,foldedSetIterable iter X.env x=pure x) wT) :
  PS X (.Assign [.Name x px] (.ListComp elt [⟨tg,iter,[],0⟩] sc pos) spos) (j_ (qS fr wi g te) (hX i)):=by
 intro pins s σ H D I h;rw[exec_Assign_Name_used _ _ _ _ hsw];refine wpAny_bind (wpAny_standAt (wpAny_bind ?_));show wpAny _ X.A (do let _ <- comprehension (.ListComp elt [⟨tg,iter,[],0⟩] sc pos) sc X.env _ (newList []) false (eval iter X.env) (some (assign (.Name x px) X.env))) _ _ s;refine wpAny_bind (wpAny_mono (wpAny_comprehension_free (use:=some (assign (.Name x px) X.env)) (Q:=fun _ s'=>SP X pins D .next s') rfl hs (v_ B I) B.kind B.locs
  (thn (hi pins s σ H _ I h) fun v s1 h1=>thn h1 fun itv s2 h2=>?_)) (fun _ s' hq=>wpAny_pure (wpAny_pure hq)) fun _ _ e=>e)
 obtain⟨it,fp,tn,J,H2,e,I2,T,st2,f2,cw⟩:=h2;subst e;refine sN (RR:=fun acc C=>compPost (model X.prog X.w) X.A X.xe (some (assign (.Name x px) X.env)) (fun _ s'=>SP X pins D .next s') acc C) B hc hg he I2 T st2 f2 cw fun L C s' H' I' hn fC q=>?_;obtain⟨m,hn⟩:=hn;show wpAny _ X.A (assign (.Name x px) X.env (.ref L)) _ _ _;refine wpAny_assign_Name (tW I' hN hi' (.inl hx) (v:=.ref L) rfl (fun s3 I3 hs3=>?_) (.inr hx));obtain⟨a,sb,ha⟩:=hs3;have hCa:C≠a:=by
  rcases ha with e | e
  ·rw[e];exact fC.2.1
  ·exact fun z=>fC.2.2.2.2.1 _ _ e (by rw[z])
 exact⟨m,hn.sameBut sb hCa,fun h' sb'=>⟨_,H',I3.turned (t':=s3.toks) (fun b o hb e=>(sb'.2 b hb).trans e) fC.1 fC.2.1 fC.2.2.2.1 fC.2.2.2.2.1 fC.2.2.2.2.2,q⟩⟩
theorem xI:∀ {bs:List Bool} {us:Lv0},Vals (bs.map V.bl) us->LSm.BoolsAre us bs
 | [],_,.nil=>.nil
 | _::_,_,.cons r t=>by
  obtain rfl:=(show _=Value.bool _ from r);exact .cons _ (xI t)
theorem Bp(hc:X.calm=true):bS X (.builtin "all") (fun xs H Q=>∃ (p:Addr) (bs:List Bool),xs=[.ref p]/\SqL X.K H p (bs.map V.bl)/\Q (.bl (bs.all id)) H):=by
 intro pins s σ H xs us Q I r h;obtain⟨p,bs,rfl,hq,q⟩:=h;obtain⟨u,rfl,ru⟩:=vals1 r;cases ru;obtain⟨its,rv,pl,hz⟩:=I.list hq;have hb:=xI rv;have hl:=pl.isList;have hlt:p < s.heap.objs.size:=by obtain⟨_,e,_⟩:=hl;exact Heap.lt_size e
 refine call_all_walk (wpAny_pyIter_list hl ⟨s.heap.objs.size,[s.heap.objs.size,p],[s.heap.objs.size],its.toArray.size,_,_,fun i=>(bs[i]?).getD true,rfl,Walks.list (A:=X.A.in1) (I.ok.hd hc) _ p (Nat.ne_of_lt hlt) its.toArray,⟨⟨_,Heap.get?_push_size _ rfl,rfl,rfl⟩,hl.push _⟩,
  fun i v s' Q' E' hP hQ=>?_,fun h' tk hk=>?_⟩)
 ·obtain⟨b,e,rfl⟩:=hb.get i v (by simpa using hP);simp only[e,Option.getD_some] at hQ;exact wpAny_truthy_bool hQ
 ·have e:((List.range its.toArray.size).all fun i=>(bs[i]?).getD true)=bs.all id:=by rw[List.size_toArray,hb.length,LSm.range_all bs]
  rw[e];exact⟨.bl _,H,I.kept (LSm.kept_iter hk),rfl,q⟩
structure gp (K:Fg0):Prop where
 bb:PySem.W.kitOne K (.type "bool") (.type "bool")=some true
 bi:PySem.W.kitOne K (.type "bool") (.type "int")=some true
 bl:PySem.W.kitOne K (.type "bool") (.type "list")=some false
 bt:PySem.W.kitOne K (.type "bool") (.type "tuple")=some false
 ib:PySem.W.kitOne K (.type "int") (.type "bool")=some false
 ii:PySem.W.kitOne K (.type "int") (.type "int")=some true
 il:PySem.W.kitOne K (.type "int") (.type "list")=some false
 it:PySem.W.kitOne K (.type "int") (.type "tuple")=some false
 nb:PySem.W.kitOne K (.type "NoneType") (.type "bool")=some false
 ni:PySem.W.kitOne K (.type "NoneType") (.type "int")=some false
 nl:PySem.W.kitOne K (.type "NoneType") (.type "list")=some false
 nt:PySem.W.kitOne K (.type "NoneType") (.type "tuple")=some false
 sb:PySem.W.kitOne K (.type "str") (.type "bool")=some false
 si:PySem.W.kitOne K (.type "str") (.type "int")=some false
 sl:PySem.W.kitOne K (.type "str") (.type "list")=some false
 st:PySem.W.kitOne K (.type "str") (.type "tuple")=some false
 lb:PySem.W.kitOne K (.type "list") (.type "bool")=some false
 li:PySem.W.kitOne K (.type "list") (.type "int")=some false
 ll:PySem.W.kitOne K (.type "list") (.type "list")=some true
 lt:PySem.W.kitOne K (.type "list") (.type "tuple")=some false
 tb:PySem.W.kitOne K (.type "tuple") (.type "bool")=some false
 ti:PySem.W.kitOne K (.type "tuple") (.type "int")=some false
 tl:PySem.W.kitOne K (.type "tuple") (.type "list")=some false
 tt:PySem.W.kitOne K (.type "tuple") (.type "tuple")=some true
 db:PySem.W.kitOne K (.type "dict") (.type "bool")=some false
 di:PySem.W.kitOne K (.type "dict") (.type "int")=some false
 dl:PySem.W.kitOne K (.type "dict") (.type "list")=some false
 dt:PySem.W.kitOne K (.type "dict") (.type "tuple")=some false
inductive Kn (H:Hp):V->Prop where
 | non:Kn H .non
 | bl (b:Bool):Kn H (.bl b)
 | int (i:Int):Kn H (.int i)
 | str (x:Str):Kn H (.str x)
 | lst {a:Addr} {xs:List V} (e:H a=some (.lst xs)):Kn H (.ref a)
 | tup {a:Addr} {xs:List V} (e:H a=some (.tup xs)):Kn H (.ref a)
 | dK {a:Addr} {kvs:List (Key×V)} (e:H a=some (.dK kvs)):Kn H (.ref a)
noncomputable def isB:V->Bool
 | .bl _=>true
 | _=>false
noncomputable def isI:V->Bool
 | .bl _=>true
 | .int _=>true
 | _=>false
noncomputable def isL (H:Hp):V->Bool
 | .ref a=>match H a with
  | some (.lst _)=>true
  | _=>false
 | _=>false
noncomputable def isT (H:Hp):V->Bool
 | .ref a=>match H a with
  | some (.tup _)=>true
  | _=>false
 | _=>false
theorem z6(h:H a=some (.lst xs)):isL H (.ref a)=true:=by simp only[isL,h]
theorem z4(h:H a=some (.tup xs)):isL H (.ref a)=false:=by simp only[isL,h]
theorem yM{xs:List (Key×V)}(h:H a=some (.dK xs)):isL H (.ref a)=false:=by simp only[isL,h]
theorem z0(h:H a=some (.lst xs)):isT H (.ref a)=false:=by simp only[isT,h]
theorem zZ(h:H a=some (.tup xs)):isT H (.ref a)=true:=by simp only[isT,h]
theorem yL{xs:List (Key×V)}(h:H a=some (.dK xs)):isT H (.ref a)=false:=by simp only[isT,h]
theorem ay{pins:Pn}{x:V}{c:String}{t:Value}{b b':Bool}{Q:VK}(I:Inv X pins σ H s)(r:Vals [x,.ty c] us)(ty:k8 X.K H x t)(e:PySem.W.kitOne X.K t (.type c)=some b)(eb:b'=b)(q:Q (.bl b') H) :
  wpAny (model X.prog X.w) X.A (call (.builtin "isinstance") us) (EP X pins σ Q) X.xe s:=by
 obtain⟨u,w',rfl,ru,rw'⟩:=vals2 r;obtain rfl:w'=Value.type c:=rw';subst eb;exact ur I ru ty e fun tk=>⟨.bl b',H,I.tok _,rfl,q⟩
theorem D8(F:gp X.K):bS X (.builtin "isinstance") (fun xs H Q=>∃ x,xs=[x,.ty "bool"]/\Kn H x/\Q (.bl (isB x)) H):=by
 intro pins s σ H xs us Q I r h;obtain⟨x,rfl,k,q⟩:=h;cases k with
 | non=>exact ay I r .non F.nb rfl q
 | bl b=>exact ay I r (.bl b) F.bb rfl q
 | int i=>exact ay I r (.int i) F.ib rfl q
 | str y=>exact ay I r (.str y) F.sb rfl q
 | lst e=>exact ay I r (.lst e) F.lb rfl q
 | tup e=>exact ay I r (.tup e) F.tb rfl q
 | dK e=>exact ay I r (.dK e) F.db rfl q
theorem D6(F:gp X.K):bS X (.builtin "isinstance") (fun xs H Q=>∃ x,xs=[x,.ty "int"]/\Kn H x/\Q (.bl (isI x)) H):=by
 intro pins s σ H xs us Q I r h;obtain⟨x,rfl,k,q⟩:=h;cases k with
 | non=>exact ay I r .non F.ni rfl q
 | bl b=>exact ay I r (.bl b) F.bi rfl q
 | int i=>exact ay I r (.int i) F.ii rfl q
 | str y=>exact ay I r (.str y) F.si rfl q
 | lst e=>exact ay I r (.lst e) F.li rfl q
 | tup e=>exact ay I r (.tup e) F.ti rfl q
 | dK e=>exact ay I r (.dK e) F.di rfl q
theorem D5(F:gp X.K):bS X (.builtin "isinstance") (fun xs H Q=>∃ x,xs=[x,.ty "list"]/\Kn H x/\Q (.bl (isL H x)) H):=by
 intro pins s σ H xs us Q I r h;obtain⟨x,rfl,k,q⟩:=h;cases k with
 | non=>exact ay I r .non F.nl rfl q
 | bl b=>exact ay I r (.bl b) F.bl rfl q
 | int i=>exact ay I r (.int i) F.il rfl q
 | str y=>exact ay I r (.str y) F.sl rfl q
 | lst e=>exact ay I r (.lst e) F.ll (z6 e) q
 | tup e=>exact ay I r (.tup e) F.tl (z4 e) q
 | dK e=>exact ay I r (.dK e) F.dl (yM e) q
theorem D2(F:gp X.K):bS X (.builtin "isinstance") (fun xs H Q=>∃ x,xs=[x,.ty "tuple"]/\Kn H x/\Q (.bl (isT H x)) H):=by
 intro pins s σ H xs us Q I r h;obtain⟨x,rfl,k,q⟩:=h;cases k with
 | non=>exact ay I r .non F.nt rfl q
 | bl b=>exact ay I r (.bl b) F.bt rfl q
 | int i=>exact ay I r (.int i) F.it rfl q
 | str y=>exact ay I r (.str y) F.st rfl q
 | lst e=>exact ay I r (.lst e) F.lt (z0 e) q
 | tup e=>exact ay I r (.tup e) F.tt (zZ e) q
 | dK e=>exact ay I r (.dK e) F.dt (yL e) q
mutual
inductive Dt (K:Fg0) (H:Hp):V->PyData->Prop where
 | non:Dt K H .non .none
 | bl (b:Bool):Dt K H (.bl b) (.bool b)
 | int (i:Int):Dt K H (.int i) (.int i)
 | str (x:Str):Dt K H (.str x) (.str x)
 | lst {a:Addr} {xs:List V} {ds:List PyData}:SqL K H a xs->cW K H xs ds->Dt K H (.ref a) (.list ds)
 | tup {a:Addr} {xs:List V} {ds:List PyData}:SqT K H a xs->cW K H xs ds->Dt K H (.ref a) (.tuple ds)
 | dct {a:Addr}:H a=some (.dK [])->Dt K H (.ref a) (.dict [])
 | dcs {a:Addr} (y:Str) (i:Int):H a=some (.dK [(.inr y,.int i)])->Dt K H (.ref a) (.dict [(.str y,.int i)])
inductive cW (K:Fg0) (H:Hp):List V->List PyData->Prop where
 | nil:cW K H [] []
 | cons {x:V} {xs:List V} {d:PyData} {ds:List PyData}:Dt K H x d->cW K H xs ds->cW K H (x::xs) (d::ds)
end
theorem yV{pins:Pn}(I:Inv X pins σ H s)(h:H a=some (.dK [])):∃ o n,s.heap.get? a=some o/\o.cls=.type "dict"/\o.data=.dict #[] n/\(a == sysModules)=false:=by
 obtain⟨_,q,vs,kv,o,es,n,e1,e2,e3,_,e4,_⟩:=HL I.hok h;have:vs=[]:=by cases kv;rfl
 subst this;have:es.toList=[]:=by cases e:es.toList with
  | nil=>rfl
  | cons x xs=>rw[e] at e4;cases e4
 have:es=#[]:=by cases es;simp_all
 subst this;exact⟨o,n,e1,e2.1,e3,q⟩
theorem yW{pins:Pn}{y:Str}{i:Int}(I:Inv X pins σ H s)(h:H a=some (.dK [(.inr y,.int i)])) :
  ∃ o es n t u q,s.heap.get? a=some o/\o.cls=.type "dict"/\o.data=.dict es n/\(a == sysModules)=false/\es.toList=[⟨q,.str y t,.int i u⟩]:=by
 obtain⟨_,q,vs,kv,o,es,n,e1,e2,e3,_,e4,_⟩:=HL I.hok h;cases kv with
 | @cons p r ps qs h1 t1=>
  cases t1;obtain⟨r1,r2⟩:=r;obtain⟨hk,u,hv⟩:=h1;cases (show (Sum.inr y:Key)=r1 from hk);cases (show r2=Value.int i u from hv);cases hes:es.toList with
  | nil=>rw[hes] at e4;cases e4
  | cons x xs=>
   rw[hes] at e4;cases e4 with
   | cons k1 k2 k3=>
    cases k3;obtain⟨hx,kx,vx⟩:=x;rcases bQ (show Du (.inr y) kx=true from k1) with ⟨j,t,z,_⟩ | ⟨z,t,e,rfl⟩
    ·cases z
    ·cases e;cases (show vx=Value.int i u from k2);exact⟨o,es,n,t,u,hx,e1,e2.1,e3,q,hes⟩
mutual
theorem Dt.reads {pins:Pn} {σ:St} {H:Hp} {s:Shared} (I:Inv X pins σ H s):∀ {x:V} {d:PyData} {u:Value},Dt X.K H x d->RelV x u->∃ as,Reads s.heap u d as
 | _,_,_,.non,r=>by cases r;exact⟨_,.none⟩
 | _,_,_,.bl b,r=>by cases r;exact⟨_,.bool b⟩
 | _,_,_,.int i,r=>by obtain⟨t,rfl⟩:=r;exact⟨_,.int i t⟩
 | _,_,_,.str y,r=>by obtain⟨t,rfl⟩:=r;exact⟨_,.str y t⟩
 | _,_,_,.lst hq hs,r=>by
  cases r;obtain⟨its,rv,⟨o,n,e1,e2,e3,e4⟩,hz⟩:=I.list hq;obtain⟨as,h⟩:=cW.reads I hs rv;exact⟨_,.list e1 e2 e4 (by simpa using h)⟩
 | _,_,_,.tup hq hs,r=>by
  cases r;obtain⟨its,rv,⟨o,e1,e2,n,e4⟩,hz⟩:=I.tuple hq;obtain⟨as,h⟩:=cW.reads I hs rv;exact⟨_,.tuple e1 e2 e4 (by simpa using h)⟩
 | _,_,_,.dct hq,r=>by
  cases r;obtain⟨o,n,e1,e2,e3,_⟩:=yV I hq;exact⟨_,.dict e1 e2 e3 .nil .nil⟩
 | _,_,_,.dcs y i hq,r=>by
  cases r;obtain⟨o,es,n,t,u,q,e1,e2,e3,_,e5⟩:=yW I hq;exact⟨_,.dict e1 e2 e3 (by rw[e5];exact .cons (.str y t) .nil) (by rw[e5];exact .cons (.int i u) .nil)⟩
theorem cW.reads {pins:Pn} {σ:St} {H:Hp} {s:Shared} (I:Inv X pins σ H s):∀ {xs:List V} {ds:List PyData} {us:Lv0},cW X.K H xs ds->Vals xs us->∃ as,ReadsAll s.heap us ds as
 | _,_,_,.nil,.nil=>⟨_,.nil⟩
 | _,_,_,.cons h1 h2,.cons r1 r2=>by
  obtain⟨as,a⟩:=Dt.reads I h1 r1;obtain⟨bs,b⟩:=cW.reads I h2 r2;exact⟨_,.cons a b⟩
end
structure Shw (d:PyData):Prop where
 sh:d.showable=true
 dp:d.depth<=20
 sz:d.shown.length<=sizeLine
def KL (X:Cx) (h:Heap) (u:Value) (d:PyData):Prop:=∃ bs,ReadAtMost h d.depth bs/\ReprK X.prog X.w bs h d.depth u d.shown
def GW (X:Cx) (h:Heap) (us:Lv0) (ds:List PyData):Prop:=∃ bs,ReadAtMost h (PyData.depthAll ds) bs/\ReprAllK X.prog X.w bs h (PyData.depthAll ds) us (PyData.shownAll ds)
theorem KL.is{d:PyData}(k:ReprIs X.prog X.w u d.shown):KL X h u d:=⟨[],by (intro _ z;cases z),.of_is k _ _ _⟩
theorem sM(y:Str)(i:Int):(reprText y).length<=(PyData.shown (.dict [(.str y,.int i)])).length:=by
 have e:PyData.shown (.dict [(.str y,.int i)])=dictText [reprText y++": "++PyData.shown (.int i)]:=by simp only[PyData.shown,PyData.shownKv]
 have h:=dictText_mem_le (List.mem_singleton.mpr (rfl:reprText y++": "++PyData.shown (.int i)=_));rw[strLen_append,strLen_append] at h;rw[e];lia
theorem Ab{y:Str}{i:Int}(h:PyData.showable (.dict [(.str y,.int i)])=true):i.natAbs.log2 < 1920:=by
 simp [PyData.showable,PyData.showableKv] at h;exact h
mutual
theorem Dt.says {pins:Pn} {σ:St} {H:Hp} {s:Shared} (I:Inv X pins σ H s):∀ {x:V} {d:PyData} {u:Value},Dt X.K H x d->RelV x u->d.showable=true->d.shown.length<=sizeLine->KL X s.heap u d
 | _,_,_,.non,r,_,_=>by cases r;exact .is (by simp only[PyData.shown];exact .none)
 | _,_,_,.bl b,r,_,_=>by cases r;exact .is (by simp only[PyData.shown];exact .bool b)
 | _,_,_,.int i,r,q,_=>by obtain⟨t,rfl⟩:=r;exact .is (by simp only[PyData.shown];exact .int t (by simpa [PyData.showable] using q))
 | _,_,_,.str y,r,_,z=>by obtain⟨t,rfl⟩:=r;exact .is (by simp only[PyData.shown] at z ⊢;exact .str y t z)
 | _,_,_,.lst (a:=a) (ds:=ds) hq hs,r,q,z=>by
  cases r;obtain⟨its,rv,⟨o,n,e1,e2,e3,e4⟩,_⟩:=I.list hq;obtain⟨as,ra⟩:=cW.reads I hs rv;have rd:Reads s.heap (.ref a) (.list ds) _:=.list e1 e2 e4 (by simpa using ra);simp only[PyData.shown] at z;obtain⟨bs,b1,b2⟩:=cW.says I hs rv (by simpa [PyData.showable] using q) fun t ht=>Nat.le_trans (listText_mem_le ht) z;have na:=not_mem_of_deeper rd (n:=PyData.depthAll ds) (by simp only[PyData.depth];lia) b1;refine⟨a::bs,ReadAtMost.cons rd (by simp only[PyData.depth];lia) b1,?_⟩;simp only[PyData.shown,PyData.depth];cases its with
  | nil=>cases rv;cases hs;simp only[PyData.shownAll,listText_nil];exact .listEmpty e1 e2 e4
  | cons y ys=>exact .list e1 e2 e4 na (by rw[b2.length_eq];simp) fun i v e=>b2.item i v (by simpa using e)
 | _,_,_,.tup (a:=a) (ds:=ds) hq hs,r,q,z=>by
  cases r;obtain⟨its,rv,⟨o,e1,e2,n,e4⟩,_⟩:=I.tuple hq;obtain⟨as,ra⟩:=cW.reads I hs rv;have rd:Reads s.heap (.ref a) (.tuple ds) _:=.tuple e1 e2 e4 (by simpa using ra);simp only[PyData.shown] at z;obtain⟨bs,b1,b2⟩:=cW.says I hs rv (by simpa [PyData.showable] using q) fun t ht=>Nat.le_trans (tupleText_mem_le ht) z;have na:=not_mem_of_deeper rd (n:=PyData.depthAll ds) (by simp only[PyData.depth];lia) b1;refine⟨a::bs,ReadAtMost.cons rd (by simp only[PyData.depth];lia) b1,?_⟩;simp only[PyData.shown,PyData.depth];exact .tuple e1 e2 e4 na (by simpa using b2)
 | _,_,_,.dct (a:=a) hq,r,_,_=>by
  cases r;obtain⟨o,n,e1,e2,e3,e4⟩:=yV I hq;refine⟨[a],fun b hb=>?_,?_⟩
  ·cases List.mem_singleton.mp hb;exact⟨_,_,.dict e1 e2 e3 .nil .nil,Nat.le_refl _⟩
  ·have:=ReprK.dict (prog:=X.prog) (w:=X.w) (as:=[]) (d:=0) (ps:=[]) e1 e2 e3 e4 (by intro z;cases z) .nil;simp only[PyData.shown,PyData.depth,PyData.shownKv,PyData.depthKv];exact this
 | _,_,_,.dcs (a:=a) y i hq,r,sh,z=>by
  cases r;obtain⟨o,es,n,t,u,q,e1,e2,e3,e4,e5⟩:=yW I hq;have ky:(reprText y).length<=sizeLine:=Nat.le_trans (sM y i) z;refine⟨[a],fun b hb=>?_,?_⟩
  ·cases List.mem_singleton.mp hb;exact⟨_,_,.dict e1 e2 e3 (by rw[e5];exact .cons (.str y t) .nil) (by rw[e5];exact .cons (.int i u) .nil),Nat.le_refl _⟩
  ·have k1:ReprK X.prog X.w [] s.heap 0 (.str y t) (reprText y):=.of_is (.str y t ky) _ _ _;have k2:ReprK X.prog X.w [] s.heap 0 (.int i u) (PyData.shown (.int i)):=.of_is (by simp only[PyData.shown];exact .int u (Ab sh)) _ _ _;have:=ReprK.dict (prog:=X.prog) (w:=X.w) (as:=[]) (d:=0) (ps:=_) e1 e2 e3 e4 (by intro z;cases z) (by rw[e5];exact .cons k1 k2 .nil);simp only[PyData.shown,PyData.depth,PyData.shownKv,PyData.depthKv];exact this
theorem cW.says {pins:Pn} {σ:St} {H:Hp} {s:Shared} (I:Inv X pins σ H s):∀ {xs:List V} {ds:List PyData} {us:Lv0},cW X.K H xs ds->Vals xs us->PyData.showableAll ds=true->(∀ t∈PyData.shownAll ds,t.length<=sizeLine)->GW X s.heap us ds
 | _,_,_,.nil,.nil,_,_=>⟨[],by (intro _ z;cases z),.nil⟩
 | _,_,_,.cons (d:=d) (ds:=ds) h1 h2,.cons r1 r2,q,z=>by
  simp only[PyData.showableAll,Bool.and_eq_true] at q;simp only[PyData.shownAll,List.mem_cons,forall_eq_or_imp] at z;obtain⟨as,a1,a2⟩:=Dt.says I h1 r1 q.1 z.1;obtain⟨bs,b1,b2⟩:=cW.says I h2 r2 q.2 z.2;have l1:d.depth<=PyData.depthAll (d::ds):=by simp only[PyData.depthAll];exact Nat.le_max_left _ _
  have l2:PyData.depthAll ds<=PyData.depthAll (d::ds):=by simp only[PyData.depthAll];exact Nat.le_max_right _ _
  exact⟨as++bs,(a1.mono l1).append (b1.mono l2),.cons ((a2.more fun _ h=>List.mem_append_left _ h).level_le l1) (b2.more_le (fun _ h=>List.mem_append_right _ h) l2)⟩
end
theorem y7(hr:bF k X.A):bS X (.builtin "repr") (fun xs H Q=>∃ a d,xs=[.ref a]/\Dt X.K H (.ref a) d/\Shw d/\Q (.str d.shown) H):=by
 intro pins s σ H xs us Q I r h;obtain⟨a,d,rfl,hd,S,q⟩:=h;obtain⟨u,rfl,ru⟩:=vals1 r;cases ru;have lu:X.A.units + (d.depth + 1) < cLine:=by have:=hr.units;have:=S.dp;lia
 have fin:∀ h' u tk,(∀ b o,s.heap.get? b=some o->h'.get? b=some o)->∃ x t,Value.str d.shown u=.str x t/\EP X pins σ Q (.str d.shown u) { s with heap:=h',toks:=tk }:=fun h' u tk hk=>⟨_,_,rfl,.str d.shown,H,I.kept hk,⟨_,rfl⟩,q⟩;have sh:=S.sh;have sz:=S.sz;cases hd with
 | @lst _ xs ds hq hs=>
  obtain⟨its,rv,⟨o,n,e1,e2,e3,e4⟩,_⟩:=I.list hq;obtain⟨as,ra⟩:=cW.reads I hs rv;have rd:Reads s.heap (.ref a) (.list ds) _:=.list e1 e2 e4 (by simpa using ra);simp only[PyData.shown] at sz fin;simp only[PyData.depth] at lu;obtain⟨bs,b1,b2⟩:=cW.says I hs rv (by simpa [PyData.showable] using sh) fun t ht=>Nat.le_trans (listText_mem_le ht) sz;have na:=not_mem_of_deeper rd (n:=PyData.depthAll ds) (by simp only[PyData.depth];lia) b1;refine call_repr_slot (by lia) ⟨o,e1,e2⟩ F.slot_list_repr.toG ?_;cases its with
  | nil=>cases rv;cases hs;simp only[PyData.shownAll,listText_nil] at fin;exact call_list_repr_empty ⟨o,e1,e2⟩ e1 e4 (fin s.heap _ _ fun _ _ e=>e)
  | cons y ys=>exact call_list_reprK e1 e2 e4 na (by rw[b2.length_eq];simp) (fun i v e=>b2.item i v (by simpa using e)) hr.gd (fun b _=>Clear.nil b) (by show X.A.units + 1 + _ < _;lia) (fun _ _ e=>e) fin sz
 | @tup _ xs ds hq hs=>
  obtain⟨its,rv,⟨o,e1,e2,n,e4⟩,_⟩:=I.tuple hq;obtain⟨as,ra⟩:=cW.reads I hs rv;have rd:Reads s.heap (.ref a) (.tuple ds) _:=.tuple e1 e2 e4 (by simpa using ra);simp only[PyData.shown] at sz fin;simp only[PyData.depth] at lu;obtain⟨bs,b1,b2⟩:=cW.says I hs rv (by simpa [PyData.showable] using sh) fun t ht=>Nat.le_trans (tupleText_mem_le ht) sz;have na:=not_mem_of_deeper rd (n:=PyData.depthAll ds) (by simp only[PyData.depth];lia) b1;exact call_repr_slot (by lia) ⟨o,e1,e2⟩ F.slot_tuple_repr (call_tuple_reprK e1 e2 e4 na (by simpa using b2) hr.gd (fun b _=>Clear.nil b) (by show X.A.units + 1 + _ < _;lia) (fun _ _ e=>e) fin sz)
 | dct hq=>
  obtain⟨o,n,e1,e2,e3,e4⟩:=yV I hq;simp only[PyData.shown,PyData.shownKv] at sz fin;simp only[PyData.depth,PyData.depthKv] at lu;exact call_repr_slot (by lia) ⟨o,e1,e2⟩ F.slot_dict_repr (call_dict_reprK (as:=[]) (d:=0) (ps:=[]) e1 e2 e3 e4 (by intro z;cases z) .nil hr.gd (fun b _=>Clear.nil b) (by show X.A.units + 1 + _ < _;lia) (fun _ _ e=>e) fin sz)
 | dcs y i hq=>
  obtain⟨o,es,n,t,u,q,e1,e2,e3,e4,e5⟩:=yW I hq;have ky:(reprText y).length<=sizeLine:=Nat.le_trans (sM y i) sz;have k1:ReprK X.prog X.w [] s.heap 0 (.str y t) (reprText y):=.of_is (.str y t ky) _ _ _;have k2:ReprK X.prog X.w [] s.heap 0 (.int i u) (PyData.shown (.int i)):=.of_is (by simp only[PyData.shown];exact .int u (Ab sh)) _ _ _;simp only[PyData.shown,PyData.shownKv] at sz fin;simp only[PyData.depth,PyData.depthKv] at lu;exact call_repr_slot (by lia) ⟨o,e1,e2⟩ F.slot_dict_repr (call_dict_reprK (as:=[]) (d:=0) e1 e2 e3 e4 (by intro z;cases z) (by rw[e5];exact .cons k1 k2 .nil) hr.gd (fun b _=>Clear.nil b) (by show X.A.units + 1 + _ < _;lia) (fun _ _ e=>e) fin sz)
section
variable {pins:Pn}
theorem Inv.moved(I:Inv X pins σ H s)(hch:∀ b∈ch,eU X pins H b)(hk:∀ b o,b∉ch->s.heap.get? b=some o->h'.get? b=some o):Inv X pins σ H { s with heap:=h',toks:=t' }:=by
 have nt:∀ {b:Addr} {u:HO},H b=some u->b∉ch:=fun e hb=>by rw[(hch _ hb).1] at e;cases e
 refine I.step (g':=s.gens) (d':=s.drawn) (ch:=ch) (fun b hb=>⟨(hch b hb).2.2.2.1,(hch b hb).2.1,(hch b hb).2.2.2.2.1,(hch b hb).2.2.2.2.2⟩) (fun b o _ _ hc e _=>hk b o hc e) (fun b o _ _ hc e _=>⟨o.slots,hk b o hc e⟩) (fun _ _ _ _ n=>n)
  (fun b o hc e=>⟨o,hk b o hc e⟩) (fun _ _ e=>e) (fun _ _ _ e=>e) (fun b ps e=>⟨#[],by rw[e];simp⟩) (fun m hm=>?_) (fun b u e=>?_) I.bare
 ·obtain⟨o,es,ep,ho,r⟩:=hm;exact⟨o,es,ep,hk _ o (fun hb=>(hch _ hb).2.1 rfl) ho,r⟩
 ·exact(I.hok b u e).lK (fun c v hc q=>hk c v (by rcases hc with z | z <;> first | (rw[z];exact nt e) | exact nt z) q) (fun _ q=>q) fun _ _ q=>q
theorem Inv.vC{T:Addr}{x:V}(I:Inv X pins σ H s)(hch:∀ b∈ch,eU X pins H b)(hT:s.heap.objs.size<=T)(hk:∀ b o,b∉ch->s.heap.get? b=some o->h'.get? b=some o)(ht:IsTup h' T #[u,v])(ru:RelV x u)(rv:RelV y v):Inv X pins σ (upd H T (.tup [x,y])) { s with heap:=h',toks:=t' }:=by
 have nt:∀ {b:Addr} {u:HO},H b=some u->b∉ch:=fun e hb=>by rw[(hch _ hb).1] at e;cases e
 have fT:H T=none:=I.hok.fresh hT;have neT:∀ {b:Addr} {o:Obj},s.heap.get? b=some o->b≠T:=fun e=>Nat.ne_of_lt (Nat.lt_of_lt_of_le (Heap.lt_size e) hT);have neH:∀ {b:Addr} {u:HO},H b=some u->b≠T:=fun e z=>by rw[z,fT] at e;cases e
 refine I.step (g':=s.gens) (d':=s.drawn) (ch:=ch) (fun b hb=>⟨(hch b hb).2.2.2.1,(hch b hb).2.1,(hch b hb).2.2.2.2.1,(hch b hb).2.2.2.2.2⟩) (fun b o _ _ hc e _=>hk b o hc e) (fun b o _ _ hc e _=>⟨o.slots,hk b o hc e⟩) (fun b o _ e n=>by rw[ah (neT e)];exact n)
  (fun b o hc e=>⟨o,hk b o hc e⟩) (fun b xs e=>by rw[ah (neH e)];exact e) (fun b o xs e=>by rw[ah (neH e)];exact e) (fun b ps e=>⟨#[],by rw[ah (neH e),e];simp⟩) (fun m hm=>?_) (fun b o e=>?_) I.bare
 ·obtain⟨o,es,ep,ho,r⟩:=hm;exact⟨o,es,ep,hk _ o (fun hb=>(hch _ hb).2.1 rfl) ho,r⟩
 ·by_cases hb:b=T
  ·subst hb;rw[ar] at e;cases e;exact⟨(by show 2<=sizeLine;decide),[u,v],.cons ru (.cons rv .nil),ht⟩
  ·rw[ah hb] at e;exact(I.hok b o e).lK (fun c w' hc q=>hk c w' (by rcases hc with z | z <;> first | (rw[z];exact nt e) | exact nt z) q) (fun c q=>by rw[ah (neH q)];exact q) (fun c xs q=>by rw[ah (neH q)];exact q) fun c o φ q=>by rw[ah (neH q)];exact q
end
noncomputable def Itz (a b:Addr):It:=
 ⟨fun i H=>∃ xs ys x y,H a=some (.lst xs)/\H b=some (.lst ys)/\xs[i]?=some x/\ys[i]?=some y,
  fun i H v H'=>∃ t xs ys x y,H t=none/\H a=some (.lst xs)/\H b=some (.lst ys)/\xs[i]?=some x/\ys[i]?=some y/\v=.ref t/\H'=upd H t (.tup [x,y]),
  fun i H=>∃ xs ys,H a=some (.lst xs)/\H b=some (.lst ys)/\(xs.length<=i\/ys.length<=i)⟩
def HZ (z TI TO i1 i2 l1 l2:Addr) (i:Nat) (h:Heap):Prop:=IsZip h z TI TO .none/\IsPair h TI (.ref i1) (.ref i2)/\(∃ a b,IsPair h TO a b)/\h.IsListIter i1 l1 i/\h.IsListIter i2 l2 i
structure qK (z TI TO i1 i2:Addr):Prop where
 TIz:TI≠z
 TOz:TO≠z
 i1z:i1≠z
 i2z:i2≠z
 TITO:TI≠TO
 TIi1:TI≠i1
 TIi2:TI≠i2
 TOi1:TO≠i1
 TOi2:TO≠i2
 i12:i1≠i2
theorem BR{kt:Nat}(z TI TO i1 i2 l1 l2:Addr)(D:qK z TI TO i1 i2) :
  Turn P w K (.Tuple es kt tp) (Itz l1 l2) [z,TI,TO,i1,i2] z (HZ z TI TO i1 i2 l1 l2) where
 mem:=by simp
 obj:=fun i h st b hb=>by
  obtain⟨hz,hTI,⟨a,c,hTO⟩,⟨o1,e1,_,d1⟩,⟨o2,e2,_,d2⟩⟩:=st;simp only[List.mem_cons,List.not_mem_nil,or_false] at hb;rcases hb with rfl | rfl | rfl | rfl | rfl
  ·exact⟨_,hz,fun v q=>by cases q⟩
  ·exact⟨_,hTI,fun v q=>by cases q⟩
  ·exact⟨_,hTO,fun v q=>by cases q⟩
  ·exact⟨_,e1,fun v q=>by rw[d1] at q;cases q⟩
  ·exact⟨_,e2,fun v q=>by rw[d2] at q;cases q⟩
 keep:=fun i h h' st k=>by
  obtain⟨hz,hTI,⟨a,c,hTO⟩,h1,h2⟩:=st;exact⟨k z (by simp) _ hz,k TI (by simp) _ hTI,⟨a,c,k TO (by simp) _ hTO⟩,h1.at fun o e=>k i1 (by simp) o e,h2.at fun o e=>k i2 (by simp) o e⟩
 item:=by
  intro X hP hw hK hc i pins s σ H E I hf st hg;subst hP hw hK;obtain⟨xs,ys,x,y,ha,hb,hx,hy⟩:=hg;obtain⟨hz,hTI,⟨a0,b0,hTO⟩,h1,h2⟩:=st;obtain⟨ia,na,ra,ea,_⟩:=I.lst ha;obtain⟨ib,nb,rb,eb,_⟩:=I.lst hb;have nf:∀ b∈[z,TI,TO,i1,i2],H b=none:=fun b hb=>(hf b hb).1;have ne1:∀ b∈[z,TI,TO,i1,i2],l1≠b:=fun b hb e=>by rw[e,nf b hb] at ha;cases ha
  have ne2:∀ b∈[z,TI,TO,i1,i2],l2≠b:=fun b hb' e=>by rw[e,nf b hb'] at hb;cases hb
  have Z:ZipApart z TI TO i1 i2 l1 l2:=⟨D.TIz,D.TOz,D.i1z,D.i2z,D.TITO,D.TIi1,D.TIi2,D.TOi1,D.TOi2,D.i12,ne1 z (by simp),ne1 TO (by simp),ne1 i1 (by simp),ne1 i2 (by simp),ne2 z (by simp),ne2 TO (by simp),ne2 i1 (by simp),ne2 i2 (by simp)⟩;obtain⟨u,hu,ru⟩:=ra.get hx;obtain⟨v,hv,rv⟩:=rb.get hy;refine wpAny_pyNext_zip_item Z hz hTI hTO h1 h2 (xs:=ia.toArray) (ys:=ib.toArray) ⟨_,ea,rfl,_,rfl⟩ ⟨_,eb,rfl,_,rfl⟩ (x:=u) (y:=v) (by simpa using hu) (by simpa using hv) fun h' a1 a2 a3 a4 a5 a6 hk=>?_;refine⟨_,rfl,wpAny_letOwnedTupleGo_zip a1 fun h2' hz' hs'=>?_⟩;have zT:s.heap.objs.size≠z:=Nat.ne_of_gt (Heap.lt_size hz);refine⟨.ref s.heap.objs.size,upd H s.heap.objs.size (.tup [x,y]),?_,rfl,⟨_,xs,ys,x,y,I.hok.fresh (Nat.le_refl _),ha,hb,hx,hy,rfl,rfl⟩,?_,fun b hb'=>?_⟩
  ·refine I.vC (t':=s.toks) (ch:=[z,TO,i1,i2]) (u:=u) (v:=v) (fun b hb'=>hf b (by simp at hb' ⊢;rcases hb' with e | e | e | e <;> simp [e])) (Nat.le_refl _) (fun b o hb' e=>?_) ⟨_,hs'.extBut _ _ zT a5,rfl,_,rfl⟩ ru rv;simp only[List.mem_cons,List.not_mem_nil,or_false,not_or] at hb';exact hs'.extBut b o hb'.1 (hk b o hb'.1 hb'.2.1 hb'.2.2.1 hb'.2.2.2 e)
  ·exact⟨hz',hs'.extBut _ _ D.TIz (hk _ _ D.TIz D.TITO D.TIi1 D.TIi2 hTI),⟨_,_,hs'.extBut _ _ D.TOz a2⟩,a3.extBut hs'.extBut D.i1z,a4.extBut hs'.extBut D.i2z⟩
  ·rw[ah]
   ·exact nf b hb'
   ·have hlt:∃ o,s.heap.get? b=some o:=by
     obtain⟨o1,e1,_⟩:=h1;obtain⟨o2,e2,_⟩:=h2;simp only[List.mem_cons,List.not_mem_nil,or_false] at hb';rcases hb' with rfl | rfl | rfl | rfl | rfl
     ·exact⟨_,hz⟩
     ·exact⟨_,hTI⟩
     ·exact⟨_,hTO⟩
     ·exact⟨_,e1⟩
     ·exact⟨_,e2⟩
    obtain⟨o,e⟩:=hlt;exact Nat.ne_of_lt (Heap.lt_size e)
 done:=by
  intro X hP hw hK hc i pins s σ H E I hf st hg;subst hP hw hK;obtain⟨xs,ys,ha,hb,hl⟩:=hg;obtain⟨hz,hTI,⟨a0,b0,hTO⟩,h1,h2⟩:=st;obtain⟨ia,na,ra,ea,_⟩:=I.lst ha;obtain⟨ib,nb,rb,eb,_⟩:=I.lst hb;have nf:∀ b∈[z,TI,TO,i1,i2],H b=none:=fun b hb=>(hf b hb).1;have ne1:∀ b∈[z,TI,TO,i1,i2],l1≠b:=fun b hb e=>by rw[e,nf b hb] at ha;cases ha
  have ne2:∀ b∈[z,TI,TO,i1,i2],l2≠b:=fun b hb' e=>by rw[e,nf b hb'] at hb;cases hb
  have Z:ZipApart z TI TO i1 i2 l1 l2:=⟨D.TIz,D.TOz,D.i1z,D.i2z,D.TITO,D.TIi1,D.TIi2,D.TOi1,D.TOi2,D.i12,ne1 z (by simp),ne1 TO (by simp),ne1 i1 (by simp),ne1 i2 (by simp),ne2 z (by simp),ne2 TO (by simp),ne2 i1 (by simp),ne2 i2 (by simp)⟩;have la:=ra.length;have lb:=rb.length;refine wpAny_pyNext_zip_end (I.ok.hd hc) Z hz hTI hTO h1 h2 (xs:=ia.toArray) (ys:=ib.toArray) ⟨_,ea,rfl,_,rfl⟩ ⟨_,eb,rfl,_,rfl⟩ ?_ fun h' hk=>⟨rfl,I.moved (t':=s.toks) (ch:=[z,TO,i1,i2]) (fun b hb'=>hf b (by simp at hb' ⊢;rcases hb' with e | e | e | e <;> simp [e])) fun b o hb' e=>?_⟩
  ·rcases hl with hl | hl
   ·left;simp;lia
   ·right;simp;lia
  ·simp only[List.mem_cons,List.not_mem_nil,or_false,not_or] at hb';exact hk b o hb'.1 hb'.2.1 hb'.2.2.1 hb'.2.2.2 e
 self:=fun _ _ _ _ _ st h=>wpAny_pyIter_zip st.1 h
def Mb (ta:TA):TI:=fun σ H R=>ta σ H fun vs H1=>∃ (p q:Addr) (xs ys:List V),vs=[.ref p,.ref q]/\H1 p=some (.lst xs)/\H1 q=some (.lst ys)/\R (Itz p q) H1
theorem IU{a b:Expr}{ta:TA}{kt:Nat}{p:Pos}(hg:Gl X "zip")(hm:X.mg "zip"=none)(ha:PA X [a,b] ta)(hs:autoParam (starEach [a,b] X.env=[(false,eval a X.env),(false,eval b X.env)]) wE)(hs2:autoParam (starEach [b] X.env=[(false,eval b X.env)]) wE) :
  PI X (.Tuple es kt tp) (.Call (.Name "zip" p) [a,b] [] pos) (Mb ta):=by
 intro pins s σ H R I h;refine Call_ (jz I hg hm (by decide +kernel:bootBuiltins "zip"=some (.type "zip")) (PyProof.Rows.callWith_type1 (thn (ha pos pins s σ H _ I h) fun us s1 ⟨vs,H1,I1,r1,q1⟩=>?_) (by rw[hs,hs2]) (by rw[hs2];rfl)));obtain⟨l1,l2,xs,ys,e,h1,h2,q⟩:=q1;subst e;obtain⟨u,w',rfl,ru,rw'⟩:=vals2 r1;cases ru;cases rw';obtain⟨ia,na,ra,ea,_⟩:=I1.lst h1;obtain⟨ib,nb,rb,eb,_⟩:=I1.lst h2;refine call_zip_2 (xs:=ia.toArray) (ys:=ib.toArray) ⟨_,ea,rfl,_,rfl⟩ ⟨_,eb,rfl,_,rfl⟩ fun h' hz hTI hTO hi1 hi2 hsz hk=>wpAny_pyIter_zip hz ?_;have I2:Inv X pins σ H1 { s1 with heap:=h' }:=I1.kept (t':=s1.toks) hk;have lt:∀ i j:Nat,i < j->s1.heap.objs.size + i≠s1.heap.objs.size + j:=fun i j h e=>by lia
 have D:qK (s1.heap.objs.size + 4) (s1.heap.objs.size + 2) (s1.heap.objs.size + 3) s1.heap.objs.size (s1.heap.objs.size + 1):=
  ⟨lt 2 4 (by decide),lt 3 4 (by decide),lt 0 4 (by decide),lt 1 4 (by decide),lt 2 3 (by decide),(lt 0 2 (by decide)).symm,(lt 1 2 (by decide)).symm,(lt 0 3 (by decide)).symm,(lt 1 3 (by decide)).symm,lt 0 1 (by decide)⟩
 refine⟨_,_,_,_,H1,rfl,I2,BR _ _ _ _ _ l1 l2 D,⟨hz,hTI,⟨_,_,hTO⟩,hi1,hi2⟩,fun b hb=>?_,q⟩;have hge:s1.heap.objs.size<=b:=by
  simp only[List.mem_cons,List.not_mem_nil,or_false] at hb;rcases hb with rfl | rfl | rfl | rfl | rfl <;> lia
 exact I1.qv hge (I1.hok.fresh hge)
noncomputable def Ite (a:Addr):It:=
 ⟨fun i H=>∃ xs x,H a=some (.lst xs)/\xs[i]?=some x,
  fun i H v H'=>∃ t xs x,H t=none/\H a=some (.lst xs)/\xs[i]?=some x/\v=.ref t/\H'=upd H t (.tup [.int i,x]),
  fun i H=>∃ xs,H a=some (.lst xs)/\xs.length<=i⟩
def Oe (e it l:Addr) (i:Nat) (h:Heap):Prop:=(∃ old,IsEnum h e it i old)/\h.IsListIter it l i
theorem Aq{kt:Nat}(e it l:Addr)(D:e≠it):Turn P w K (.Tuple es kt tp) (Ite l) [e,it] e (Oe e it l) where
 mem:=by simp
 obj:=fun i h st b hb=>by
  obtain⟨⟨old,he⟩,⟨o1,e1,_,d1⟩⟩:=st;simp only[List.mem_cons,List.not_mem_nil,or_false] at hb;rcases hb with rfl | rfl
  ·exact⟨_,he,fun v q=>by cases q⟩
  ·exact⟨_,e1,fun v q=>by rw[d1] at q;cases q⟩
 keep:=fun i h h' st k=>by
  obtain⟨⟨old,he⟩,h1⟩:=st;exact⟨⟨old,k e (by simp) _ he⟩,h1.at fun o e=>k it (by simp) o e⟩
 item:=by
  intro X hP hw hK hc i pins s σ H E I hf st hg;subst hP hw hK;obtain⟨xs,x,ha,hx⟩:=hg;obtain⟨⟨old,he⟩,h1⟩:=st;obtain⟨ia,na,ra,ea,_⟩:=I.lst ha;have nf:∀ b∈[e,it],H b=none:=fun b hb=>(hf b hb).1;obtain⟨u,hu,ru⟩:=ra.get hx;refine wpAny_pyNext_enum_item he h1 (items:=ia.toArray) ⟨_,ea,rfl,_,rfl⟩ (x:=u) (by simpa using hu) D fun h' a1 a2 a3 a4 hk=>?_;refine⟨_,rfl,wpAny_letOwnedTupleGo_enum a1 fun h2' he' hs'=>?_⟩;have eT:s.heap.objs.size≠e:=Nat.ne_of_gt (Heap.lt_size he);refine⟨.ref s.heap.objs.size,upd H s.heap.objs.size (.tup [.int i,x]),?_,rfl,⟨_,xs,x,I.hok.fresh (Nat.le_refl _),ha,hx,rfl,rfl⟩,?_,fun b hb'=>?_⟩
  ·refine I.vC (t':=s.toks + 1) (ch:=[e,it]) (u:=.int i s.toks) (v:=u) hf (Nat.le_refl _) (fun b o hb' q=>?_) ⟨_,hs'.extBut _ _ eT a3,rfl,_,rfl⟩ ⟨_,rfl⟩ ru;simp only[List.mem_cons,List.not_mem_nil,or_false,not_or] at hb';exact hs'.extBut b o hb'.1 (hk b o hb'.1 hb'.2 q)
  ·exact⟨⟨_,by simpa using he'⟩,a2.extBut hs'.extBut (Ne.symm D)⟩
  ·rw[ah]
   ·exact nf b hb'
   ·have hlt:∃ o,s.heap.get? b=some o:=by
     obtain⟨o1,e1,_⟩:=h1;simp only[List.mem_cons,List.not_mem_nil,or_false] at hb';rcases hb' with rfl | rfl
     ·exact⟨_,he⟩
     ·exact⟨_,e1⟩
    obtain⟨o,q⟩:=hlt;exact Nat.ne_of_lt (Heap.lt_size q)
 done:=by
  intro X hP hw hK hc i pins s σ H E I hf st hg;subst hP hw hK;obtain⟨xs,ha,hl⟩:=hg;obtain⟨⟨old,he⟩,h1⟩:=st;obtain⟨ia,na,ra,ea,_⟩:=I.lst ha;have la:=ra.length;exact wpAny_pyNext_enum_end (I.ok.hd hc) he h1 (items:=ia.toArray) ⟨_,ea,rfl,_,rfl⟩ (by simp;lia) fun h' hk=>⟨rfl,I.moved (t':=s.toks) (ch:=[it]) (fun b hb'=>hf b (by simp at hb' ⊢;simp [hb'])) fun b o hb' q=>hk b o (fun z=>hb' (by simp [z])) q⟩
 self:=fun _ _ _ _ _ st h=>by obtain⟨⟨old,he⟩,_⟩:=st;exact wpAny_pyIter_enum he h
def Hw (ta:TA):TI:=fun σ H R=>ta σ H fun vs H1=>∃ (p:Addr) (xs:List V),vs=[.ref p]/\H1 p=some (.lst xs)/\R (Ite p) H1
theorem Fp{a:Expr}{ta:TA}{kt:Nat}{p:Pos}(hg:Gl X "enumerate")(hm:X.mg "enumerate"=none)(ha:PA X [a] ta)(hs:autoParam (starEach [a] X.env=[(false,eval a X.env)]) wE) :
  PI X (.Tuple es kt tp) (.Call (.Name "enumerate" p) [a] [] pos) (Hw ta):=by
 intro pins s σ H R I h;refine Call_ (jz I hg hm (by decide +kernel:bootBuiltins "enumerate"=some (.type "enumerate")) (PyProof.Rows.callWith_type1 (thn (ha pos pins s σ H _ I h) fun us s1 Z=>?_) hs rfl));obtain⟨vs,H1,I1,r1,q1⟩:=Z;obtain⟨l,xs,e,h1,q⟩:=q1;subst e;obtain⟨u,rfl,ru⟩:=vals1 r1;cases ru;obtain⟨ia,na,ra,ea,_⟩:=I1.lst h1;refine call_enumerate_1 ea fun h' he hi hsz hk=>wpAny_pyIter_enum he ?_;have I2:Inv X pins σ H1 { s1 with heap:=h' }:=I1.kept (t':=s1.toks) hk;refine⟨_,_,_,_,H1,rfl,I2,Aq _ _ l (Nat.succ_ne_self _),⟨⟨_,by simpa using he⟩,hi⟩,fun b hb=>?_,q⟩;have hge:s1.heap.objs.size<=b:=by
  simp only[List.mem_cons,List.not_mem_nil,or_false] at hb;rcases hb with rfl | rfl <;> lia
 exact I1.qv hge (I1.hok.fresh hge)
noncomputable def wR (xs:List V) (lo hi st:Option Int):List V:=
 (sliceRange (sliceBounds lo hi st xs.length).1 (sliceBounds lo hi st xs.length).2.1 (sliceBounds lo hi st xs.length).2.2).filterMap (xs[·]?)
theorem Vals.places:∀ {xs:List V} {us:Lv0},Vals xs us->∀ js:List Nat,Vals (js.filterMap (xs[·]?)) (js.filterMap (us[·]?))
 | _,_,_,[]=>.nil
 | xs,us,h,j::js=>by
  have ih:=Vals.places h js;cases hn:xs[j]? with
  | some x=>
   obtain⟨u,hu,r⟩:=h.get hn;simp only[List.filterMap_cons,hn,hu];exact .cons r ih
  | none=>
   have hv:=h.none_of hn;simp only[List.filterMap_cons,hn,hv];exact ih
def K8 (K:Fg0) (te:TE) (tl th ts:TO):TE:=fun σ H Q=>te σ H fun x H1=>tl σ H1 fun l H2=>th σ H2 fun u H3=>ts σ H3 fun k H4=>k≠some 0/\∃ a xs,x=.ref a/\SqL K H4 a xs/\∀ p,H4 p=none->Q (.ref p) (upd H4 p (.lst (wR xs l u k)))
theorem AU{e:Expr}{st:Expr}{tl th ts:TO}(he:PE X e te)(hl:PO X lo tl)(hu:PO X hi th)(hs:PO X (some st) ts):PE X (.Subscript e (.Slice lo hi (some st) p2) pos) (K8 X.K te tl th ts):=by
 intro pins s σ H Q I h;refine Subscript_ (thn (he pins s σ H _ I h) fun v s1 Z=>?_);obtain⟨x,H1,I1,r1,q1⟩:=Z;refine wpAny_Slice (thn (hl pins s1 σ H1 _ I1 q1) fun vl s2 ⟨l,H2,I2,pl,q2⟩=>thn (hu pins s2 σ H2 _ I2 q2) fun vu s3 ⟨u,H3,I3,pu,q3⟩=>thn (hs pins s3 σ H3 _ I3 q3) fun vk s4 Z=>?_);obtain⟨k,H4,I4,pk,q4⟩:=Z;obtain⟨k0,a,xs,rfl,hx,q⟩:=q4;cases r1;have I5:Inv X pins σ H4 { s4 with heap:=s4.heap.push { cls:=.type "slice",data:=.fields #[vl,vu,vk] } }:=I4.kept (t':=s4.toks) fun b ob q=>Heap.get?_push_of_some _ q;obtain⟨its,r,ht,hz⟩:=I5.list hx;have hlen:=r.length;show wpAny (model X.prog X.w) X.A (subscriptTail e (.Slice lo hi (some st) p2) (.ref a) (.ref s4.heap.objs.size)) (EP X pins σ Q) X.xe { s4 with heap:=s4.heap.push { cls:=.type "slice",data:=.fields #[vl,vu,vk] } };refine tail_any (ops:=[.ref a,.ref s4.heap.objs.size]) ht.isList.typeIs slot_list_getitem.lookup (wpAny_getItem_list_slice ht.isList (Heap.IsSliceOf.new ..) pl pu pk k0 ?_ (by rw[List.size_toArray] <;> lia)) (by with_unfolding_all rfl);refine⟨.ref _,_,I5.laid (t':=s4.toks) (o:=.lst (wR xs l u k)) (fun b ob q=>Heap.get?_push_of_some _ q) (Nat.le_refl _) ?_,rfl,q _ (I5.hok.fresh (Nat.le_refl _))⟩;have rp:Vals (wR xs l u k) (slicePick its.toArray l u k).toList:=by
  have e:(slicePick its.toArray l u k).toList=(sliceRange (sliceBounds l u k xs.length).1 (sliceBounds l u k xs.length).2.1 (sliceBounds l u k xs.length).2.2).filterMap (its[·]?):=by
   simp [slicePick,hlen]
  rw[e];exact r.places _
 have hsz:=slicePick_size_le its.toArray l u k;have h2:=rp.length;simp only[Array.length_toList,List.size_toArray] at h2 hsz;exact⟨by lia,_,0,rp,Heap.get?_push_size _ rfl⟩
abbrev gW (h:Heap) (z TI TO T:Addr) (f:Bool):Prop:=h.get? z=some { cls:=.type "zip",dict:=none,data:=.fields #[rawInt T,.bool f,.bool false,.ref TI,.ref TO],slots:=#[] }
theorem Br{Q:Option Obj->Shared->Prop}(h:Q (s.heap.get? a) s):wpAny M A (loadIfAlive a) Q E s:=fun Γ p hΓ=>by
 unfold loadIfAlive;rw[Sem.wp_loadIfAlive];exact h
theorem z_{TI TO T:Addr}{f:Bool}{Q:Bool->Shared->Prop}(hzf:gW s.heap z TI TO T f)(hT:s.heap.get? T=some ob)(h:∀ h',gW h' z TI TO T true->Heap.SameBut z s.heap h'->Q false { s with heap:=h' }) :
  wpAny (model prog w) A (Builtin.SmallTypes.ownedTupleIsFree (.ref z)) Q E s:=by
 unfold Builtin.SmallTypes.ownedTupleIsFree;refine wpAny_bind (wpAny_field hzf rfl (x:=rawInt T) rfl ?_);show wpAny _ _ (loadIfAlive ((T:Int).toNat) >>= _) _ _ _;have eT:((T:Nat):Int).toNat=T:=Int.toNat_natCast T;rw[eT];refine wpAny_bind (Br ?_);rw[hT];show wpAny _ _ (field (.ref z) 1 >>= _) _ _ _;refine wpAny_bind (wpAny_field hzf rfl (x:=.bool f) rfl ?_);cases f with
 | true=>exact wpAny_pure (h _ hzf (.refl ..))
 | false=>
  show wpAny _ _ (setField (.ref z) 1 (.bool true) >>= fun _=>pure false) _ _ _;exact wpAny_bind (wpAny_setField_rec hzf (by simp) fun h' hz' hs'=>wpAny_pure (h h' hz' hs'))
theorem BA{TI TO i2 T:Addr}{f:Bool}{xs:Array Value}{x y:Value}{Q:VS}(D:ZipApart z TI TO i1 i2 l1 l2)(hzf:gW s.heap z TI TO T f)(hTI:IsPair s.heap TI (.ref i1) (.ref i2))(hT:s.heap.get? T=some ob)(h1:s.heap.IsListIter i1 l1 k1)(h2:s.heap.IsListIter i2 l2 k2)(hl1:s.heap.IsList l1 xs)(hl2:s.heap.IsList l2 ys)(hx:xs[k1]?=some x)(hy:ys[k2]?=some y)(hQ:∀ h',gW h' z TI TO T true->h'.IsListIter i1 l1 (k1 + 1)->h'.IsListIter i2 l2 (k2 + 1)->IsPair h' s.heap.objs.size x y->(∀ c o,c≠z->c≠i1->c≠i2->s.heap.get? c=some o->h'.get? c=some o)->Q (.ref s.heap.objs.size) { s with heap:=h' }) :
  wpAny (model prog w) A (Builtin.«zip.__next__» ⟨[.ref z],[]⟩) (fun fin s'=>∃ v,fin=.done (.ret v)/\Q v s') E s:=by
 show wpAny _ _ (field (.ref z) 2 >>= fun a=>_) _ _ _;refine wpAny_bind (wpAny_field hzf rfl (x:=.bool false) rfl ?_);show wpAny _ _ (field (.ref z) 3 >>= fun a=>_) _ _ _;refine wpAny_bind (wpAny_field hzf rfl (x:=.ref TI) rfl (wpAny_bind (wpAny_seqItems hTI rfl ?_)));show wpAny _ _ (Builtin.SmallTypes.ownedTupleIsFree (.ref z) >>= fun a=>_) _ _ _;refine wpAny_bind (z_ hzf hT fun g1 hz1 sb1=>?_);simp only[Bool.false_eq_true,if_false];have ht1:g1.IsListIter i1 l1 k1:=h1.extBut sb1.extBut D.i1z;have ht2:g1.IsListIter i2 l2 k2:=h2.extBut sb1.extBut D.i2z;have hL1:g1.IsList l1 xs:=hl1.extBut sb1.extBut D.l1z;have hL2:g1.IsList l2 ys:=hl2.extBut sb1.extBut D.l2z;rw[List.forIn_toArray];refine wpAny_bind ?_;rw[List.forIn_cons];refine wpAny_bind (wpAny_bind (wpAny_holding ?_));show wpAny _ _ (Builtin.SmallTypes.nextOf (.ref i1) >>= fun v=>pure (some v)) _ _ _;refine wpAny_bind (wpAny_nextOf_list_item ht1 hL1 hx fun g2 hi1 sb2=>wpAny_pure (wpAny_pure ?_));show wpAny _ _ (forIn [Value.ref i2] _ _) _ _ _;rw[List.forIn_cons];refine wpAny_bind (wpAny_bind (wpAny_holding ?_));show wpAny _ _ (Builtin.SmallTypes.nextOf (.ref i2) >>= fun v=>pure (some v)) _ _ _;refine wpAny_bind (wpAny_nextOf_list_item (ht2.extBut sb2.extBut D.i12.symm) (hL2.extBut sb2.extBut D.l2i1) hy fun g3 hi2 sb3=>wpAny_pure (wpAny_pure ?_));show wpAny _ _ (forIn ([]:Lv0) _ _) _ _ _;rw[List.forIn_nil];refine wpAny_pure ?_;show wpAny _ _ (newTuple [x,y] >>= fun t=>ret t) _ _ _;refine wpAny_bind (wpAny_newTuple (wpAny_pure ⟨_,rfl,?_⟩));have hsz:g3.objs.size=s.heap.objs.size:=by rw[sb3.1,sb2.1,sb1.1]
 have hz3:gW g3 z TI TO T true:=sb3.extBut _ _ D.i2z.symm (sb2.extBut _ _ D.i1z.symm hz1);have hq:=hQ (g3.push { cls:=.type "tuple",data:=.seq #[x,y] }) (Heap.get?_push_of_some _ hz3) ((hi1.extBut sb3.extBut D.i12).at fun o e=>Heap.get?_push_of_some _ e) (hi2.at fun o e=>Heap.get?_push_of_some _ e)
  (by rw[<- hsz];exact Heap.get?_push_size _ rfl) fun c o c1 c2 c3 e=>Heap.get?_push_of_some _ (sb3.extBut _ _ c3 (sb2.extBut _ _ c2 (sb1.extBut _ _ c1 e)))
 rw[<- hsz] at hq;exact hq
theorem A1{TI TO i2 T:Addr}{f:Bool}{xs:Array Value}{x y:Value}(D:ZipApart z TI TO i1 i2 l1 l2)(hzf:gW s.heap z TI TO T f)(hTI:IsPair s.heap TI (.ref i1) (.ref i2))(hT:s.heap.get? T=some ob)(h1:s.heap.IsListIter i1 l1 k1)(h2:s.heap.IsListIter i2 l2 k2)(hl1:s.heap.IsList l1 xs)(hl2:s.heap.IsList l2 ys)(hx:xs[k1]?=some x)(hy:ys[k2]?=some y)(hQ:∀ h',gW h' z TI TO T true->h'.IsListIter i1 l1 (k1 + 1)->h'.IsListIter i2 l2 (k2 + 1)->IsPair h' s.heap.objs.size x y->(∀ c o,c≠z->c≠i1->c≠i2->s.heap.get? c=some o->h'.get? c=some o)->Q (some (.ref s.heap.objs.size)) { s with heap:=h' }) :
  wpAny (model prog w) A (pyNext (.ref z)) Q E s:=by
 have hTy:s.TypeIs (.ref z) "zip":=⟨_,hzf,rfl⟩;unfold pyNext;exact wpAny_bind (wpAny_attempt (wpAny_callSpecial?_slot (name:=Str.ofString "__next__") hTy F.slot_zip_next
  (wpAny_call_entry F.slot_zip_next hTy F.entry_zip_next (BA D hzf hTI hT h1 h2 hl1 hl2 hx hy fun h' a1 a2 a3 a4 a5=>wpAny_pure (hQ h' a1 a2 a3 a4 a5)) (F.args_zip_next_1 _))))
theorem Bz{TI TO i2 T:Addr}{f:Bool}{xs:Array Value}{Q:Fin->Shared->Prop}(hh:A.handled=none)(D:ZipApart z TI TO i1 i2 l1 l2)(hzf:gW s.heap z TI TO T f)(hTI:IsPair s.heap TI (.ref i1) (.ref i2))(hT:s.heap.get? T=some ob)(h1:s.heap.IsListIter i1 l1 k1)(h2:s.heap.IsListIter i2 l2 k2)(hl1:s.heap.IsList l1 xs)(hl2:s.heap.IsList l2 ys)(hend:xs[k1]?=none\/ys[k2]?=none)(hE:∀ h' e,(∀ c o,c≠z->c≠i1->c≠i2->s.heap.get? c=some o->h'.get? c=some o)->(∃ o,h'.get? e=some o/\o.cls=.type "StopIteration")->E (.ref e) { s with heap:=h' }) :
  wpAny (model prog w) A (Builtin.«zip.__next__» ⟨[.ref z],[]⟩) Q E s:=by
 show wpAny _ _ (field (.ref z) 2 >>= fun a=>_) _ _ _;refine wpAny_bind (wpAny_field hzf rfl (x:=.bool false) rfl ?_);show wpAny _ _ (field (.ref z) 3 >>= fun a=>_) _ _ _;refine wpAny_bind (wpAny_field hzf rfl (x:=.ref TI) rfl (wpAny_bind (wpAny_seqItems hTI rfl ?_)));show wpAny _ _ (Builtin.SmallTypes.ownedTupleIsFree (.ref z) >>= fun a=>_) _ _ _;refine wpAny_bind (z_ hzf hT fun g1 hz1 sb1=>?_);simp only[Bool.false_eq_true,if_false];have ht1:g1.IsListIter i1 l1 k1:=h1.extBut sb1.extBut D.i1z;have ht2:g1.IsListIter i2 l2 k2:=h2.extBut sb1.extBut D.i2z;have hL1:g1.IsList l1 xs:=hl1.extBut sb1.extBut D.l1z;have hL2:g1.IsList l2 ys:=hl2.extBut sb1.extBut D.l2z;rw[List.forIn_toArray];refine wpAny_bind ?_;rw[List.forIn_cons];refine wpAny_bind (wpAny_bind (wpAny_holding ?_));show wpAny _ _ (Builtin.SmallTypes.nextOf (.ref i1) >>= fun v=>pure (some v)) _ _ _;cases hx:xs[k1]? with
 | none=>
  exact wpAny_bind (wpAny_nextOf_list_end hh ht1 hL1 hx fun h' e hk he=>hE h' e (fun c o c1 c2 c3 q=>hk c o c2 (sb1.extBut _ _ c1 q)) he)
 | some x=>
  have hy:ys[k2]?=none:=by rcases hend with q | q;(rw[hx] at q;cases q);exact q
  refine wpAny_bind (wpAny_nextOf_list_item ht1 hL1 hx fun g2 hi1 sb2=>wpAny_pure (wpAny_pure ?_));show wpAny _ _ (forIn [Value.ref i2] _ _) _ _ _;rw[List.forIn_cons];refine wpAny_bind (wpAny_bind (wpAny_holding ?_));show wpAny _ _ (Builtin.SmallTypes.nextOf (.ref i2) >>= fun v=>pure (some v)) _ _ _;exact wpAny_bind (wpAny_nextOf_list_end hh (ht2.extBut sb2.extBut D.i12.symm) (hL2.extBut sb2.extBut D.l2i1) hy fun h' e hk he=>hE h' e (fun c o c1 c2 c3 q=>hk c o c3 (sb2.extBut _ _ c2 (sb1.extBut _ _ c1 q))) he)
theorem A0{TI TO i2 T:Addr}{f:Bool}{xs:Array Value}(hh:A.handled=none)(D:ZipApart z TI TO i1 i2 l1 l2)(hzf:gW s.heap z TI TO T f)(hTI:IsPair s.heap TI (.ref i1) (.ref i2))(hT:s.heap.get? T=some ob)(h1:s.heap.IsListIter i1 l1 k1)(h2:s.heap.IsListIter i2 l2 k2)(hl1:s.heap.IsList l1 xs)(hl2:s.heap.IsList l2 ys)(hend:xs[k1]?=none\/ys[k2]?=none)(hQ:∀ h',(∀ c o,c≠z->c≠i1->c≠i2->s.heap.get? c=some o->h'.get? c=some o)->Q none { s with heap:=h' }):wpAny (model prog w) A (pyNext (.ref z)) Q E s:=by
 have hTy:s.TypeIs (.ref z) "zip":=⟨_,hzf,rfl⟩;unfold pyNext;refine wpAny_bind (wpAny_attempt (wpAny_callSpecial?_slot (name:=Str.ofString "__next__") hTy F.slot_zip_next
  (wpAny_call_entry F.slot_zip_next hTy F.entry_zip_next (Bz hh D hzf hTI hT h1 h2 hl1 hl2 hend fun h' e hk he=>?_) (F.args_zip_next_1 _))))
 obtain⟨o,ho,hcl⟩:=he;exact wpAny_bind (wpAny_isInstance (T:="StopIteration") (b:=true) ⟨o,ho,hcl⟩ isSubtype_stop (wpAny_pure (hQ _ hk)))
theorem DK{I S:Addr}{res:Value}(J:Nat->Lv0->Shared->Prop)(hn:n < sizeLine)(hlen:∀ i acc s,J i acc s->acc.length=i)(item:∀ i acc s E,i < n->J i acc s->wpAny (model prog w) A.in1 (pyNext (.ref I)) (fun r s'=>∃ v c,r=some v/\s'.heap.get? S=some (bL acc c)/\∀ h',Heap.SameBut S s'.heap h'->h'.get? S=some (bL (acc++[v]) (c + 1))->J (i + 1) (acc++[v]) { s' with heap:=h' }) E s)(done:∀ acc s E,J n acc s->wpAny (model prog w) A.in1 (pyNext (.ref I)) (fun r s'=>r=none/\R (.ok (.ret res)) s') E s) :
  ∀ (k i:Nat) (acc:Lv0) (s:Shared),n - i=k->i<=n->J i acc s->codeAny (model prog w) A (.builtin "list.extend.loop" ⟨[.ref S,.ref I,res],[]⟩) R s:=by
 intro k
 induction k with
 | zero=>
  intro i acc s hk hi hJ;obtain rfl:i=n:=by lia
  refine codeAny_builtin F.entry_extend_loop ?_;rw[Around.under_plainId F.plain_extend_loop _];show wpAny _ A.in1 (pyNext (.ref I) >>= fun r=>_) _ _ s;refine wpAny_bind (thn (done acc s _ hJ) fun r s' Z=>?_);obtain⟨hr,q⟩:=Z;subst hr;exact wpAny_pure q
 | succ k ih=>
  intro i acc s hk hi hJ;refine codeAny_builtin F.entry_extend_loop ?_;rw[Around.under_plainId F.plain_extend_loop _];show wpAny _ A.in1 (pyNext (.ref I) >>= fun r=>_) _ _ s;refine wpAny_bind (thn (item i acc s _ (by lia) hJ) fun r s' Z=>?_);obtain⟨v,c,hr,hS,q⟩:=Z;subst hr;have hl:=hlen i acc s hJ;show wpAny _ A.in1 (updateSeq S (·.push v) >>= fun r=>_) _ _ _;have eo:Obj.mapSeq (·.push v) (bL acc c)=bL (acc++[v]) (c + 1):=by
   show Obj.mapSeq (·.push v) { cls:=.type "list",dict:=none,data:=.seq acc.toArray c,slots:=#[] }=_;rw[mapSeq_push,List.push_toArray]
  refine wpAny_bind (wpAny_updateSeq hS rfl (wpAny_pure ⟨plainId_quiet F.plain_extend_loop _,ih (i + 1) (acc++[v]) _ (by lia) (by lia) (q _ (Heap.SameBut.update ..) ?_)⟩) (by rw[List.size_toArray];lia) (by show (acc.toArray.push v).size<=sizeLine + 1;rw[Array.size_push,List.size_toArray];lia));rw[Heap.get?_update_self _ hS (by rw[eo];rfl),eo]
theorem Am:typeLookup (.type "zip") "__len__"=pure none:=by rw[typeLookup_type,builtinLookup_eq_fast];kernel_rfl
theorem xN:typeLookup (.type "zip") "__length_hint__"=pure none:=by rw[typeLookup_type,builtinLookup_eq_fast];kernel_rfl
section
variable {pins:Pn}
theorem Inv.adopt{S:Addr}{c:Nat}(I:Inv X pins σ H s)(fS:eU X pins H S)(hS:s.heap.get? S=some (bL us c))(r:Vals xs us)(hz:xs.length<=sizeLine):Inv X pins σ (upd H S (.lst xs)) s:=by
 have neH:∀ {b:Addr} {u:HO},H b=some u->b≠S:=fun e z=>by rw[z,fS.1] at e;cases e
 refine⟨I.ok,I.os,I.bare,⟨I.base.keep,I.base.slot,fun b o e n hx=>?_,I.base.there,fun b ys e=>?_,fun b o u e=>?_,fun b ps e=>?_⟩,I.loc,I.cell,?_,fun x d e=>?_,fun p hp=>?_,fun b u e=>?_,I.len⟩
 ·have nb:b≠S:=fun z=>by
   rcases fS.2.2.2.1 with q | q
   ·exact hx (by rw[z];exact q)
   ·exact absurd (Nat.lt_of_lt_of_le (Heap.lt_size e) (by rw[z];exact q)) (Nat.lt_irrefl _)
  rw[ah nb];exact I.base.free b o e n hx
 ·have q:=I.base.tups b ys e;rw[ah (neH q)];exact q
 ·have q:=I.base.i7 b o u e;rw[ah (neH q)];exact q
 ·obtain⟨m,q⟩:=I.base.tbls b ps e;exact⟨m,by rw[ah (neH q)];exact q⟩
 ·rw[ah (Ne.symm fS.2.1)];exact I.free
 ·rw[ah (fS.2.2.2.2.1 x d e)];exact I.freeC x d e
 ·obtain⟨e1,e2,e3⟩:=I.pin p hp;exact⟨e1,by rw[ah (fS.2.2.2.2.2 p hp)];exact e2,e3⟩
 ·by_cases hb:b=S
  ·subst hb;rw[ar] at e;cases e;exact⟨hz,us,c,r,hS⟩
  ·rw[ah hb] at e;exact(I.hok b u e).lK (fun _ _ _ q=>q) (fun d q=>by rw[ah (neH q)];exact q) (fun d ys q=>by rw[ah (neH q)];exact q) fun d o φ q=>by rw[ah (neH q)];exact q
theorem eU.heap{b:Addr}(f:eU X pins H b)(h:H' b=none):eU X pins H' b:=⟨h,f.2⟩
theorem t9:∀ ts:La0,Vals (ts.map V.ref) (ts.map Value.ref)
 | []=>.nil
 | _::r=>.cons rfl (t9 r)
def M1 (H:Hp) (xs ys:List V) (Q:VK):Prop:=∀ (S:Addr) (ts:La0) (H':Hp),H S=none->aE H H'->H' S=some (.lst (ts.map V.ref))->ts.length=min xs.length ys.length->
 (∀ (j:Nat) t x y,ts[j]?=some t->xs[j]?=some x->ys[j]?=some y->H' t=some (.tup [x,y]))->(∀ t∈ts,H t=none)->Q (.ref S) H'
theorem xf{TI TO i2:Addr}{ys:List V}{Q:VK}(D:qK z TI TO i1 i2)(I:Inv X pins σ H s)(hc:X.calm=true)(hf:∀ b∈[z,TI,TO,i1,i2],eU X pins H b)(st:HZ z TI TO i1 i2 l1 l2 0 s.heap)(ha:H l1=some (.lst xs))(hb:H l2=some (.lst ys))(hn:min xs.length ys.length < sizeLine)(q:M1 H xs ys Q):wpAny (model X.prog X.w) X.A (call (.type "list") [.ref z]) (EP X pins σ Q) E s:=by
 obtain⟨hz,hTI,⟨a0,b0,hTO⟩,h1,h2⟩:=st;obtain⟨S,hSe⟩:∃ S,S=s.heap.objs.size:=⟨_,rfl⟩;have fS:eU X pins H S:=by rw[hSe];exact I.qv (Nat.le_refl _) (I.hok.fresh (Nat.le_refl _))
 have inS:∀ b∈[z,TI,TO,i1,i2],b < S:=fun b hb'=>by
  have hlt:∃ o,s.heap.get? b=some o:=by
   obtain⟨o1,e1,_⟩:=h1;obtain⟨o2,e2,_⟩:=h2;simp only[List.mem_cons,List.not_mem_nil,or_false] at hb';rcases hb' with rfl | rfl | rfl | rfl | rfl
   ·exact⟨_,hz⟩
   ·exact⟨_,hTI⟩
   ·exact⟨_,hTO⟩
   ·exact⟨_,e1⟩
   ·exact⟨_,e2⟩
  obtain⟨o,e⟩:=hlt;rw[hSe];exact Heap.lt_size e
 have nS:∀ b∈[z,TI,TO,i1,i2],b≠S:=fun b hb'=>Nat.ne_of_lt (inS b hb');have apart:∀ H':Hp,aE H H'->(∀ b∈[z,TI,TO,i1,i2],H' b=none)->ZipApart z TI TO i1 i2 l1 l2:=fun H' sm nf=>by
  have ne1:∀ b∈[z,TI,TO,i1,i2],l1≠b:=fun b hb' e=>by have:=sm _ _ ha;rw[e,nf b hb'] at this;cases this
  have ne2:∀ b∈[z,TI,TO,i1,i2],l2≠b:=fun b hb' e=>by have:=sm _ _ hb;rw[e,nf b hb'] at this;cases this
  exact⟨D.TIz,D.TOz,D.i1z,D.i2z,D.TITO,D.TIi1,D.TIi2,D.TOi1,D.TOi2,D.i12,ne1 z (by simp),ne1 TO (by simp),ne1 i1 (by simp),ne1 i2 (by simp),ne2 z (by simp),ne2 TO (by simp),ne2 i1 (by simp),ne2 i2 (by simp)⟩
 let J:Nat->Lv0->Shared->Prop:=fun i acc s'=>∃ (H':Hp) (ts:La0) (c:Nat),Inv X pins σ H' s'/\acc=ts.map Value.ref/\ts.length=i/\H' S=none/\s'.heap.get? S=some (bL acc c)/\aE H H'/\
  (∀ (j:Nat) t x y,ts[j]?=some t->xs[j]?=some x->ys[j]?=some y->H' t=some (.tup [x,y]))/\(∀ t∈ts,H' t≠none/\H t=none)/\(∀ b∈[z,TI,TO,i1,i2],H' b=none)/\(∃ o,s'.heap.get? TO=some o)/\IsPair s'.heap TI (.ref i1) (.ref i2)/\s'.heap.IsListIter i1 l1 i/\s'.heap.IsListIter i2 l2 i/\
  ((ts=[]/\IsZip s'.heap z TI TO .none/\∃ a b,IsPair s'.heap TO a b)\/∃ t r f,ts=t::r/\gW s'.heap z TI TO t f)
 have alive:∀ {H':Hp} {s':Shared} {t:Addr},Inv X pins σ H' s'->H' t≠none->∃ o,s'.heap.get? t=some o:=fun {H' s' t} I' h=>by
  cases e:H' t with
  | none=>exact absurd e h
  | some o=>
   have lt:=I'.hok.lt e;have x:=I'.hok t o e;cases e2:s'.heap.get? t with
   | some ob=>exact⟨ob,rfl⟩
   | none=>
    exfalso;cases o with
    | lst _=>obtain⟨_,_,_,_,e3⟩:=x;rw[e2] at e3;cases e3
    | tup _=>obtain⟨_,_,_,p⟩:=x;obtain⟨_,e3,_⟩:=p;rw[e2] at e3;cases e3
    | dK _=>obtain⟨_,_,_,_,_,_,_,e3,_⟩:=x;rw[e2] at e3;cases e3
    | dT _=>obtain⟨_,_,_,_,_,_,_,e3,_⟩:=x;rw[e2] at e3;cases e3
    | set _ _=>obtain⟨_,_,_,_,e3,_⟩:=x;rw[e2] at e3;cases e3
    | ins _ _ _=>obtain⟨_,_,_,e3,_⟩:=x;rw[e2] at e3;cases e3
    | own _=>obtain⟨_,e3⟩:=x;rw[e2] at e3;cases e3
    | xd _=>obtain⟨_,⟨_,_,_,e3,_⟩,_⟩:=x;rw[e2] at e3;cases e3
    | rng _ _=>obtain⟨_,_,_,e3⟩:=x;rw[e2] at e3;cases e3
    | frz _ _=>obtain⟨e3,_⟩:=x;rw[e2] at e3;cases e3
    | tbl _=>obtain⟨_,_,_,_,e3,_⟩:=x;rw[e2] at e3;cases e3
    | cod _ _=>obtain⟨⟨_,e3⟩,_⟩:=x;rw[e2] at e3;cases e3
    | met _ _=>have e3:s'.heap.get? t=some _:=x;rw[e2] at e3;cases e3
    | ext _=>obtain⟨_,⟨_,e3⟩,_⟩:=x;rw[e2] at e3;cases e3
 have chOk:∀ {H':Hp},(∀ b∈[z,TI,TO,i1,i2],H' b=none)->∀ b∈[z,TO,i1,i2],eU X pins H' b:=fun {H'} nf b hb'=>by
  have hb2:b∈[z,TI,TO,i1,i2]:=by
   simp only[List.mem_cons,List.not_mem_nil,or_false] at hb' ⊢;rcases hb' with e | e | e | e <;> simp [e]
  exact(hf b hb2).heap (nf b hb2)
 have step:∀ (i:Nat) (H':Hp) (ts:La0) (c:Nat) (s':Shared) (h':Heap) (x y:V) (u v:Value),Inv X pins σ H' s'->ts.length=i->H' S=none->s'.heap.get? S=some (bL (ts.map Value.ref) c)->aE H H'->
   (∀ (j:Nat) t x y,ts[j]?=some t->xs[j]?=some x->ys[j]?=some y->H' t=some (.tup [x,y]))->(∀ t∈ts,H' t≠none/\H t=none)->(∀ b∈[z,TI,TO,i1,i2],H' b=none)->(∀ b∈[z,TI,TO,i1,i2],∃ o,s'.heap.get? b=some o)->IsPair s'.heap TI (.ref i1) (.ref i2)->xs[i]?=some x->ys[i]?=some y->RelV x u->RelV y v->
   (∀ b o,b∉[z,TO,i1,i2]->s'.heap.get? b=some o->h'.get? b=some o)->(∃ o,h'.get? TO=some o)->IsPair h' s'.heap.objs.size u v->h'.IsListIter i1 l1 (i + 1)->h'.IsListIter i2 l2 (i + 1)->(∃ t r f,ts++[s'.heap.objs.size]=t::r/\gW h' z TI TO t f)->
   ∃ v' c',some (Value.ref s'.heap.objs.size)=some v'/\h'.get? S=some (bL (ts.map Value.ref) c')/\∀ g,Heap.SameBut S h' g->g.get? S=some (bL (ts.map Value.ref++[v']) (c' + 1))->J (i + 1) (ts.map Value.ref++[v']) { s' with heap:=g }:=by
  intro i H' ts c s' h' x y u v I' hl hHS hS sm hts hal nf ex hTI' hx hy ru rv hk hTOx hT hi1 hi2 hzz;have Slt:S < s'.heap.objs.size:=Heap.lt_size hS;have ST:S≠s'.heap.objs.size:=Nat.ne_of_lt Slt;have fT:H' s'.heap.objs.size=none:=I'.hok.fresh (Nat.le_refl _);have hSn:S∉[z,TO,i1,i2]:=fun hm=>by
   simp only[List.mem_cons,List.not_mem_nil,or_false] at hm;rcases hm with e | e | e | e
   ·exact nS z (by simp) e.symm
   ·exact nS TO (by simp) e.symm
   ·exact nS i1 (by simp) e.symm
   ·exact nS i2 (by simp) e.symm
  refine⟨_,c,rfl,hk S _ hSn hS,fun g sb hg=>?_⟩;have I1:Inv X pins σ (upd H' s'.heap.objs.size (.tup [x,y])) { s' with heap:=h' }:=I'.vC (t':=s'.toks) (chOk nf) (Nat.le_refl _) hk ⟨_,hT,rfl,_,rfl⟩ ru rv;have nT:∀ b∈[z,TI,TO,i1,i2],b≠s'.heap.objs.size:=fun b hb'=>by obtain⟨o,e⟩:=ex b hb';exact Nat.ne_of_lt (Heap.lt_size e)
  have hS2:(upd H' s'.heap.objs.size (.tup [x,y])) S=none:=by rw[ah ST];exact hHS
  have I2:Inv X pins σ (upd H' s'.heap.objs.size (.tup [x,y])) { s' with heap:=g }:=I1.moved (t':=s'.toks) (ch:=[S]) (fun b hb'=>by
   have e:b=S:=by simpa using hb'
   rw[e];exact fS.heap hS2) fun b o hb' e=>(sb.2 b fun z'=>hb' (by simp [z'])).trans e
  have nTt:∀ {t:Addr},H' t≠none->t≠s'.heap.objs.size:=fun h e=>h (by rw[e];exact fT);refine⟨upd H' s'.heap.objs.size (.tup [x,y]),ts++[s'.heap.objs.size],c + 1,I2,by rw[List.map_append];rfl,by rw[List.length_append,hl];rfl,hS2,hg,fun b o e=>?_,fun j t x' y' ht hx' hy'=>?_,fun t ht=>?_,fun b hb'=>?_,?_,?_,?_,?_,?_⟩
  ·have e':=sm b o e;rw[ah (fun z'=>by rw[z',fT] at e';cases e')];exact e'
  ·by_cases hj:j < ts.length
   ·rw[List.getElem?_append_left hj] at ht;have e':=hts j t x' y' ht hx' hy';rw[ah (nTt (by rw[e'];simp))];exact e'
   ·have hj2:j=ts.length:=by
     have:=(gS0 ht).1;rw[List.length_append,List.length_singleton] at this;lia
    subst hj2;rw[List.getElem?_append_right (Nat.le_refl _),Nat.sub_self] at ht;have et:t=s'.heap.objs.size:=(Option.some.inj ht).symm;rw[hl] at hx' hy';rw[hx] at hx';rw[hy] at hy';cases hx';cases hy';rw[et];exact ar
  ·rcases List.mem_append.mp ht with z' | z'
   ·rw[ah (nTt (hal t z').1)];exact hal t z'
   ·have e:t=s'.heap.objs.size:=by simpa using z'
    rw[e,ar];exact⟨by simp,sm.free fT⟩
  ·rw[ah (nT b hb')];exact nf b hb'
  ·obtain⟨o,e⟩:=hTOx;exact⟨o,(sb.2 TO (nS TO (by simp))).trans e⟩
  ·exact(sb.2 TI (nS TI (by simp))).trans (hk TI _ (by simp [D.TIz,D.TITO,D.TIi1,D.TIi2]) hTI')
  ·exact hi1.extBut sb.extBut (nS i1 (by simp))
  ·exact hi2.extBut sb.extBut (nS i2 (by simp))
  ·obtain⟨t,r,f,e,hzf⟩:=hzz;exact .inr ⟨t,r,f,e,(sb.2 z (nS z (by simp))).trans hzf⟩
 refine callType_codes (Q₁:=fun obj s₁=>obj=.ref S/\s₁={ s with heap:=s.heap.push { cls:=.type "list",data:=.seq #[] } }) F.called_list (F.typeCall_list_1 _) F.entry_list_init (code_list_new _ ⟨by rw[hSe],rfl⟩) fun obj s₁ e₁=>?_;obtain⟨rfl,rfl⟩:=e₁;have hS0:(s.heap.push { cls:=.type "list",data:=.seq #[] }).get? S=some { cls:=.type "list",data:=.seq #[] }:=by rw[hSe];exact Heap.get?_push_size _ rfl
 have up0:∀ b o,s.heap.get? b=some o->(s.heap.push { cls:=.type "list",data:=.seq #[] }).get? b=some o:=fun b o e=>Heap.get?_push_of_some _ e;have I0:Inv X pins σ H { s with heap:=s.heap.push { cls:=.type "list",data:=.seq #[] } }:=I.kept (t':=s.toks) up0;refine⟨⟨_,hS0,rfl⟩,F.args_list_init_2 _ _,?_⟩;show wpAny _ X.A.in1.in1 (Builtin.List.listItems (.ref S) >>= fun old=>Builtin.List.listUpdate (.ref S) (fun _=>#[]) >>= fun _=>letGo old.toList.reverse >>= fun _=>Builtin.List.listExtendWith (.ref S) (.ref z) .none) _ _ _;unfold Builtin.List.listItems;refine wpAny_bind (wpAny_bind (wpAny_seqItems hS0 rfl (wpAny_pure ?_)));show wpAny _ X.A.in1.in1 (updateSeq S (fun _=>#[]) >>= fun _=>letGo (#[]:Array Value).toList.reverse >>= fun _=>Builtin.List.listExtendWith (.ref S) (.ref z) .none) _ _ _;refine wpAny_bind (wpAny_updateSeq hS0 rfl (wpAny_bind (wpAny_letGo ?_)));have hS1:=Heap.get?_update_self (Obj.mapSeq (fun _=>(#[]:Array Value))) hS0 rfl;have up1:∀ b o,b≠S->s.heap.get? b=some o->((s.heap.push { cls:=.type "list",data:=.seq #[] }).update S (Obj.mapSeq (fun _=>(#[]:Array Value)))).get? b=some o:=fun b o nb e=>(Heap.get?_update_other _ _ (Ne.symm nb)).trans (up0 b o e);generalize hg1:(s.heap.push { cls:=.type "list",data:=.seq #[] }).update S (Obj.mapSeq (fun _=>(#[]:Array Value)))=g1 at hS1 up1;have hzT:∀ g:Heap,(∀ b o,b≠S->s.heap.get? b=some o->g.get? b=some o)->g.get? z=some _:=fun g k=>k z _ (nS z (by simp)) hz;have TyZ:∀ s':Shared,s'.heap.get? z=some { cls:=.type "zip",dict:=none,data:=.fields #[.none,.bool false,.bool false,.ref TI,.ref TO],slots:=#[] }->s'.TypeIs (.ref z) "zip":=fun s' e=>⟨_,e,rfl⟩;unfold Builtin.List.listExtendWith;refine wpAny_bind (wpAny_typeOf (TyZ _ (hzT g1 up1)) ?_);have b1:Builtin.List.listSameRef (.ref S) (.ref z)=false:=by simp [Builtin.List.listSameRef,(nS z (by simp)).symm]
 have b2:(Value.type "zip" == Value.type "list")=false:=by decide
 have b3:(Value.type "zip" == Value.type "tuple")=false:=by decide
 simp only[b1,b2,b3,Bool.or_false,Bool.false_eq_true,if_false];refine wpAny_bind (wpAny_pyIter_zip (hzT g1 up1) (wpAny_bind (wpAny_holding ?_)));unfold Builtin.List.listLengthHint;refine wpAny_bind (wpAny_specialOf (TyZ _ (hzT g1 up1)) Am ?_);show wpAny _ X.A.in1.in1 (specialOf (Value.ref z) (Str.ofString "__length_hint__") >>= fun a=>_) _ _ _;refine wpAny_bind (wpAny_specialOf (TyZ _ (hzT g1 up1)) xN (wpAny_pure ?_));show wpAny _ X.A.in1.in1 (rule "list.extend.makes-room" >>= fun _=>Builtin.List.listTouch (.ref S) >>= fun _=>again (.builtin "list.extend.loop" ⟨[.ref S,.ref z,.none],[]⟩)) _ _ _;refine wpAny_bind (wpAny_rule (wpAny_bind ?_));show wpAny _ X.A.in1.in1 (updateSeq S (·.push .none) >>= fun _=>updateSeq S (·.pop)) _ _ _;refine wpAny_bind (wpAny_updateSeq hS1 rfl ?_);have hS2:=Heap.get?_update_self (Obj.mapSeq (·.push Value.none)) hS1 rfl;refine wpAny_updateSeq (hz:=by seq_fits) hS2 rfl ?_;have hS3:=Heap.get?_update_self (Obj.mapSeq (·.pop)) hS2 rfl;have up3:∀ b o,b≠S->s.heap.get? b=some o->((g1.update S (Obj.mapSeq (·.push Value.none))).update S (Obj.mapSeq (·.pop))).get? b=some o:=
  fun b o nb e=>(Heap.get?_update_other _ _ (Ne.symm nb)).trans ((Heap.get?_update_other _ _ (Ne.symm nb)).trans (up1 b o nb e))
 generalize hg3:(g1.update S (Obj.mapSeq (·.push Value.none))).update S (Obj.mapSeq (·.pop))=g3 at hS3 up3;have I3:Inv X pins σ H { s with heap:=g3 }:=I.moved (t':=s.toks) (ch:=[S]) (fun b hb'=>by
  have e:b=S:=by simpa using hb'
  rw[e];exact fS) fun b o hb' e=>up3 b o (fun z'=>hb' (by simp [z'])) e
 obtain⟨c0,hc0⟩:∃ c0,g3.get? S=some (bL [] c0):=⟨_,hS3⟩;have J0:J 0 [] { s with heap:=g3 }:=⟨H,[],c0,I3,rfl,rfl,fS.1,hc0,aE.refl H,fun j t x y h=>by simp at h,fun t h=>by simp at h,fun b hb'=>(hf b hb').1,⟨_,up3 TO _ (nS TO (by simp)) hTO⟩,up3 TI _ (nS TI (by simp)) hTI,h1.at fun o e=>up3 i1 o (nS i1 (by simp)) e,h2.at fun o e=>up3 i2 o (nS i2 (by simp)) e,
  .inl ⟨rfl,up3 z _ (nS z (by simp)) hz,a0,b0,up3 TO _ (nS TO (by simp)) hTO⟩⟩
 refine wpAny_pure ⟨plainId_quiet F.plain_extend_loop _,DK J hn (fun i acc s' h=>?_) (fun i acc s' E' hi h=>?_) (fun acc s' E' h=>?_) _ 0 [] _ rfl (Nat.zero_le _) J0⟩
 ·obtain⟨_,ts,_,_,e,l,_⟩:=h;rw[e,lM0,l]
 ·obtain⟨H',ts,c,I',rfl,hl,hHS,hS,sm,hts,hal,nf,toEx,hTI',hi1,hi2,hzz⟩:=h;have Z:=apart H' sm nf;obtain⟨ia,na,ra,ea,_⟩:=I'.lst (sm _ _ ha);obtain⟨ib,nb,rb,eb,_⟩:=I'.lst (sm _ _ hb);have hix:i < xs.length:=by lia
  have hiy:i < ys.length:=by lia
  have hx:xs[i]?=some xs[i]:=gE0 hix;have hy:ys[i]?=some ys[i]:=gE0 hiy;obtain⟨u,hu,ru⟩:=ra.get hx;obtain⟨v,hv,rv⟩:=rb.get hy;have LA:s'.heap.IsList l1 ia.toArray:=⟨_,ea,rfl,_,rfl⟩;have LB:s'.heap.IsList l2 ib.toArray:=⟨_,eb,rfl,_,rfl⟩;have exb:∀ zo:∃ o,s'.heap.get? z=some o,∀ to:∃ o,s'.heap.get? TO=some o,∀ b∈[z,TI,TO,i1,i2],∃ o,s'.heap.get? b=some o:=fun zo to b hb'=>by
   obtain⟨o1,e1,_⟩:=hi1;obtain⟨o2,e2,_⟩:=hi2;simp only[List.mem_cons,List.not_mem_nil,or_false] at hb';rcases hb' with rfl | rfl | rfl | rfl | rfl
   ·exact zo
   ·exact⟨_,hTI'⟩
   ·exact to
   ·exact⟨_,e1⟩
   ·exact⟨_,e2⟩
  rcases hzz with ⟨rfl,hz',a,b,hTO'⟩ | ⟨t,r,f,rfl,hzf⟩
  ·refine wpAny_pyNext_zip_item Z hz' hTI' hTO' hi1 hi2 LA LB (x:=u) (y:=v) (by simpa using hu) (by simpa using hv) fun h' a1 a2 a3 a4 a5 a6 hk=>?_;exact step i H' [] c s' h' _ _ u v I' hl hHS hS sm hts hal nf (exb ⟨_,hz'⟩ ⟨_,hTO'⟩) hTI' hx hy ru rv (fun b o hb' e=>by
    simp only[List.mem_cons,List.not_mem_nil,or_false,not_or] at hb';exact hk b o hb'.1 hb'.2.1 hb'.2.2.1 hb'.2.2.2 e) ⟨_,a2⟩ a5 a3 a4 ⟨_,[],false,rfl,a1⟩
  ·obtain⟨ot,et⟩:=alive I' (hal t List.mem_cons_self).1;refine A1 Z hzf hTI' et hi1 hi2 LA LB (x:=u) (y:=v) (by simpa using hu) (by simpa using hv) fun h' a1 a2 a3 a4 hk=>?_;exact step i H' (t::r) c s' h' _ _ u v I' hl hHS hS sm hts hal nf (exb ⟨_,hzf⟩ toEx) hTI' hx hy ru rv (fun b o hb' e=>by
    simp only[List.mem_cons,List.not_mem_nil,or_false,not_or] at hb';exact hk b o hb'.1 hb'.2.2.1 hb'.2.2.2 e) (by obtain⟨o,e⟩:=toEx;exact⟨o,hk TO o D.TOz D.TOi1 D.TOi2 e⟩) a4 a2 a3 ⟨t,r++[_],true,rfl,a1⟩
 ·obtain⟨H',ts,c,I',rfl,hl,hHS,hS,sm,hts,hal,nf,toEx,hTI',hi1,hi2,hzz⟩:=h;have Z:=apart H' sm nf;obtain⟨ia,na,ra,ea,_⟩:=I'.lst (sm _ _ ha);obtain⟨ib,nb,rb,eb,_⟩:=I'.lst (sm _ _ hb);have LA:s'.heap.IsList l1 ia.toArray:=⟨_,ea,rfl,_,rfl⟩;have LB:s'.heap.IsList l2 ib.toArray:=⟨_,eb,rfl,_,rfl⟩;have la:=ra.length;have lb:=rb.length;have hend:ia.toArray[min xs.length ys.length]?=none\/ib.toArray[min xs.length ys.length]?=none:=by
   by_cases hle:xs.length<=ys.length
   ·left;simp;lia
   ·right;simp;lia
  have fin:∀ h',(∀ b o,b∉[z,TO,i1,i2]->s'.heap.get? b=some o->h'.get? b=some o)->wants (fun r s₂=>r=.none/\EP X pins σ Q (.ref S) s₂) E (.ok (.ret .none)) { s' with heap:=h' }:=fun h' hk=>by
   have I4:Inv X pins σ H' { s' with heap:=h' }:=I'.moved (t':=s'.toks) (chOk nf) hk;have hS4:h'.get? S=some (bL (ts.map Value.ref) c):=hk S _ (fun hm=>by
    simp only[List.mem_cons,List.not_mem_nil,or_false] at hm;rcases hm with e | e | e | e
    ·exact nS z (by simp) e.symm
    ·exact nS TO (by simp) e.symm
    ·exact nS i1 (by simp) e.symm
    ·exact nS i2 (by simp) e.symm) hS
   have I5:=I4.adopt (fS.heap hHS) hS4 (t9 ts) (by rw[lM0,hl];lia);have sm5:aE H (upd H' S (.lst (ts.map V.ref))):=fun b o e=>by rw[ah (aJ (sm b o e) hHS)];exact sm b o e
   exact⟨rfl,.ref S,_,I5,rfl,q S ts _ fS.1 sm5 ar hl (fun j t x y ht hx hy=>by
    have e:=hts j t x y ht hx hy;rw[ah (aJ e hHS)];exact e) fun t ht=>(hal t ht).2⟩
  rcases hzz with ⟨rfl,hz',a,b,hTO'⟩ | ⟨t,r,f,rfl,hzf⟩
  ·exact wpAny_pyNext_zip_end (I.ok.hd hc) Z hz' hTI' hTO' hi1 hi2 LA LB hend fun h' hk=>⟨rfl,fin h' fun b o hb' e=>by
    simp only[List.mem_cons,List.not_mem_nil,or_false,not_or] at hb';exact hk b o hb'.1 hb'.2.1 hb'.2.2.1 hb'.2.2.2 e⟩
  ·obtain⟨ot,et⟩:=alive I' (hal t List.mem_cons_self).1;exact A0 (I.ok.hd hc) Z hzf hTI' et hi1 hi2 LA LB hend fun h' hk=>⟨rfl,fin h' fun b o hb' e=>by
    simp only[List.mem_cons,List.not_mem_nil,or_false,not_or] at hb';exact hk b o hb'.1 hb'.2.2.1 hb'.2.2.2 e⟩
def wu (t:TA):TE:=fun σ H Q=>t σ H fun vs H1=>∃ (p q:Addr) (xs ys:List V),vs=[.ref p,.ref q]/\H1 p=some (.lst xs)/\H1 q=some (.lst ys)/\min xs.length ys.length < sizeLine/\M1 H1 xs ys Q
theorem yj{a b:Expr}{ta:TA}{p pos2:Pos}(hc:X.calm=true)(hg:Gl X "list")(hm:X.mg "list"=none)(hg2:Gl X "zip")(hm2:X.mg "zip"=none)(ha:PA X [a,b] ta)(hs:autoParam (starEach [a,b] X.env=[(false,eval a X.env),(false,eval b X.env)]) wE)(hs2:autoParam (starEach [b] X.env=[(false,eval b X.env)]) wE)(hs3:autoParam (starEach [Expr.Call (.Name "zip" p2) [a,b] [] pos2] X.env=[(false,eval (.Call (.Name "zip" p2) [a,b] [] pos2) X.env)]) wE) :
  PE X (.Call (.Name "list" p) [.Call (.Name "zip" p2) [a,b] [] pos2] [] pos) (wu ta):=by
 intro pins s σ H Q I h;refine wpAny_Call_Name_kw (jz I hg hm (by decide +kernel:bootBuiltins "list"=some (.type "list")) ?_);refine PyProof.Rows.callWith_type1 ?_ (by rw[hs3];rfl) rfl;rw[hs3];show wpAny _ _ (spliced ((false,eval (.Call (.Name "zip" p2) [a,b] [] pos2) X.env)::backTo pos [])) _ _ s;refine Calls.spliced_cons (Call_ (jz I hg2 hm2 (by decide +kernel:bootBuiltins "zip"=some (.type "zip")) (PyProof.Rows.callWith_type1 (thn (ha pos2 pins s σ H _ I h) fun us s1 ⟨vs,H1,I1,r1,q1⟩=>?_) (by rw[hs,hs2]) (by rw[hs2];rfl))));obtain⟨l1,l2,xs,ys,e,h1,h2,hn,q⟩:=q1;subst e;obtain⟨u,w',rfl,ru,rw'⟩:=vals2 r1;cases ru;cases rw';obtain⟨ia,na,ra,ea,_⟩:=I1.lst h1;obtain⟨ib,nb,rb,eb,_⟩:=I1.lst h2;refine call_zip_2 (xs:=ia.toArray) (ys:=ib.toArray) ⟨_,ea,rfl,_,rfl⟩ ⟨_,eb,rfl,_,rfl⟩ fun h' hz hTI hTO hi1 hi2 hsz hk=>?_;have I2:Inv X pins σ H1 { s1 with heap:=h' }:=I1.kept (t':=s1.toks) hk;have lt:∀ i j:Nat,i < j->s1.heap.objs.size + i≠s1.heap.objs.size + j:=fun i j h e=>by lia
 have D:qK (s1.heap.objs.size + 4) (s1.heap.objs.size + 2) (s1.heap.objs.size + 3) s1.heap.objs.size (s1.heap.objs.size + 1):=
  ⟨lt 2 4 (by decide),lt 3 4 (by decide),lt 0 4 (by decide),lt 1 4 (by decide),lt 2 3 (by decide),(lt 0 2 (by decide)).symm,(lt 1 2 (by decide)).symm,(lt 0 3 (by decide)).symm,(lt 1 3 (by decide)).symm,lt 0 1 (by decide)⟩
 refine Calls.spliced_nil ?_;refine xf D I2 hc (fun b hb=>?_) ⟨hz,hTI,⟨_,_,hTO⟩,hi1,hi2⟩ h1 h2 hn q;have hge:s1.heap.objs.size<=b:=by
  simp only[List.mem_cons,List.not_mem_nil,or_false] at hb;rcases hb with rfl | rfl | rfl | rfl | rfl <;> lia
 exact I1.qv hge (I1.hok.fresh hge)
end
section
variable {x:Str}{p:Pos}
structure Mk0 (K:Fg0) (C:Addr):Prop where
 makes:PySem.W.makesIn K C=true
 init:PySem.W.findIn K (.ref C) "__init__"=some (some (.builtin "object.__init__"))
 kp:PySem.W.keepIn K (.ref C)=true
def zx (C:Addr):TE:=fun _ H Q=>∀ x dx,H x=none->H dx=none->dx≠x->Q (.ref x) (upd (upd H dx (.own x)) x (.ins C dx []))
theorem AV(M:Mk0 X.K C)(hg:Gl X x)(hm:X.mg x=some (.ref C))(hdb:autoParam ((x == ("__debug__":Str))=false) wP):PE X (.Call (.Name x p) [] [] pos) (zx C):=by
 intro pins s σ H Q I h;refine wpAny_Call_Name_kw (eY I hg hm ?_ hdb);refine PySem.W.callWith_K0 I.kIn M.kp (wpAny_call ?_);have hq:=h (s.heap.objs.size + 1) s.heap.objs.size (I.hok.fresh (Nat.le_succ _)) (I.hok.fresh (Nat.le_refl _)) (Nat.ne_of_lt (Nat.lt_succ_self _));have I2:=Inv.made (C:=C) I;have Y:=PySem.W.makes_of (M:=model X.prog X.w) I.kIn M.makes;refine A4 I.kIn M.makes M.init (fun self=>PySem.W.Looks.of_pure (PySem.W.oi_bind self)) ?_;have e2:((s.heap.push PySem.W.emptyDict).push (PySem.W.instObj C s.heap.objs.size)).get? (s.heap.objs.size + 1)=some (PySem.W.instObj C s.heap.objs.size):=by
  have:=Heap.get?_push_size (s.heap.push PySem.W.emptyDict) (o:=PySem.W.instObj C s.heap.objs.size) rfl
  rwa [Heap.size_push] at this
 have t1:PySem.W.Looks (model X.prog X.w) ((s.heap.push PySem.W.emptyDict).push (PySem.W.instObj C s.heap.objs.size)) (typeOf (.ref (s.heap.objs.size + 1))) (.ref C):=(PySem.W.Looks.ld e2).andThen .now;have t2:PySem.W.Looks (model X.prog X.w) ((s.heap.push PySem.W.emptyDict).push (PySem.W.instObj C s.heap.objs.size)) (isInstance (.ref (s.heap.objs.size + 1)) (.type "object")) true:=t1.andThen (Y.top.keeps fun b o e=>Heap.get?_push_of_some _ (Heap.get?_push_of_some _ e));refine codeAny_call_builtin PySem.W.oi_plain PySem.W.entry_oi (@PySem.W.check_slot (model X.prog X.w) _ _ _ "object.__init__" "object" "__init__" (.ref (s.heap.objs.size + 1)) [] [] _ PySem.W.oi_kind PySem.W.oi_split t2 (PySem.W.oi_args (.ref (s.heap.objs.size + 1))) ?_);rw[PySem.W.oi_run];exact wpAny_pure (And.intro rfl ⟨V.ref (s.heap.objs.size + 1),_,I2,rfl,hq⟩)
end
noncomputable def sgn (c:Nat):Str:=⟨#[c]⟩
noncomputable def Its (x:Str):It:=⟨fun i _=>i < x.cps.size,fun i H v H'=>H'=H/\∃ c,x.cps[i]?=some c/\v=.str (sgn c),fun i _=>x.cps.size<=i⟩
theorem BS(it:Addr)(x:Str)(t:Tok):Turn P w K tg (Its x) [it] it (fun i h=>h.IsStrIter it "str_ascii_iterator" x t i) where
 mem:=by simp
 obj:=fun i h st b hb=>by
  obtain rfl:b=it:=by simpa using hb
  obtain⟨o,e,c,d⟩:=st;exact⟨o,e,fun v z=>by rw[d] at z;cases z⟩
 keep:=fun i h h' st k=>let ⟨o,e,r⟩:=st;⟨o,k it (by simp) o e,r⟩
 item:=by
  intro X hP hw hK hc i pins s σ H E I hf st hg;subst hP hw hK;obtain⟨f0,f1,f2,f3,f4,f5⟩:=hf it (by simp);have hg':i < x.cps.size:=hg;refine wpAny_pyNext_ascii_item st (c:=x.cps[i]) (by simp [hg']) fun h' st' sb=>?_;have I1:Inv X pins σ H { s with heap:=h',toks:=s.toks + 1 }:=I.turned (fun b o hb e=>(sb.2 b hb).trans e) f0 f1 f3 f4 f5;obtain⟨o,e,c,d⟩:=id st';exact⟨_,rfl,z9 (s:={ s with heap:=h',toks:=s.toks + 1 }) e c d (by decide) ⟨.str (sgn x.cps[i]),H,I1,⟨_,rfl⟩,⟨rfl,_,by simp [hg'],rfl⟩,st',fun b hb=>(hf b hb).1⟩⟩
 done:=by
  intro X hP hw hK hc i pins s σ H E I hf st hg;subst hP hw hK;obtain⟨f0,f1,f2,f3,f4,f5⟩:=hf it (by simp);have hg':x.cps.size<=i:=hg;exact wpAny_pyNext_ascii_end (I.ok.hd hc) st (by simpa using hg') fun h' eb=>⟨rfl,I.turned (t':=s.toks) (fun b o hb e=>eb b o hb e) f0 f1 f3 f4 f5⟩
 self:=fun _ _ _ _ _ st h=>wpAny_pyIter_striter_ascii st h
def Md (tl:TE):TI:=fun σ H R=>tl σ H fun x H1=>∃ z,x=.str z/\z.cps.all (· < 128)=true/\R (Its z) H1
theorem IW{l:Expr}{tl:TE}(hl:PE X l tl):PI X tg l (Md tl):=by
 intro pins s σ H R I h;refine thn (hl pins s σ H _ I h) fun v s1 Z=>?_;obtain⟨x,H1,I1,r1,q1⟩:=Z;obtain⟨z,rfl,ha,q⟩:=q1;obtain⟨t,rfl⟩:=r1;refine wpAny_pyIter_ascii ha ?_;refine⟨s1.heap.objs.size,[s1.heap.objs.size],_,_,H1,rfl,I1.kept (t':=s1.toks) fun b o e=>Heap.get?_push_of_some _ e,BS _ z t,⟨_,Heap.get?_push_size _ rfl,rfl,rfl⟩,fun b hb=>?_,q⟩;obtain rfl:b=s1.heap.objs.size:=by simpa using hb
 exact I1.qv (Nat.le_refl _) (I1.hok.fresh (Nat.le_refl _))
structure TyS (K:Fg0):Prop where
 bs:PySem.W.kitOne K (.type "bool") (.type "str")=some false
 is:PySem.W.kitOne K (.type "int") (.type "str")=some false
 ns:PySem.W.kitOne K (.type "NoneType") (.type "str")=some false
 ss:PySem.W.kitOne K (.type "str") (.type "str")=some true
 ls:PySem.W.kitOne K (.type "list") (.type "str")=some false
 ts:PySem.W.kitOne K (.type "tuple") (.type "str")=some false
 ds:PySem.W.kitOne K (.type "dict") (.type "str")=some false
noncomputable def isS:V->Bool
 | .str _=>true
 | _=>false
theorem D4(F:TyS X.K):bS X (.builtin "isinstance") (fun xs H Q=>∃ x,xs=[x,.ty "str"]/\Kn H x/\Q (.bl (isS x)) H):=by
 intro pins s σ H xs us Q I r h;obtain⟨x,rfl,k,q⟩:=h;cases k with
 | non=>exact ay I r .non F.ns rfl q
 | bl b=>exact ay I r (.bl b) F.bs rfl q
 | int i=>exact ay I r (.int i) F.is rfl q
 | str y=>exact ay I r (.str y) F.ss rfl q
 | lst e=>exact ay I r (.lst e) F.ls rfl q
 | tup e=>exact ay I r (.tup e) F.ts rfl q
 | dK e=>exact ay I r (.dK e) F.ds rfl q
structure ExcAt (n:Nat) (H:Hp) (h:Heap) (e:Addr) (cls:Value) (dx:Option Addr):Prop where
 ge:n<=e
 free:H e=none
 rcd:∃ oe vs,h.get? e=some oe/\oe.cls=cls/\oe.dict=dx/\oe.data=.fields vs/\1 < vs.size/\
  (vs[1]?=some .none\/∃ T oT ts,vs[1]?=some (.ref T)/\n<=T/\T≠e/\H T=none/\h.get? T=some oT/\oT.data=.fields ts/\ts[3]?=some .none)
structure Lv (n:Nat) (H:Hp) (fs:La0) (h h':Heap):Prop where
 keep:∀ b o,h.get? b=some o->b∉fs->(b < n\/H b≠none)->h'.get? b=some o
 slot:∀ b o,h.get? b=some o->b∈fs->∃ sl,h'.get? b=some { o with slots:=sl }
 there:∀ b o,h.get? b=some o->∃ o',h'.get? b=some o'
theorem Lv.trans{fs:La0}{h1 h2:Heap}(x:Lv n H fs h h1)(y:Lv n H fs h1 h2):Lv n H fs h h2 where
 keep:=fun b o q nf hb=>y.keep b o (x.keep b o q nf hb) nf hb
 slot:=fun b o q hb=>by
  obtain⟨sl,q1⟩:=x.slot b o q hb;obtain⟨sl2,q2⟩:=y.slot b _ q1 hb;exact⟨sl2,q2⟩
 there:=fun b o q=>let ⟨_,q1⟩:=x.there b o q;y.there b _ q1
theorem xB{vs:Array Value}{head:Value}{hadNext:Bool}{Q:Unit->Shared->Prop}(hfr:A.frames=some (env::outer))(hl:s.heap.FunFrames base (env::outer))(hf:env.frame=some L)(hn:n<=s.heap.objs.size)(hH:∀ b,s.heap.objs.size<=b->H b=none)(ge:n<=e)(fr:H e=none)(he:s.heap.get? e=some oe)(hc:oe.cls=cls)(hx:oe.dict=dx)(hd:oe.data=.fields vs)(hz:1 < vs.size)(h:∀ h',Lv n H (frs (env::outer)) s.heap h'->ExcAt n H h' e cls dx->h'.FunFrames base (env::outer)->Q () { s with heap:=h' }) :
  wpAny M A (frameOf env >>= fun fo=>entryPlaceOf L hadNext >>= fun place=>EntryCells.newEntry head fo .none (rawInt L) .none place >>= setField (.ref e) 1) (fun _ s'=>wpAny M A (setFlight (.ref e) none) Q E s') E s:=by
 have ef:e∉frs (env::outer):=fun m=>by
  obtain⟨_,o,ho,nf⟩:=hl.mem m;rw[he] at ho;cases ho;exact nf vs hd
 refine wpAny_bind (wpAny_frameOf_fun hfr hl hf fun h1 so=>wpAny_bind (wpAny_entryPlaceOf fun pl hpl=>?_));unfold EntryCells.newEntry newFields;have fits:=hpl.sizeOk5 head (.ref L) .none (rawInt L) .none;refine wpAny_bind (wpAny_newObj_type ?_ fits);generalize hob:({ cls:=.type "traceback",dict:=none,data:=.fields ([head,.ref L,.none,rawInt L,.none]++(if pl.isEmpty then List.replicate 6 Value.none else pl)).toArray }:Obj)=ob;have hbd:ob.data=.fields ([head,.ref L,.none,rawInt L,.none]++(if pl.isEmpty then List.replicate 6 Value.none else pl)).toArray:=by rw[<- hob]
 have bf:ob.isFreed=false:=by rw[<- hob];rfl
 have e1:h1.get? e=some oe:=(so.2.1 e ef).trans he;have e2:=Heap.get?_push_of_some (h:=h1) ob e1;refine wpAny_setField e2 hd hz ?_;have ne:h1.objs.size≠e:=Nat.ne_of_gt (Heap.lt_size e1);have d3:=Obj.data_mapFields hd (·.setIfInBounds 1 (Value.ref h1.objs.size));have e3:=Heap.get?_update_self (Obj.mapFields (·.setIfInBounds 1 (Value.ref h1.objs.size))) e2 (Obj.isFreed_of_fields d3);have t3:=(Heap.get?_update_other (h1.push ob) (Obj.mapFields (·.setIfInBounds 1 (Value.ref h1.objs.size))) (Ne.symm ne)).trans (Heap.get?_push_size h1 bf);unfold setFlight;refine wpAny_bind (wpAny_field e3 d3 (x:=.ref h1.objs.size) (by simp [hz]) ?_);rw[if_pos (show (Value.ref h1.objs.size != Value.none)=true by simp)];have tz:3 < ([head,.ref L,.none,rawInt L,.none]++(if pl.isEmpty then List.replicate 6 Value.none else pl)).toArray.size:=by
  simp only[List.size_toArray,List.length_append,List.length_cons,List.length_nil];lia
 refine wpAny_setField t3 hbd tz (h _ ⟨fun b o q nf hb=>?_,fun b o q hb=>?_,fun b o q=>?_⟩ ⟨ge,fr,?_⟩ ?_)
 ·have q1:h1.get? b=some o:=(so.2.1 b nf).trans q;have nt:h1.objs.size≠b:=Nat.ne_of_gt (Heap.lt_size q1);have nb:e≠b:=fun z=>by
   subst z;rcases hb with w | w
   ·exact Nat.lt_irrefl _ (Nat.lt_of_lt_of_le w ge)
   ·exact w fr
  rw[Heap.get?_update_other _ _ nt,Heap.get?_update_other _ _ nb];exact Heap.get?_push_of_some _ q1
 ·obtain⟨sl,q1⟩:=so.2.2 b o q;have nt:h1.objs.size≠b:=Nat.ne_of_gt (Heap.lt_size q1);have nb:e≠b:=fun z=>ef (by rw[z];exact hb);refine⟨sl,?_⟩;rw[Heap.get?_update_other _ _ nt,Heap.get?_update_other _ _ nb];exact Heap.get?_push_of_some _ q1
 ·obtain⟨sl,q1⟩:=so.2.2 b o q;have nt:h1.objs.size≠b:=Nat.ne_of_gt (Heap.lt_size q1);by_cases z:b=e
  ·subst z;exact⟨_,by rw[Heap.get?_update_other _ _ nt];exact e3⟩
  ·exact⟨_,by rw[Heap.get?_update_other _ _ nt,Heap.get?_update_other _ _ (Ne.symm z)];exact Heap.get?_push_of_some _ q1⟩
 ·have t4:=Heap.get?_update_self (Obj.mapFields (·.setIfInBounds 3 ((none:Option Addr).elim Value.none fun f=>rawInt f))) t3 (Obj.isFreed_of_fields (Obj.data_mapFields hbd _));refine⟨_,_,by rw[Heap.get?_update_other _ _ ne];exact e3,by rw[Obj.cls_mapFields];exact hc,?_,d3,by simpa using hz,.inr ⟨h1.objs.size,_,_,by simp [hz],by rw[so.1];exact hn,ne,hH _ (by rw[so.1];exact Nat.le_refl _),t4,Obj.data_mapFields hbd _,?_⟩⟩
  ·rw[<- hx];obtain⟨c0,d0,dt0,s0⟩:=oe;cases dt0 <;> rfl
  ·rw[Array.getElem?_setIfInBounds_self_of_lt tz];rfl
 ·refine hl.of_keeps fun b o q nf=>?_;obtain⟨sl,q1⟩:=so.2.2 b o q;have nt:h1.objs.size≠b:=Nat.ne_of_gt (Heap.lt_size q1);have nb:e≠b:=fun z=>by
   subst z;rw[he] at q;cases q;exact nf vs hd
  exact⟨{ o with slots:=sl },by rw[Heap.get?_update_other _ _ nt,Heap.get?_update_other _ _ nb];exact Heap.get?_push_of_some _ q1,rfl⟩
theorem xi{Q:Unit->Shared->Prop}(hfr:A.frames=some (env::outer))(hl:s.heap.FunFrames base (env::outer))(hf:env.frame=some L)(hn:n<=s.heap.objs.size)(hH:∀ b,s.heap.objs.size<=b->H b=none)(x:ExcAt n H s.heap e cls dx)(h:∀ h',Lv n H (frs (env::outer)) s.heap h'->ExcAt n H h' e cls dx->h'.FunFrames base (env::outer)->Q () { s with heap:=h' }):wpAny M A (noteFrame (.ref e) env) (fun _ s'=>wpAny M A (setFlight (.ref e) none) Q E s') E s:=by
 obtain⟨ge,fr,oe,vs,he,hc,hx,hd,hz,tb⟩:=x;rcases tb with h1 | ⟨T,oT,ts,h1,gT,nT,fT,hT,hdT,h3⟩
 ·unfold noteFrame;simp only[hf];refine wpAny_bind (wpAny_field he hd h1 ?_);rw[if_neg (by decide)];exact xB hfr hl hf hn hH ge fr he hc hx hd hz h
 ·unfold noteFrame;simp only[hf];refine wpAny_bind (wpAny_field he hd h1 ?_);rw[if_pos (show (Value.ref T != Value.none)=true by simp)];refine wpAny_bind (wpAny_field hT hdT h3 ?_);rw[if_neg (show ¬ ((Value.none == rawInt L)=true) by simp [rawInt])];have three:=(Array.getElem?_eq_some_iff.mp h3).1;refine wpAny_bind (wpAny_setField hT hdT three ?_);have ot:∀ b,b≠T->(s.heap.update T (Obj.mapFields (·.setIfInBounds 3 Value.none))).get? b=s.heap.get? b:=fun b hb=>Heap.get?_update_other _ _ (Ne.symm hb);have tT:=Heap.get?_update_self (Obj.mapFields (·.setIfInBounds 3 Value.none)) hT (Obj.isFreed_of_fields (Obj.data_mapFields hdT _));have nr:∀ b o,s.heap.get? b=some o->(∀ vs,o.data≠.fields vs)->b≠T:=fun b o hb nf z=>by
   rw[z,hT] at hb;cases hb;exact nf ts hdT
  have sz:(s.heap.update T (Obj.mapFields (·.setIfInBounds 3 Value.none))).objs.size=s.heap.objs.size:=Heap.size_after_update ..;have fT':T∉frs (env::outer):=fun m=>by
   obtain⟨_,o,ho,nf⟩:=hl.mem m;rw[hT] at ho;cases ho;exact nf ts hdT
  refine xB (s:={ s with heap:=s.heap.update T (Obj.mapFields (·.setIfInBounds 3 Value.none)) }) hfr (hl.of_keeps fun b o hb nf=>⟨o,(ot b (nr b o hb nf)).trans hb,rfl⟩) hf (by show n<=_;rw[sz];exact hn) (fun b hb=>hH b (by have hb:_<=b:=hb;rw[sz] at hb;exact hb)) ge fr ((ot e (Ne.symm nT)).trans he) hc hx hd hz fun h' lv ex ff=>h h' ?_ ex ff;refine Lv.trans (h1:=s.heap.update T (Obj.mapFields (·.setIfInBounds 3 Value.none))) ⟨fun b o q nf hb=>(ot b fun z=>?_).trans q,fun b o q hb=>⟨o.slots,(ot b fun z=>fT' (by rw[<- z];exact hb)).trans q⟩,fun b o q=>?_⟩ lv
  ·subst z;rcases hb with w | w
   ·exact Nat.lt_irrefl _ (Nat.lt_of_lt_of_le w gT)
   ·exact w fT
  ·by_cases z:b=T
   ·subst z;exact⟨_,tT⟩
   ·exact⟨o,(ot b z).trans q⟩
theorem Dq{Q:Unit->Shared->Prop}(hfr:A.frames=some (env::outer))(hl:s.heap.FunFrames base (env::outer))(hf:env.frame=some L)(hn:n<=s.heap.objs.size)(hH:∀ b,s.heap.objs.size<=b->H b=none)(x:ExcAt n H s.heap e cls dx)(h:∀ h',Lv n H (frs (env::outer)) s.heap h'->ExcAt n H h' e cls dx->h'.FunFrames base (env::outer)->Q () { s with heap:=h' }):wpAny M A (leaving env (.ref e)) Q E s:=by
 unfold leaving;exact wpAny_bind (xi hfr hl hf hn hH x h)
def CX1 (P:Program) (w:World) (base:Heap):CXT:=fun outer H s E ev s'=>∃ e cls dx H',ev=.ref e/\s'.os=s.os/\AllBare s'.gens/\Un (frs outer) [] H H' s.heap s'.heap/\HOk P w H' s'.heap/\s'.heap.FunFrames base outer/\ExcAt s.heap.objs.size H' s'.heap e cls dx/\E cls dx H'
section
variable {E:XK}
theorem BH{CX:CXT}{pins:Pn}{s1:Shared}(I:Inv (j1 (CX1 P w base) P w K mg base N qual scope f cd A outer s H E) pins σ H1 s1)(os:s'.os=s1.os)(bare:AllBare s'.gens)(un:Un (frs (envOfC qual scope s.heap.objs.size f cd::outer)) [] H1 H' s1.heap s'.heap)(hok:HOk P w H' s'.heap)(ff:s'.heap.FunFrames base (envOfC qual scope s.heap.objs.size f cd::outer))(x':ExcAt s.heap.objs.size H' s'.heap e cls dx)(hE:E cls dx H') :
  (j1 (CX1 P w base) P w K mg base N qual scope f cd A outer s H E).xe (.ref e) s':=by
 have sz1:s.heap.objs.size<=s1.heap.objs.size:=I.sz;have hL:(envOfC qual scope s.heap.objs.size f cd).frame=some s.heap.objs.size:=rfl;have fr':∀ b,b∈frs (envOfC qual scope s.heap.objs.size f cd::outer)->b=s.heap.objs.size\/b∈frs outer:=fun b hb=>by
  have hb:b∈s.heap.objs.size::frs outer:=hb;exact List.mem_cons.mp hb
 have old:∀ b o,s.heap.get? b=some o->b < s.heap.objs.size:=fun b o q=>Heap.lt_size q;have Lnot:∀ b,b < s.heap.objs.size->b∉frs outer->b∉frs (envOfC qual scope s.heap.objs.size f cd::outer):=fun b lt nf m=>by
  rcases fr' b m with z | z
  ·rw[z] at lt;exact Nat.lt_irrefl _ lt
  ·exact nf z
 have base1:Un (frs outer) [] H H1 s.heap s1.heap:=I.base;have hfree:∀ b,b∈frs (envOfC qual scope s.heap.objs.size f cd::outer)->H' b=none:=fun b hb=>by
  have n1:H1 b=none:=by
   rcases fr' b hb with z | z
   ·subst z;exact I.free
   ·obtain⟨_,o,ho,_⟩:=I.ok.i6.mem z;exact base1.free b o ho (I.ok.frf b z) (by simp)
  obtain⟨_,o,ho,_⟩:=ff.mem hb;have:∃ o1,s1.heap.get? b=some o1:=by
   rcases fr' b hb with z | z
   ·obtain⟨m,⟨o1,_,_,ho1,_⟩,_⟩:=I.loc;exact⟨o1,by rw[z];exact ho1⟩
   ·obtain⟨_,o,ho,_⟩:=I.ok.i6.mem z;exact base1.there b o ho (by simp)
  obtain⟨o1,ho1⟩:=this;exact un.free b o1 ho1 n1 (by simp)
 have sz2:s.heap.objs.size<=s'.heap.objs.size:=by
  obtain⟨m,⟨o1,_,_,ho1,_⟩,_⟩:=I.loc;obtain⟨o2,ho2⟩:=un.there _ o1 ho1 (by simp);exact Nat.le_of_lt (Heap.lt_size (a:=s.heap.objs.size) ho2)
 refine Dq (n:=s.heap.objs.size) I.ok.frames ff hL sz2 (fun b hb=>hok.fresh hb) x' fun h' lv ex ff'=>⟨e,cls,dx,H',rfl,os.trans I.os,bare,?_,?_,ff'.2.2,ex,hE⟩
 ·have k1:∀ b o,s.heap.get? b=some o->H b=none->b∉frs outer->s'.heap.get? b=some o/\H' b=none:=fun b o q nn nf=>by
   have q1:=base1.keep b o q nn nf (by simp);have n1:=base1.free b o q nn (by simp);exact⟨un.keep b o q1 n1 (Lnot b (old b o q) nf) (by simp),un.free b o q1 n1 (by simp)⟩
  refine⟨fun b o q nn nf _=>?_,fun b o q nn hb _=>?_,fun b o q nn _=>?_,fun b o q _=>?_,fun b xs q=>un.tups b xs (base1.tups b xs q),fun b o u q=>un.i7 b o u (base1.i7 b o u q),fun b ps q=>?_⟩
  ·exact lv.keep b o (k1 b o q nn nf).1 (Lnot b (old b o q) nf) (.inl (old b o q))
  ·obtain⟨sl,q1⟩:=base1.slot b o q nn hb (by simp);have n1:=base1.free b o q nn (by simp);have hb':b∈frs (envOfC qual scope s.heap.objs.size f cd::outer):=List.mem_cons_of_mem s.heap.objs.size hb;obtain⟨sl2,q2⟩:=un.slot b _ q1 n1 hb' (by simp);obtain⟨sl3,q3⟩:=lv.slot b _ q2 hb';exact⟨sl3,q3⟩
  ·obtain⟨o1,q1⟩:=base1.there b o q (by simp);exact un.free b o1 q1 (base1.free b o q nn (by simp)) (by simp)
  ·obtain⟨o1,q1⟩:=base1.there b o q (by simp);obtain⟨o2,q2⟩:=un.there b o1 q1 (by simp);exact lv.there b o2 q2
  ·obtain⟨m1,q1⟩:=base1.tbls b ps q;obtain⟨m2,q2⟩:=un.tbls b _ q1;exact⟨m1++m2,by rw[q2,Array.append_assoc]⟩
 ·intro b o q;refine(hok b o q).lK (fun c u hc g=>?_) (fun _ z=>z) fun _ _ z=>z;have hn:H' c≠none:=by
   rcases hc with z | z
   ·rw[z,q];simp
   ·rw[z];simp
  exact lv.keep c u g (fun m=>hn (hfree c m)) (.inr hn)
theorem K0{CX:CXT}{pins:Pn}{s1:Shared}(I:Inv (j1 (CX1 P w base) P w K mg base N qual scope f cd A outer s H E) pins σ H1 s1)(os:s'.os=s1.os)(bare:AllBare s'.gens)(un:Un (frs (envOfC qual scope s.heap.objs.size f cd::outer)) [] H1 H' s1.heap s'.heap)(hok:HOk P w H' s'.heap)(ff:s'.heap.FunFrames base (envOfC qual scope s.heap.objs.size f cd::outer))(x:ExcAt s1.heap.objs.size H' s'.heap e cls dx)(hE:E cls dx H') :
  (j1 (CX1 P w base) P w K mg base N qual scope f cd A outer s H E).xe (.ref e) s':=by
 have sz1:s.heap.objs.size<=s1.heap.objs.size:=I.sz;have x':ExcAt s.heap.objs.size H' s'.heap e cls dx:=by
  obtain⟨ge,fr,oe,vs,h1,h2,h3,h4,h5,tb⟩:=x;refine⟨Nat.le_trans sz1 ge,fr,oe,vs,h1,h2,h3,h4,h5,tb.imp id ?_⟩;rintro⟨T,oT,ts,a1,a2,a3⟩;exact⟨T,oT,ts,a1,Nat.le_trans sz1 a2,a3⟩
 exact BH (CX:=CX) I os bare un hok ff x' hE
theorem zJ:Passes (CX1 P w base) (j1 (CX1 P w base) P w K mg base N qual scope f cd A outer s H E) E:=fun pins σ H1 s1 ev s' I h=>by
 obtain⟨e,cls,dx,H',rfl,os,bare,un,hok,ff,x,hE⟩:=h;exact K0 (CX:=CX0) I os bare un hok ff x hE
end
open PySem PySem.Spec PyProof.Rows PySem.W
noncomputable def gz (K:Frag) (C:Addr) (B newId:String):Bool:=match K.lookup C with
 | some ⟨oc,_,.cls cd,sl⟩=>oc == .type "type" && !cd.hasDel && (sl.toList[4]?).join == some (.builtin newId) && !cd.mro.isEmpty && cd.mro.contains (.ref C) && cd.mro.contains (.type B) && !cd.mro.contains (.type "AttributeError") && !cd.mro.contains (.type "NameError") &&
   cd.mro.contains (.type "BaseException") && specialIn K (.ref C) "__call__" == some (some (.builtin "type.__call__")) && instIn K (.ref C) (.type "type") == some true
 | _=>false
structure eD (M:Model) (h:Heap) (C:Addr) (B newId:String):Prop where
 obj:∃ oc od cd sl,h.get? C=some ⟨oc,od,.cls cd,sl⟩/\oc=.type "type"/\cd.hasDel=false/\cd.mro.isEmpty=false
 made:Looks M h (Bind.madeBy (.ref C)) (some newId)
 base:Looks M h (Bind.staticBase (.ref C)) (.ref C)
 under:∀ b r,(b,r)∈[(Value.ref C,true),(.type B,true),(.type "BaseException",true),(.type "AttributeError",false),(.type "NameError",false)]->Looks M h (isSubtype (.ref C) b) r
 dunder:Looks M h (specialOf (.ref C) ("__call__":Str)) (some (Value.builtin "type.__call__"))
 isTy:Looks M h (isInstance (.ref C) (.type "type")) true
theorem oJ{K:Frag}(X:K.In h)(e:gz K C B newId=true):eD M h C B newId:=by
 unfold gz at e;split at e
 case h_2=>cases e
 rename_i oc od cd sl ho;rw[Bool.and_eq_true,Bool.and_eq_true,Bool.and_eq_true,Bool.and_eq_true,Bool.and_eq_true,Bool.and_eq_true,Bool.and_eq_true,Bool.and_eq_true,Bool.and_eq_true,Bool.and_eq_true] at e;obtain⟨⟨⟨⟨⟨⟨⟨⟨⟨⟨e1,e2⟩,e3⟩,e4⟩,e5⟩,e6⟩,eA⟩,eN⟩,eB⟩,e7⟩,e8⟩:=e;have full:cd.mro.isEmpty=false:=by simpa using e4
 have there:clsIn K C=some cd:=by unfold clsIn;rw[ho]
 have line:Looks M h (mroOf (.ref C)) cd.mro:=Looks.andThen (looks_clsIn X there) .now;have four:sl[4]?.join=some (.builtin newId):=by simpa using e3
 have maker:Looks M h (Bind.madeBy (.ref C)) (some newId):=fun A Q E s k q=>by
  have hC:=k C _ (X C _ ho);obtain⟨h2,g,d,t,os⟩:=s;unfold Bind.madeBy;refine wpAny_bind (line A _ E _ k ?_)
  match hm:cd.mro with
  | []=>rw[hm] at full;cases full
  | c::l=>
   rw[List.forIn_cons];have slot:∀ {Q':Option Value->Shared->Prop},Q' (some (.builtin newId)) ⟨h2,g,d,t,os⟩->wpAny M A (slotAt C 4) Q' E ⟨h2,g,d,t,os⟩:=fun {Q'} z=>by
    rw[<- four] at z;exact wpAny_bind (wpAny_loadPart_at hC (wpAny_pure z))
   refine wpAny_bind (wpAny_bind (wpAny_bind (slot ?_)))
   repeat (with_reducible refine wpAny_pure ?_)
   exact q
 have stat:Looks M h (Bind.staticBase (.ref C)) (.ref C):=fun A Q E s k q=>by
  unfold Bind.staticBase;refine wpAny_bind (line A _ E s k ?_)
  match hm:cd.mro with
  | []=>rw[hm] at full;cases full
  | c::l=>
   rw[List.forIn_cons];refine wpAny_bind (wpAny_bind (wpAny_bind (maker A _ E s k ?_)));rw[if_pos (show (some newId).isSome=true from rfl)]
   repeat (with_reducible refine wpAny_pure ?_)
   exact q
 have sub:∀ b r,cd.mro.contains b=r->Looks M h (isSubtype (.ref C) b) r:=fun b r q=>looks_mroIn X (by rw[mroIn,there,Option.bind_some,full,q];rfl);refine⟨⟨oc,od,cd,sl,X C _ ho,by simpa using e1,by simpa using e2,full⟩,maker,stat,fun b r hb=>sub b r ?_,looks_specialIn X (by simpa using e7),looks_instIn X (by simpa using e8)⟩;simp only[List.mem_cons,Prod.mk.injEq,List.not_mem_nil,or_false] at hb;rcases hb with ⟨rfl,rfl⟩ | ⟨rfl,rfl⟩ | ⟨rfl,rfl⟩ | ⟨rfl,rfl⟩ | ⟨rfl,rfl⟩
 ·exact e5
 ·exact e6
 ·exact eB
 ·simpa using eA
 ·simpa using eN
theorem eD.self(y:eD M h C B newId):Looks M h (isSubtype (.ref C) (.ref C)) true:=y.under _ _ (by simp)
theorem eD.top(y:eD M h C B newId):Looks M h (isSubtype (.ref C) (.type B)) true:=y.under _ _ (by simp)
theorem eD.exc(y:eD M h C B newId):Looks M h (isSubtype (.ref C) (.type "BaseException")) true:=y.under _ _ (by simp)
theorem eD.noA(y:eD M h C B newId):Looks M h (isSubtype (.ref C) (.type "AttributeError")) false:=y.under _ _ (by simp)
theorem eD.noN(y:eD M h C B newId):Looks M h (isSubtype (.ref C) (.type "NameError")) false:=y.under _ _ (by simp)
noncomputable abbrev gn (vs:Lv0):Obj:={ cls:=.type "tuple",data:=.seq vs.toArray }
noncomputable abbrev jE (C t:Addr):Obj:={ cls:=.ref C,data:=.fields #[.ref t,.none,.none,.none,.bool false,.none] }
theorem K2(C:Addr)(rest:Lv0):Bind.checkArgs "ValueError.__new__" ⟨.any,"ValueError","ValueError",.cls,[⟨"args",.varPos,false⟩,⟨"kwargs",.varKw,false⟩]⟩ ⟨.ref C::rest,[]⟩=pure ():=by kernel_rfl
section
variable {K:Frag}{g:Array GenState}{d:Drawn}{t:Nat}{os:OsState}
theorem Nd{rest:Lv0}(Y:eD (model prog w) h C "ValueError" "ValueError.__new__")(hz:rest.length<=sizeLine)(hq:R (.ok (.ret (.ref (h.objs.size + 1)))) ⟨(h.push (gn rest)).push (jE C h.objs.size),g,d,t,os⟩) :
  codeAny (model prog w) A (.call (.builtin "ValueError.__new__") ⟨.ref C::rest,[]⟩) R ⟨h,g,d,t,os⟩:=by
 have top:=Y.top;have noA:=Y.noA;have noN:=Y.noN;have self:=Y.self;obtain⟨⟨oc,od,cd,sl,hC,e1,e2,e4⟩,made,base,_,dunder,isTy⟩:=Y;have F:=PySem.F.excBase_ValueError;have hends:=F.ends;have here:Looks (model prog w) h (Bind.madeHere "ValueError.__new__" (.ref C)) ():=base.andThen (made.andThen (Looks.of_pure (by simp only[Option.map_some,bne_self_eq_false,Bool.false_eq_true,if_false])));have here2:Looks (model prog w) h (Bind.madeHere "BaseException.__new__" (.ref C)) ():=base.andThen (made.andThen (Looks.of_pure (by simp only[Option.map_some,F.canon,bne_self_eq_false,Bool.false_eq_true,if_false])));have calm:(Code.builtin "ValueError.__new__" ⟨.ref C::rest,[]⟩).quiet=true:=Code.quiet_builtin _ F.quiet;refine codeAny_call_builtin_code calm ?_;unfold checkBuiltinCall;simp only[F.newRow,F.newSplit,F.newKind,K2]
 repeat (first | lk | simp only[bne_self_eq_false,if_false,Bool.false_eq_true])
 refine codeAny_builtinAt F.entry ?_;unfold Builtin.«BaseException.__new__»;refine PySem.wpAt_bind ?_;show PySem.wpAt _ _ _ (stack >>= _) _ _ _;refine PySem.wpAt_bind (PySem.wpAt_stack fun p below=>PySem.wpAt_of_wpAny ?_)
 wp_walk
 refine PySem.wpAt_of_wpAny ?_;rw[F.owner]
 repeat (first | simp only[bne_self_eq_false,Bool.false_eq_true,if_false] | lk | wp_step)
 refine wpAny_load (Heap.get?_push_of_some _ (Heap.get?_push_of_some _ hC)) ?_;dsimp only;rw[e2];refine wpAny_pure ?_;rw[if_neg (by decide)];refine wpAny_pure (wpAny_pure ?_);show R _ _;rw[Heap.size_push];exact hq
theorem xO{rest:Lv0}{init:Value}(Y:eD (model prog w) h C "ValueError" "ValueError.__new__")(hz:rest.length<=sizeLine)(hi:Looks (model prog w) h (typeLookup (.ref C) "__init__") (some init))(hb:∀ self,Looks (model prog w) h (bindSpecial init self) (init,[self]))(hq:codeAny (model prog w) (A.under (.builtin "type.__call__" ⟨.ref C::rest,[]⟩)) (.call init ⟨.ref (h.objs.size + 1)::rest,[]⟩) (InitBack (h.objs.size + 1) R) ⟨(h.push (gn rest)).push (jE C h.objs.size),g,d,t,os⟩) :
  codeAny (model prog w) A (.call (.ref C) ⟨rest,[]⟩) R ⟨h,g,d,t,os⟩:=by
 have Y':=Y;have self:=Y.self;obtain⟨⟨oc,od,cd,sl,hC,e1,e2,e4⟩,made,base,_,dunder,isTy⟩:=Y;refine codeAny_of_tree ?_;show wpAny _ _ (callAny (.ref C) _) _ _ _;refine nd_load hC ?_;show wpAny _ _ (callAny.viaDunder (.ref C) _) _ _ _;unfold callAny.viaDunder;refine wpAny_bind (dunder.at ?_);dsimp only;rw[tc_bind];refine wpAny_bind (wpAny_pure (wpAny_bind (wpAny_pure ?_)));refine wpAny_pure (a:=Fin.again (.call (.builtin "type.__call__") ⟨.ref C::rest,[]⟩)) (And.intro rfl ?_);have calm:(Code.builtin "type.__call__" ⟨.ref C::rest,[]⟩).quiet=true:=Code.quiet_builtin _ (by decide +kernel);refine codeAny_call_builtin_at calm entry_typeCall (check_slot tc_kind tc_split isTy (tc_args _ _ _) ?_);unfold Builtin.«type.__call__»;have line:Looks (model prog w) h (mroOf (.ref C)) cd.mro:=Looks.andThen (Looks.andThen (Looks.ld (part:=none) hC) .now) .now
 repeat (first | with_reducible refine wpAny_call ?_ | lk | simp only[Bool.false_eq_true,if_false,e4])
 refine Nd Y' hz ?_;have k:∀ b o,h.get? b=some o->((h.push (gn rest)).push (jE C h.objs.size)).get? b=some o:=fun b o e=>Heap.get?_push_of_some _ (Heap.get?_push_of_some _ e);have hx:((h.push (gn rest)).push (jE C h.objs.size)).get? (h.objs.size + 1)=some (jE C h.objs.size):=by heap_get
 have t1:Looks (model prog w) ((h.push (gn rest)).push (jE C h.objs.size)) (typeOf (.ref (h.objs.size + 1))) (.ref C):=(Looks.ld hx).andThen .now;have s1:=self.keeps k;have i1:=hi.keeps k;have b1:=(hb (.ref (h.objs.size + 1))).keeps k;unfold isInstance callSpecial? specialOf
 repeat (first | with_reducible refine wpAny_call ?_ | lk)
 refine codeAny_mono hq fun r s' z=>?_;cases r with
 | error e=>exact z
 | ok fl=>
  cases fl with
  | ret v=>
   obtain⟨hv,z2⟩:=z;subst hv;exact wpAny_pure (wpAny_pure z2)
  | next=>exact z.elim
  | brk=>exact z.elim
  | cont=>exact z.elim
theorem An{vs:Lv0}(X:K.In s.heap)(hm:gz K C "ValueError" "ValueError.__new__"=true)(hz:vs.length<=sizeLine)(hi:findIn K (.ref C) "__init__"=some (some (.ref f)))(hf:typeIn K (.ref f)=some (.type "function"))(h:codeAny (model prog w) (A.under (.builtin "type.__call__" ⟨.ref C::vs,[]⟩)) (.call (.ref f) ⟨.ref (s.heap.objs.size + 1)::vs,[]⟩) (InitBack (s.heap.objs.size + 1) R)
   { s with heap:=(s.heap.push (gn vs)).push (jE C s.heap.objs.size) }) :
  codeAny (model prog w) A (.call (.ref C) ⟨vs,[]⟩) R s:=by
 obtain⟨hh,g,d,t,os⟩:=s;exact xO (oJ X hm) hz (looks_findIn X hi) (fun self=>bind_fn X self hf) h
end
noncomputable def dM (e C:Addr) (dx:Option Addr):HO:=HO.ext fun h=>∃ t,h.get? e=some { cls:=.ref C,dict:=dx,data:=.fields #[.ref t,.none,.none,.none,.bool false,.none] }
noncomputable def del (H:Hp) (a:Addr):Hp:=fun b=>if b=a then none else H b
theorem ou:del H a a=none:=by unfold del;rw[if_pos rfl]
theorem jF{b:Addr}(h:b≠a):del H a b=H b:=by unfold del;rw[if_neg h]
theorem vX{t:Addr}(q:h.get? e=some { cls:=.ref C,dict:=dx,data:=.fields #[.ref t,.none,.none,.none,.bool false,.none] }):b9 P w H h e (dM e C dx):=
 ⟨⟨t,q⟩,⟨_,q⟩,fun _ _ ⟨t,q⟩ k=>⟨t,k _ q⟩⟩
theorem kU(ok:HOk P w H h)(q:H e=some (dM e C dx)):∃ t,h.get? e=some { cls:=.ref C,dict:=dx,data:=.fields #[.ref t,.none,.none,.none,.bool false,.none] }:=
 (show b9 P w H h e (dM e C dx) from ok e _ q).1
theorem HOk.del {P:Program} {w:World} {H:Hp} {h:Heap} {e C:Addr} {dx:Option Addr} (ok:HOk P w H h) (q:H e=some (dM e C dx)):HOk P w (del H e) h:=fun b u hb=>by
 have ne:b≠e:=fun z=>by rw[z,ou] at hb;cases hb
 rw[jF ne] at hb;refine(ok b u hb).lK (fun _ _ _ r=>r) (fun c r=>?_) (fun c xs r=>?_) fun c o φ r=>?_
 ·rw[jF (uk r q (by intro z;cases z))];exact r
 ·rw[jF (uk r q (by intro z;cases z))];exact r
 ·rw[jF (uk r q (by intro z;cases z))];exact r
theorem Un.del {fs:La0} {H:Hp} {h:Heap} {e C:Addr} {dx:Option Addr} (q:H e=some (dM e C dx)):Un fs [] H (del H e) h h where
 keep:=fun b o g _ _ _=>g
 slot:=fun b o g _ _ _=>⟨o.slots,g⟩
 free:=fun b o g n _=>by
  by_cases z:b=e
  ·rw[z,ou]
  ·rw[jF z];exact n
 there:=fun b o g _=>⟨o,g⟩
 tups:=fun b xs r=>by rw[jF (uk r q (by intro z;cases z))];exact r
 i7:=fun b o u r=>by rw[jF (uk r q (by intro z;cases z))];exact r
 tbls:=fun b ps r=>⟨#[],by rw[jF (uk r q (by intro z;cases z)),Array.append_empty];exact r⟩
section
variable {E:XK}
theorem K1{pins:Pn}(I:Inv (j1 (CX1 P w base) P w K mg base N qual scope f cd A outer s H E) pins σ H2 s')(ge:s.heap.objs.size<=e)(q:H2 e=some (dM e C dx))(hE:E (.ref C) dx (del H2 e)):(j1 (CX1 P w base) P w K mg base N qual scope f cd A outer s H E).xe (.ref e) s':=by
 obtain⟨t,g⟩:=kU I.hok q;refine BH (CX:=CX0) I rfl I.bare (Un.del q) (HOk.del I.hok q) ?_ ⟨ge,ou,_,_,g,rfl,rfl,rfl,(show 1 < 6 by decide),.inl rfl⟩ hE;exact I.stack
end
def Raises (X:Cx) (E:XK):Prop:=∀ (pins:Pn) (σ:St) (H2:Hp) (s':Shared) (e C:Addr) (dx:Option Addr),Inv X pins σ H2 s'->X.s₀.heap.objs.size<=e->H2 e=some (dM e C dx)->E (.ref C) dx (del H2 e)->X.xe (.ref e) s'
theorem vo{E:XK} :
  Raises (j1 (CX1 P w base) P w K mg base N qual scope f cd A outer s H E) E:=fun _ _ _ _ _ _ _ I ge q hE=>K1 I ge q hE
structure XMk (K:Fg0) (C f:Addr):Prop where
 makes:gz K C "ValueError" "ValueError.__new__"=true
 init:PySem.W.findIn K (.ref C) "__init__"=some (some (.ref f))
 fn:PySem.W.isFn K (.ref f)=true
 kp:PySem.W.keepIn K (.ref C)=true
section
variable {CX:CXT}{ds:Lv0}{E E':XK}{x m:Str}{p:Pos}{e:Expr}
theorem AE{pins:Pn}{Q:Addr->Hp->Prop}(M:XMk X.K C f)(F:aG X.prog X.w X.K X.mg X.base CX k f fd ps sp)(hr:bF (k + 1) X.A)(hb:Binds X.K fd ps ds)(hd:Vals dvs ds)(hx:Passes CX X E')(hz:ps.length<=sizeLine)(I:Inv X pins σ H s)(r:Vals vs us)(h:∀ x,H x=none->sp (.ref x::(vs++dvs)) (upd H x (dM x C none)) (fun v H2=>v=.non/\Q x H2) E') :
  wpAny (model X.prog X.w) X.A (call (.ref C) us) (fun u s'=>∃ e H',u=.ref e/\X.s₀.heap.objs.size<=e/\Inv X pins σ H' s'/\Q e H') X.xe s:=by
 have hq:=h (s.heap.objs.size + 1) (I.hok.fresh (Nat.le_succ _));have I1:=I.kept (t':=s.toks) (h':=s.heap.push (gn us)) fun b u e=>Heap.get?_push_of_some _ e;have I2:Inv X pins σ (upd H (s.heap.objs.size + 1) (dM (s.heap.objs.size + 1) C none)) { s with heap:=(s.heap.push (gn us)).push (jE C s.heap.objs.size),toks:=s.toks }:=
  I1.laid (t':=s.toks) (h':=(s.heap.push (gn us)).push (jE C s.heap.objs.size)) (a:=s.heap.objs.size + 1) (fun b u e=>Heap.get?_push_of_some _ e) (by rw[Heap.size_push];exact Nat.le_refl _)
   (vX (t:=s.heap.objs.size) (by heap_get))
 have r2:Vals (V.ref (s.heap.objs.size + 1)::(vs++dvs)) (Value.ref (s.heap.objs.size + 1)::(us++ds)):=.cons rfl (r.append hd);have hl:(Value.ref (s.heap.objs.size + 1)::us++ds).length=ps.length:=by
  have e:=r2.length;rw[F.len _ _ _ _ hq] at e;exact e.symm
 have hz':us.length<=sizeLine:=by
  simp only[List.cons_append,List.length_cons,List.length_append] at hl;lia
 refine wpAny_call (An (f:=f) I.kIn M.makes hz' M.init (beq_iff_eq.mp M.fn) (codeAny_mono (F.run _ X.stack _ _ ⟨Value.ref (s.heap.objs.size + 1)::us,[]⟩ (Value.ref (s.heap.objs.size + 1)::(us++ds)) _ _ E' (hr.make C us [])
  (I2.Gw.make C us []) (hb _ (Value.ref (s.heap.objs.size + 1)::us) I2.kIn hl) r2 hq) fun r s' hq'=>?_))
 cases r with
 | error e=>exact hx pins σ _ _ e s' I2 hq'
 | ok fl=>
  cases fl with
  | ret u=>
   obtain⟨v,H',I3,rv,ev,q3⟩:=I2.after hq';subst ev;exact⟨rv,s.heap.objs.size + 1,H',rfl,Nat.le_trans I.sz (Nat.le_succ _),I3,q3⟩
  | next=>exact False.elim hq'
  | brk=>exact False.elim hq'
  | cont=>exact False.elim hq'
def xV (C:Addr) (sp:Sp) (dvs:List V) (E' E:XK) (t:TA):TS:=fun _ σ H=>t σ H fun vs H1=>∀ x,H1 x=none->sp (.ref x::(vs++dvs)) (upd H1 x (dM x C none)) (fun v H2=>v=.non/\∃ dx,H2 x=some (dM x C dx)/\E (.ref C) dx (del H2 x)) E'
theorem Cy(M:XMk X.K C f)(F:aG X.prog X.w X.K X.mg X.base CX k f fd ps sp)(hr:bF (k + 1) X.A)(hg:Gl X x)(hm:X.mg x=some (.ref C))(hb:Binds X.K fd ps ds)(hd:Vals dvs ds)(hx:Passes CX X E')(hR:Raises X E)(hz:ps.length<=sizeLine)(ha:PA X (e::es) t)(hdb:autoParam ((x == ("__debug__":Str))=false) wP)(he:autoParam (starEach (e::es) X.env=(false,eval e X.env)::starEach es X.env) wE)(hpl:autoParam ((backTo cpos (starEach es X.env)).any (·.1)=false) wE) :
  PS X (.Raise (some (.Call (.Name x p) (e::es) [] cpos)) none pos) (xV C sp dvs E' E t):=by
 intro pins s σ H D I h;rw[arm_exec_Raise];simp only[evalOpt,Option.map];refine wpAny_bind (wpAny_standAt ?_);unfold raiseStmt;dsimp only;refine wpAny_bind (thn (Q:=fun u s'=>∃ e H' dx,u=.ref e/\X.s₀.heap.objs.size<=e/\Inv X pins σ H' s'/\H' e=some (dM e C dx)/\E (.ref C) dx (del H' e)) ?_ fun u s1 hu=>?_)
 ·refine wpAny_bind (thn (Q:=fun u s'=>∃ e H' dx,u=.ref e/\X.s₀.heap.objs.size<=e/\Inv X pins σ H' s'/\H' e=some (dM e C dx)/\E (.ref C) dx (del H' e)) ?_ fun u s1 hu=>wpAny_bind (wpAny_standAt (wpAny_pure hu)));refine wpAny_Call_Name_kw (eY I hg hm ?_ hdb);refine PySem.W.callWith_K (h₀:=X.base) I.ok.mod.kin M.kp (thn (ha cpos pins s σ H _ I h) fun us s1 ⟨vs,H1,I1,r,q⟩=>⟨I1.kIn,?_⟩) he hpl;refine thn (AE (Q:=fun e H2=>∃ dx,H2 e=some (dM e C dx)/\E (.ref C) dx (del H2 e)) M F hr hb hd hx hz I1 r q) fun u s' ⟨e,H',a1,a2,a3,dx,a4,a5⟩=>⟨e,H',dx,a1,a2,a3,a4,a5⟩
 ·obtain⟨e,H',dx,rfl,ge,I',q,hE⟩:=hu;obtain⟨tt,g⟩:=kU I'.hok q;have Y:=oJ (M:=model X.prog X.w) I'.kIn M.makes;have exc:=Y.exc;obtain⟨⟨oc,od,cd,sl,hC,rfl,e2,e4⟩,made,base,_,dunder,isTy⟩:=Y;have f1:PySem.W.Looks (model X.prog X.w) s1.heap (typeOf (.ref e)) (.ref C):=(PySem.W.Looks.ld g).andThen .now;have done:X.xe (.ref e) s1:=hR pins σ H' s1 e C dx I' ge q hE;have hh:=hr.hd;obtain⟨hp,gg,dd,tk,os⟩:=s1
  repeat (first | with_reducible exact wpAny_raiseNew_none hh done | lk | with_reducible refine wpAny_loadPart_at g ?_ | wp_step)
end
open Builtin Builtin.ObjectAttr
noncomputable def oK:Lv0->Bool
 | .ref _::r=>oK r
 | l=>l == [.type "ValueError",.type "Exception",.type "BaseException",.type "object"]
theorem yd(self:Value):refuseLoop self "__setattr__" [.type "ValueError",.type "Exception",.type "BaseException",.type "object"]=pure ():=by kernel_rfl
theorem t8 (self:Value):∀ {l:Lv0},oK l=true->refuseLoop self "__setattr__" l=pure ()
 | [],e=>by cases beq_iff_eq.mp (show ([] == [Value.type "ValueError",.type "Exception",.type "BaseException",.type "object"])=true from e)
 | x::r,e=>by
  cases x with
  | ref c=>rw[refuseLoop_ref];exact t8 self (l:=r) e
  | type n=>rw[beq_iff_eq.mp (show ((Value.type n::r) == [Value.type "ValueError",.type "Exception",.type "BaseException",.type "object"])=true from e)];exact yd self
  | _=>cases (List.cons.inj (beq_iff_eq.mp e)).1
theorem xQ:∀ {l:Lv0},oK l=true->l.contains (.type "object")=true
 | [],e=>by cases beq_iff_eq.mp (show ([] == [Value.type "ValueError",.type "Exception",.type "BaseException",.type "object"])=true from e)
 | x::r,e=>by
  cases x with
  | ref c=>rw[List.contains_cons,xQ (l:=r) e,Bool.or_true]
  | type n=>rw[beq_iff_eq.mp (show ((Value.type n::r) == [Value.type "ValueError",.type "Exception",.type "BaseException",.type "object"])=true from e)];decide +kernel
  | _=>cases (List.cons.inj (beq_iff_eq.mp e)).1
theorem EG{l:Lv0}(h:oK l=true):l.isEmpty=false:=by
 match l with
 | []=>cases xQ h
 | _::_=>rfl
abbrev Mw (prog:Program) (w:World) (A:Around) (R:Result->Shared->Prop) (fin:PySem.Fin) (s1:Shared):Prop:=match fin with
 | .done fl=>R (.ok fl) s1
 | .again nxt=>nxt.quiet=true/\codeAny (model prog w) A nxt R s1
structure ze (K:Fg0) (C:Addr):Prop where
 hd:PySem.W.hasDictIn K C=true
 po:(PySem.W.clsIn K C).any (fun cd=>oK cd.mro)=true
 sa:PySem.W.findIn K (.ref C) "__setattr__"=some (some (.builtin "object.__setattr__"))
section
open PySem.W in
theorem tP {ox:Obj} {od:Option Obj} {tk:Tok} {r:Option Value} (X:K.In s.heap) (I:InstAt s.heap e ox C od) (c:ze K C) (ht:takerIn K C name=some none)
  (h:∀ b,wpAny (model prog w) A.in1 (storeInOwnDict (.ref e) (.ref C) (.str name tk) name v b) (Mw prog w A R) (fun x s1=>R (.error x) s1) s) :
  codeAny (model prog w) A (.call (.builtin "object.__setattr__") ⟨[.ref e,.str name tk,v],[]⟩) R s:=by
 have SF:=PySem.F.store_object;obtain⟨cd,hc,ho⟩:=any_some c.po;have line:Looks (model prog w) s.heap (mroOf (.ref C)) cd.mro:=Looks.andThen (looks_clsIn X hc) .now;have thing:mroIn K C (.type "object")=some true:=by rw[mroIn,hc,Option.bind_some,EG ho,xQ ho];rfl
 have inst:Looks (model prog w) s.heap (isInstance (.ref e) (.type "object")) true:=I.type.andThen (looks_mroIn X thing);refine codeAny_call_builtin SF.slot.plain SF.entry ?_;refine check_slot (i:="object.__setattr__") (owner:="object") (n:="__setattr__") (rest:=[.str name tk,v]) (kw:=[]) SF.kind SF.split inst (SF.args (.ref e) (.str name tk) v) ?_;obtain⟨attr,ha,hr⟩:=Option.bind_eq_some_iff.mp ht;have free:Looks (model prog w) s.heap (storeTaker? attr) none:=by
  match attr,hr with
  | none,_=>exact .now
  | some a,hr=>
   obtain⟨t,hb,eb⟩:=Option.map_eq_some_iff.mp hr
   match t,eb with
   | false,_=>exact(looks_takesIn X hb).andThen .now
 rw[osa_eq,refuse_eq];refine wpAny_bind ?_;refine wpAny_bind (I.type.here ?_);refine wpAny_bind (line.here ?_);rw[t8 _ ho];refine wpAny_pure ?_;refine wpAny_bind (I.type.here ?_);refine wpAny_bind ((looks_findIn X ha).here ?_);exact wpAny_bind (free.here (h _))
theorem BD{vs:Array Value}{Q:Unit->Shared->Prop}(X:K.In s.heap)(g:s.heap.get? e=some { cls:=.ref C,data:=.fields vs })(c:ze K C)(ht:PySem.W.takerIn K C name=some none)(h:∀ h' tk,h'.get? e=some { cls:=.ref C,dict:=some s.heap.objs.size,data:=.fields vs }->h'.Ns1 s.heap.objs.size (fun y=>if y=name then some v else none)->(∀ b o,b≠e->s.heap.get? b=some o->h'.get? b=some o)->
   Q () { s with heap:=h',toks:=tk }):wpAny (model prog w) A (setAttr (.ref e) name v) Q E s:=by
 have I:PySem.W.InstAt s.heap e { cls:=.ref C,data:=.fields vs } C none:=⟨g,rfl,rfl,True.intro⟩;refine PySem.W.set_plain X I c.sa (tP (s:={ s with toks:=s.toks + 1 }) (r:=none) X I c ht fun b=>?_);obtain⟨cd,hc,hd'⟩:=PySem.W.any_some c.hd;have hes:e≠s.heap.objs.size:=Nat.ne_of_lt (Heap.lt_size g);refine wpAny_bind (wpAny_pure (wpAny_bind (wpAny_bind (wpAny_loadPart (s:={ s with toks:=s.toks + 1 }) g (wpAny_bind (PySem.W.Looks.here (s:={ s with toks:=s.toks + 1 }) (PySem.W.looks_clsIn X hc) ?_))))));rw[hd'];have g1:(s.heap.push PySem.W.emptyDict).get? e=some { cls:=.ref C,data:=.fields vs }:=Heap.get?_push_of_some _ g;refine wpAny_bind (wpAny_alloc (wpAny_bind (wpAny_update g1 ?_)));refine wpAny_pure (a:=some s.heap.objs.size) ?_;have gd:((s.heap.push PySem.W.emptyDict).update e fun o=>{ o with dict:=some s.heap.objs.size }).get? s.heap.objs.size=some PySem.W.emptyDict:=(Heap.get?_update_ne _ _ _ _ hes.symm).trans (Heap.get?_push_at rfl rfl);have nd:((s.heap.push PySem.W.emptyDict).update e fun o=>{ o with dict:=some s.heap.objs.size }).Ns s.heap.objs.size (fun _=>none):=⟨_,#[],_,gd,rfl,fun e he=>absurd he (by simp),fun _=>rfl⟩;have g2:((s.heap.push PySem.W.emptyDict).update e fun o=>{ o with dict:=some s.heap.objs.size }).get? e=some { cls:=.ref C,dict:=some s.heap.objs.size,data:=.fields vs }:=Heap.get?_update_self _ g1 rfl;show wpAny _ _ (storeInDict s.heap.objs.size (.str name s.toks) name v) _ _ { s with heap:=((s.heap.push PySem.W.emptyDict).update e fun o=>{ o with dict:=some s.heap.objs.size }),toks:=s.toks + 1 };unfold storeInDict newKeyGuard;refine wpAny_bind (wpAny_pure (wpAny_bind (wpAny_nsSet1 (s:={ s with heap:=((s.heap.push PySem.W.emptyDict).update e fun o=>{ o with dict:=some s.heap.objs.size }),toks:=s.toks + 1 }) (Heap.Ns1.of_empty nd) fun h' hn2 hs2=>?_)));obtain⟨oD,esD,epD,hoD,hdD,hcD⟩:=hn2.count (PySem.Within.cons name v PySem.Within.nil);have few:esD.size<=sizeLine:=Nat.le_trans hcD (show 1<=sizeLine by rw[sizeLine_eq];decide);refine wpAny_bind (wpAny_lookBehind hoD (hdD ▸ pastItsLine_dict (Nat.le_succ_of_le few)) ?_);exact wpAny_pure (h h' _ ((hs2.2 e hes).trans g2) hn2 fun b o hb q=>(hs2.2 b (Nat.ne_of_lt (Heap.lt_size q))).trans ((Heap.get?_update_ne _ _ _ _ hb).trans (Heap.get?_push_of_some _ q)))
theorem BC{vs:Array Value}{dx:Addr}{ns:Ls0}{Q:Unit->Shared->Prop}(X:K.In s.heap)(g:s.heap.get? e=some { cls:=.ref C,dict:=some dx,data:=.fields vs })(n:s.heap.Ns1 dx mA)(ne:dx≠e)(c:ze K C)(ht:PySem.W.takerIn K C name=some none)(hw:PySem.Within mA ns)(hsz:ns.length + 1<=sizeLine)(h:∀ h' tk,h'.get? e=some { cls:=.ref C,dict:=some dx,data:=.fields vs }->h'.Ns1 dx (fun y=>if y=name then some v else mA y)->Heap.SameBut dx s.heap h'->Q () { s with heap:=h',toks:=tk }):wpAny (model prog w) A (setAttr (.ref e) name v) Q E s:=by
 obtain⟨od,ho,_⟩:=lF n;have I:PySem.W.InstAt s.heap e { cls:=.ref C,dict:=some dx,data:=.fields vs } C (some od):=⟨g,rfl,rfl,ho⟩;refine PySem.W.set_plain X I c.sa (tP (s:={ s with toks:=s.toks + 1 }) (r:=none) X I c ht fun b=>?_);obtain⟨cd,hc,hd'⟩:=PySem.W.any_some c.hd;refine wpAny_bind (wpAny_pure (wpAny_bind (wpAny_bind (wpAny_loadPart (s:={ s with toks:=s.toks + 1 }) g (wpAny_bind (PySem.W.Looks.here (s:={ s with toks:=s.toks + 1 }) (PySem.W.looks_clsIn X hc) ?_))))));rw[hd'];refine wpAny_pure (a:=some dx) ?_;refine wpAny_bind (wpAny_pure ?_);refine wpAny_bind ?_;refine wpAny_nsSet1 (s:={ s with toks:=s.toks + 1 }) n fun h' hn2 hs2=>?_;obtain⟨oD,esD,epD,hoD,hdD,hcD⟩:=hn2.count (PySem.Within.cons name v hw);have few:esD.size<=sizeLine:=Nat.le_trans hcD (by simpa using hsz);refine wpAny_bind (wpAny_lookBehind hoD (hdD ▸ pastItsLine_dict (Nat.le_succ_of_le few)) ?_);exact wpAny_pure (h h' _ ((hs2.2 _ (Ne.symm ne)).trans g) hn2 hs2)
end
noncomputable def XdO (d:Addr) (fs:List (Str×V)):HO:=HO.ext fun h=>∃ mA,h.Ns1 d mA/\(∀ f,lU (fs.lookup f) (mA f))/\PySem.Within mA (fs.map (·.1))
theorem BI{d:Addr}{fs:List (Str×V)}(n:h.Ns1 d mA)(r:∀ f,lU (fs.lookup f) (mA f))(wi:PySem.Within mA (fs.map (·.1))):b9 P w H h d (XdO d fs):=
 ⟨⟨mA,n,r,wi⟩,let ⟨o,_,_,q,_⟩:=n;⟨o,q⟩,fun _ _ ⟨mA,n,r,wi⟩ k=>⟨mA,n.at k,r,wi⟩⟩
theorem uW{d:Addr}{fs:List (Str×V)}(ok:HOk P w H h)(q:H d=some (XdO d fs)):∃ mA,h.Ns1 d mA/\(∀ f,lU (fs.lookup f) (mA f))/\PySem.Within mA (fs.map (·.1)):=
 (show b9 P w H h d (XdO d fs) from ok d _ q).1
section
variable {pins:Pn}{d:Addr}{f:Str}{fs:List (Str×V)}
theorem uV{Q:Unit->Shared->Prop}(I:Inv X pins σ H s)(q:H e=some (dM e C none))(c:ze X.K C)(n:PySem.W.takerIn X.K C f=some none)(ry:RelV y u)(h:∀ d s',H d=none->d≠e->Inv X pins σ (upd (upd H d (XdO d [(f,y)])) e (dM e C (some d))) s'->Q () s'):wpAny (model X.prog X.w) A (setAttr (.ref e) f u) Q E s:=by
 obtain⟨t,g⟩:=kU I.hok q;have hes:s.heap.objs.size≠e:=Nat.ne_of_gt (Heap.lt_size g);refine BD I.kIn g c n fun h' tk g' n' k=>h s.heap.objs.size _ (I.hok.fresh (Nat.le_refl _)) hes ?_;obtain⟨od,es,ep,ho,hrest⟩:=id n';have hfr:od.isFreed=false:=(Heap.get?_some_iff.mp ho).2;have gm:(s.heap.push od).get? s.heap.objs.size=some od:=Heap.get?_push_size _ hfr;have nm:(s.heap.push od).Ns1 s.heap.objs.size (fun y=>if y=f then some u else none):=n'.at fun o q=>by rw[ho] at q;cases q;exact gm
 have I1:=I.laid (a:=s.heap.objs.size) (o:=XdO s.heap.objs.size [(f,y)]) (h':=s.heap.push od) (t':=s.toks) (fun b u q=>Heap.get?_push_of_some _ q) (Nat.le_refl _) (BI nm (fun g=>?_) fun g hg=>?_)
 ·refine I1.write (t':=tk) (h':=h') (x:=e) (e:=e) (o:=dM e C (some s.heap.objs.size)) (by rw[ah (Ne.symm hes),q];exact True.intro) (.inl rfl) (fun b u hb z=>?_) ⟨_,g'⟩ (vX g');by_cases hb2:b=s.heap.objs.size
  ·subst hb2;rw[gm] at z;cases z;exact ho
  ·refine k b u hb ?_;have:(s.heap.push od).get? b=s.heap.get? b:=Heap.get?_push_ne s.heap b od hb2;rw[<- this];exact z
 ·show lU (List.lookup g [(f,y)]) (if g=f then some u else none);by_cases z:g=f
  ·have hb:(g == f)=true:=beq_iff_eq.mpr z;simp only[List.lookup,hb,if_pos z];exact ry
  ·have hb:(g == f)=false:=beq_eq_false_iff_ne.mpr z;simp only[List.lookup,hb,if_neg z];exact True.intro
 ·by_cases z:g=f
  ·simp [z]
  ·exact absurd (if_neg z) hg
theorem uU{Q:Unit->Shared->Prop}(I:Inv X pins σ H s)(q:H e=some (dM e C (some d)))(qd:H d=some (XdO d fs))(ne:d≠e)(hl:fs.length < 1000)(c:ze X.K C)(n:PySem.W.takerIn X.K C f=some none)(ry:RelV y u)(h:∀ s',Inv X pins σ (upd H d (XdO d (gX f y fs))) s'->Q () s'):wpAny (model X.prog X.w) A (setAttr (.ref e) f u) Q E s:=by
 obtain⟨t,g⟩:=kU I.hok q;obtain⟨mA,nA,r,wi⟩:=uW I.hok qd;have hz:(fs.map (·.1)).length + 1<=sizeLine:=by rw[lM0,sizeLine_eq];lia
 refine BC I.kIn g nA ne c n wi hz fun h' tk g' n' sb=>h _ ?_;refine I.write (t':=tk) (x:=d) (e:=d) (by rw[qd];exact True.intro) (.inl rfl) (fun b q hb z=>(sb.2 b hb).trans z) (let ⟨o,_,_,e',_⟩:=n';⟨o,e'⟩) (BI n' (fun g=>?_) fun g hg=>?_)
 ·show lU ((gX f y fs).lookup g) (if g=f then some u else mA g);rw[kG];by_cases q:g=f
  ·rw[if_pos q,if_pos q];exact ry
  ·rw[if_neg q,if_neg q];exact r g
 ·by_cases q:g=f
  ·rw[q];exact(i5 f y fs).1
  ·refine(i5 f y fs).2 g (wi g fun z=>hg ?_);show (if g=f then some u else mA g)=none;rw[if_neg q];exact z
end
def Lh (K:Fg0) (ta tv:TE) (f:Str):TS:=fun D σ H=>tv σ H fun y H1=>ta σ H1 fun x H2=>∃ e C,x=.ref e/\ze K C/\PySem.W.takerIn K C f=some none/\
 ((H2 e=some (dM e C none)/\∀ d,H2 d=none->d≠e->D.nx σ (upd (upd H2 d (XdO d [(f,y)])) e (dM e C (some d))))\/
  ∃ d fs,H2 e=some (dM e C (some d))/\H2 d=some (XdO d fs)/\d≠e/\fs.length < 1000/\D.nx σ (upd H2 d (XdO d (gX f y fs))))
section
variable {CX:CXT}{g:Addr}{ds:Lv0}{E:XK}{x m f:Str}{p pos':Pos}{e value:Expr}{tv:TE}{mc:Value}
theorem qC(ha:PE X o ta)(hv:PE X value tv)(hs:swapsWith value (some (.Attribute o f pos')) pos.line X.env=pure false):PS X (.Assign [.Attribute o f pos'] value pos) (Lh X.K ta tv f):=by
 intro pins s σ H D I h;refine plainObj_wpAny_Assign_Attribute (thn (hv pins s σ H _ I h) fun u s1 ⟨y,H1,I1,ry,q⟩=>thn (ha pins s1 σ H1 _ I1 q) fun ov s2 Z=>?_) hs;obtain⟨x,H2,I2,rx,a,C,ex,c,n,q2⟩:=Z;subst ex;obtain rfl:ov=Value.ref a:=rx;rcases q2 with ⟨qe,q2⟩ | ⟨d,fs,qe,qd,ne,hl,q2⟩
 ·exact uV I2 qe c n ry fun d s3 hd hne I3=>⟨σ,_,I3,q2 d hd hne⟩
 ·exact uU I2 qe qd ne hl c n ry fun s3 I3=>⟨σ,_,I3,q2⟩
theorem vA{pl:Sem Bool}(hrd:PySem.W.readsIn X.K C mc=true)(hga:PySem.W.specialIn X.K (.ref C) "__getattribute__"=some (some (.builtin "type.__getattribute__")))(hf:PySem.W.findCls X.K (.ref C) mc m=some (.val (.ref g)))(kp:PySem.W.keepIn X.K (.ref g)=true)(hg:Gl X x)(hm:X.mg x=some (.ref C))(F:aG X.prog X.w X.K X.mg X.base CX k g fd ps sp)(hr:bF k X.A)(hb:Binds X.K fd ps ds)(hd:Vals dvs ds)(hx:Passes CX X E)(ha:PA X (e::es) t)(hdb:autoParam ((x == ("__debug__":Str))=false) wP)(hst:autoParam (starEach (e::es) X.env=(false,eval e X.env)::starEach es X.env) wE)(hpl:autoParam ((backTo pos (starEach es X.env)).any (·.1)=false) wE)(ht:eval (.Call (.Attribute (.Name x p) m apos) (e::es) [] pos) X.env=(do
   let ov <- eval (.Name x p) X.env
   standAt apos.atName
   let (f,first) <- holding [ov] (getMethod ov m pl)
   callWith pos f first (backTo pos (starEach (e::es) X.env)) (backToKw pos (keywordEach [] X.env))):=by rfl) :
  PE X (.Call (.Attribute (.Name x p) m apos) (e::es) [] pos) (tV sp dvs E t):=by
 intro pins s σ H Q I h;refine PySem.W.methodCall_KW (pl:=pl) (eY I hg hm ?_ hdb) ht;refine PySem.W.method_cls I.kIn hga (PySem.W.cls_value I.kIn hrd hf rfl ?_);have I1:=I.tok (s.toks + 1);refine PySem.W.callWith_K (first:=[]) (h₀:=X.base) I.ok.mod.kin kp (thn (ha pos pins _ σ H _ I1 h) fun us s2 ⟨vs,H2,I2,r,q2⟩=>⟨I2.kIn,?_⟩) hst hpl;exact oU (us:=us) (vs:=vs) F hr hb hd hx I2 r q2
end
namespace XI
open PySem.W
theorem fc(K:Frag):findCls K (.type "ValueError") (.type "type") "__init__"=some (.val (.builtin "ValueError.__init__")):=by kernel_rfl
theorem fg(K:Frag):findIn K (.type "type") "__getattribute__"=some (some (.builtin "type.__getattribute__")):=by kernel_rfl
theorem fs(K:Frag):subIn K (.type "type") (.type "type")=some true:=by kernel_rfl
theorem hk:Looks M h (hookBefore (.type "type")) none:=by
 unfold hookBefore;rw[if_neg (by decide)];exact .now
theorem so:Looks M h (specialOf (.type "ValueError") "__getattribute__") (some (.builtin "type.__getattribute__")):=Looks.of_pure (by kernel_rfl)
theorem oq:Looks M h (opaqueClassAbove (.type "ValueError")) none:=Looks.of_pure (by kernel_rfl)
theorem ty:Looks M h (typeOf (.type "ValueError")) (.type "type"):=Looks.of_pure (by kernel_rfl)
theorem hd{Q:VS}(h:Q (.builtin "ValueError.__init__") s):wpAny M A (handedOut (.builtin "ValueError.__init__")) Q E s:=by
 rw[handedOut_of (by kernel_rfl)];exact wpAny_pure h
end XI
section
variable {t:Addr}
theorem EB{pl:Sem Bool}{Q:Value×Lv0->Shared->Prop}(X:K.In s.heap)(h:Q (.builtin "ValueError.__init__",[]) { s with toks:=s.toks + 1 }):wpAny (model prog w) A (getMethod (.type "ValueError") "__init__" pl) Q E s:=by
 unfold getMethod;refine wpAny_bind (XI.so.here ?_);dsimp only;rw[if_pos PySem.W.canon_tga];refine wpAny_bind (PySem.W.cls_open X XI.oq XI.ty (XI.fg K) XI.hk (XI.fs K) (XI.fc K) (wpAny_pure ?_));exact XI.hd (wpAny_pure h)
theorem H9{Q:VS}(Y:eD (model prog w) s.heap C "ValueError" "ValueError.__new__")(g:s.heap.get? e=some { cls:=.ref C,dict:=dx,data:=.fields #[.ref t,.none,.none,.none,.bool false,.none] })(h:∀ h' t',h'.get? e=some { cls:=.ref C,dict:=dx,data:=.fields #[.ref t',.none,.none,.none,.bool false,.none] }->(∀ b o,b≠e->s.heap.get? b=some o->h'.get? b=some o)->Q .none { s with heap:=h' }) :
  wpAny (model prog w) A (call (.builtin "ValueError.__init__") [.ref e,u]) Q E s:=by
 have F:=PySem.F.excBase_ValueError;have t1:PySem.W.Looks (model prog w) s.heap (isInstance (.ref e) (.type "ValueError")) true:=((PySem.W.Looks.ld g).andThen .now).andThen Y.top;refine wpAny_call (codeAny_call_builtin F.init.plain F.initEntry ?_);obtain⟨⟨oc,od,cd,sl,hC,e1,e2,e4⟩,made,base,_,dunder,isTy⟩:=Y;have hshort:=F.noStar;obtain⟨hp,gg,dd,tk,os⟩:=s;dsimp only at *;unfold checkBuiltinCall;simp only[F.initRow,F.initSplit,F.initKind];refine wpAny_bind (t1.here ?_)
 repeat (first | simp only[Bool.not_true,Bool.false_eq_true,if_false] | with_reducible refine wpAny_loadPart_at g ?_ | with_reducible refine wpAny_loadPart_at hC ?_ | lk | wp_step)
 have g1:=Heap.get?_push_of_some { cls:=.type "tuple",data:=.seq #[u] } g;refine wpAny_load g1 ?_
 wp_walk
 refine h _ hp.objs.size ?_ fun b o hb q=>?_
 ·rw[Heap.get?_update_self _ g1 rfl];rfl
 ·rw[Heap.get?_update_other _ _ (Ne.symm hb)];exact Heap.get?_push_of_some _ q
end
def Ik (K:Fg0) (t:TA):TE:=fun σ H Q=>t σ H fun vs H2=>∃ e C dx y,vs=[.ref e,y]/\gz K C "ValueError" "ValueError.__new__"=true/\H2 e=some (dM e C dx)/\Q .non H2
section
variable {p:Pos}{a:Expr}
theorem CG{pl:Sem Bool}(hg:Gl X "ValueError")(hm:X.mg "ValueError"=none)(ha:PA X (a::es) t)(hst:autoParam (starEach (a::es) X.env=(false,eval a X.env)::starEach es X.env) wE)(hpl:autoParam ((backTo pos (starEach es X.env)).any (·.1)=false) wE)(ht:eval (.Call (.Attribute (.Name "ValueError" p) "__init__" apos) (a::es) [] pos) X.env=(do
   let ov <- eval (.Name "ValueError" p) X.env
   standAt apos.atName
   let (f,first) <- holding [ov] (getMethod ov "__init__" pl)
   callWith pos f first (backTo pos (starEach (a::es) X.env)) (backToKw pos (keywordEach [] X.env))):=by rfl) :
  PE X (.Call (.Attribute (.Name "ValueError" p) "__init__" apos) (a::es) [] pos) (Ik X.K t):=by
 intro pins s σ H Q I h;refine PySem.W.methodCall_KW (pl:=pl) (jz (u:=.type "ValueError") I hg hm (by kernel_rfl) ?_) ht;refine EB I.kIn ?_;have I1:=I.tok (s.toks + 1);have hA:=ha pos pins _ σ H _ I1 h;rw[hst] at hA ⊢;refine Calls.callWith_builtin (by show (false || (backTo pos (starEach es X.env)).any (·.1))=false;rw[hpl] <;> rfl) (Calls.evalArgs_plain ?_);refine thn hA fun us s2 Z=>?_;obtain⟨vs,H2,I2,r2,e,C,dx,y,ev,mk,q,hQ⟩:=Z;subst ev;obtain⟨u1,us1,rfl,r1,r3⟩:∃ u us',us=u::us'/\RelV (.ref e) u/\Vals [y] us':=by cases r2 with | cons a b=>exact⟨_,_,rfl,a,b⟩
 obtain⟨u2,rfl,_⟩:∃ u,us1=[u]/\RelV y u:=by cases r3 with | cons a b=>cases b;exact⟨_,rfl,a⟩
 obtain rfl:u1=Value.ref e:=r1;obtain⟨tt,g⟩:=kU I2.hok q;refine H9 (oJ I2.kIn mk) g fun h' t' g' k=>⟨.non,H2,?_,rfl,hQ⟩;have I3:=I2.write (t':=s2.toks) (h':=h') (x:=e) (e:=e) (o:=dM e C dx) (by rw[q];exact True.intro) (.inl rfl) (fun b o hb z=>k b o hb z) ⟨_,g'⟩ (vX g');have:upd H2 e (dM e C dx)=H2:=by
  funext b
  by_cases hb:b=e
  ·rw[hb,ar,q]
  ·rw[ah hb]
 rw[this] at I3;exact I3
end
open PySem PySem.Spec PyProof.Rows
structure XAt (X:Cx) (pins:Pn) (n:Nat):Prop where
 s0:X.s₀.heap.objs.size<=n
 loc:X.env.locals < n
 cel:∀ x c,X.env.cells.lookup x=some c->c < n
 pin:∀ p∈X.pn++pins,p.1 < n
section
variable {pins:Pn}
theorem Inv.xat(I:Inv X pins σ H s):XAt X pins s.heap.objs.size:=
 ⟨I.sz,I.lt,fun x c q=>let ⟨_,_,ho,_⟩:=I.cell x c q;Heap.lt_size ho,fun p hp=>Heap.lt_size (I.pin p hp).1⟩
theorem XAt.forget(a:XAt X pins n):XAt X [] n:=⟨a.s0,a.loc,a.cel,fun p hp=>a.pin p (List.mem_append_left _ (by simpa using hp))⟩
theorem Inv.lv(I:Inv X pins σ H s)(a:XAt X pins n)(l:Lv n H (frs X.stack) s.heap h'):Inv X pins σ H { s with heap:=h' }:=by
 have hok:HOk X.prog X.w H h':=fun b o q=>by
  refine(I.hok b o q).lK (fun c u hc g=>?_) (fun _ z=>z) fun _ _ z=>z;have hn:H c≠none:=by
   rcases hc with z | z
   ·rw[z,q];simp
   ·rw[z];simp
  exact l.keep c u g (fun m=>hn (I.nk c m)) (.inr hn)
 have mem:∀ b,b∈(List.range s.heap.objs.size).filter (fun b=>decide (n<=b))↔b < s.heap.objs.size/\n<=b:=fun b=>by simp [List.mem_filter,List.mem_range]
 refine I.call (g':=s.gens) (t':=s.toks) (d':=s.drawn) (ch:=(List.range s.heap.objs.size).filter (fun b=>decide (n<=b))) ⟨fun b o q nn nf nch=>?_,fun b o q nn hb _=>l.slot b o q hb,fun b o _ nn _=>nn,fun b o q _=>l.there b o q,fun _ _ z=>z,fun _ _ _ z=>z,fun b ps z=>⟨#[],by rw[z,Array.append_empty]⟩⟩ hok I.bare fun b hb=>?_
 ·refine l.keep b o q nf (.inl ?_);rcases Nat.lt_or_ge b n with z | z
  ·exact z
  ·exact absurd ((mem b).mpr ⟨Heap.lt_size q,z⟩) nch
 ·have z:=((mem b).mp hb).2;refine⟨.inr (Nat.le_trans a.s0 z),fun y=>?_,fun x c q y=>?_,fun p hp y=>?_⟩
  ·exact Nat.lt_irrefl b (Nat.lt_of_lt_of_le (by rw[y];exact a.loc) z)
  ·exact Nat.lt_irrefl b (Nat.lt_of_lt_of_le (by rw[<- y];exact a.cel x c q) z)
  ·exact Nat.lt_irrefl b (Nat.lt_of_lt_of_le (by rw[<- y];exact a.pin p hp) z)
theorem land(I:Inv X pins σ H s)(a:XAt X pins n)(x:ExcAt n H s.heap e cls dx)(hs:X.stack=X.env::X.outer)(hf:X.env.frame=some L){Q:Unit->Shared->Prop}(h:∀ h',Inv X pins σ H { s with heap:=h' }->ExcAt n H h' e cls dx->Q () { s with heap:=h' }) :
  wpAny M X.A (noteFrame (.ref e) X.env) (fun _ s'=>wpAny M X.A (setFlight (.ref e) none) Q E s') E s:=by
 have ff:=I.stack;have fr:=I.ok.frames;rw[hs] at ff fr;have hn:n<=s.heap.objs.size:=by
  obtain⟨oe,vs,he,_⟩:=x.rcd;exact Nat.le_trans x.ge (Nat.le_of_lt (Heap.lt_size he))
 refine xi (n:=n) (H:=H) fr ff hf hn (fun b hb=>I.hok.fresh hb) x fun h' l x' _=>h h' (I.lv a ?_) x';rw[hs];exact l
end
def XP (X:Cx) (W:St->XK) (ev:Value) (s':Shared):Prop:=∃ e cls dx H' σ' n,ev=.ref e/\Inv X [] σ' H' s'/\XAt X [] n/\ExcAt n H' s'.heap e cls dx/\W σ' cls dx H'
def e9 (CX:CXT) (X:Cx) (E:St->XK):Prop:=∀ (pins:Pn) (σ:St) (H:Hp) (s:Shared) (e:Value) (s':Shared),Inv X pins σ H s->CX X.stack H s (E σ) e s'->X.xe e s'
theorem e9.of{CX:CXT}{E:XK}(h:Passes CX X E):e9 CX X fun _=>E:=fun pins σ H s e s' I q=>h pins σ H s e s' I q
theorem EA{pins:Pn}{ev:Value}(I:Inv X pins σ H s)(h:CX1 X.prog X.w X.base X.stack H s (W σ) ev s'):XP X W ev s':=by
 obtain⟨e,cls,dx,H',ee,os,bare,un,hok,ff,x,hE⟩:=h;have I1:Inv X pins σ H' s':=I.Af (ch:=[]) os un hok bare fun _ z=>nomatch z
 have I2:Inv X [] σ H' s':=I1.g9 fun _ z=>nomatch z
 exact⟨e,cls,dx,H',σ,s.heap.objs.size,ee,I2,I.xat.forget,x,hE⟩
theorem LJ:e9 (CX1 X.prog X.w X.base) (X.ng (XP X W)) W:=by
 intro pins σ H s ev s' I h;have h':CX1 X.prog X.w X.base X.stack H s (W σ) ev s':=h;exact EA I.eJ h'
section
variable {pins:Pn}
theorem qH{x:Str}{Q:Unit->Shared->Prop}(I:Inv X pins σ H s)(hN:X.N.Nodup)(hi:X.N[i]?=some x)(hk:X.env.kindOf x=some .local)(h:∀ s',Inv X pins (σ.set i none) H s'->Q () s'):wpAny M A (do bindName X.env x .none;unbindBehindTheSuite X.env x pos) Q E s:=by
 obtain⟨m,hn,hl⟩:=id I.loc;have hcls:(X.env.scope.kind == .class || (X.env.scope.kind == .module && X.env.locals != X.env.globals))=false:=by rw[I.ok.kind];rfl
 have hiσ:i < σ.length:=by rw[I.len];exact(gS0 hi).1
 refine wpAny_nameGoes_keeps hk hn hcls fun h' v hn' hs=>h _ ?_;have tracked:HOk X.prog X.w H h':=fun b ob e=>by
  refine(I.hok b ob e).lK (fun c w' hc q=>(hs.2 c ?_).trans q) (fun _ q=>q) fun _ _ q=>q;intro z;have fr:=I.free;rw[<- z] at fr;rcases hc with y | y
  ·rw[y,e] at fr;cases fr
  ·rw[y] at fr;cases fr
 refine⟨I.ok,I.os,I.bare,⟨fun b o e n hb hx=>?_,fun b o e n hb hx=>?_,I.base.free,fun b o e hx=>?_,I.base.tups,I.base.i7,I.base.tbls⟩,⟨_,hn',fun j y v' e1 e2 e3=>?_⟩,fun y c e=>?_,I.free,I.freeC,fun p hp=>?_,tracked,by rw[List.length_set];exact I.len⟩
 ·exact(hs.2 b (Nat.ne_of_lt (Nat.lt_of_lt_of_le (Heap.lt_size e) I.ok.above))).trans (I.base.keep b o e n hb hx)
 ·obtain⟨sl,e1⟩:=I.base.slot b o e n hb hx;exact⟨sl,(hs.2 b (Nat.ne_of_lt (Nat.lt_of_lt_of_le (Heap.lt_size e) I.ok.above))).trans e1⟩
 ·obtain⟨o',e1⟩:=I.base.there b o e hx;exact⟨o',(hs.2 b (Nat.ne_of_lt (Nat.lt_of_lt_of_le (Heap.lt_size e) I.ok.above))).trans e1⟩
 ·by_cases hj:j=i
  ·subst hj;rw[List.getElem?_set_self hiσ] at e2;cases e2
  ·rw[List.getElem?_set_ne (Ne.symm hj)] at e2;obtain⟨u',r',q⟩:=hl j y v' e1 e2 e3;refine⟨u',r',?_⟩;rcases q with ⟨k,e⟩ | ⟨k,c,e,z⟩
   ·refine .inl ⟨k,?_⟩;have:y≠x:=fun e=>hj (rV hN e1 (e ▸ hi));simp [this,e]
   ·exact .inr ⟨k,c,e,z.sameBut hs (I.cne y c e)⟩
 ·obtain⟨w',z⟩:=I.cell y c e;exact⟨w',z.sameBut hs (I.cne y c e)⟩
 ·obtain⟨e,n,ne,nf,d⟩:=I.pin p hp;exact⟨(hs.2 p.1 ne).trans e,n,ne,nf,d⟩
noncomputable def m6 (e:Addr) (cls:Value) (dx:Option Addr):HO:=HO.ext fun h=>∃ o vs,h.get? e=some o/\o.cls=cls/\o.dict=dx/\o.data=.fields vs
theorem xA(ok:HOk P w H h)(q:H e=some (m6 e cls dx)):∃ o vs,h.get? e=some o/\o.cls=cls/\o.dict=dx/\o.data=.fields vs:=
 (show b9 P w H h e (m6 e cls dx) from ok e _ q).1
theorem Inv.Kt(I:Inv X pins σ H s)(a:XAt X pins n)(x:ExcAt n H s.heap e cls dx):Inv X pins σ (upd H e (m6 e cls dx)) s:=by
 obtain⟨ge,fr,oe,vs,he,hc,hd,hdt,hz,_⟩:=x;have ne:∀ b,H b≠none->b≠e:=fun b hb z=>hb (by rw[z];exact fr);have hok:HOk X.prog X.w (upd H e (m6 e cls dx)) s.heap:=fun b o q=>by
  by_cases z:b=e
  ·subst z;rw[ar] at q;cases q;exact⟨⟨oe,vs,he,hc,hd,hdt⟩,⟨oe,he⟩,fun _ _ ⟨o,vs,q,r⟩ k=>⟨o,vs,k _ q,r⟩⟩
  ·rw[ah z] at q;exact(I.hok b o q).lK (fun _ _ _ r=>r) (fun c r=>by rw[ah (ne c (by rw[r];simp))];exact r) fun c xs r=>by rw[ah (ne c (by rw[r];simp))];exact r
 refine I.Af (ch:=[e]) rfl ⟨fun b o q _ _ _=>q,fun b o q _ _ _=>⟨o.slots,q⟩,fun b o q nn nch=>?_,fun b o q _=>⟨o,q⟩,fun b xs r=>?_,fun b o u r=>?_,fun b ps r=>⟨#[],?_⟩⟩ hok I.bare fun b hb=>?_
 ·rw[ah (fun z=>nch (by simp [z]))];exact nn
 ·rw[ah (ne b (by rw[r];simp))];exact r
 ·rw[ah (ne b (by rw[r];simp))];exact r
 ·rw[ah (ne b (by rw[r];simp)),Array.append_empty];exact r
 ·have hb:b=e:=by simpa using hb
  subst hb;refine⟨.inr (Nat.le_trans a.s0 ge),fun y=>?_,fun x c q y=>?_,fun p hp y=>?_⟩
  ·exact Nat.lt_irrefl b (Nat.lt_of_lt_of_le (by rw[y];exact a.loc) ge)
  ·exact Nat.lt_irrefl b (Nat.lt_of_lt_of_le (by rw[<- y];exact a.cel x c q) ge)
  ·exact Nat.lt_irrefl b (Nat.lt_of_lt_of_le (by rw[<- y];exact a.pin p hp) ge)
theorem Bf{Q:Unit->Shared->Prop}(I:Inv X pins σ H s)(a:XAt X pins n)(x:ExcAt n H s.heap e cls dx)(h:∀ h',Inv X pins σ H { s with heap:=h' }->ExcAt n H h' e cls dx->Q () { s with heap:=h' }):wpAny M A (setFlight (.ref e) none) Q E s:=by
 obtain⟨ge,fr,oe,vs,he,hc,hd,hdt,hz,tb⟩:=x;unfold setFlight;rcases tb with h1 | ⟨T,oT,ts,h1,gT,nT,fT,hT,hdT,h3⟩
 ·refine wpAny_bind (wpAny_field he hdt h1 ?_);rw[if_neg (by decide)];exact wpAny_pure (h s.heap I ⟨ge,fr,oe,vs,he,hc,hd,hdt,hz,.inl h1⟩)
 ·refine wpAny_bind (wpAny_field he hdt h1 ?_);rw[if_pos (show (Value.ref T != Value.none)=true by simp)];have tz:=(Array.getElem?_eq_some_iff.mp h3).1;refine wpAny_setField hT hdT tz ?_;have ot:∀ b,b≠T->(s.heap.update T (Obj.mapFields (·.setIfInBounds 3 Value.none))).get? b=s.heap.get? b:=fun b hb=>Heap.get?_update_other _ _ (Ne.symm hb);have tT:=Heap.get?_update_self (Obj.mapFields (·.setIfInBounds 3 Value.none)) hT (Obj.isFreed_of_fields (Obj.data_mapFields hdT _));refine h _ (I.lv a ⟨fun b o q nf hb=>(ot b fun z=>?_).trans q,fun b o q hb=>⟨o.slots,(ot b fun z=>?_).trans q⟩,fun b o q=>?_⟩) ⟨ge,fr,oe,vs,(ot e (Ne.symm nT)).trans he,hc,hd,hdt,hz,.inr ⟨T,_,_,h1,gT,nT,fT,tT,Obj.data_mapFields hdT _,?_⟩⟩
  ·subst z;rcases hb with w | w
   ·exact Nat.lt_irrefl _ (Nat.lt_of_lt_of_le w gT)
   ·exact w fT
  ·subst z;obtain⟨_,o',ho',nf'⟩:=I.stack.mem hb;rw[hT] at ho';cases ho';exact nf' ts hdT
  ·by_cases z:b=T
   ·subst z;exact⟨_,tT⟩
   ·exact⟨o,(ot b z).trans q⟩
  ·rw[Array.getElem?_setIfInBounds_self_of_lt tz]
end
structure Et (K:Fg0) (C:Addr):Prop where
 ty:PySem.W.typeIn K (.ref C)=some (.type "type")
 ex:PySem.W.mroIn K C (.type "BaseException")=some true
theorem yX{cd:ClassData}(h:PySem.W.clsIn K C=some cd):∃ oc od sl,K.lookup C=some ⟨oc,od,.cls cd,sl⟩:=by
 unfold PySem.W.clsIn at h;split at h
 ·rename_i q;cases h;exact⟨_,_,_,q⟩
 ·cases h
section
variable {C₀:Addr}{b:Bool}{Q:Bool->Shared->Prop}
theorem exm(X:K.In s.heap)(c:Et K C₀)(he:s.heap.get? e=some oe)(hc:oe.cls=.ref C)(hs:PySem.W.mroIn K C (.ref C₀)=some b)(h:Q b s):wpAny (model prog w) A (excMatches (.ref e) (.ref C₀)) Q E s:=by
 have l1:PySem.W.Looks (model prog w) s.heap (typeOf (.ref C₀)) (.type "type"):=PySem.W.looks_typeIn X c.ty;have l2:PySem.W.Looks (model prog w) s.heap (isSubtype (.ref C₀) (.type "BaseException")) true:=PySem.W.looks_mroIn X c.ex;have l3:PySem.W.Looks (model prog w) s.heap (typeOf (.ref e)) (.ref C):=by rw[<- hc];exact(PySem.W.Looks.ld he).andThen .now
 have l4:PySem.W.Looks (model prog w) s.heap (isSubtype (.ref C) (.ref C₀)) b:=PySem.W.looks_mroIn X hs;have f:=tc_notTuple;have f2:=tc_sub;obtain⟨cd,h1,_⟩:=Option.bind_eq_some_iff.mp c.ex;obtain⟨oc,od,sl,h2⟩:=yX h1;have hC:=X _ _ h2;unfold excMatches;obtain⟨hp,gg,dd,tk,os⟩:=s
 repeat (first | with_reducible refine wpAny_loadPart_at hC ?_ | lk | wp_step)
 cases b <;> (wp_walk;exact h)
end
noncomputable abbrev Cx.mO (X:Cx) (pins:Pn):Cx:={ X with pn:=X.pn++pins }
noncomputable abbrev Cx.sui (X:Cx) (e:Addr):Cx:={ X with A:=X.A.mark (some (.ref e)),calm:=false,xe:=fun _ _=>False }
section
variable {pins:Pn}
theorem Cx.Ok.mO(ok:X.Ok):(X.mO pins).Ok:=
 ⟨ok.mod,ok.kind,ok.glob,ok.blt,ok.above,ok.inj,ok.has,ok.cab,ok.hd,ok.frames,ok.stk,ok.exf,ok.bs,ok.bsz,ok.noex,ok.exfs,ok.i6,ok.frf,ok.tb⟩
theorem Cx.Ok.ir(ok:(X.mO pins).Ok):X.Ok:=
 ⟨ok.mod,ok.kind,ok.glob,ok.blt,ok.above,ok.inj,ok.has,ok.cab,ok.hd,ok.frames,ok.stk,ok.exf,ok.bs,ok.bsz,ok.noex,ok.exfs,ok.i6,ok.frf,ok.tb⟩
theorem Inv.mO(I:Inv X pins σ H s):Inv (X.mO pins) [] σ H s:=⟨I.ok.mO,I.os,I.bare,I.base,I.loc,I.cell,I.free,I.freeC,fun p hp=>I.pin p (by rw[List.append_nil] at hp;exact hp),I.hok,I.len⟩
theorem Inv.ir(I:Inv (X.mO pins) [] σ H s):Inv X pins σ H s:=⟨I.ok.ir,I.os,I.bare,I.base,I.loc,I.cell,I.free,I.freeC,fun p hp=>I.pin p (by rw[List.append_nil];exact hp),I.hok,I.len⟩
theorem Cx.Ok.sui(ok:X.Ok)(e:Addr):(X.sui e).Ok:=
 ⟨ok.mod,ok.kind,ok.glob,ok.blt,ok.above,ok.inj,ok.has,ok.cab,fun z=>(Bool.noConfusion z),ok.frames,ok.stk,ok.exf,ok.bs,ok.bsz,ok.noex,ok.exfs,ok.i6,ok.frf,ok.tb⟩
theorem Inv.sui(I:Inv X pins σ H s)(e:Addr):Inv (X.sui e) pins σ H s:=⟨I.ok.sui e,I.os,I.bare,I.base,I.loc,I.cell,I.free,I.freeC,I.pin,I.hok,I.len⟩
theorem Inv.zp(ok:X.Ok)(I:Inv (X.sui e) pins σ H s):Inv X pins σ H s:=⟨ok,I.os,I.bare,I.base,I.loc,I.cell,I.free,I.freeC,I.pin,I.hok,I.len⟩
end
noncomputable def Ends.vS (D:Ends) (i:Nat):Ends:=⟨fun σ H=>D.nx (σ.set i none) H,D.rt,fun σ H=>D.bk (σ.set i none) H,fun σ H=>D.ct (σ.set i none) H⟩
noncomputable def EI (K:Fg0) (C₀:Addr) (i:Nat) (ts:TS) (D:Ends):St->XK:=fun σ' cls dx H'=>∃ C,cls=.ref C/\PySem.W.mroIn K C (.ref C₀)=some true/\∀ e,H' e=none->ts (D.vS i) (σ'.set i (some (.ref e))) (upd H' e (m6 e cls dx))
def Im (K:Fg0) (C₀:Addr) (i:Nat) (tb:(St->XK)->TS) (ts:TS):TS:=fun D σ H=>tb (EI K C₀ i ts D) D σ H
section
variable {x nm:Str}{C₀:Addr}{body suite:List Stmt}{b₀:Stmt}{np hpos:Pos}{tb:(St->XK)->TS}{ts:TS}
theorem DZ{pins:Pn}{D:Ends}(c:Et X.K C₀)(hg:Gl X x)(hm:X.mg x=some (.ref C₀))(hN:X.N.Nodup)(hi:X.N[i]?=some nm)(hk:X.env.kindOf nm=some .local)(hs:∀ e,PSs (X.sui e) (b₀::suite) ts)(I:Inv X pins σ H s)(a:XAt X pins n)(y:ExcAt n H s.heap e cls dx)(w:EI X.K C₀ i ts D σ cls dx H)(hdb:(x == ("__debug__":Str))=false) :
  wpAny (model X.prog X.w) X.A (handleBy (.ref e) X.env [.ExceptHandler (some (.Name x np)) (some nm) (b₀::suite) hpos]) (SP X pins D) X.xe s:=by
 obtain⟨C,rfl,hsub,ht⟩:=w;obtain⟨oe,vs,he,hc,_⟩:=id y.rcd;refine wpAny_handleBy_cons (codeAny_handlers_test (eY (X:=X.sui e) (I.sui e) hg hm ?_ hdb)) (by intro q;cases q);refine exm I.kIn c he hc hsub ?_;dsimp only;rw[if_pos rfl];refine codeAny_handlers_suite_as (Bf I a y fun h' I1 y1=>?_);have I2:=I1.Kt a y1;refine fe (v:=.ref e) I2 hN hi (.inl hk) rfl (fun s2 I3=>?_) (.inr hk);refine wpAny_mono ((hs e) pins s2 _ _ (D.vS i) (I3.sui e) (ht e y.free)) (fun f s3 q=>?_) fun _ _ z=>z.elim;have ok:=I.ok;cases f with
 | next=>
  obtain⟨σ',H',I',q⟩:=q;exact qH (I'.zp ok) hN hi hk fun s4 I4=>⟨_,H',I4,q⟩
 | brk=>
  obtain⟨σ',H',I',q⟩:=q;exact qH (I'.zp ok) hN hi hk fun s4 I4=>⟨_,H',I4,q⟩
 | cont=>
  obtain⟨σ',H',I',q⟩:=q;exact qH (I'.zp ok) hN hi hk fun s4 I4=>⟨_,H',I4,q⟩
 | ret u=>
  obtain⟨v,σ',H',I',r,q⟩:=q;exact qH (I'.zp ok) hN hi hk fun s4 I4=>⟨v,_,H',I4,r,q⟩
theorem IP(c:Et X.K C₀)(hst:X.stack=X.env::X.outer)(hfr:X.env.frame=some L)(hg:Gl X x)(hm:X.mg x=some (.ref C₀))(hN:X.N.Nodup)(hi:X.N[i]?=some nm)(hk:X.env.kindOf nm=some .local)(hb:∀ pins W,PSs ((X.mO pins).ng (XP (X.mO pins) W)) body (tb W))(hs:∀ pins e,PSs ((X.mO pins).sui e) (b₀::suite) ts)(hdb:autoParam ((x == ("__debug__":Str))=false) wP) :
  PS X (.Try body [.ExceptHandler (some (.Name x np)) (some nm) (b₀::suite) hpos] [] [] pos) (Im X.K C₀ i tb ts):=by
 intro pins s σ H D I h;have bd:=hb pins (EI X.K C₀ i ts D) [] s σ H D (I.mO.ng _) h;refine wpAny_Try_except (wpAny_mono bd (fun f s1 q=>?_) fun ev s1 q=>?_)
 ·cases f with
  | next=>
   obtain⟨σ',H',I',q⟩:=q;exact wpAny_execs_nil ⟨σ',H',I'.eJ.ir,q⟩
  | brk=>
   obtain⟨σ',H',I',q⟩:=q;exact⟨σ',H',I'.eJ.ir,q⟩
  | cont=>
   obtain⟨σ',H',I',q⟩:=q;exact⟨σ',H',I'.eJ.ir,q⟩
  | ret u=>
   obtain⟨v,σ',H',I',r,q⟩:=q;exact⟨v,σ',H',I'.eJ.ir,r,q⟩
 ·obtain⟨e,cls,dx,H',σ',n,rfl,I',a,y,w⟩:=q;refine land I' a y hst hfr fun h' I2 y2=>?_;have r:=DZ (X:=X.mO pins) (np:=np) (hpos:=hpos) (D:=D) c hg hm hN hi hk (hs pins) I2 a y2 w hdb;refine thn r fun f s3 q=>?_;cases f with
  | next=>
   obtain⟨σ2,H2,I2,q⟩:=q;exact⟨σ2,H2,I2.ir,q⟩
  | brk=>
   obtain⟨σ2,H2,I2,q⟩:=q;exact⟨σ2,H2,I2.ir,q⟩
  | cont=>
   obtain⟨σ2,H2,I2,q⟩:=q;exact⟨σ2,H2,I2.ir,q⟩
  | ret u=>
   obtain⟨v,σ2,H2,I2,r,q⟩:=q;exact⟨v,σ2,H2,I2.ir,r,q⟩
end
def xY (sp:Sp) (dvs:List V) (E:St->XK) (t:TA):TE:=fun σ H Q=>t σ H fun vs H1=>sp (vs++dvs) H1 Q (E σ)
section
variable {CX:CXT}{ds:Lv0}{E:St->XK}{x m:Str}{p:Pos}{e:Expr}
theorem EV{pins:Pn}{Q:VK}(F:aG X.prog X.w X.K X.mg X.base CX k f fd ps sp)(hr:bF k X.A)(hb:Binds X.K fd ps ds)(hd:Vals dvs ds)(hx:e9 CX X E)(I:Inv X pins σ H s)(r:Vals vs us)(h:sp (vs++dvs) H Q (E σ)):wpAny (model X.prog X.w) X.A (call (.ref f) us) (EP X pins σ Q) X.xe s:=by
 have r2:Vals (vs++dvs) (us++ds):=r.append hd;have hl:(us++ds).length=ps.length:=by rw[<- r2.length];exact F.len _ _ _ _ h
 refine wpAny_call (codeAny_mono (F.run X.A X.stack s H ⟨us,[]⟩ (us++ds) (vs++dvs) Q (E σ) hr I.Gw (hb s us I.kIn hl) r2 h) fun r s' hq=>?_);cases r with
 | error e=>exact hx pins σ H s e s' I hq
 | ok fl=>
  cases fl with
  | ret u=>exact I.after hq
  | next=>exact False.elim hq
  | brk=>exact False.elim hq
  | cont=>exact False.elim hq
theorem CO(F:aG X.prog X.w X.K X.mg X.base CX k f fd ps sp)(hr:bF k X.A)(hg:Gl X x)(hm:X.mg x=some (.ref f))(hk:PySem.W.keepIn X.K (.ref f)=true)(hb:Binds X.K fd ps ds)(hd:Vals dvs ds)(hx:e9 CX X E)(ha:PA X (e::es) t)(hdb:autoParam ((x == ("__debug__":Str))=false) wP)(he:autoParam (starEach (e::es) X.env=(false,eval e X.env)::starEach es X.env) wE)(hpl:autoParam ((backTo pos (starEach es X.env)).any (·.1)=false) wE) :
  PE X (.Call (.Name x p) (e::es) [] pos) (xY sp dvs E t):=by
 intro pins s σ H Q I h;refine wpAny_Call_Name_kw (eY I hg hm ?_ hdb);refine PySem.W.callWith_K (h₀:=X.base) I.ok.mod.kin hk (thn (ha pos pins s σ H _ I h) fun us s1 ⟨vs,H1,I1,r,q⟩=>⟨I1.kIn,?_⟩) he hpl;exact EV F hr hb hd hx I1 r q
end
structure tM (K:Fg0) (C:Addr):Prop where
 ga:PySem.W.findIn K (.ref C) "__getattribute__"=some (some (.builtin "BaseException.__getattribute__"))
 gh:PySem.W.findIn K (.ref C) "__getattr__"=some none
 hd:PySem.W.hasDictIn K C=true
 ex:PySem.W.mroIn K C (.type "BaseException")=some true
section
variable {dx:Addr}{vs:Array Value}
open PySem.W in
theorem BF {expr:Bool} {Q:VS} (X:K.In s.heap) (he:s.heap.get? e=some oe) (hc:oe.cls=.ref C) (hdx:oe.dict=some dx) (hdt:oe.data=.fields vs) (n:s.heap.Ns1 dx mA) (c:tM K C)
  (ha:findIn K (.ref C) name=some none) (hv:mA name=some v) (hv':handedIn v=true) (h:Q v { s with toks:=s.toks + 1 }):wpAny (model prog w) A (getAttr (.ref e) name expr) Q E s:=by
 obtain⟨od,ho,hl⟩:=lF n;have I:InstAt s.heap e oe C (some od):=⟨he,hc,by unfold notCls;rw[hdt],by rw[hdx];exact ho⟩;have hf:findObj K C (some od) name=some (.value v):=findObj_own c.hd ha rfl (by rw[hl,hv]);have ti:Looks (model prog w) s.heap (isInstance (.ref e) (.type "BaseException")) true:=I.type.andThen (looks_mroIn X c.ex);have L0:=I.type (M:=model prog w);have L1:=looks_find (M:=model prog w) X I hf;have hb:Looks (model prog w) s.heap (hookBefore (.ref C)) none:=looks_hook X (show (if true=true then findIn K (.ref C) "__getattr__" else some none)=some none from c.gh);have ga:=PySem.F.attr_ValueError.ga;refine wpAny_bind (wpAny_mkText (wpAny_holding (wpAny_bind (L0 _ _ _ _ (fun _ _ e=>e) (wpAny_bind (looks_findIn X c.ga _ _ _ _ (fun _ _ e=>e) ?_))))));dsimp only;rw[show (onTheHeap (Value.ref C) && Value.builtin "BaseException.__getattribute__" == Value.builtin "object.__getattribute__")=false from by rw[show (Value.builtin "BaseException.__getattribute__" == Value.builtin "object.__getattribute__")=false from by decide +kernel,Bool.and_false],if_neg (by decide)];refine wpAny_bind (hb _ _ _ _ (fun _ _ e=>e) ?_);refine wpAny_bind (wpAny_attempt (wpAny_holding ?_));unfold callGetattribute;rw[show (expr && onTheHeap (Value.builtin "BaseException.__getattribute__"))=false from Bool.and_false _,if_neg (by decide)];unfold boundAndCalled;rw[ga.bind];refine wpAny_bind (wpAny_pure ?_);show wpAny _ _ (call (.builtin "BaseException.__getattribute__") [.ref e,.str name s.toks]) _ _ _;refine wpAny_call ?_;refine codeAny_call_builtin ga.plain PySem.F.entry_bexc_ga ?_;refine @check_slot (model prog w) _ _ { s with toks:=s.toks + 1 } "BaseException.__getattribute__" "BaseException" "__getattribute__" (.ref e) [.str name s.toks] [] _ (by decide +kernel) (by decide +kernel) ti (PySem.F.args_bexc_ga (.ref e) (.str name s.toks)) ?_;obtain⟨hh',g,d,t,os⟩:=s;unfold Builtin.«object.__getattribute__»;refine wpAny_bind (wpAny_pure (a:=(Value.ref e,[Value.str name t])) ?_);refine wpAny_bind (wpAny_pure (a:=name) ?_);refine wpAny_bind (L0 _ _ _ _ (fun _ _ e=>e) (wpAny_bind (L1 _ _ _ _ (fun _ _ e=>e) (wpAny_pure ?_))));show wpAny _ _ (handedOut v) _ _ _;rw[handedOut_of hv'];exact wpAny_pure h
end
def G3 (K:Fg0) (ta:TE) (f:Str):TE:=fun σ H Q=>ta σ H fun x H1=>∃ e C d fs v,x=.ref e/\H1 e=some (m6 e (.ref C) (some d))/\H1 d=some (XdO d fs)/\tM K C/\bO K C f/\fs.lookup f=some v/\Q v H1
section
variable {f:Str}
theorem Fq(he:PE X o ta)(hb:attributeBase o f X.env (eval o X.env)=eval o X.env):PE X (.Attribute o f pos) (G3 X.K ta f):=by
 intro pins s σ H Q I h;refine Ai hb (thn (he pins s σ H _ I h) fun u s1 Z=>?_);obtain⟨x,H1,I1,rx,e,C,d,fs,v,ex,ee,ed,c,n,l,q⟩:=Z;subst ex;obtain rfl:u=Value.ref e:=rx;obtain⟨oe,vs,g,hc,hdx,hdt⟩:=xA I1.hok ee;obtain⟨mA,nA,r,_⟩:=uW I1.hok ed;have rf:=r f;rw[l] at rf;obtain⟨u,hu,ru⟩:=lU.some_of rf;exact BF I1.kIn g hc hdx hdt nA c n hu (ux ru) ⟨v,H1,I1.tok _,ru,q⟩
end
structure XIs (K:Fg0) (C:Addr):Prop extends tM K C where
 ca:PySem.W.findIn K (.ref C) "__class__"=some (some (.builtin "object.__class__"))
 cg:PySem.W.specialIn K (.builtin "object.__class__") "__get__"=some (some (.builtin "getset_descriptor.__get__"))
 ct:PySem.W.takesIn K (.builtin "object.__class__")=some true
 ob:PySem.W.mroIn K C (.type "object")=some true
section
variable {od:Option Obj}
open PySem.W in
theorem xP {Q:Option Value->Shared->Prop} (c:XIs K C) (X:K.In s.heap) (I:InstAt s.heap e oe C od) (h:Q (some (.ref C)) { s with toks:=s.toks + 1 }):wpAny (model prog w) A (getAttr? (.ref e) "__class__") Q E s:=by
 have hf:findObj K C od "__class__"=some (.bind (.builtin "getset_descriptor.__get__") (.builtin "object.__class__")):=by
  obtain⟨cd,hc,_⟩:=any_some c.hd;cases od with
  | some o=>exact findObj_data (by rw[hc];rfl) c.ca c.cg c.ct
  | none=>simp [findObj,hc,c.ca,c.cg,c.ct]
 have ti:Looks (model prog w) s.heap (isInstance (.ref e) (.type "BaseException")) true:=I.type.andThen (looks_mroIn X c.ex);have L0:=I.type (M:=model prog w);have L1:=looks_find (M:=model prog w) X I hf;have hb:Looks (model prog w) s.heap (hookBefore (.ref C)) none:=looks_hook X (show (if true=true then findIn K (.ref C) "__getattr__" else some none)=some none from c.gh);have ga:=PySem.F.attr_ValueError.ga;refine wpAny_bind (wpAny_mkText (wpAny_bind (wpAny_attempt (wpAny_holding (wpAny_bind (L0 _ _ _ _ (fun _ _ e=>e) (wpAny_bind (looks_findIn X c.ga _ _ _ _ (fun _ _ e=>e) ?_))))))));dsimp only;rw[show (onTheHeap (Value.ref C) && Value.builtin "BaseException.__getattribute__" == Value.builtin "object.__getattribute__")=false from by rw[show (Value.builtin "BaseException.__getattribute__" == Value.builtin "object.__getattribute__")=false from by decide +kernel,Bool.and_false],if_neg (by decide)];refine wpAny_bind (hb _ _ _ _ (fun _ _ e=>e) ?_);refine wpAny_bind (wpAny_attempt (wpAny_holding ?_));unfold callGetattribute;rw[if_neg (by decide)];unfold boundAndCalled;rw[ga.bind];refine wpAny_bind (wpAny_pure ?_);show wpAny _ _ (call (.builtin "BaseException.__getattribute__") [.ref e,.str "__class__" s.toks]) _ _ _;refine wpAny_call ?_;refine codeAny_call_builtin ga.plain PySem.F.entry_bexc_ga ?_;refine @check_slot (model prog w) _ _ { s with toks:=s.toks + 1 } "BaseException.__getattribute__" "BaseException" "__getattribute__" (.ref e) [.str "__class__" s.toks] [] _ (by decide +kernel) (by decide +kernel) ti (PySem.F.args_bexc_ga (.ref e) (.str "__class__" s.toks)) ?_;obtain⟨hh',g,d,t,os⟩:=s;unfold Builtin.«object.__getattribute__»;refine wpAny_bind (wpAny_pure (a:=(Value.ref e,[Value.str "__class__" t])) ?_);refine wpAny_bind (wpAny_pure (a:=("__class__":Str)) ?_);refine wpAny_bind (L0 _ _ _ _ (fun _ _ e=>e) (wpAny_bind (L1 _ _ _ _ (fun _ _ e=>e) ?_)));show wpAny _ _ (Builtin.ObjectAttr.bindTo _ _ _ _) _ _ _;unfold Builtin.ObjectAttr.bindTo;refine wpAny_bind (wpAny_holding (wpAny_call (class_get (s:=⟨hh',g,d,t + 1,os⟩) (ox:=oe) (od:=od) X I c.ob (wpAny_pure ?_))));show wpAny _ _ (handedOut (.ref C)) _ _ _;exact handed_on rfl (wpAny_pure h)
open PySem.W in
theorem Ds (c:XIs K C):KitX K (.ref e) (.ref C) (fun h=>InstAt h e oe C od) where
 ty:=fun _ _ _ I=>I.type
 it:=fun _ _ X _=>by
  obtain⟨cdD,hcD,_⟩:=any_some c.hd;obtain⟨_,_,_,ho⟩:=yX hcD;intro A' Q' E' s' k q;unfold isType loadHead;refine wpAny_bind (wpAny_loadPart (k _ _ (X _ _ ho)) ?_);exact wpAny_pure q
 ne:=fun h tp dd its n sl X htp=>by
  obtain⟨cdD,hcD,_⟩:=any_some c.hd;obtain⟨_,_,_,ho⟩:=yX hcD;refine Bool.eq_false_iff.mpr fun q=>?_;have e:C=tp:=Value.ref.inj (beq_iff_eq.mp q);subst e;cases (X _ _ ho).symm.trans htp
 ca:=fun X I k=>xP c X I k
end
noncomputable def XDk (H:Hp):Option Addr->List (Str×V)->Prop
 | some d,gs=>H d=some (XdO d gs)
 | none,gs=>gs=[]
theorem XDk.mono(e:∀ b o,H b=some o->H' b=some o):∀ {dx:Option Addr} {gs:List (Str×V)},XDk H dx gs->XDk H' dx gs
 | some _,_,h=>e _ _ h
 | none,_,h=>h
theorem KZ{pins:Pn}{gs:List (Str×V)}(I:Inv X pins σ H s)(he:H e=some (m6 e (.ref C) dx))(hd:XDk H dx gs):∃ oe od,PySem.W.InstAt s.heap e oe C od:=by
 obtain⟨oe,vs,g,hc,hdx,hdt⟩:=xA I.hok he;cases dx with
 | some d=>
  obtain⟨mA,nA,_⟩:=uW I.hok hd;obtain⟨od,ho,_⟩:=lF nA;exact⟨oe,some od,g,hc,by unfold PySem.W.notCls;rw[hdt],by rw[hdx];exact ho⟩
 | none=>exact⟨oe,none,g,hc,by unfold PySem.W.notCls;rw[hdt],by rw[hdx];trivial⟩
noncomputable def vv:V->Value
 | .ref a=>.ref a
 | .ty n=>.type n
 | _=>.none
noncomputable def isC:V->Bool
 | .ref _=>true
 | .ty _=>true
 | _=>false
theorem G1{x:V}(h:isC x=true)(r:RelV x u):u=vv x:=by
 cases x with
 | ref a=>exact r
 | ty n=>exact r
 | _=>cases h
theorem D0:bS X (.builtin "isinstance") (fun xs H Q=>∃ e C d fs c b,xs=[.ref e,c]/\H e=some (m6 e (.ref C) d)/\XDk H d fs/\XIs X.K C/\isC c=true/\PySem.W.kitOne X.K (.ref C) (vv c)=some b/\Q (.bl b) H):=by
 intro pins s σ H xs us Q I r h;obtain⟨e,C,d,fs,c,b,rfl,he,hd,x,ic,k,q⟩:=h;obtain⟨u,w',rfl,ru,rw'⟩:=vals2 r;obtain rfl:u=Value.ref e:=ru;obtain rfl:=G1 ic rw';obtain⟨oe,od,J⟩:=KZ I he hd;exact PySem.W.kia_one (Ds x) I.kIn J k (fun z=>nomatch z) fun tk=>⟨.bl b,H,I.tok _,rfl,q⟩
end L2
namespace L3
open PySem L2
def M8 (o:Obj) (c:Addr) (q:Str):Prop:=∃ fd,o.data=.func fd/\fd.code=.ref c/\fd.qualname=q
set_option genSizeOf true in
inductive D where
 | non | bl (b:Bool) | int (i:Int) | str (x:Str) | lst (xs:List D) | tup (xs:List D) | ktup (xs:List D) | ins (C:Addr) (ns:Ls0) (xs:List D) | scr (ns:Li0) | ty (n:String) | adr (a:Addr) | cel (p:Addr) (xs:List D) | exc (C:Addr) (ns:Ls0) (xs:List D) | dct | dcs (k:Str) (i:Int) | fn (o:Unit->Obj) (f:Addr) (v:V) (r:D) | obj (p:Addr) (c:Option Addr) | mp (kvs:List (Int×Int×Int))
noncomputable def mpT (kvs:List (Int×Int×Int)):List (List Key×V):=kvs.map fun q=>([.inl q.1,.inl q.2.1],.int q.2.2)
noncomputable def GY (F:Hp) (p:Addr):Option Addr->Prop
 | some C=>∃ dx gs,F p=some (.ins C dx gs)
 | none=>F p=some (.dK [])
theorem GY.to(e:∀ o,F p=some o->(∀ vs,o≠.lst vs)->F' p=some o):∀ {c:Option Addr},GY F p c->GY F' p c
 | some _,⟨dx,gs,h⟩=>⟨dx,gs,e _ h fun _ z=>by cases z⟩
 | none,h=>e _ h fun _ z=>by cases z
mutual
noncomputable def Rep (K:Fg0) (F:Hp):D->V->Prop
 | .non,v=>v=.non
 | .bl b,v=>v=.bl b
 | .int i,v=>v=.int i
 | .str x,v=>v=.str x
 | .ty n,v=>v=.ty n
 | .adr a,v=>v=.ref a
 | .cel p xs,v=>v=.ref p/\∃ vs,F p=some (.lst vs)/\aA K F xs vs
 | .scr ns,v=>∃ p,v=.ref p/\SqL K F p (ns.map V.int)
 | .lst xs,v=>∃ p vs,v=.ref p/\F p=some (.lst vs)/\aA K F xs vs
 | .tup xs,v=>∃ p vs,v=.ref p/\F p=some (.tup vs)/\aA K F xs vs
 | .ktup xs,v=>∃ p vs,v=.ref p/\SqT K F p vs/\aA K F xs vs
 | .ins C ns xs,v=>∃ p dx gs,v=.ref p/\F p=some (.ins C dx gs)/\gs.map (·.1)=ns/\aA K F xs (gs.map (·.2))
 | .dct,v=>∃ p,v=.ref p/\F p=some (.dK [])
 | .dcs k i,v=>∃ p,v=.ref p/\F p=some (.dK [(.inr k,.int i)])
 | .exc C ns xs,v=>∃ p d gs,v=.ref p/\F p=some (m6 p (.ref C) d)/\XDk F d gs/\gs.map (·.1)=ns/\aA K F xs (gs.map (·.2))
 | .fn o f v r,x=>x=.ref f/\(∃ c q,F f=some (.frz (o ()) (.cod c q))/\M8 (o ()) c q)/\Rep K F r v
 | .obj p c,v=>v=.ref p/\GY F p c
 | .mp kvs,v=>∃ p,v=.ref p/\F p=some (.dT (mpT kvs))
noncomputable def aA (K:Fg0) (F:Hp):List D->List V->Prop
 | [],vs=>vs=[]
 | x::xs,vs=>∃ v ws,vs=v::ws/\Rep K F x v/\aA K F xs ws
end
theorem SqT.same(e:aE H H')(h:SqT K H a xs):SqT K H' a xs:=by
 rcases h with (h | ⟨o,h⟩) | h
 ·exact .inl (.inl (e _ _ h))
 ·exact .inl (.inr ⟨o,e _ _ h⟩)
 ·exact .inr h
mutual
theorem Rep.mono {K:Fg0} {F F':Hp} (e:aE F F'):∀ {d:D} {v:V},Rep K F d v->Rep K F' d v
 | .non,_,h=>h
 | .bl _,_,h=>h
 | .int _,_,h=>h
 | .str _,_,h=>h
 | .ty _,_,h=>h
 | .adr _,_,h=>h
 | .cel _ _,_,⟨h1,vs,h2,h3⟩=>⟨h1,vs,e _ _ h2,aA.mono e h3⟩
 | .scr _,_,⟨p,h1,h2⟩=>⟨p,h1,e.seq h2⟩
 | .lst _,_,⟨p,vs,h1,h2,h3⟩=>⟨p,vs,h1,e _ _ h2,aA.mono e h3⟩
 | .tup _,_,⟨p,vs,h1,h2,h3⟩=>⟨p,vs,h1,e _ _ h2,aA.mono e h3⟩
 | .ktup _,_,⟨p,vs,h1,h2,h3⟩=>⟨p,vs,h1,SqT.same e h2,aA.mono e h3⟩
 | .ins _ _ _,_,⟨p,dx,gs,h1,h2,h3,h4⟩=>⟨p,dx,gs,h1,e _ _ h2,h3,aA.mono e h4⟩
 | .dct,_,⟨p,h1,h2⟩=>⟨p,h1,e _ _ h2⟩
 | .dcs _ _,_,⟨p,h1,h2⟩=>⟨p,h1,e _ _ h2⟩
 | .exc _ _ _,_,⟨p,dx,gs,h1,h2,h5,h3,h4⟩=>⟨p,dx,gs,h1,e _ _ h2,h5.mono e,h3,aA.mono e h4⟩
 | .fn _ _ _ _,_,⟨h1,⟨c,q,h2,h4⟩,h3⟩=>⟨h1,⟨c,q,e _ _ h2,h4⟩,Rep.mono e h3⟩
 | .obj _ _,_,⟨h1,h2⟩=>⟨h1,h2.to fun _ h _=>e _ _ h⟩
 | .mp _,_,⟨p,h1,h2⟩=>⟨p,h1,e _ _ h2⟩
theorem aA.mono {K:Fg0} {F F':Hp} (e:aE F F'):∀ {xs:List D} {vs:List V},aA K F xs vs->aA K F' xs vs
 | [],_,h=>h
 | _::_,_,⟨v,ws,h1,h2,h3⟩=>⟨v,ws,h1,Rep.mono e h2,aA.mono e h3⟩
end
inductive Sl where
 | fz (d:D) | ow (d:D) | ln (d:D)
abbrev G:=List (Option Sl)
inductive RV where
 | fz (d:D) | fr (d:D) | two (xs ys:List D) | rws (xss:List (List D)) | tol (x:Str) (xs ys:List D)
noncomputable def RV.pl:RV->Bool
 | .fz _=>true
 | .fr _=>true
 | _=>false
noncomputable def RV.d:RV->D
 | .fz d=>d
 | .fr d=>d
 | .two xs ys=>.tup [.lst xs,.lst ys]
 | .rws xss=>.lst (xss.map .lst)
 | .tol x xs ys=>.lst [.str x,.lst (.lst xs::ys)]
noncomputable def RV.sl:RV->Sl
 | .fz d=>.fz d
 | .fr d=>.ow d
 | .two xs ys=>.fz (.tup [.lst xs,.lst ys])
 | .rws xss=>.ow (.lst (xss.map .lst))
 | .tol x xs ys=>.ow (.lst [.str x,.lst (.lst xs::ys)])
set_option genInjectivity false in
structure Bs where
 F:Hp
 H:Hp
 own:List (Nat×Addr)
noncomputable def Own (K:Fg0) (F H:Hp) (p:Addr):D->Prop
 | .lst xs=>∃ vs,H p=some (.lst vs)/\aA K F xs vs
 | .cel q xs=>p=q/\∃ vs,H p=some (.lst vs)/\aA K F xs vs
 | .ins C ns xs=>∃ dx gs,H p=some (.ins C dx gs)/\gs.map (·.1)=ns/\aA K F xs (gs.map (·.2))
 | _=>False
theorem Own.mono(e:aE F F')(h:H' p=H p):∀ {d:D},Own K F H p d->Own K F' H' p d
 | .lst _,⟨vs,a,b⟩=>⟨vs,h.trans a,b.mono e⟩
 | .cel _ _,⟨z,vs,a,b⟩=>⟨z,vs,h.trans a,b.mono e⟩
 | .ins _ _ _,⟨dx,gs,a,b,c⟩=>⟨dx,gs,h.trans a,b,c.mono e⟩
theorem Own.some {K:Fg0} {F H:Hp} {p:Addr}:∀ {d:D},Own K F H p d->∃ o,H p=some o
 | .lst _,⟨_,a,_⟩=>⟨_,a⟩
 | .cel _ _,⟨_,_,a,_⟩=>⟨_,a⟩
 | .ins _ _ _,⟨_,_,a,_⟩=>⟨_,a⟩
theorem Own.rep{o:HO}(hF:F p=none)(ho:H p=Option.some o):∀ {d:D},Own K F H p d->Rep K (upd F p o) d (.ref p)
 | .lst _,Z=>by
  obtain⟨vs,a,b⟩:=Z;rw[ho] at a;cases a;exact⟨p,vs,rfl,ar,b.mono fun x u e=>by rw[ah (aJ e hF)];exact e⟩
 | .cel _ _,Z=>by
  obtain⟨z,vs,a,b⟩:=Z;rw[ho] at a;cases a;subst z;exact⟨rfl,vs,ar,b.mono fun x u e=>by rw[ah (aJ e hF)];exact e⟩
 | .ins _ _ _,Z=>by
  obtain⟨dx,gs,a,b,c⟩:=Z;rw[ho] at a;cases a;exact⟨p,dx,gs,rfl,ar,b,c.mono fun x u e=>by rw[ah (aJ e hF)];exact e⟩
def Hld (Γ:G) (i:Nat) (d:D):Prop:=Γ[i]?=some (some (Sl.ow d))\/Γ[i]?=some (some (Sl.ln d))
structure En (K:Fg0) (B:Bs) (F:Hp) (σ:St) (H:Hp) (Γ:G):Prop where
 sub:aE F H
 len:σ.length=Γ.length
 fz:∀ (i:Nat) (d:D),Γ[i]?=some (some (Sl.fz d))->∃ v,σ[i]?=some (some v)/\Rep K F d v
 hl:∀ (i:Nat) (d:D),Hld Γ i d->∃ p,σ[i]?=some (some (V.ref p))/\F p=none/\Own K F H p d
 ow:∀ (i:Nat) (d:D) (p:Addr),Γ[i]?=some (some (Sl.ow d))->σ[i]?=some (some (V.ref p))->B.H p=none
 ln:∀ (i:Nat) (d:D) (p:Addr),Γ[i]?=some (some (Sl.ln d))->σ[i]?=some (some (V.ref p))->(i,p)∈B.own
 dis:∀ (i j:Nat) (d e:D) (p:Addr),Hld Γ i d->Hld Γ j e->σ[i]?=some (some (V.ref p))->σ[j]?=some (some (V.ref p))->i=j
 par:∀ (i:Nat) (p:Addr),(i,p)∈B.own->σ[i]?=some (some (V.ref p))/\∃ d,Γ[i]?=some (some (Sl.ln d))
 keep:aE B.F F
 new:∀ (b:Addr) (o:HO),F b=some o->B.F b=some o\/B.H b=none
 rest:∀ (b:Addr) (o:HO),B.H b=some o->(∀ i,(i,b)∉B.own)->H b=some o
 dom:∀ b,H b=none->B.H b=none
section
variable {B:Bs}{Γ:G}
theorem En.alloc(e:En K B F σ H Γ)(hl:H l=none)(o:HO):En K B F σ (upd H l o) Γ where
 sub:=fun b u h=>by rw[ah (aJ (e.sub b u h) hl)];exact e.sub b u h
 len:=e.len
 fz:=e.fz
 hl:=fun i d h=>by
  obtain⟨p,h1,h2,h3⟩:=e.hl i d h;obtain⟨u,hu⟩:=h3.some;exact⟨p,h1,h2,h3.mono (aE.refl F) (ah (aJ hu hl))⟩
 ow:=e.ow
 ln:=e.ln
 dis:=e.dis
 par:=e.par
 keep:=e.keep
 new:=e.new
 rest:=fun b u h n=>by rw[ah (aJ (e.rest b u h n) hl)];exact e.rest b u h n
 dom:=fun b h=>by
  by_cases q:b=l
  ·subst q;exact e.dom _ hl
  ·rw[ah q] at h;exact e.dom b h
theorem aQ{o:HO}(h:F l=none):aE F (upd F l o):=fun b u e=>by rw[ah (aJ e h)];exact e
theorem En.freeze(e:En K B F σ H Γ){o:HO}(hF:F l=none)(hH:H l=some o)(hB:B.H l=none)(hn:∀ (i:Nat) (d:D),Hld Γ i d->σ[i]?≠some (some (V.ref l))):En K B (upd F l o) σ H Γ where
 sub:=fun b u h=>by
  by_cases q:b=l
  ·subst q;rw[ar] at h;cases h;exact hH
  ·rw[ah q] at h;exact e.sub b u h
 len:=e.len
 fz:=fun i d h=>by
  obtain⟨v,h1,h2⟩:=e.fz i d h;exact⟨v,h1,h2.mono (aQ hF)⟩
 hl:=fun i d h=>by
  obtain⟨p,h1,h2,h3⟩:=e.hl i d h;have q:p≠l:=fun z=>hn i d h (z ▸ h1);exact⟨p,h1,by rw[ah q];exact h2,h3.mono (aQ hF) rfl⟩
 ow:=e.ow
 ln:=e.ln
 dis:=e.dis
 par:=e.par
 keep:=e.keep.trans (aQ hF)
 new:=fun b u h=>by
  by_cases q:b=l
  ·subst q;exact .inr hB
  ·rw[ah q] at h;exact e.new b u h
 rest:=e.rest
 dom:=e.dom
noncomputable def de (K:Fg0) (F H:Hp):La0->List (List D)->Prop
 | [],xss=>xss=[]
 | q::qs,xss=>∃ xs xt vs,xss=xs::xt/\H q=some (.lst vs)/\aA K F xs vs/\de K F H qs xt
theorem de.mono(s:aE F F'):∀ {qs:La0} {xss:List (List D)},(∀ q∈qs,H' q=H q)->de K F H qs xss->de K F' H' qs xss
 | [],_,_,h=>h
 | q::qs,_,e,⟨xs,xt,vs,h1,h2,h3,h4⟩=>⟨xs,xt,vs,h1,(e q (.head _)).trans h2,h3.mono s,de.mono s (fun z hz=>e z (.tail _ hz)) h4⟩
noncomputable def jH (K:Fg0) (B:Bs) (F:Hp) (σ:St) (H:Hp) (Γ:G) (v:V):RV->Prop
 | .fz d=>Rep K F d v
 | .fr d=>∃ p,v=.ref p/\F p=none/\Own K F H p d/\B.H p=none/\∀ (i:Nat) (e:D),Hld Γ i e->σ[i]?≠some (some (V.ref p))
 | .rws xss=>∃ p qs,v=.ref p/\H p=some (.lst (qs.map V.ref))/\(p::qs).Nodup/\de K F H qs xss/\∀ z,z∈p::qs->F z=none/\B.H z=none/\∀ (i:Nat) (e:D),Hld Γ i e->σ[i]?≠some (some (V.ref z))
 | .tol x xs ys=>∃ p q w vs,v=.ref p/\H p=some (.lst [.str x,w])/\Rep K F (.lst (.adr q::ys)) w/\H q=some (.lst vs)/\aA K F xs vs/\p≠q/\∀ z,z=p\/z=q->F z=none/\B.H z=none/\∀ (i:Nat) (e:D),Hld Γ i e->σ[i]?≠some (some (V.ref z))
 | .two xs ys=>∃ t p q vs ws,v=.ref t/\H t=some (.tup [.ref p,.ref q])/\H p=some (.lst vs)/\H q=some (.lst ws)/\aA K F xs vs/\aA K F ys ws/\p≠q/\∀ z,z=t\/z=p\/z=q->F z=none/\B.H z=none/\∀ (i:Nat) (e:D),Hld Γ i e->σ[i]?≠some (some (V.ref z))
theorem Aj{q:Addr}{xs ys:List D}{w:V}(s:aE F F')(h:F' q=some (.lst vs))(hx:aA K F' xs vs)(r:Rep K F (.lst (.adr q::ys)) w):Rep K F' (.lst (.lst xs::ys)) w:=by
 obtain⟨a,us,rfl,h1,v,ws,rfl,rfl,h2⟩:=r;exact⟨a,_,rfl,s _ _ h1,_,_,rfl,⟨q,vs,rfl,h,hx⟩,h2.mono s⟩
theorem En.vV:∀ {qs:La0} {xss:List (List D)} {F:Hp},En K B F σ H Γ->de K F H qs xss->qs.Nodup->(∀ z∈qs,F z=none/\B.H z=none/\∀ (i:Nat) (e:D),Hld Γ i e->σ[i]?≠some (some (V.ref z)))->
  ∃ F',aE F F'/\En K B F' σ H Γ/\aA K F' (xss.map .lst) (qs.map V.ref)/\∀ z,z∉qs->F' z=F z
 | [],_,F,e,h,_,_=>by cases h;exact⟨F,aE.refl F,e,rfl,fun _ _=>rfl⟩
 | q::qs,_,F,e,⟨xs,xt,vs,h1,h2,h3,h4⟩,nd,hn=>by
  subst h1;obtain⟨n1,n2⟩:=List.nodup_cons.mp nd;obtain⟨a1,a2,a3⟩:=hn q (.head _);have e1:=e.freeze a1 h2 a2 a3;have s1:=aQ (o:=.lst vs) a1;obtain⟨F',s',e',r',k'⟩:=En.vV (qs:=qs) e1 (h4.mono s1 fun _ _=>rfl) n2 fun z hz=>by
   obtain⟨b1,b2,b3⟩:=hn z (.tail _ hz);exact⟨by rw[ah (a:=q) (b:=z) (fun w=>n1 (by rw[<- w];exact hz))];exact b1,b2,b3⟩
  refine⟨F',s1.trans s',e',⟨_,_,rfl,⟨q,vs,rfl,s' _ _ ar,h3.mono (s1.trans s')⟩,r'⟩,fun z hz=>?_⟩;rw[List.mem_cons,not_or] at hz;rw[k' z hz.2,ah hz.1]
theorem En.zC(e:En K B F σ H Γ){qs:La0}{xss:List (List D)}(hp:H p=some (.lst (qs.map V.ref)))(nd:(p::qs).Nodup)(r:de K F H qs xss)(hn:∀ z,z∈p::qs->F z=none/\B.H z=none/\∀ (i:Nat) (e:D),Hld Γ i e->σ[i]?≠some (some (V.ref z))) :
  ∃ F',aE F F'/\En K B F' σ H Γ/\F' p=none/\Own K F' H p (.lst (xss.map .lst)):=by
 obtain⟨n1,n2⟩:=List.nodup_cons.mp nd;obtain⟨F',s',e',r',k'⟩:=e.vV r n2 fun z hz=>hn z (.tail _ hz);exact⟨F',s',e',(k' p n1).trans (hn p (.head _)).1,_,hp,r'⟩
theorem En.BV(e:En K B F σ H Γ){x:Str}{xs ys:List D}{q:Addr}{w:V}(h1:H p=some (.lst [.str x,w]))(h2:Rep K F (.lst (.adr q::ys)) w)(h3:H q=some (.lst vs))(h4:aA K F xs vs)(ne:p≠q)(hn:∀ z,z=p\/z=q->F z=none/\B.H z=none/\∀ (i:Nat) (e:D),Hld Γ i e->σ[i]?≠some (some (V.ref z))) :
  ∃ F',aE F F'/\En K B F' σ H Γ/\F' p=none/\Own K F' H p (.lst [.str x,.lst (.lst xs::ys)]):=by
 obtain⟨a1,a2,a3⟩:=hn q (.inr rfl);have s1:=aQ (o:=.lst vs) a1;exact⟨upd F q (.lst vs),s1,e.freeze a1 h3 a2 a3,(ah ne).trans (hn p (.inl rfl)).1,_,h1,_,_,rfl,rfl,_,_,rfl,Aj s1 ar (h4.mono s1) h2,rfl⟩
theorem En.frozen(e:En K B F σ H Γ){v:V}:∀ {r:RV},jH K B F σ H Γ v r->∃ F',aE F F'/\En K B F' σ H Γ/\Rep K F' r.d v
 | .fz d,h=>⟨F,aE.refl F,e,h⟩
 | .fr d,Z=>by
  obtain⟨p,hv,h1,h2,h3,h4⟩:=Z;subst hv;obtain⟨o,ho⟩:=h2.some;exact⟨upd F p o,aQ h1,e.freeze h1 ho h3 h4,h2.rep h1 ho⟩
 | .rws xss,Z=>by
  obtain⟨p,qs,hv,h1,h2,h3,h4⟩:=Z;subst hv;obtain⟨F',s',e',f',o'⟩:=e.zC h1 h2 h3 h4;obtain⟨_,b2,b3⟩:=h4 p (.head _);exact⟨_,s'.trans (aQ f'),e'.freeze f' h1 b2 b3,o'.rep f' h1⟩
 | .tol x xs ys,Z=>by
  obtain⟨p,q,w,vs,hv,h1,h2,h3,h4,h5,h6⟩:=Z;subst hv;obtain⟨F',s',e',f',o'⟩:=e.BV h1 h2 h3 h4 h5 h6;obtain⟨_,b2,b3⟩:=h6 p (.inl rfl);exact⟨_,s'.trans (aQ f'),e'.freeze f' h1 b2 b3,o'.rep f' h1⟩
 | .two xs ys,Z=>by
  obtain⟨t,p,q,vs,ws,hv,h1,h2,h3,h4,h5,h6,h7⟩:=Z;subst hv;obtain⟨a1,a2,a3⟩:=h7 t (.inl rfl);obtain⟨b1,b2,b3⟩:=h7 p (.inr (.inl rfl));obtain⟨c1,c2,c3⟩:=h7 q (.inr (.inr rfl));have tp:t≠p:=fun z=>by rw[z,h2] at h1;cases h1
  have tq:t≠q:=fun z=>by rw[z,h3] at h1;cases h1
  have e1:=e.freeze b1 h2 b2 b3;have f2:upd F p (.lst vs) q=none:=by rw[ah (Ne.symm h6)];exact c1
  have e2:=e1.freeze f2 h3 c2 c3;have f3:upd (upd F p (.lst vs)) q (.lst ws) t=none:=by rw[ah tq,ah tp];exact a1
  have e3:=e2.freeze f3 h1 a2 a3;have s1:=aQ (o:=.lst vs) b1;have s2:=aQ (o:=.lst ws) f2;have s3:=aQ (o:=.tup [.ref p,.ref q]) f3;exact⟨_,(s1.trans s2).trans s3,e3,t,_,rfl,ar,⟨_,_,rfl,⟨p,vs,rfl,by rw[ah (Ne.symm tp),ah h6];exact ar,(h4.mono ((s1.trans s2).trans s3))⟩,_,_,rfl,⟨q,ws,rfl,by rw[ah (Ne.symm tq)];exact ar,h5.mono ((s1.trans s2).trans s3)⟩,rfl⟩⟩
theorem En.norm(e:En K B F σ H Γ){v:V}:∀ {r:RV},jH K B F σ H Γ v r->∃ F' r',aE F F'/\En K B F' σ H Γ/\jH K B F' σ H Γ v r'/\r'.sl=r.sl/\r'.pl=true
 | .fz d,h=>⟨F,.fz d,aE.refl F,e,h,rfl,rfl⟩
 | .fr d,h=>⟨F,.fr d,aE.refl F,e,h,rfl,rfl⟩
 | .rws xss,Z=>by
  obtain⟨p,qs,hv,h1,h2,h3,h4⟩:=Z;subst hv;obtain⟨F',s',e',f',o'⟩:=e.zC h1 h2 h3 h4;obtain⟨_,b2,b3⟩:=h4 p (.head _);exact⟨F',.fr (.lst (xss.map .lst)),s',e',⟨p,rfl,f',o',b2,b3⟩,rfl,rfl⟩
 | .tol x xs ys,Z=>by
  obtain⟨p,q,w,vs,hv,h1,h2,h3,h4,h5,h6⟩:=Z;subst hv;obtain⟨F',s',e',f',o'⟩:=e.BV h1 h2 h3 h4 h5 h6;obtain⟨_,b2,b3⟩:=h6 p (.inl rfl);exact⟨F',.fr (.lst [.str x,.lst (.lst xs::ys)]),s',e',⟨p,rfl,f',o',b2,b3⟩,rfl,rfl⟩
 | .two xs ys,h=>by
  obtain⟨F',s,e',r⟩:=e.frozen h;exact⟨F',.fz (.tup [.lst xs,.lst ys]),s,e',r,rfl,rfl⟩
def Po (K:Fg0) (B:Bs) (F:Hp) (σ:St) (Q:RV->G->Prop):VK:=fun v H'=>∃ F' Γ' r,aE F F'/\En K B F' σ H' Γ'/\jH K B F' σ H' Γ' v r/\Q r Γ'
abbrev TE3:=G->(RV->G->Prop)->Prop
def Ref (K:Fg0) (t:TE) (t3:TE3):Prop:=∀ (B:Bs) (F:Hp) (σ:St) (H:Hp) (Γ:G) (Q:RV->G->Prop) (QQ:VK),En K B F σ H Γ->t3 Γ Q->(∀ v H',Po K B F σ Q v H'->QQ v H')->t σ H QQ
theorem Po.mono{Q:RV->G->Prop}{v:V}(s:aE F F')(h:Po K B F' σ Q v H):Po K B F σ Q v H:=by
 obtain⟨F2,Γ',r,a,b⟩:=h;exact⟨F2,Γ',r,s.trans a,b⟩
theorem g8(e:En K B F σ H Γ){Q:RV->G->Prop}{v:V}{d:D}(r:Rep K F d v)(q:Q (.fz d) Γ):Po K B F σ Q v H:=⟨F,Γ,.fz d,aE.refl F,e,r,q⟩
theorem En.nK(e:En K B F σ H Γ)(hl:H l=none):∀ (i:Nat) (d:D),Hld Γ i d->σ[i]?≠some (some (V.ref l)):=fun i d h z=>by
 obtain⟨p,h1,h2,h3⟩:=e.hl i d h;rw[h1] at z;cases z;obtain⟨o,ho⟩:=h3.some;rw[hl] at ho;cases ho
theorem En.nof(e:En K B F σ H Γ)(hl:H l=none):F l=none:=by
 cases q:F l with
 | none=>rfl
 | some o=>have:=e.sub _ _ q;rw[hl] at this;cases this
theorem jv(e:En K B F σ H Γ){Q:RV->G->Prop}{xs:List D}(hl:H l=none)(r:aA K F xs vs)(q:Q (.fr (.lst xs)) Γ):Po K B F σ Q (.ref l) (upd H l (.lst vs)):=
 ⟨F,Γ,.fr (.lst xs),aE.refl F,e.alloc hl _,⟨l,rfl,e.nof hl,⟨vs,ar,r⟩,e.dom _ hl,e.nK hl⟩,q⟩
theorem zH(e:En K B F σ H Γ){Q:RV->G->Prop}{xs:List D}(hl:H l=none)(r:aA K F xs vs)(q:Q (.fz (.tup xs)) Γ):Po K B F σ Q (.ref l) (upd H l (.tup vs)):=
 ⟨upd F l (.tup vs),Γ,.fz (.tup xs),aQ (e.nof hl),(e.alloc hl _).freeze (e.nof hl) ar (e.dom _ hl) (e.nK hl),⟨l,vs,rfl,ar,r.mono (aQ (e.nof hl))⟩,q⟩
def iV (i:Nat) (Γ:G) (Q:RV->G->Prop):Prop:=match Γ[i]? with
 | some (some (.fz d))=>Q (.fz d) Γ
 | some (some (.ow d))=>Q (.fz d) (Γ.set i (some (Sl.fz d)))
 | _=>False
theorem az{α:Type}{l:List α}{a:α}(h:i≠j):(l.set i a)[j]?=l[j]?:=by rw[List.getElem?_set,if_neg h]
theorem sk{α:Type}{l:List α}{a b:α}(h:l[i]?=some b):(l.set i a)[i]?=some a:=by
 rw[List.getElem?_set,if_pos rfl,if_pos (gS0 h).1]
theorem En.give(e:En K B F σ H Γ){d:D}(h:Γ[i]?=some (some (Sl.ow d))):∃ F' p,aE F F'/\σ[i]?=some (some (V.ref p))/\Rep K F' d (.ref p)/\En K B F' σ H (Γ.set i (some (Sl.fz d))):=by
 obtain⟨p,h1,h2,h3⟩:=e.hl i d (.inl h);obtain⟨o,ho⟩:=h3.some;have hr:=h3.rep h2 ho;have back:∀ {j u},j≠i->(Γ.set i (some (Sl.fz d)))[j]?=u->Γ[j]?=u:=fun hj q=>by rw[az (Ne.symm hj)] at q;exact q
 have hld:∀ {j x},Hld (Γ.set i (some (Sl.fz d))) j x->j≠i/\Hld Γ j x:=fun {j x} q=>by
  by_cases z:j=i
  ·subst z;rcases q with q | q <;> rw[sk h] at q <;> cases q
  ·exact⟨z,q.imp (back z) (back z)⟩
 refine⟨upd F p o,p,aQ h2,h1,hr,?_,?_,?_,?_,?_,?_,?_,?_,?_,?_,e.rest,e.dom⟩
 ·intro b u q;by_cases z:b=p
  ·subst z;rw[ar] at q;cases q;exact ho
  ·rw[ah z] at q;exact e.sub b u q
 ·rw[List.length_set];exact e.len
 ·intro j x q;by_cases z:j=i
  ·subst z;rw[sk h] at q;cases q;exact⟨_,h1,hr⟩
  ·obtain⟨v,a,b⟩:=e.fz j x (back z q);exact⟨v,a,b.mono (aQ h2)⟩
 ·intro j x q;obtain⟨z,q⟩:=hld q;obtain⟨p',a,b,c⟩:=e.hl j x q;have ne:p'≠p:=fun y=>z (e.dis j i x d p q (.inl h) (y ▸ a) h1);exact⟨p',a,by rw[ah ne];exact b,c.mono (aQ h2) rfl⟩
 ·intro j x p' q a;obtain⟨z,_⟩:=hld (.inl q);exact e.ow j x p' (back z q) a
 ·intro j x p' q a;obtain⟨z,_⟩:=hld (.inr q);exact e.ln j x p' (back z q) a
 ·intro j k x y p' q1 q2;exact e.dis j k x y p' (hld q1).2 (hld q2).2
 ·intro j p' q;obtain⟨a,y,b⟩:=e.par j p' q;have z:j≠i:=fun z=>by subst z;rw[h] at b;cases b
  exact⟨a,y,by rw[az (Ne.symm z)];exact b⟩
 ·exact e.keep.trans (aQ h2)
 ·intro b u q;by_cases z:b=p
  ·subst z;exact .inr (e.ow i d _ h h1)
  ·rw[ah z] at q;exact e.new b u q
theorem EX(i:Nat):Ref K (jV i) (iV i):=by
 intro B F σ H Γ Q QQ e h k;unfold iV at h;split at h
 ·rename_i d q;obtain⟨v,h1,h2⟩:=e.fz i d q;exact⟨v,h1,k _ _ (g8 e h2 h)⟩
 ·rename_i d q;obtain⟨F',p,s,h1,h2,e'⟩:=e.give q;exact⟨_,h1,k _ _ ⟨F',_,.fz d,s,e',h2,h⟩⟩
 ·exact h.elim
def t3C (d:D) (Γ:G) (Q:RV->G->Prop):Prop:=Q (.fz d) Γ
theorem rC{v:V}{d:D}(h:∀ F,Rep K F d v):Ref K (tC v) (t3C d):=fun B F σ H Γ Q QQ e q k=>k _ _ (g8 e (h F) q)
inductive Bo where
 | d (x:D) | v (i:Nat)
noncomputable def bare:D->D
 | .cel _ xs=>.lst xs
 | .non=>.non
 | .bl b=>.bl b
 | .int i=>.int i
 | .str x=>.str x
 | .lst xs=>.lst xs
 | .tup xs=>.tup xs
 | .ktup xs=>.ktup xs
 | .ins C ns xs=>.ins C ns xs
 | .scr ns=>.scr ns
 | .ty n=>.ty n
 | .adr a=>.adr a
 | .exc C ns xs=>.exc C ns xs
 | .dct=>.dct
 | .dcs k i=>.dcs k i
 | .fn o f v r=>.fn o f v r
 | .obj p C=>.obj p C
 | .mp k=>.mp k
noncomputable def Gat (Γ:G) (i:Nat):Option D:=match Γ[i]? with
 | some (some (.fz d))=>some d
 | some (some (.ow d))=>some (bare d)
 | some (some (.ln d))=>some (bare d)
 | _=>none
noncomputable def Bo.at (Γ:G):Bo->Option D
 | .d x=>some x
 | .v i=>Gat Γ i
noncomputable def qb (K:Fg0) (F:Hp) (σ:St):Bo->V->Prop
 | .d x,v=>Rep K F x v
 | .v i,v=>σ[i]?=some (some v)
noncomputable def fL (K:Fg0) (F H:Hp):D->V->Prop
 | .lst xs,v=>∃ p vs,v=.ref p/\H p=some (.lst vs)/\aA K F xs vs
 | .cel q xs,v=>v=.ref q/\∃ vs,H q=some (.lst vs)/\aA K F xs vs
 | .ins C ns xs,v=>∃ p dx gs,v=.ref p/\H p=some (.ins C dx gs)/\gs.map (·.1)=ns/\aA K F xs (gs.map (·.2))
 | d,v=>Rep K F d v
theorem Rep.b(s:aE F H):∀ {d:D} {v:V},Rep K F d v->fL K F H d v
 | .non,_,h=>h
 | .bl _,_,h=>h
 | .int _,_,h=>h
 | .str _,_,h=>h
 | .ty _,_,h=>h
 | .adr _,_,h=>h
 | .exc _ _ _,_,h=>h
 | .dct,_,h=>h
 | .dcs _ _,_,h=>h
 | .fn _ _ _ _,_,h=>h
 | .obj _ _,_,h=>h
 | .mp _,_,h=>h
 | .cel _ _,_,⟨h1,vs,h2,h3⟩=>⟨h1,vs,s _ _ h2,h3⟩
 | .scr _,_,h=>h
 | .tup _,_,h=>h
 | .ktup _,_,h=>h
 | .lst _,_,⟨p,vs,h1,h2,h3⟩=>⟨p,vs,h1,s _ _ h2,h3⟩
 | .ins _ _ _,_,⟨p,dx,gs,h1,h2,h3,h4⟩=>⟨p,dx,gs,h1,s _ _ h2,h3,h4⟩
theorem Own.b:∀ {d:D},Own K F H p d->fL K F H (bare d) (.ref p)
 | .lst _,⟨vs,h1,h2⟩=>⟨p,vs,rfl,h1,h2⟩
 | .cel _ _,Z=>by obtain⟨z,vs,h1,h2⟩:=Z;subst z;exact⟨_,vs,rfl,h1,h2⟩
 | .ins _ _ _,⟨dx,gs,h1,h2,h3⟩=>⟨p,dx,gs,rfl,h1,h2,h3⟩
theorem qb.mono(s:aE F F'):∀ {bo:Bo} {v:V},qb K F σ bo v->qb K F' σ bo v
 | .d _,_,h=>Rep.mono s h
 | .v _,_,h=>h
theorem En.get(e:En K B F σ H Γ){d:D}(h:Gat Γ i=some d):∃ v,σ[i]?=some (some v)/\fL K F H d v:=by
 unfold Gat at h;split at h
 ·cases h;rename_i q;obtain⟨v,h1,h2⟩:=e.fz i _ q;exact⟨v,h1,h2.b e.sub⟩
 ·cases h;rename_i q;obtain⟨p,h1,h2,h3⟩:=e.hl i _ (.inl q);exact⟨_,h1,h3.b⟩
 ·cases h;rename_i q;obtain⟨p,h1,h2,h3⟩:=e.hl i _ (.inr q);exact⟨_,h1,h3.b⟩
 ·cases h
theorem En.bo (e:En K B F σ H Γ):∀ {bo:Bo} {v:V} {d:D},qb K F σ bo v->bo.at Γ=some d->fL K F H d v
 | .d x,v,d,h,q=>by cases q;exact Rep.b e.sub h
 | .v i,v,d,h,q=>by
  obtain⟨u,h1,h2⟩:=e.get q;rw[show σ[i]?=some (some v) from h] at h1;cases h1;exact h2
abbrev TB3:=G->(Bo->G->Prop)->Prop
def PoB (K:Fg0) (B:Bs) (F:Hp) (σ:St) (Q:Bo->G->Prop):VK:=fun v H'=>∃ F' Γ' bo,aE F F'/\En K B F' σ H' Γ'/\qb K F' σ bo v/\Q bo Γ'
def tN (K:Fg0) (t:TE) (t3:TB3):Prop:=∀ (B:Bs) (F:Hp) (σ:St) (H:Hp) (Γ:G) (Q:Bo->G->Prop) (QQ:VK),En K B F σ H Γ->t3 Γ Q->(∀ v H',PoB K B F σ Q v H'->QQ v H')->t σ H QQ
def bor (i:Nat) (Γ:G) (Q:Bo->G->Prop):Prop:=(∃ d,Gat Γ i=some d)/\Q (.v i) Γ
def bof (a3:TE3) (Γ:G) (Q:Bo->G->Prop):Prop:=a3 Γ fun x Γ1=>Q (.d x.d) Γ1
theorem Cj(i:Nat):tN K (jV i) (bor i):=by
 intro B F σ H Γ Q QQ e ⟨⟨d,hd⟩,q⟩ k;obtain⟨v,h1,_⟩:=e.get hd;exact⟨v,h1,k _ _ ⟨F,Γ,.v i,aE.refl F,e,h1,q⟩⟩
theorem EW{t:TE}{a3:TE3}(h:Ref K t a3):tN K t (bof a3):=by
 intro B F σ H Γ Q QQ e q k;refine h B F σ H Γ _ _ e q (fun v H1 Z=>?_);obtain⟨F1,Γ1,x,s1,e1,r1,q1⟩:=Z;obtain⟨F1',s1',e1',r1'⟩:=e1.frozen r1;exact k _ _ ⟨F1',Γ1,.d x.d,s1.trans s1',e1',r1',q1⟩
def mx (K:Fg0) (r:R2) (op:D->D->TE3):Prop:=∀ (B:Bs) (F:Hp) (σ:St) (H:Hp) (Γ:G) (x y:V) (dx dy:D) (Q:RV->G->Prop) (QQ:VK),En K B F σ H Γ->fL K F H dx x->fL K F H dy y->op dx dy Γ Q->(∀ v H',Po K B F σ Q v H'->QQ v H')->r x y H QQ
def lJ (op:D->D->TE3) (a3 b3:TB3) (Γ:G) (Q:RV->G->Prop):Prop:=a3 Γ fun x Γ1=>b3 Γ1 fun y Γ2=>∃ dx dy,x.at Γ2=some dx/\y.at Γ2=some dy/\op dx dy Γ2 Q
theorem ju{r:R2}{tb:TE}{a3 b3:TB3}{op:D->D->TE3}(h:mx K r op)(ha:tN K ta a3)(hb:tN K tb b3):Ref K (tOp r ta tb) (lJ op a3 b3):=by
 intro B F σ H Γ Q QQ e q k;refine ha B F σ H Γ _ _ e q (fun v H1 Z=>?_);obtain⟨F1,Γ1,x,s1,e1,r1,q1⟩:=Z;refine hb B F1 σ H1 Γ1 _ _ e1 q1 (fun u H2 Z=>?_);obtain⟨F2,Γ2,y,s2,e2,r2,dx,dy,h1,h2,q2⟩:=Z;exact h B F2 σ H2 Γ2 v u dx dy Q QQ e2 (e2.bo (r1.mono s2) h1) (e2.bo r2 h2) q2 fun z H3 p=>k z H3 (p.mono (s1.trans s2))
def Aw (op:D->TE3) (a3:TB3) (Γ:G) (Q:RV->G->Prop):Prop:=a3 Γ fun x Γ1=>∃ dx,x.at Γ1=some dx/\op dx Γ1 Q
def M4 (K:Fg0) (r:V->Hp->VK->Prop) (op:D->TE3):Prop:=∀ (B:Bs) (F:Hp) (σ:St) (H:Hp) (Γ:G) (x:V) (dx:D) (Q:RV->G->Prop) (QQ:VK),En K B F σ H Γ->fL K F H dx x->op dx Γ Q->(∀ v H',Po K B F σ Q v H'->QQ v H')->r x H QQ
theorem ye{r:V->Hp->VK->Prop}{a3:TB3}{op:D->TE3}(h:M4 K r op)(ha:tN K ta a3):Ref K (fun σ H Q=>ta σ H fun x H1=>r x H1 Q) (Aw op a3):=by
 intro B F σ H Γ Q QQ e q k;refine ha B F σ H Γ _ _ e q (fun v H1 Z=>?_);obtain⟨F1,Γ1,x,s1,e1,r1,dx,h1,q1⟩:=Z;exact h B F1 σ H1 Γ1 v dx Q QQ e1 (e1.bo r1 h1) q1 fun z H3 p=>k z H3 (p.mono s1)
end
variable {a c e:PySem.Expr}{ta:L2.TA}{tc:L2.TE}{c3:List L3.D->L3.TE3}{e3:L3.TE3}{B:L3.Bs}{Γ Γa Γ':L3.G}{Q:L3.RV->L3.G->Prop}{v:L2.V}{pos' px:PySem.Pos}{C:Int->Int->Prop}{op:PySem.CmpOp}{r:List L2.V->L2.Hp->L2.VK->Prop}{o3 o3':L3.D->L3.D->L3.TE3}{r':L2.R2}{xs ys:List L3.D}{ls:On}{σc:L2.St}{k3:L3.TB3}{d':L3.D}{ws:List L2.V}{q:PySem.Addr}
open PySem L2 PySem.Spec PyProof.Rows
structure P3 (K:Fg0) (X:Cx) (e:Expr) (t:TE) (t3:TE3):Prop where
 pe:PE X e t
 rf:Ref K t t3
structure P3B (K:Fg0) (X:Cx) (e:Expr) (t:TE) (t3:TB3):Prop where
 pe:PE X e t
 rf:tN K t t3
section
variable {b:Expr}{ta tb:TE}{a3 b3 c3:TB3}
theorem P3.opd(h:P3 K X a ta e3):P3B K X a ta (bof e3):=⟨h.pe,EW h.rf⟩
theorem bv(i:Nat){x:Str}(hN:autoParam (X.N[i]?=some x) wE)(hv:Vis X.env.scope x:=by first | exact Or.inl rfl | exact Or.inr (Or.inl rfl) | exact Or.inr (Or.inr rfl))(hd:autoParam ((x == ("__debug__":Str))=false) wP)(hcd:autoParam ((x == ("__classdict__":Str))=false) wP):P3B K X (.Name x pos) (jV i) (bor i):=⟨cT hN hv hd hcd,Cj i⟩
theorem kA{i:Int}(e:En K B F σ H Γ)(q:Q (.fz (.int i)) Γ):Po K B F σ Q (.int i) H:=g8 (d:=.int i) e rfl q
theorem kz{i:Str}(e:En K B F σ H Γ)(q:Q (.fz (.str i)) Γ):Po K B F σ Q (.str i) H:=g8 (d:=.str i) e rfl q
theorem kB{i:Bool}(e:En K B F σ H Γ)(q:Q (.fz (.bl i)) Γ):Po K B F σ Q (.bl i) H:=g8 (d:=.bl i) e rfl q
theorem p3v(i:Nat){x:Str}(hN:autoParam (X.N[i]?=some x) wE)(hv:Vis X.env.scope x:=by first | exact Or.inl rfl | exact Or.inr (Or.inl rfl) | exact Or.inr (Or.inr rfl))(hd:autoParam ((x == ("__debug__":Str))=false) wP)(hcd:autoParam ((x == ("__classdict__":Str))=false) wP):P3 K X (.Name x pos) (jV i) (iV i):=⟨cT hN hv hd hcd,EX i⟩
theorem ai{i j pos}:P3 K X (.Constant (.int i) j pos) (tC (.int i)) (t3C (.int i)):=⟨yk,rC fun _=>rfl⟩
theorem dO{i j pos}:P3 K X (.Constant (.bool i) j pos) (tC (.bl i)) (t3C (.bl i)):=⟨LI,rC fun _=>rfl⟩
theorem Jc{j pos}:P3 K X (.Constant .none j pos) (tC .non) (t3C .non):=⟨IY,rC fun _=>rfl⟩
theorem cx{x j pos}:P3 K X (.Constant (.str x) j pos) (tC (.str x)) (t3C (.str x)):=⟨rG,rC fun _=>rfl⟩
theorem f_{x:Str}{i:Int}(hg:Gl X x)(hm:∃ t,X.mg x=some (.int i t))(hd:autoParam ((x == ("__debug__":Str))=false) wP):P3 K X (.Name x pos) (tC (.int i)) (t3C (.int i)):=
 ⟨let ⟨t,hm⟩:=hm;vz (v:=.int i) hg hm ⟨t,rfl⟩ hd,rC fun _=>rfl⟩
theorem mP{x y v:Int}{pos'':Pos}(h:x ^ y.toNat=v)(hc:Ey x y):P3 K X (.BinOp (.Constant (.int x) j pos') .Pow (.Constant (.int y) k pos'') pos) (tOp (rI Ey fun i j=>.int (i ^ j.toNat)) (tC (.int x)) (tC (.int y))) (t3C (.int v)):=
 ⟨rH C5 yk yk,fun B F σ H Γ Q QQ e q k=>⟨x,y,rfl,rfl,hc,by show QQ (.int (x ^ y.toNat)) H;rw[h];exact k _ _ (kA e q)⟩⟩
def i2 (C:Int->Int->Prop) (f:Int->Int->D) (x y:D) (Γ:G) (Q:RV->G->Prop):Prop:=match x,y with
 | .int i,.int j=>C i j/\Q (.fz (f i j)) Γ
 | _,_=>False
def i2' (f:Int->Int->D) (x y:D) (Γ:G) (Q:RV->G->Prop):Prop:=match x,y with
 | .int i,.int j=>Q (.fz (f i j)) Γ
 | _,_=>False
theorem opI{f:Int->Int->D}{g:Int->Int->V}(h:∀ F i j,Rep K F (f i j) (g i j)):mx K (rI C g) (i2 C f):=by
 intro B F σ H Γ x y dx dy Q QQ e rx ry q k;unfold i2 at q;split at q
 ·cases rx;cases ry;exact⟨_,_,rfl,rfl,q.1,k _ _ (g8 e (h F _ _) q.2)⟩
 ·exact q.elim
theorem yo{f:Int->Int->D}{g:Int->Int->V}(h:∀ F i j,Rep K F (f i j) (g i j)):mx K (rI0 g) (i2' f):=by
 intro B F σ H Γ x y dx dy Q QQ e rx ry q k;unfold i2' at q;split at q
 ·cases rx;cases ry;exact⟨_,_,rfl,rfl,k _ _ (g8 e (h F _ _) q)⟩
 ·exact q.elim
def GV (x y:D) (Γ:G) (Q:RV->G->Prop):Prop:=match x,y with
 | .int i,.int j=>Q (.fz (.int (i + j))) Γ
 | .lst xs,.lst ys=>xs.length + ys.length<=sizeLine/\Q (.fr (.lst (xs++ys))) Γ
 | .str i,.str j=>i.length + j.length<=sizeLine/\Q (.fz (.str (i++j))) Γ
 | _,_=>False
theorem aA.length:∀ {xs:List D} {vs:List V},aA K F xs vs->vs.length=xs.length
 | [],_,h=>by cases h;rfl
 | _::_,_,Z=>by obtain⟨v,ws,h1,h2,h3⟩:=Z;subst h1;simp [h3.length]
theorem aA.append:∀ {xs ys:List D} {vs ws:List V},aA K F xs vs->aA K F ys ws->aA K F (xs++ys) (vs++ws)
 | [],_,_,_,h,h'=>by cases h;exact h'
 | _::_,_,_,_,⟨v,ws,h1,h2,h3⟩,h'=>by subst h1;exact⟨v,_,rfl,h2,h3.append h'⟩
theorem aA.get:∀ {xs:List D} {vs:List V},aA K F xs vs->∀ {i:Nat} {d:D},xs[i]?=some d->∃ v,vs[i]?=some v/\Rep K F d v
 | [],_,_,i,d,e=>by simp at e
 | x::xs,_,⟨v,ws,h1,h2,h3⟩,0,d,e=>by subst h1;simp at e;subst e;exact⟨v,rfl,h2⟩
 | x::xs,_,⟨v,ws,h1,h2,h3⟩,i + 1,d,e=>by
  subst h1;obtain⟨u,a,b⟩:=h3.get (i:=i) (d:=d) (by simpa using e);exact⟨u,by simpa using a,b⟩
theorem aA.Gk:∀ {xs:List D} {vs:List V},aA K F xs vs->∀ {i:Nat} {v:V},vs[i]?=some v->∃ d,xs[i]?=some d/\Rep K F d v:=fun {xs vs} h {i v} e=>by
 have hi:i < vs.length:=(gS0 e).1;rw[h.length] at hi;obtain⟨u,a,b⟩:=h.get (gE0 hi);rw[e] at a;cases a;exact⟨_,gE0 hi,b⟩
theorem aA.take:∀ {xs:List D} {vs:List V} (n:Nat),aA K F xs vs->aA K F (xs.take n) (vs.take n)
 | _,_,0,_=>by simp [aA]
 | [],_,n + 1,h=>by cases h;simp [aA]
 | x::xs,_,n + 1,Z=>by obtain⟨v,ws,h1,h2,h3⟩:=Z;subst h1;exact⟨v,_,rfl,h2,aA.take n h3⟩
theorem aA.drop:∀ {xs:List D} {vs:List V} (n:Nat),aA K F xs vs->aA K F (xs.drop n) (vs.drop n)
 | _,_,0,h=>h
 | [],_,n + 1,h=>by cases h;simp [aA]
 | x::xs,_,n + 1,Z=>by obtain⟨v,ws,h1,h2,h3⟩:=Z;subst h1;exact aA.drop n h3
theorem aA.set{d:D}(r:Rep K F d v):∀ {xs:List D} {vs:List V} (n:Nat),aA K F xs vs->aA K F (xs.set n d) (vs.set n v)
 | [],_,_,h=>by cases h;simp [aA]
 | x::xs,_,0,Z=>by obtain⟨u,ws,h1,h2,h3⟩:=Z;subst h1;exact⟨v,ws,rfl,r,h3⟩
 | x::xs,_,n + 1,Z=>by obtain⟨u,ws,h1,h2,h3⟩:=Z;subst h1;exact⟨u,_,rfl,h2,aA.set r n h3⟩
theorem aA.ints:∀ (ns:Li0),aA K F (ns.map D.int) (ns.map V.int)
 | []=>rfl
 | n::ns=>⟨_,_,rfl,rfl,aA.ints ns⟩
abbrev II:R2:=fun x y H Q=>rI0 (fun i j=>.int (i + j)) x y H Q\/Lu x y H Q\/(∃ i j,x=.str i/\y=.str j/\i.length + j.length<=sizeLine/\Q (.str (i++j)) H)
theorem FF:OpR X (binaryOp .Add) II:=Jm.or (Jl.or yn)
theorem addRef:mx K II GV:=by
 intro B F σ H Γ x y dx dy Q QQ e rx ry q k;unfold GV at q;split at q
 ·cases rx;cases ry;exact .inl ⟨_,_,rfl,rfl,k _ _ (kA e q)⟩
 ·obtain⟨p,vs,rfl,h1,h2⟩:=rx;obtain⟨p',ws,rfl,h3,h4⟩:=ry;refine .inr (.inl ⟨p,p',vs,ws,rfl,rfl,h1,h3,by rw[h2.length,h4.length];exact q.1,fun l hl=>k _ _ (jv e hl (h2.append h4) q.2)⟩)
 ·cases rx;cases ry;exact .inr (.inr ⟨_,_,rfl,rfl,q.1,k _ _ (kz e q.2)⟩)
 ·exact q.elim
theorem cF(ha:P3B K X a ta a3)(hb:P3B K X b tb b3):P3 K X (.BinOp a .Add b pos) (tOp II ta tb) (lJ GV a3 b3):=⟨rH FF ha.pe hb.pe,ju addRef ha.rf hb.rf⟩
theorem iF(ha:P3B K X a ta a3)(hb:P3B K X b tb b3):P3 K X (.BinOp a .Sub b pos) (tOp (rI0 fun i j=>.int (i - j)) ta tb) (lJ (i2' fun i j=>.int (i - j)) a3 b3):=⟨rH Jf ha.pe hb.pe,ju (yo fun _ _ _=>rfl) ha.rf hb.rf⟩
theorem mQ(ha:P3B K X a ta a3)(hb:P3B K X b tb b3):P3 K X (.BinOp a .Mult b pos) (tOp (rI Ez fun i j=>.int (i * j)) ta tb) (lJ (i2 Ez fun i j=>.int (i * j)) a3 b3):=⟨rH Ji ha.pe hb.pe,ju (opI fun _ _ _=>rfl) ha.rf hb.rf⟩
theorem jy(ha:P3B K X a ta a3)(hb:P3B K X b tb b3):P3 K X (.BinOp a .FloorDiv b pos) (tOp (rI KS fun i j=>.int (i / j)) ta tb) (lJ (i2 KS fun i j=>.int (i / j)) a3 b3):=⟨rH FE ha.pe hb.pe,ju (opI fun _ _ _=>rfl) ha.rf hb.rf⟩
theorem rL(ha:P3B K X a ta a3)(hb:P3B K X b tb b3):P3 K X (.BinOp a .Mod b pos) (tOp (rI (fun _ j=>0 < j) fun i j=>.int (i % j)) ta tb) (lJ (i2 (fun _ j=>0 < j) fun i j=>.int (i % j)) a3 b3):=⟨rH Jj ha.pe hb.pe,ju (opI fun _ _ _=>rfl) ha.rf hb.rf⟩
theorem zL(ha:P3B K X a ta a3)(hb:P3B K X b tb b3):P3 K X (.BinOp a .Pow b pos) (tOp (rI Ey fun i j=>.int (i ^ j.toNat)) ta tb) (lJ (i2 Ey fun i j=>.int (i ^ j.toNat)) a3 b3):=⟨rH C5 ha.pe hb.pe,ju (opI fun _ _ _=>rfl) ha.rf hb.rf⟩
def GA (f:Int->Int->Bool) (x y:D) (Γ:G) (Q:RV->G->Prop):Prop:=i2' (fun i j=>.bl (f i j)) x y Γ Q
noncomputable abbrev Bh (i j:Int):Bool:=decide (i < j)
noncomputable abbrev vW (i j:Int):Bool:=decide (i<=j)
noncomputable abbrev My (i j:Int):Bool:=decide (j < i)
structure C3 (K:Fg0) (X:Cx) (op:CmpOp) (r:R2) (o3:D->D->TE3):Prop where
 op:OpR X (compareOp op) r
 rf:mx K r o3
theorem xG:C3 K X .Lt (rI0 fun i j=>.bl (decide (i < j))) (GA Bh):=⟨LN,yo fun _ _ _=>rfl⟩
theorem xH:C3 K X .LtE (rI0 fun i j=>.bl (decide (i<=j))) (GA vW):=⟨LO,yo fun _ _ _=>rfl⟩
theorem HW:C3 K X .Gt (rI0 fun i j=>.bl (decide (j < i))) (GA My):=⟨LP,yo fun _ _ _=>rfl⟩
noncomputable def eqS:D->D->Option Bool
 | .int i,.int j=>some (decide (i=j))
 | .str i,.str j=>some (decide (i=j))
 | .bl i,.bl j=>some (decide (i=j))
 | .non,.non=>some true
 | .int _,.str _=>some false
 | .str _,.int _=>some false
 | .bl _,.str _=>some false
 | .str _,.bl _=>some false
 | .non,.int _=>some false
 | .int _,.non=>some false
 | .non,.str _=>some false
 | .str _,.non=>some false
 | .non,.bl _=>some false
 | .bl _,.non=>some false
 | _,_=>none
theorem iG{r:R2}(h:C3 K X op r o3)(ha:P3B K X a ta a3)(hb:P3B K X b tb b3)(hm:behindInMarks op b=false):P3 K X (.Compare a [op] [b] pos) (tOp r ta tb) (lJ o3 a3 b3):=⟨Fu h.op ha.pe hb.pe hm,ju h.rf ha.rf hb.rf⟩
def qA (o3 o3':D->D->TE3) (a3 b3 c3:TB3) (Γ:G) (Q:RV->G->Prop):Prop:=a3 Γ fun x Γ1=>b3 Γ1 fun y Γ2=>∃ dx dy,x.at Γ2=some dx/\y.at Γ2=some dy/\o3 dx dy Γ2 fun z Γ3=>match z with
 | .fz (.bl true)=>c3 Γ3 fun w Γ4=>∃ dy dw,y.at Γ4=some dy/\w.at Γ4=some dw/\o3' dy dw Γ4 Q
 | .fz (.bl false)=>Q (.fz (.bl false)) Γ3
 | _=>False
theorem t_{r:R2}(h:mx K r o3)(h':mx K r' o3')(ha:tN K ta a3)(hb:tN K tb b3)(hc:tN K tc c3):Ref K (qT r r' ta tb tc) (qA o3 o3' a3 b3 c3):=by
 intro B F σ H Γ Q QQ e q k;refine ha B F σ H Γ _ _ e q (fun v H1 Z=>?_);obtain⟨F1,Γ1,x,s1,e1,r1,q1⟩:=Z;refine hb B F1 σ H1 Γ1 _ _ e1 q1 (fun u H2 Z=>?_);obtain⟨F2,Γ2,y,s2,e2,r2,dx,dy,h1,h2,q2⟩:=Z;refine h B F2 σ H2 Γ2 v u dx dy _ _ e2 (e2.bo (r1.mono s2) h1) (e2.bo r2 h2) q2 fun z H3 Z=>?_;obtain⟨F3,Γ3,z3,s3,e3,r3,q3⟩:=Z;have sall:=(s1.trans s2).trans s3
 revert r3 q3
 split
 ·intro r3 q3;refine⟨true,r3,?_⟩;rw[if_pos rfl];refine hc B F3 σ H3 Γ3 _ _ e3 q3 (fun w H4 Z=>?_);obtain⟨F4,Γ4,w3,s4,e4,r4,dy,dw,h3,h4,q4⟩:=Z;exact h' B F4 σ H4 Γ4 u w dy dw Q QQ e4 (e4.bo (r2.mono (s3.trans s4)) h3) (e4.bo r4 h4) q4 fun z H5 p=>k z H5 (p.mono (sall.trans s4))
 ·intro r3 q3;refine⟨false,r3,?_⟩;rw[if_neg (by simp)];exact k _ _ (Po.mono sall (kB e3 q3))
 ·intro _ q3;exact q3.elim
theorem CV{op':CmpOp}{r:R2}(h:C3 K X op r o3)(h':C3 K X op' r' o3')(ha:P3B K X a ta a3)(hb:P3B K X b tb b3)(hc:P3B K X c tc c3)(hm:lastMarks [op,op'] [b,c]=false:=by with_unfolding_all rfl) :
  P3 K X (.Compare a [op,op'] [b,c] pos) (qT r r' ta tb tc) (qA o3 o3' a3 b3 c3):=⟨CM h.op h'.op ha.pe hb.pe hc.pe hm,t_ h.rf h'.rf ha.rf hb.rf hc.rf⟩
def Js (x:D) (Γ:G) (Q:RV->G->Prop):Prop:=match x with
 | .int i=>Q (.fz (.int (-i))) Γ
 | _=>False
theorem rK(ha:P3B K X a ta a3):P3 K X (.UnaryOp .USub a pos) (tUn (rU fun i=>.int (-i)) ta) (Aw Js a3):=⟨LD Ih ha.pe,ye (r:=rU fun i=>.int (-i)) (ta:=ta) (by
 intro B F σ H Γ x dx Q QQ e rx q k;unfold Js at q;split at q
 ·cases rx;exact⟨_,rfl,k _ _ (kA e q)⟩
 ·exact q.elim) ha.rf⟩
end
abbrev TT3:=G->(Bool->G->Prop)->Prop
noncomputable def PoT (K:Fg0) (B:Bs) (F:Hp) (σ:L2.St) (Q:Bool->G->Prop):Bool->Hp->Prop:=fun b H'=>∃ F' Γ',aE F F'/\En K B F' σ H' Γ'/\Q b Γ'
def qy (K:Fg0) (t:TT) (t3:TT3):Prop:=∀ (B:Bs) (F:Hp) (σ:L2.St) (H:Hp) (Γ:G) (Q:Bool->G->Prop) (QQ:Bool->Hp->Prop),En K B F σ H Γ->t3 Γ Q->(∀ b H',PoT K B F σ Q b H'->QQ b H')->t σ H QQ
structure P3T (K:Fg0) (X:Cx) (e:Expr) (t:TT) (t3:TT3):Prop where
 pe:PT X e t
 rf:qy K t t3
structure P3W (K:Fg0) (X:Cx) (e:Expr) (t:TT) (t3:TT3):Prop where
 pe:PW X e t
 rf:qy K t t3
section
variable {b:Expr}{ta tb:TE}{a3 b3 c3:TE3}{a3' b3' c3':TB3}{tA tB':TT}{A3 B3:TT3}{rest:List Expr}
def tst (a3:TE3) (Γ:G) (Q:Bool->G->Prop):Prop:=a3 Γ fun x Γ1=>match x.d with
 | .bl k=>Q k Γ1
 | _=>False
theorem PoT.mono{Q:Bool->G->Prop}{k:Bool}(s:aE F F')(h:PoT K B F' σ Q k H):PoT K B F σ Q k H:=by
 obtain⟨F2,Γ',a,b⟩:=h;exact⟨F2,Γ',s.trans a,b⟩
theorem Cq(h:Ref K ta a3):qy K (fun σ H Q=>ta σ H fun x H1=>∃ c,x=.bl c/\Q c H1) (tst a3):=by
 intro B F σ H Γ Q QQ e q k;refine h B F σ H Γ _ _ e q (fun v H1 Z=>?_);obtain⟨F1,Γ1,x,s1,e1,r1,q1⟩:=Z;obtain⟨F1',s1',e1',r1'⟩:=e1.frozen r1
 revert r1' q1
 split
 ·rename_i hz;intro q1 r1';rw[hz] at r1';exact⟨_,r1',k _ _ ⟨F1',Γ1,s1.trans s1',e1',q1⟩⟩
 ·intro q1;exact q1.elim
theorem a9{t:TE}(h:P3 K X e t e3)(he:autoParam (∀ whole,isTrue e X.env whole=(do let v <- whole;standAt e.pos;holding [v] (truthy v))) wT):P3T K X e (tB t) (tst e3):=⟨IL h.pe he,Cq h.rf⟩
theorem aV{r:R2}(h:C3 K X op r o3)(ha:P3B K X a ta a3')(hb:P3B K X b tb b3')(hm:behindInMarks op b=false):P3T K X (.Compare a [op] [b] pos) (zv (tOp r ta tb)) (tst (lJ o3 a3' b3')):=
 ⟨Fc h.op ha.pe hb.pe hm,Cq (ju h.rf ha.rf hb.rf)⟩
theorem uc{op':CmpOp}{r:R2}(h:C3 K X op r o3)(h':C3 K X op' r' o3')(ha:P3B K X a ta a3')(hb:P3B K X b tb b3')(hc:P3B K X c tc c3')(hm:lastMarks [op,op'] [b,c]=false:=by with_unfolding_all rfl) :
  P3T K X (.Compare a [op,op'] [b,c] pos) (zv (qT r r' ta tb tc)) (tst (qA o3 o3' a3' b3' c3')):=⟨Cv h.op h'.op ha.pe hb.pe hc.pe hm,Cq (t_ h.rf h'.rf ha.rf hb.rf hc.rf)⟩
def Kz (A3 B3:TT3) (Γ:G) (Q:Bool->G->Prop):Prop:=A3 Γ fun c Γ1=>match c with
 | true=>B3 Γ1 Q
 | false=>Q false Γ1
def or3 (A3 B3:TT3) (Γ:G) (Q:Bool->G->Prop):Prop:=A3 Γ fun c Γ1=>match c with
 | true=>Q true Γ1
 | false=>B3 Γ1 Q
def yu (A3:TT3) (Γ:G) (Q:Bool->G->Prop):Prop:=A3 Γ fun c Γ1=>Q (!c) Γ1
theorem E5(ha:qy K tA A3)(hb:qy K tB' B3):qy K (Iy tA tB') (Kz A3 B3):=by
 intro B F σ H Γ Q QQ e q k;refine ha B F σ H Γ _ _ e q (fun c H1 Z=>?_);obtain⟨F1,Γ1,s1,e1,q1⟩:=Z;cases c with
 | true=>exact A8 (hb B F1 σ H1 Γ1 _ _ e1 q1 fun c H2 p=>k _ _ (p.mono s1))
 | false=>exact A9 (k _ _ ⟨F1,Γ1,s1,e1,q1⟩)
theorem IG(ha:qy K tA A3)(hb:qy K tB' B3):qy K (tOr tA tB') (or3 A3 B3):=by
 intro B F σ H Γ Q QQ e q k;refine ha B F σ H Γ _ _ e q (fun c H1 Z=>?_);obtain⟨F1,Γ1,s1,e1,q1⟩:=Z;cases c with
 | true=>exact A8 (k _ _ ⟨F1,Γ1,s1,e1,q1⟩)
 | false=>exact A9 (hb B F1 σ H1 Γ1 _ _ e1 q1 fun c H2 p=>k _ _ (p.mono s1))
theorem EZ(ha:qy K tA A3):qy K (Ip tA) (yu A3):=by
 intro B F σ H Γ Q QQ e q k;exact ha B F σ H Γ _ _ e q (fun c H1 ⟨F1,Γ1,s1,e1,q1⟩=>k _ _ ⟨F1,Γ1,s1,e1,q1⟩)
theorem wW(ha:P3T K X a tA A3):P3W K X (.BoolOp .And [a] pos) tA A3:=⟨E_ ha.pe,ha.rf⟩
theorem g_(ha:P3T K X a tA A3):P3W K X (.BoolOp .Or [a] pos) tA A3:=⟨IJ ha.pe,ha.rf⟩
theorem zK(ha:P3T K X a tA A3)(hb:P3W K X (.BoolOp .And (b::rest) pos) tB' B3):P3W K X (.BoolOp .And (a::b::rest) pos) (Iy tA tB') (Kz A3 B3):=⟨IK ha.pe hb.pe,E5 ha.rf hb.rf⟩
theorem kD(ha:P3T K X a tA A3)(hb:P3W K X (.BoolOp .Or (b::rest) pos) tB' B3):P3W K X (.BoolOp .Or (a::b::rest) pos) (tOr tA tB') (or3 A3 B3):=⟨Lw ha.pe hb.pe,IG ha.rf hb.rf⟩
theorem P3W.pt(h:P3W K X e tA A3):P3T K X e tA A3:=⟨h.pe.pt,h.rf⟩
theorem bw(ha:P3T K X a tA A3):P3T K X (.UnaryOp .Not a pos) (Ip tA) (yu A3):=⟨IM ha.pe,EZ ha.rf⟩
def HY (a3 b3'':TE3) (Γ:G) (Q:RV->G->Prop):Prop:=a3 Γ fun x Γ1=>match x.d with
 | .bl true=>b3'' Γ1 Q
 | .bl false=>Q (.fz (.bl false)) Γ1
 | _=>False
def LM (a3 b3'':TE3) (Γ:G) (Q:RV->G->Prop):Prop:=a3 Γ fun x Γ1=>match x.d with
 | .bl true=>Q (.fz (.bl true)) Γ1
 | .bl false=>b3'' Γ1 Q
 | _=>False
theorem rJ{op}(h:P3 K X a ta a3):P3 K X (.BoolOp op [a] pos) ta a3:=⟨IX h.pe,h.rf⟩
theorem ym(ha:P3 K X a ta a3)(hb:P3 K X (.BoolOp .And (b::rest) pos) tb b3):P3 K X (.BoolOp .And (a::b::rest) pos) (G8 ta tb) (HY a3 b3):=⟨Ja ha.pe hb.pe,by
 intro B F σ H Γ Q QQ e q k;refine ha.rf B F σ H Γ _ _ e q (fun v H1 Z=>?_);obtain⟨F1,Γ1,x,s1,e1,r1,q1⟩:=Z;obtain⟨F1',s1',e1',r1'⟩:=e1.frozen r1
 revert r1' q1
 split
 ·rename_i hz;intro q1 r1';rw[hz] at r1';exact⟨true,r1',A8 (hb.rf B F1' σ H1 Γ1 _ _ e1' q1 fun v H2 p=>k _ _ (p.mono (s1.trans s1')))⟩
 ·rename_i hz;intro q1 r1';rw[hz] at r1';exact⟨false,r1',A9 (k _ _ (Po.mono (s1.trans s1') (kB e1' q1)))⟩
 ·intro q1;exact q1.elim⟩
theorem CT(ha:P3 K X a ta a3)(hb:P3 K X (.BoolOp .Or (b::rest) pos) tb b3):P3 K X (.BoolOp .Or (a::b::rest) pos) (K_ ta tb) (LM a3 b3):=⟨LF ha.pe hb.pe,by
 intro B F σ H Γ Q QQ e q k;refine ha.rf B F σ H Γ _ _ e q (fun v H1 Z=>?_);obtain⟨F1,Γ1,x,s1,e1,r1,q1⟩:=Z;obtain⟨F1',s1',e1',r1'⟩:=e1.frozen r1
 revert r1' q1
 split
 ·rename_i hz;intro q1 r1';rw[hz] at r1';exact⟨true,r1',A8 (k _ _ (Po.mono (s1.trans s1') (kB e1' q1)))⟩
 ·rename_i hz;intro q1 r1';rw[hz] at r1';exact⟨false,r1',A9 (hb.rf B F1' σ H1 Γ1 _ _ e1' q1 fun v H2 p=>k _ _ (p.mono (s1.trans s1')))⟩
 ·intro q1;exact q1.elim⟩
end
abbrev TA3:=G->(List D->G->Prop)->Prop
noncomputable def PoA (K:Fg0) (B:Bs) (F:Hp) (σ:L2.St) (Q:List D->G->Prop):List V->Hp->Prop:=fun vs H'=>∃ F' Γ' ds,aE F F'/\En K B F' σ H' Γ'/\aA K F' ds vs/\Q ds Γ'
def KN (K:Fg0) (t:TA) (t3:TA3):Prop:=∀ (B:Bs) (F:Hp) (σ:L2.St) (H:Hp) (Γ:G) (Q:List D->G->Prop) (QQ:List V->Hp->Prop),En K B F σ H Γ->t3 Γ Q->(∀ vs H',PoA K B F σ Q vs H'->QQ vs H')->t σ H QQ
structure P3A (K:Fg0) (X:Cx) (es:List Expr) (t:TA) (t3:TA3):Prop where
 pe:PA X es t
 rf:KN K t t3
section
variable {t3:TA3}
def yw (Γ:G) (Q:List D->G->Prop):Prop:=Q [] Γ
def ip (e3:TE3) (t3:TA3) (Γ:G) (Q:List D->G->Prop):Prop:=e3 Γ fun x Γ1=>t3 Γ1 fun xs Γ2=>Q (x.d::xs) Γ2
theorem ao:P3A K X [] qh yw:=⟨jx,fun B F σ H Γ Q QQ e q k=>k _ _ ⟨F,Γ,[],aE.refl F,e,rfl,q⟩⟩
theorem ab(ha:P3 K X e te e3)(hr:P3A K X es t t3)(hs:autoParam (starEach (e::es) X.env=(false,eval e X.env)::starEach es X.env) wE):P3A K X (e::es) (nj te t) (ip e3 t3):=⟨cv ha.pe hr.pe hs,by
 intro B F σ H Γ Q QQ e q k;refine ha.rf B F σ H Γ _ _ e q (fun v H1 Z=>?_);obtain⟨F1,Γ1,x,s1,e1,r1,q1⟩:=Z;obtain⟨F1',s1',e1',r1'⟩:=e1.frozen r1;refine hr.rf B F1' σ H1 Γ1 _ _ e1' q1 (fun vs H2 Z=>?_);obtain⟨F2,Γ2,ds,s2,e2,r2,q2⟩:=Z;exact k _ _ ⟨F2,Γ2,x.d::ds,(s1.trans s1').trans s2,e2,⟨v,vs,rfl,r1'.mono s2,r2⟩,q2⟩⟩
def Jx (t3:TA3) (Γ:G) (Q:RV->G->Prop):Prop:=t3 Γ fun xs Γ1=>xs.length<=sizeLine/\Q (.fr (.lst xs)) Γ1
def As (t3:TA3) (Γ:G) (Q:RV->G->Prop):Prop:=t3 Γ fun xs Γ1=>xs.length<=sizeLine/\Q (.fz (.tup xs)) Γ1
theorem bE(h:P3A K X es t t3):P3 K X (.List es pos) (Iq t) (Jx t3):=⟨CJ h.pe,by
 intro B F σ H Γ Q QQ e q k;refine h.rf B F σ H Γ _ _ e q (fun vs H1 Z=>?_);obtain⟨F1,Γ1,ds,s1,e1,r1,q1⟩:=Z;exact⟨by rw[r1.length];exact q1.1,fun p hp=>k _ _ (Po.mono s1 (jv e1 hp r1 q1.2))⟩⟩
theorem bB{x1}(h:P3A K X es t t3):P3 K X (.Tuple es x1 pos) (Il t) (As t3):=⟨CH h.pe,by
 intro B F σ H Γ Q QQ e q k;refine h.rf B F σ H Γ _ _ e q (fun vs H1 Z=>?_);obtain⟨F1,Γ1,ds,s1,e1,r1,q1⟩:=Z;exact⟨by rw[r1.length];exact q1.1,fun p hp=>k _ _ (Po.mono s1 (zH e1 hp r1 q1.2))⟩⟩
end
noncomputable abbrev cV:=G->(List Bo->G->Prop)->Prop
noncomputable def bj (K:Fg0) (F:Hp) (σ:L2.St):List Bo->List V->Prop
 | [],vs=>vs=[]
 | b::bs,vs=>∃ v ws,vs=v::ws/\qb K F σ b v/\bj K F σ bs ws
noncomputable def qc (K:Fg0) (F H:Hp):List D->List V->Prop
 | [],vs=>vs=[]
 | d::ds,vs=>∃ v ws,vs=v::ws/\fL K F H d v/\qc K F H ds ws
noncomputable def ats (Γ:G):List Bo->Option (List D)
 | []=>some []
 | b::bs=>match b.at Γ,ats Γ bs with
  | some d,some ds=>some (d::ds)
  | _,_=>none
noncomputable def Ob (K:Fg0) (B:Bs) (F:Hp) (σ:L2.St) (Q:List Bo->G->Prop):List V->Hp->Prop:=fun vs H'=>∃ F' Γ' bs,aE F F'/\En K B F' σ H' Γ'/\bj K F' σ bs vs/\Q bs Γ'
def sU (K:Fg0) (t:TA) (t3:cV):Prop:=∀ (B:Bs) (F:Hp) (σ:L2.St) (H:Hp) (Γ:G) (Q:List Bo->G->Prop) (QQ:List V->Hp->Prop),En K B F σ H Γ->t3 Γ Q->(∀ vs H',Ob K B F σ Q vs H'->QQ vs H')->t σ H QQ
structure sV (K:Fg0) (X:Cx) (es:List Expr) (t:TA) (t3:cV):Prop where
 pe:PA X es t
 rf:sU K t t3
section
variable {e3:TB3}{t3:cV}
theorem En.bos(e:En K B F σ H Γ):∀ {bs:List Bo} {vs:List V} {ds:List D},bj K F σ bs vs->ats Γ bs=some ds->qc K F H ds vs
 | [],_,_,h,q=>by cases q;exact h
 | b::bs,_,_,⟨v,ws,h1,h2,h3⟩,q=>by
  unfold ats at q;split at q
  ·rename_i d ds hd hds;cases q;exact⟨v,ws,h1,e.bo h2 hd,e.bos h3 hds⟩
  ·cases q
def qp (Γ:G) (Q:List Bo->G->Prop):Prop:=Q [] Γ
def eH (e3:TB3) (t3:cV) (Γ:G) (Q:List Bo->G->Prop):Prop:=e3 Γ fun x Γ1=>t3 Γ1 fun xs Γ2=>Q (x::xs) Γ2
theorem ae:sV K X [] qh qp:=⟨jx,fun B F σ H Γ Q QQ e q k=>k _ _ ⟨F,Γ,[],aE.refl F,e,rfl,q⟩⟩
theorem aa(ha:P3B K X e te e3)(hr:sV K X es t t3)(hs:autoParam (starEach (e::es) X.env=(false,eval e X.env)::starEach es X.env) wE):sV K X (e::es) (nj te t) (eH e3 t3):=⟨cv ha.pe hr.pe hs,by
 intro B F σ H Γ Q QQ e q k;refine ha.rf B F σ H Γ _ _ e q (fun v H1 Z=>?_);obtain⟨F1,Γ1,x,s1,e1,r1,q1⟩:=Z;refine hr.rf B F1 σ H1 Γ1 _ _ e1 q1 (fun vs H2 Z=>?_);obtain⟨F2,Γ2,ds,s2,e2,r2,q2⟩:=Z;exact k _ _ ⟨F2,Γ2,x::ds,s1.trans s2,e2,⟨v,vs,rfl,r1.mono s2,r2⟩,q2⟩⟩
def Al (K:Fg0) (r:List V->Hp->VK->Prop) (c3:List D->TE3):Prop:=∀ (B:Bs) (F:Hp) (σ:L2.St) (H:Hp) (Γ:G) (vs:List V) (ds:List D) (Q:RV->G->Prop) (QQ:VK),En K B F σ H Γ->qc K F H ds vs->c3 ds Γ Q->(∀ v H',Po K B F σ Q v H'->QQ v H')->r vs H QQ
def xF (c3:List D->TE3) (t3:cV) (Γ:G) (Q:RV->G->Prop):Prop:=t3 Γ fun bs Γ1=>∃ ds,ats Γ1 bs=some ds/\c3 ds Γ1 Q
theorem Cp(h:Al K r c3)(ha:sU K t t3):Ref K (tCB r t) (xF c3 t3):=by
 intro B F σ H Γ Q QQ e q k;refine ha B F σ H Γ _ _ e q (fun vs H1 Z=>?_);obtain⟨F1,Γ1,bs,s1,e1,r1,ds,hd,q1⟩:=Z;exact h B F1 σ H1 Γ1 vs ds Q QQ e1 (e1.bos r1 hd) q1 fun v H2 p=>k _ _ (p.mono s1)
structure B3 (K:Fg0) (X:Cx) (f:Value) (r:List V->Hp->VK->Prop) (c3:List D->TE3):Prop where
 op:bS X f r
 rf:Al K r c3
variable {x:Str}{p:Pos}{id T:String}
theorem aB(hc:B3 K X (.builtin id) r c3)(hg:Gl X x)(hm:X.mg x=none)(hv:bootBuiltins x=some (.builtin id))(ha:sV K X (e::es) t t3)(hn:autoParam (x≠"__name__") wP)(hdb:autoParam ((x == ("__debug__":Str))=false) wP)(he:autoParam (starEach (e::es) X.env=(false,eval e X.env)::starEach es X.env) wE)(hpl:autoParam ((backTo pos (starEach es X.env)).any (·.1)=false) wE):P3 K X (.Call (.Name x p) (e::es) [] pos) (tCB r t) (xF c3 t3):=
 ⟨CQ hc.op hg hm hv ha.pe hn hdb he hpl,Cp hc.rf ha.rf⟩
theorem dN(hc:B3 K X (.type T) r c3)(hg:Gl X x)(hm:X.mg x=none)(hv:bootBuiltins x=some (.type T))(ha:sV K X (e::es) t t3)(hn:autoParam (x≠"__name__") wP)(hdb:autoParam ((x == ("__debug__":Str))=false) wP)(he:autoParam (starEach (e::es) X.env=(false,eval e X.env)::starEach es X.env) wE)(hpl:autoParam ((backTo pos (starEach es X.env)).any (·.1)=false) wE):P3 K X (.Call (.Name x p) (e::es) [] pos) (tCB r t) (xF c3 t3):=
 ⟨AW hc.op hg hm hv ha.pe hn hdb he hpl,Cp hc.rf ha.rf⟩
def mx3 (f:Int->Int->Int) (ds:List D) (Γ:G) (Q:RV->G->Prop):Prop:=match ds with
 | [.int i,.int j]=>Q (.fz (.int (f i j))) Γ
 | _=>False
theorem qc.one{d:D}(h:qc K F H [d] vs):∃ v,vs=[v]/\fL K F H d v:=by
 obtain⟨v,ws,rfl,h1,h2⟩:=h;cases h2;exact⟨v,rfl,h1⟩
theorem qc.two{d e:D}(h:qc K F H [d,e] vs):∃ v w,vs=[v,w]/\fL K F H d v/\fL K F H e w:=by
 obtain⟨v,ws,rfl,h1,h2⟩:=h;obtain⟨w,rfl,h3⟩:=qc.one h2;exact⟨v,w,rfl,h1,h3⟩
noncomputable abbrev fmax (i j:Int):Int:=if j > i then j else i
noncomputable abbrev fmin (i j:Int):Int:=if j < i then j else i
theorem HS(hc:X.calm=true):B3 K X (.builtin "max") (fun xs H Q=>∃ i j,xs=[.int i,.int j]/\Q (.int (if j > i then j else i)) H) (mx3 fmax):=⟨Bn hc,by
 intro B F σ H Γ vs ds Q QQ e r q k;unfold mx3 at q;split at q
 ·obtain⟨v,w,rfl,h,h'⟩:=r.two;cases h;cases h';exact⟨_,_,rfl,k _ _ (kA e q)⟩
 ·exact q.elim⟩
theorem HR(hc:X.calm=true):B3 K X (.builtin "min") (fun xs H Q=>∃ i j,xs=[.int i,.int j]/\Q (.int (if j < i then j else i)) H) (mx3 fmin):=⟨Bm hc,by
 intro B F σ H Γ vs ds Q QQ e r q k;unfold mx3 at q;split at q
 ·obtain⟨v,w,rfl,h,h'⟩:=r.two;cases h;cases h';exact⟨_,_,rfl,k _ _ (kA e q)⟩
 ·exact q.elim⟩
noncomputable def F_:D->Option Nat
 | .lst xs=>some xs.length
 | .tup xs=>some xs.length
 | .ktup xs=>some xs.length
 | .scr ns=>some ns.length
 | _=>none
def Jy (ds:List D) (Γ:G) (Q:RV->G->Prop):Prop:=match ds with
 | [.str z]=>z.length<=sizeLine/\Q (.fz (.int z.length)) Γ
 | [d]=>∃ n,F_ d=some n/\Q (.fz (.int n)) Γ
 | _=>False
noncomputable abbrev Nm (K:Fg0):List V->Hp->VK->Prop:=fun xs H Q=>(∃ p ys,xs=[.ref p]/\(SqL K H p ys\/SqT K H p ys)/\Q (.int ys.length) H)\/(∃ z,xs=[.str z]/\z.length<=sizeLine/\Q (.int z.length) H)
theorem bS.or'{f:Value}{r':List V->Hp->VK->Prop}(h:bS X f r)(h':bS X f r'):bS X f (fun xs H Q=>r xs H Q\/r' xs H Q):=by
 intro pins s σ H xs us Q I rx q;rcases q with q | q
 ·exact h pins s σ H xs us Q I rx q
 ·exact h' pins s σ H xs us Q I rx q
theorem FZ{d:D}(s:aE F H)(h:fL K F H d v)(hn:F_ d=some n):∃ p ys,v=.ref p/\(SqL K H p ys\/SqT K H p ys)/\ys.length=n:=by
 unfold F_ at hn;split at hn
 ·cases hn;obtain⟨p,vs,rfl,h1,h2⟩:=h;exact⟨p,vs,rfl,.inl (SqL.of h1),h2.length⟩
 ·cases hn;obtain⟨p,vs,rfl,h1,h2⟩:=h;exact⟨p,vs,rfl,.inr (.inl (.inl (s _ _ h1))),h2.length⟩
 ·cases hn;obtain⟨p,vs,rfl,h1,h2⟩:=h;exact⟨p,vs,rfl,.inr (SqT.same s h1),h2.length⟩
 ·cases hn;obtain⟨p,rfl,h1⟩:=h;exact⟨p,_,rfl,.inl (s.seq h1),by simp⟩
 ·cases hn
theorem fR(hK:X.K=K):B3 K X (.builtin "len") (Nm K) Jy:=⟨by subst hK;exact bS.or' wc wb,by
 intro B F σ H Γ vs ds Q QQ e r q k;unfold Jy at q;split at q
 ·obtain⟨v,rfl,h⟩:=r.one;cases h;exact .inr ⟨_,rfl,q.1,k _ _ (kA e q.2)⟩
 ·obtain⟨v,rfl,h⟩:=r.one;obtain⟨n,hn,q⟩:=q;obtain⟨p,ys,rfl,hs,hl⟩:=FZ e.sub h hn;subst hl;exact .inl ⟨p,ys,rfl,hs,k _ _ (kA e q)⟩
 ·exact q.elim⟩
end
section
variable {b:Expr}{ta tb:TE}{a3 b3 c3:TB3}
theorem aA.atI(h:aA K F xs vs){i:Int}{d:D}(e:atI xs i=some d):∃ v,L2.atI vs i=some v/\Rep K F d v:=by
 unfold L2.atI at e ⊢;rw[h.length];cases q:ixN xs.length i with
 | none=>rw[q] at e;cases e
 | some j=>
  rw[q] at e;exact h.get e
def ix3 (x y:D) (Γ:G) (Q:RV->G->Prop):Prop:=match x,y with
 | .lst xs,.int i=>∃ d,atI xs i=some d/\Q (.fz d) Γ
 | .tup xs,.int i=>∃ d,atI xs i=some d/\Q (.fz d) Γ
 | .ktup xs,.int i=>∃ d,atI xs i=some d/\Q (.fz d) Γ
 | .scr ns,.int i=>∃ n,atI ns i=some n/\Q (.fz (.int n)) Γ
 | .str z,.int i=>z.length<=sizeLine/\∃ c,atI z.cps.toList i=some c/\Q (.fz (.str ⟨#[c]⟩)) Γ
 | _,_=>False
theorem GK{α β:Type}{f:α->β}{xs:List α}{i:Int}{d:α}(e:atI xs i=some d):atI (xs.map f) i=some (f d):=by
 unfold L2.atI at e ⊢;rw[lM0];cases q:ixN xs.length i with
 | none=>rw[q] at e;cases e
 | some j=>
  rw[q] at e;show (xs.map f)[j]?=_;rw[List.getElem?_map,show xs[j]?=some d from e]
  rfl
theorem L9:mx K (rIx K) ix3:=by
 intro B F σ H Γ x y dx dy Q QQ e rx ry q k;unfold ix3 at q;split at q
 ·obtain⟨d,hd,q⟩:=q;obtain⟨p,vs,rfl,h1,h2⟩:=rx;cases ry;obtain⟨v,hv,r⟩:=h2.atI hd;exact .inl ⟨p,vs,_,v,rfl,rfl,SqL.of h1,hv,k _ _ (g8 e r q)⟩
 ·obtain⟨d,hd,q⟩:=q;obtain⟨p,vs,rfl,h1,h2⟩:=rx;cases ry;obtain⟨v,hv,r⟩:=h2.atI hd;exact .inr (.inl ⟨p,vs,_,v,rfl,rfl,.inl (.inl (e.sub _ _ h1)),hv,k _ _ (g8 e r q)⟩)
 ·obtain⟨d,hd,q⟩:=q;obtain⟨p,vs,rfl,h1,h2⟩:=rx;cases ry;obtain⟨v,hv,r⟩:=h2.atI hd;exact .inr (.inl ⟨p,vs,_,v,rfl,rfl,SqT.same e.sub h1,hv,k _ _ (g8 e r q)⟩)
 ·obtain⟨d,hd,q⟩:=q;obtain⟨p,rfl,h1⟩:=rx;cases ry;exact .inl ⟨p,_,_,.int d,rfl,rfl,e.sub.seq h1,GK hd,k _ _ (kA e q)⟩
 ·cases rx;cases ry;obtain⟨hz,c,hc,q⟩:=q;exact .inr (.inr ⟨_,_,c,rfl,rfl,hz,hc,k _ _ (kz e q)⟩)
 ·exact q.elim
theorem aO(hK:X.K=K)(ha:P3B K X a ta a3)(hb:P3B K X b tb b3)(hs:Ak b):P3 K X (.Subscript a b pos) (tOp (rIx K) ta tb) (lJ ix3 a3 b3):=⟨LG (by subst hK;exact JJ) ha.pe hb.pe hs,ju L9 ha.rf hb.rf⟩
noncomputable def cut {α:Type} (xs:List α) (lo hi:Option Int):List α:=(xs.drop (HT.sIx xs.length 0 lo)).take (HT.sIx xs.length xs.length hi - HT.sIx xs.length 0 lo)
noncomputable def pk {α:Type} (xs:List α) (lo hi st:Option Int):List α:=(sliceRange (sliceBounds lo hi st xs.length).1 (sliceBounds lo hi st xs.length).2.1 (sliceBounds lo hi st xs.length).2.2).filterMap (xs[·]?)
theorem aA.cut {xs:List D} {vs:List V} (h:aA K F xs vs) (lo hi:Option Int):aA K F (cut xs lo hi) (Bi vs lo hi):=by
 unfold L3.cut Bi;rw[h.length];exact(h.drop _).take _
theorem aA.places(h:aA K F xs vs):∀ js:List Nat,aA K F (js.filterMap (xs[·]?)) (js.filterMap (vs[·]?))
 | []=>rfl
 | j::js=>by
  have ih:=h.places js;cases hn:xs[j]? with
  | some x=>
   obtain⟨u,hu,r⟩:=h.get hn;simp only[List.filterMap_cons,hn,hu];exact⟨u,_,rfl,r,ih⟩
  | none=>
   have hv:vs[j]?=none:=by
    rw[List.getElem?_eq_none_iff] at hn ⊢;rw[h.length];exact hn
   simp only[List.filterMap_cons,hn,hv];exact ih
theorem aA.pk {xs:List D} {vs:List V} (h:aA K F xs vs) (lo hi st:Option Int):aA K F (pk xs lo hi st) (wR vs lo hi st):=by
 unfold L3.pk wR;rw[h.length];exact h.places _
abbrev TO3:=G->(Option Int->G->Prop)->Prop
def N_ (K:Fg0) (t:TO) (t3:TO3):Prop:=∀ (B:Bs) (F:Hp) (σ:L2.St) (H:Hp) (Γ:G) (Q:Option Int->G->Prop) (QQ:Option Int->Hp->Prop),En K B F σ H Γ->t3 Γ Q->(∀ o H',(∃ F' Γ',aE F F'/\En K B F' σ H' Γ'/\Q o Γ')->QQ o H')->t σ H QQ
structure P3O (K:Fg0) (X:Cx) (e:Option Expr) (t:TO) (t3:TO3):Prop where
 pe:PO X e t
 rf:N_ K t t3
def Hl (Γ:G) (Q:Option Int->G->Prop):Prop:=Q none Γ
def G9 (a3:TB3) (Γ:G) (Q:Option Int->G->Prop):Prop:=a3 Γ fun x Γ1=>∃ i,x.at Γ1=some (.int i)/\Q (some i) Γ1
theorem iZ:P3O K X none zw Hl:=⟨Fi,fun B F σ H Γ Q QQ e q k=>k _ _ ⟨F,Γ,aE.refl F,e,q⟩⟩
theorem fj(h:P3B K X a ta a3):P3O K X (some a) (G4 ta) (G9 a3):=⟨Fh h.pe,by
 intro B F σ H Γ Q QQ e q k;refine h.rf B F σ H Γ _ _ e q (fun v H1 Z=>?_);obtain⟨F1,Γ1,x,s1,e1,r1,i,h1,q1⟩:=Z;have:v=.int i:=e1.bo r1 h1;exact⟨i,this,k _ _ ⟨F1,Γ1,s1,e1,q1⟩⟩⟩
def sl3 (a3:TB3) (l3 h3:TO3) (Γ:G) (Q:RV->G->Prop):Prop:=a3 Γ fun x Γ1=>l3 Γ1 fun lo Γ2=>h3 Γ2 fun hi Γ3=>∃ xs,x.at Γ3=some (.lst xs)/\Q (.fr (.lst (cut xs lo hi))) Γ3
theorem nD{tl th:TO}{l3 h3:TO3}(hK:X.K=K)(ha:P3B K X a ta a3)(hl:P3O K X lo tl l3)(hh:P3O K X hi th h3):P3 K X (.Subscript a (.Slice lo hi none p2) pos) (tSl (Lo K) ta tl th) (sl3 a3 l3 h3):=
 ⟨CI (by subst hK;exact EK) ha.pe hl.pe hh.pe,by
 intro B F σ H Γ Q QQ e q k;refine ha.rf B F σ H Γ _ _ e q (fun v H1 Z=>?_);obtain⟨F1,Γ1,x,s1,e1,r1,q1⟩:=Z;refine hl.rf B F1 σ H1 Γ1 _ _ e1 q1 (fun lo H2 Z=>?_);obtain⟨F2,Γ2,s2,e2,q2⟩:=Z;refine hh.rf B F2 σ H2 Γ2 _ _ e2 q2 (fun hi H3 Z=>?_);obtain⟨F3,Γ3,s3,e3,xs,h3,q3⟩:=Z;obtain⟨p,vs,rfl,h4,h5⟩:=e3.bo (r1.mono (s2.trans s3)) h3;exact⟨p,vs,rfl,SqL.of h4,fun l hl=>k _ _ (Po.mono ((s1.trans s2).trans s3) (jv e3 hl (h5.cut lo hi) q3))⟩⟩
def Le (a3:TB3) (l3 h3 s3:TO3) (Γ:G) (Q:RV->G->Prop):Prop:=a3 Γ fun x Γ1=>l3 Γ1 fun lo Γ2=>h3 Γ2 fun hi Γ3=>s3 Γ3 fun st Γ4=>st≠some 0/\∃ xs,x.at Γ4=some (.lst xs)/\Q (.fr (.lst (pk xs lo hi st))) Γ4
theorem ue{st:Expr}{tl th ts:TO}{l3 h3 s3:TO3}(hK:X.K=K)(ha:P3B K X a ta a3)(hl:P3O K X lo tl l3)(hh:P3O K X hi th h3)(hs:P3O K X (some st) ts s3):P3 K X (.Subscript a (.Slice lo hi (some st) p2) pos) (K8 K ta tl th ts) (Le a3 l3 h3 s3):=
 ⟨by subst hK;exact AU ha.pe hl.pe hh.pe hs.pe,by
 intro B F σ H Γ Q QQ e q k;refine ha.rf B F σ H Γ _ _ e q (fun v H1 Z=>?_);obtain⟨F1,Γ1,x,s1,e1,r1,q1⟩:=Z;refine hl.rf B F1 σ H1 Γ1 _ _ e1 q1 (fun lo H2 Z=>?_);obtain⟨F2,Γ2,s2,e2,q2⟩:=Z;refine hh.rf B F2 σ H2 Γ2 _ _ e2 q2 (fun hi H3 Z=>?_);obtain⟨F3,Γ3,s3,e3,q3⟩:=Z;refine hs.rf B F3 σ H3 Γ3 _ _ e3 q3 (fun st H4 Z=>?_);obtain⟨F4,Γ4,s4,e4,hst,xs,h4,q4⟩:=Z;obtain⟨p,vs,rfl,h5,h6⟩:=e4.bo (r1.mono ((s2.trans s3).trans s4)) h4;exact⟨hst,p,vs,rfl,SqL.of h5,fun l hl=>k _ _ (Po.mono (((s1.trans s2).trans s3).trans s4) (jv e4 hl (h6.pk lo hi st) q4))⟩⟩
noncomputable def sf:D->Option (List D)
 | .lst xs=>some xs
 | .tup xs=>some xs
 | .ktup xs=>some xs
 | .scr ns=>some (ns.map .int)
 | _=>none
theorem uq{d:D}(s:aE F H)(h:fL K F H d v)(hn:sf d=some xs):∃ p ys,v=.ref p/\(SqL K H p ys\/SqT K H p ys)/\aA K F xs ys:=by
 unfold sf at hn;split at hn
 ·cases hn;obtain⟨p,vs,rfl,h1,h2⟩:=h;exact⟨p,vs,rfl,.inl (SqL.of h1),h2⟩
 ·cases hn;obtain⟨p,vs,rfl,h1,h2⟩:=h;exact⟨p,vs,rfl,.inr (.inl (.inl (s _ _ h1))),h2⟩
 ·cases hn;obtain⟨p,vs,rfl,h1,h2⟩:=h;exact⟨p,vs,rfl,.inr (SqT.same s h1),h2⟩
 ·cases hn;obtain⟨p,rfl,h1⟩:=h;exact⟨p,_,rfl,.inl (s.seq h1),aA.ints _⟩
 ·cases hn
def Dn (ds:List D) (Γ:G) (Q:RV->G->Prop):Prop:=match ds with
 | [d]=>∃ xs,sf d=some xs/\Q (.fr (.lst xs)) Γ
 | _=>False
theorem we(hK:X.K=K):B3 K X (.type "list") (fun xs H Q=>∃ p ys,xs=[.ref p]/\(SqL K H p ys\/SqT K H p ys)/\∀ l,H l=none->Q (.ref l) (upd H l (.lst ys))) Dn:=⟨by subst hK;exact wa,by
 intro B F σ H Γ vs ds Q QQ e r q k;unfold Dn at q;split at q
 ·obtain⟨v,rfl,h⟩:=r.one;obtain⟨xs,hn,q⟩:=q;obtain⟨p,ys,rfl,hs,hl⟩:=uq e.sub h hn;exact⟨p,ys,rfl,hs,fun l hf=>k _ _ (jv e hf hl q)⟩
 ·exact q.elim⟩
def xT (ds:List D) (Γ:G) (Q:RV->G->Prop):Prop:=match ds with
 | [.lst xs]=>Q (.fz (.tup xs)) Γ
 | _=>False
theorem qI(hK:X.K=K):B3 K X (.type "tuple") (fun xs H Q=>∃ p ys,xs=[.ref p]/\((SqL K H p ys/\∀ l,H l=none->Q (.ref l) (upd H l (.tup ys)))\/(SqT K H p ys/\Q (.ref p) H))) xT:=⟨by subst hK;exact tI,by
 intro B F σ H Γ vs ds Q QQ e r q k;unfold xT at q;split at q
 ·obtain⟨v,rfl,p,ys,rfl,h1,h2⟩:=r.one;exact⟨p,ys,rfl,.inl ⟨SqL.of h1,fun l hf=>k _ _ (zH e hf h2 q)⟩⟩
 ·exact q.elim⟩
noncomputable def knD:D->Bool
 | .non=>true | .bl _=>true | .int _=>true | .str _=>true | .lst _=>true | .tup _=>true | .dct=>true | .dcs _ _=>true | _=>false
theorem Dr{d:D}(s:aE F H)(h:fL K F H d v)(hk:knD d=true):Kn H v:=by
 unfold knD at hk;split at hk
 ·cases h;exact .non
 ·cases h;exact .bl _
 ·cases h;exact .int _
 ·cases h;exact .str _
 ·obtain⟨p,vs,rfl,h1,_⟩:=h;exact .lst h1
 ·obtain⟨p,vs,rfl,h1,_⟩:=h;exact .tup (s _ _ h1)
 ·obtain⟨p,rfl,h1⟩:=h;exact .dK (s _ _ h1)
 ·obtain⟨p,rfl,h1⟩:=h;exact .dK (s _ _ h1)
 ·cases hk
noncomputable def dB:D->Bool
 | .bl _=>true | _=>false
noncomputable def dI:D->Bool
 | .bl _=>true | .int _=>true | _=>false
noncomputable def dL:D->Bool
 | .lst _=>true | _=>false
noncomputable def dT:D->Bool
 | .tup _=>true | _=>false
def is3 (t:String) (f:D->Bool) (ds:List D) (Γ:G) (Q:RV->G->Prop):Prop:=match ds with
 | [d,.ty t']=>t'=t/\knD d=true/\Q (.fz (.bl (f d))) Γ
 | _=>False
theorem Ec{t:String}{f:D->Bool}{g:Hp->V->Bool}(h:bS X (.builtin "isinstance") (fun xs H Q=>∃ x,xs=[x,.ty t]/\Kn H x/\Q (.bl (g H x)) H))(hg:∀ {F H:Hp} {d:D} {v:V},aE F H->fL K F H d v->knD d=true->g H v=f d):B3 K X (.builtin "isinstance") (fun xs H Q=>∃ x,xs=[x,.ty t]/\Kn H x/\Q (.bl (g H x)) H) (is3 t f):=⟨h,by
 intro B F σ H Γ vs ds Q QQ e r q k;unfold is3 at q;split at q
 ·obtain⟨v,w,rfl,h1,h2⟩:=r.two;obtain⟨rfl,hk,q⟩:=q;cases h2;exact⟨v,rfl,Dr e.sub h1 hk,by rw[hg e.sub h1 hk];exact k _ _ (kB e q)⟩
 ·exact q.elim⟩
theorem MO(T:gp X.K):B3 K X (.builtin "isinstance") (fun xs H Q=>∃ x,xs=[x,.ty "bool"]/\Kn H x/\Q (.bl (isB x)) H) (is3 "bool" dB):=Ec (g:=fun _ v=>isB v) (D8 T) fun s h hk=>by
 unfold knD at hk;split at hk
 ·cases h;rfl
 ·cases h;rfl
 ·cases h;rfl
 ·cases h;rfl
 ·obtain⟨p,vs,rfl,h1,_⟩:=h;rfl
 ·obtain⟨p,vs,rfl,h1,_⟩:=h;rfl
 ·obtain⟨p,rfl,h1⟩:=h;rfl
 ·obtain⟨p,rfl,h1⟩:=h;rfl
 ·cases hk
theorem MN(T:gp X.K):B3 K X (.builtin "isinstance") (fun xs H Q=>∃ x,xs=[x,.ty "int"]/\Kn H x/\Q (.bl (isI x)) H) (is3 "int" dI):=Ec (g:=fun _ v=>isI v) (D6 T) fun s h hk=>by
 unfold knD at hk;split at hk
 ·cases h;rfl
 ·cases h;rfl
 ·cases h;rfl
 ·cases h;rfl
 ·obtain⟨p,vs,rfl,h1,_⟩:=h;rfl
 ·obtain⟨p,vs,rfl,h1,_⟩:=h;rfl
 ·obtain⟨p,rfl,h1⟩:=h;rfl
 ·obtain⟨p,rfl,h1⟩:=h;rfl
 ·cases hk
theorem HV(T:gp X.K):B3 K X (.builtin "isinstance") (fun xs H Q=>∃ x,xs=[x,.ty "list"]/\Kn H x/\Q (.bl (isL H x)) H) (is3 "list" dL):=Ec (D5 T) fun s h hk=>by
 unfold knD at hk;split at hk
 ·cases h;rfl
 ·cases h;rfl
 ·cases h;rfl
 ·cases h;rfl
 ·obtain⟨p,vs,rfl,h1,_⟩:=h;exact z6 h1
 ·obtain⟨p,vs,rfl,h1,_⟩:=h;exact z4 (s _ _ h1)
 ·obtain⟨p,rfl,h1⟩:=h;exact yM (s _ _ h1)
 ·obtain⟨p,rfl,h1⟩:=h;exact yM (s _ _ h1)
 ·cases hk
theorem ML(T:gp X.K):B3 K X (.builtin "isinstance") (fun xs H Q=>∃ x,xs=[x,.ty "tuple"]/\Kn H x/\Q (.bl (isT H x)) H) (is3 "tuple" dT):=Ec (D2 T) fun s h hk=>by
 unfold knD at hk;split at hk
 ·cases h;rfl
 ·cases h;rfl
 ·cases h;rfl
 ·cases h;rfl
 ·obtain⟨p,vs,rfl,h1,_⟩:=h;exact z0 h1
 ·obtain⟨p,vs,rfl,h1,_⟩:=h;exact zZ (s _ _ h1)
 ·obtain⟨p,rfl,h1⟩:=h;exact yL (s _ _ h1)
 ·obtain⟨p,rfl,h1⟩:=h;exact yL (s _ _ h1)
 ·cases hk
def KH (ds:List D) (Γ:G) (Q:RV->G->Prop):Prop:=match ds with
 | [.lst xs]=>∃ bs:List Bool,xs=bs.map .bl/\Q (.fz (.bl (bs.all id))) Γ
 | _=>False
theorem aA.Ag:∀ {bs:List Bool} {vs:List V},aA K F (bs.map D.bl) vs->vs=bs.map V.bl
 | [],_,h=>h
 | n::ns,_,Z=>by
  obtain⟨v,ws,h1,h2,h3⟩:=Z;rw[h1,aA.Ag h3];have:v=.bl n:=h2;rw[this];rfl
theorem Ed(hK:X.K=K)(hc:X.calm=true):B3 K X (.builtin "all") (fun xs H Q=>∃ (p:Addr) (bs:List Bool),xs=[.ref p]/\SqL K H p (bs.map V.bl)/\Q (.bl (bs.all id)) H) KH:=⟨by subst hK;exact Bp hc,by
 intro B F σ H Γ vs ds Q QQ e r q k;unfold KH at q;split at q
 ·obtain⟨bs,rfl,q⟩:=q;obtain⟨v,rfl,p,ys,rfl,h1,h2⟩:=r.one;exact⟨p,bs,rfl,SqL.of (by rw[h1,h2.Ag]),k _ _ (kB e q)⟩
 ·exact q.elim⟩
noncomputable def flD:D->Bool
 | .non=>true | .bl _=>true | .int _=>true | .str _=>true | _=>false
noncomputable def toV:D->V
 | .bl b=>.bl b | .int i=>.int i | .str x=>.str x | _=>.non
theorem HH{d:D}(h:fL K F H d v)(hk:flD d=true):v=toV d/\mf v=true:=by
 unfold flD at hk;split at hk
 ·cases h;exact⟨rfl,rfl⟩
 ·cases h;exact⟨rfl,rfl⟩
 ·cases h;exact⟨rfl,rfl⟩
 ·cases h;exact⟨rfl,rfl⟩
 ·cases hk
theorem HG (s:aE F H):∀ {xs:List D} {vs:List V},aA K F xs vs->xs.all flD=true->vs=xs.map toV/\vs.all mf=true
 | [],_,h,_=>by cases h;exact⟨rfl,rfl⟩
 | x::xs,_,⟨v,ws,h1,h2,h3⟩,hk=>by
  rw[List.all_cons,Bool.and_eq_true] at hk;obtain⟨a,b⟩:=HG s h3 hk.2;obtain⟨c,d⟩:=HH (Rep.b s h2) hk.1;subst h1 a c;refine⟨rfl,?_⟩;rw[List.all_cons,d,b];rfl
def in3 (neg:Bool) (x y:D) (Γ:G) (Q:RV->G->Prop):Prop:=∃ xs,sf y=some xs/\flD x=true/\xs.all flD=true/\Q (.fz (.bl (if neg then !inV (toV x) (xs.map toV) else inV (toV x) (xs.map toV)))) Γ
theorem Ma(neg:Bool):mx K (rIn K neg) (in3 neg):=by
 intro B F σ H Γ x y dx dy Q QQ e rx ry q k;obtain⟨xs,hn,f1,f2,q⟩:=q;obtain⟨p,ys,rfl,hs,hl⟩:=uq e.sub ry hn;obtain⟨a,b⟩:=HG e.sub hl f2;obtain⟨c,d⟩:=HH rx f1;subst a c;exact⟨p,_,rfl,hs,d,b,k _ _ (kB e q)⟩
theorem p_(hK:X.K=K):C3 K X .In (rIn K false) (in3 false):=⟨by subst hK;exact AY,Ma false⟩
theorem aA.lookup:∀ {ns:Ls0} {xs:List D} {gs:List (Str×V)} {f:Str} {d:D},gs.map (·.1)=ns->aA K F xs (gs.map (·.2))->(ns.zip xs).lookup f=some d->∃ v,gs.lookup f=some v/\Rep K F d v
 | [],_,[],f,d,_,_,h=>by simp at h
 | n::ns,xs,(m,u)::gs,f,d,h1,h2,h3=>by
  simp only[List.map_cons,List.cons.injEq] at h1;obtain⟨rfl,h1⟩:=h1;cases xs with
  | nil=>simp at h3
  | cons x xs=>
   obtain⟨v,ws,e,r,h2⟩:=h2;simp only[List.map_cons,List.cons.injEq] at e;obtain⟨rfl,rfl⟩:=e;rw[List.zip_cons_cons,List.lookup_cons] at h3;rw[List.lookup_cons];cases q:f == m with
   | true=>rw[q] at h3;cases h3;exact⟨_,rfl,r⟩
   | false=>rw[q] at h3;exact aA.lookup h1 h2 h3
end
set_option genInjectivity false in
structure E3 where
 nx:G->Prop
 rt:RV->G->Prop
 bk:G->Prop:=fun _=>False
 ct:G->Prop:=fun _=>False
abbrev TS3:=E3->G->Prop
structure qf (K:Fg0) (B:Bs) (F:Hp) (D:Ends) (D3:E3):Prop where
 nx:∀ F' σ' H' Γ',aE F F'->En K B F' σ' H' Γ'->D3.nx Γ'->D.nx σ' H'
 rt:∀ F' σ' H' Γ' v r,aE F F'->En K B F' σ' H' Γ'->jH K B F' σ' H' Γ' v r->D3.rt r Γ'->D.rt v H'
 bk:∀ F' σ' H' Γ',aE F F'->En K B F' σ' H' Γ'->D3.bk Γ'->D.bk σ' H'
 ct:∀ F' σ' H' Γ',aE F F'->En K B F' σ' H' Γ'->D3.ct Γ'->D.ct σ' H'
theorem qf.mono{F1:Hp}{D:Ends}{D3:E3}(h:qf K B F D D3)(s:aE F F1):qf K B F1 D D3:=
 ⟨fun F' σ' H' Γ' s'=>h.nx F' σ' H' Γ' (s.trans s'),fun F' σ' H' Γ' v r s'=>h.rt F' σ' H' Γ' v r (s.trans s'),fun F' σ' H' Γ' s'=>h.bk F' σ' H' Γ' (s.trans s'),fun F' σ' H' Γ' s'=>h.ct F' σ' H' Γ' (s.trans s')⟩
def GX (K:Fg0) (t:TS) (t3:TS3):Prop:=∀ (B:Bs) (F:Hp) (σ:L2.St) (H:Hp) (Γ:G) (D:Ends) (D3:E3),En K B F σ H Γ->qf K B F D D3->t3 D3 Γ->t D σ H
structure P3S (K:Fg0) (X:Cx) (st:Stmt) (t:TS) (t3:TS3):Prop where
 pe:PS X st t
 rf:GX K t t3
structure j6 (K:Fg0) (X:Cx) (st:List Stmt) (t:TS) (t3:TS3):Prop where
 pe:PSs X st t
 rf:GX K t t3
section
def aW (Γ:G) (i:Nat):Prop:=match Γ[i]? with
 | some (some (.ln _))=>False
 | some _=>True
 | none=>False
theorem fu(h:aW Γ i):i < Γ.length:=by
 unfold aW at h;split at h
 ·exact h.elim
 ·rename_i q;exact(gS0 q).1
 ·exact h.elim
theorem aC{α:Type}{l:List α}{a:α}(h:i < l.length):(l.set i a)[i]?=some a:=by
 rw[List.getElem?_set,if_pos rfl,if_pos h]
theorem En.set(e:En K B F σ H Γ)(hi:aW Γ i){r:RV}(hr:jH K B F σ H Γ v r)(hn:autoParam (r.pl=true) wE):En K B F (σ.set i (some v)) H (Γ.set i (some r.sl)):=by
 have il:=fu hi;have is:i < σ.length:=by rw[e.len];exact il
 have nl:∀ d,Γ[i]?≠some (some (Sl.ln d)):=fun d q=>by unfold aW at hi;rw[q] at hi;exact hi
 have ne:∀ {j:Nat},j≠i->(Γ.set i (some r.sl))[j]?=Γ[j]?/\(σ.set i (some v))[j]?=σ[j]?:=fun h=>⟨az (Ne.symm h),az (Ne.symm h)⟩;have hld:∀ {j x},Hld (Γ.set i (some r.sl)) j x->(j=i/\r=.fr x)\/(j≠i/\Hld Γ j x):=fun {j x} q=>by
  by_cases z:j=i
  ·subst z
   left
   refine⟨rfl,?_⟩;rcases q with q | q <;> rw[aC il] at q <;> cases r <;> first | (cases hn;done) | (cases q;done) | (cases q;rfl)
  ·right
   exact⟨z,by unfold Hld at q ⊢;rw[(ne z).1] at q;exact q⟩
 refine⟨e.sub,by rw[List.length_set,List.length_set];exact e.len,?_,?_,?_,?_,?_,?_,e.keep,e.new,e.rest,e.dom⟩
 ·intro j d q;by_cases z:j=i
  ·subst z;rw[aC il] at q;cases r with
   | fz x=>cases q;exact⟨v,aC is,hr⟩
   | fr x=>cases q
   | two xs ys=>cases hn
   | rws xss=>cases hn
   | tol _ _ _=>cases hn
  ·rw[(ne z).1] at q;rw[(ne z).2];exact e.fz j d q
 ·intro j d q;rcases hld q with ⟨rfl,rfl⟩ | ⟨z,q⟩
  ·obtain⟨p,rfl,h1,h2,h3,h4⟩:=hr;exact⟨p,aC is,h1,h2⟩
  ·rw[(ne z).2];exact e.hl j d q
 ·intro j d p q a;rcases hld (.inl q) with ⟨rfl,rfl⟩ | ⟨z,_⟩
  ·obtain⟨p',rfl,h1,h2,h3,h4⟩:=hr;rw[aC is] at a;cases a;exact h3
  ·rw[(ne z).1] at q;rw[(ne z).2] at a;exact e.ow j d p q a
 ·intro j d p q a;rcases hld (.inr q) with ⟨rfl,rfl⟩ | ⟨z,_⟩
  ·rw[aC il] at q;cases q
  ·rw[(ne z).1] at q;rw[(ne z).2] at a;exact e.ln j d p q a
 ·intro j k d d' p q1 q2 a1 a2;rcases hld q1 with ⟨rfl,rfl⟩ | ⟨z1,w1⟩
  ·rcases hld q2 with ⟨rfl,h⟩ | ⟨z2,w2⟩
   ·rfl
   ·obtain⟨p',rfl,h1,h2,h3,h4⟩:=hr;rw[aC is] at a1;cases a1;rw[(ne z2).2] at a2;exact absurd a2 (h4 k _ w2)
  ·rcases hld q2 with ⟨rfl,h⟩ | ⟨z2,w2⟩
   ·subst h;obtain⟨p',rfl,h1,h2,h3,h4⟩:=hr;rw[aC is] at a2;cases a2;rw[(ne z1).2] at a1;exact absurd a1 (h4 j _ w1)
   ·rw[(ne z1).2] at a1;rw[(ne z2).2] at a2;exact e.dis j k d d' p w1 w2 a1 a2
 ·intro j p q;obtain⟨a,d,b⟩:=e.par j p q;have z:j≠i:=fun z=>by subst z;exact nl d b
  rw[(ne z).1,(ne z).2];exact⟨a,d,b⟩
theorem En.forget(e:En K B F σ H Γ)(hi:aW Γ i):En K B F σ H (Γ.set i none):=by
 have nl:∀ d,Γ[i]?≠some (some (Sl.ln d)):=fun d q=>by unfold aW at hi;rw[q] at hi;exact hi
 have il:=fu hi;have ne:∀ {j:Nat} {s:Sl},(Γ.set i none)[j]?=some (some s)->j≠i/\Γ[j]?=some (some s):=fun {j s} q=>by
  by_cases z:j=i
  ·subst z;rw[aC il] at q;cases q
  ·exact⟨z,by rw[az (Ne.symm z)] at q;exact q⟩
 have hld:∀ {j x},Hld (Γ.set i none) j x->Hld Γ j x:=fun q=>q.imp (fun q=>(ne q).2) (fun q=>(ne q).2);exact⟨e.sub,by rw[List.length_set];exact e.len,fun j d q=>e.fz j d (ne q).2,fun j d q=>e.hl j d (hld q),fun j d p q=>e.ow j d p (ne q).2,fun j d p q=>e.ln j d p (ne q).2,fun j k d d' p q1 q2=>e.dis j k d d' p (hld q1) (hld q2),
  fun j p q=>by
   obtain⟨a,d,b⟩:=e.par j p q;have z:i≠j:=fun z=>by subst z;exact nl d b
   exact⟨a,d,by rw[az z];exact b⟩,e.keep,e.new,e.rest,e.dom⟩
def EJ (i:Nat) (Γ:G) (Q:RV->G->Prop):Prop:=match Γ[i]? with
 | some (some (.fz d))=>Q (.fz d) Γ
 | some (some (.ow d))=>Q (.fr d) (Γ.set i none)
 | _=>False
theorem IH(i:Nat):Ref K (jV i) (EJ i):=by
 intro B F σ H Γ Q QQ e h k;unfold EJ at h;split at h
 ·rename_i d q;obtain⟨v,h1,h2⟩:=e.fz i d q;exact⟨v,h1,k _ _ (g8 e h2 h)⟩
 ·rename_i d q;obtain⟨p,h1,h2,h3⟩:=e.hl i d (.inl q);have hf:aW Γ i:=by unfold aW;rw[q];trivial
  have e':=e.forget hf;refine⟨_,h1,k _ _ ⟨F,_,.fr d,aE.refl F,e',⟨p,rfl,h2,h3,e.ow i d p q h1,fun j x hj=>?_⟩,h⟩⟩;intro a;have hj':j≠i/\Hld Γ j x:=by
   by_cases z:j=i
   ·subst z;rcases hj with hj | hj <;> rw[aC (fu hf)] at hj <;> cases hj
   ·exact⟨z,by unfold Hld at hj ⊢;rw[az (Ne.symm z)] at hj;exact hj⟩
  exact hj'.1 (e.dis j i x d p hj'.2 (.inl q) a h1)
 ·exact h.elim
theorem AX(i:Nat){x:Str}(hN:autoParam (X.N[i]?=some x) wE)(hv:Vis X.env.scope x:=by first | exact Or.inl rfl | exact Or.inr (Or.inl rfl) | exact Or.inr (Or.inr rfl))(hd:autoParam ((x == ("__debug__":Str))=false) wP)(hcd:autoParam ((x == ("__classdict__":Str))=false) wP):P3 K X (.Name x pos) (jV i) (EJ i):=⟨cT hN hv hd hcd,IH i⟩
variable {rest:List Stmt}{t u:TS}{t3 u3:TS3}
def xa (D:E3) (Γ:G):Prop:=D.nx Γ
def Cb (t u:TS3) (D:E3) (Γ:G):Prop:=t { D with nx:=u D } Γ
def AG (e3:TE3) (D:E3) (Γ:G):Prop:=e3 Γ D.rt
def DR (e3:TE3) (D:E3) (Γ:G):Prop:=e3 Γ fun _ Γ1=>D.nx Γ1
theorem aK:j6 K X [] G6 xa:=⟨Fe,fun B F σ H Γ D D3 e k q=>k.nx F σ H Γ (aE.refl F) e q⟩
theorem aq(h1:P3S K X st t t3)(h2:j6 K X rest u u3):j6 K X (st::rest) (Av t u) (Cb t3 u3):=⟨eh h1.pe h2.pe,fun B F σ H Γ D D3 e k q=>
 h1.rf B F σ H Γ _ { D3 with nx:=u3 D3 } e ⟨fun F' σ' H' Γ' s e' q'=>h2.rf B F' σ' H' Γ' _ D3 e' (k.mono s) q',k.rt,k.bk,k.ct⟩ q⟩
theorem aj(h1:P3S K X st t t3):j6 K X [st] t t3:=⟨lA h1.pe,h1.rf⟩
theorem aw(h:P3 K X e te e3):P3S K X (.Return (some e) pos) (Io te) (AG e3):=⟨Cw h.pe,fun B F σ H Γ D D3 e k q=>
 h.rf B F σ H Γ _ _ e q fun v H' ⟨F',Γ',r,s,e',rv,q'⟩=>k.rt F' σ H' Γ' v r s e' rv q'⟩
theorem eg(h:P3 K X e te e3)(hs:autoParam (swapsWith e none pos.line X.env=pure false) wE):P3S K X (.Expr e pos) (BZ te) (DR e3):=⟨lB h.pe hs,fun B F σ H Γ D D3 e k q=>
 h.rf B F σ H Γ _ _ e q fun v H' ⟨F',Γ',r,s,e',rv,q'⟩=>k.nx F' σ H' Γ' s e' q'⟩
def Ba (A3:TT3) (t u:TS3) (D:E3) (Γ:G):Prop:=A3 Γ fun c Γ1=>match c with
 | true=>t D Γ1
 | false=>u D Γ1
theorem aX{a b:List Stmt}{tc:TT}{A3:TT3}(hc:P3T K X c tc A3)(ha:j6 K X a t t3)(hb:j6 K X b u u3):P3S K X (.If c a b pos) (Iu tc t u) (Ba A3 t3 u3):=⟨Hg hc.pe ha.pe hb.pe,fun B F σ H Γ D D3 e k q=>
 hc.rf B F σ H Γ _ _ e q fun c H' Z=>by
  obtain⟨F',Γ',s,e',q'⟩:=Z;cases c with
  | true=>exact A8 (ha.rf B F' σ H' Γ' D D3 e' (k.mono s) q')
  | false=>exact A9 (hb.rf B F' σ H' Γ' D D3 e' (k.mono s) q')⟩
theorem cS:P3S K X st BX (fun _ _=>False):=⟨Cz,fun B F σ H Γ D D3 e k q=>q⟩
def Ca (i:Nat) (e3:TE3) (D:E3) (Γ:G):Prop:=e3 Γ fun r Γ1=>aW Γ1 i/\D.nx (Γ1.set i (some r.sl))
theorem zE(h:Ref K te e3):GX K (j_ te (hX i)) (Ca i e3):=fun B F σ H Γ D D3 e k q=>
 h B F σ H Γ _ _ e q fun v H' Z=>by
  obtain⟨F',Γ',r,s,e',rv,hf,q'⟩:=Z;obtain⟨F2,r2,s2,e2,rv2,h2,hn⟩:=e'.norm rv;exact k.nx F2 _ H' _ (s.trans s2) (by have:=e2.set hf rv2 hn;rw[h2] at this;exact this) q'
theorem a_{x:Str}(hN:X.N.Nodup)(hi:X.N[i]?=some x)(hx:Loc X.env.scope x)(he:P3 K X e te e3)(hs:autoParam (swapsWith e (some (.Name x pos')) pos.line X.env=pure false) wE)(hf:X.fn x=true\/X.env.scope.names.lookup x=some .local:=by first | exact .inl rfl | exact .inr rfl | assumption) :
  P3S K X (.Assign [.Name x pos'] e pos) (j_ te (hX i)) (Ca i e3):=⟨IQ hN hi hx he.pe hs hf,zE he.rf⟩
def LL (i j:Nat) (t3:TA3) (D:E3) (Γ:G):Prop:=t3 Γ fun ds Γ1=>∃ d d',ds=[d,d']/\aW Γ1 i/\aW (Γ1.set i (some (.fz d))) j/\D.nx ((Γ1.set i (some (.fz d))).set j (some (.fz d')))
theorem yb{x y:Str}{b:Expr}{a3:TA3}{py pt:Pos}{kt k2 pt2}(hc:X.calm=true)(hN:X.N.Nodup)(hi:X.N[i]?=some x)(hj:X.N[j]?=some y)(hij:i≠j)(hx:X.env.scope.names.lookup x=some .local)(hy:X.env.scope.names.lookup y=some .local)(ha:P3A K X [a,b] ta a3)(hw:swappedStores [.Tuple [.Name x px,.Name y py] kt pt] (.Tuple [a,b] k2 pt2) X.env=pure (some [x,y]))(hs:autoParam (swapsWithSole [.Tuple [.Name x px,.Name y py] kt pt] (.Tuple [a,b] k2 pt2) pos.line X.env=pure false) wE) :
  P3S K X (.Assign [.Tuple [.Name x px,.Name y py] kt pt] (.Tuple [a,b] k2 pt2) pos) (K9 i j ta) (LL i j a3):=⟨IS hc hN hi hj hij hx hy ha.pe hw hs,fun B F σ H Γ D D3 e k q=>
 ha.rf B F σ H Γ _ _ e q fun vs H' Z=>by
  obtain⟨F',Γ',ds,s,e',rv,d,d',h1,h2,h3,q'⟩:=Z;subst h1;obtain⟨v,ws,rfl,r1,w,ws',rfl,r2,r3⟩:=rv;cases r3;refine⟨v,w,rfl,k.nx F' _ H' _ s ?_ q'⟩;exact(e'.set (r:=.fz d) h2 r1).set (r:=.fz d') h3 r2⟩
noncomputable def gives (Γ:G):List Nat->List D->Option G
 | [],[]=>some Γ
 | i::is,d::ds=>gives (Γ.set i (some (.fz d))) is ds
 | _,_=>none
noncomputable def frees (Γ:G):List Nat->List D->Prop
 | [],_=>True
 | i::is,d::ds=>aW Γ i/\frees (Γ.set i (some (.fz d))) is ds
 | _,_=>True
noncomputable def o_:List Nat->TGs
 | []=>Ms
 | i::is=>HE (hX i) (o_ is)
theorem su{is:List Nat}:∀ {Γ:G} {σ:L2.St} {vs:List V} {ds:List D} {Γ':G} {QQ:L2.St->Hp->Prop},En K B F σ H Γ->aA K F ds vs->gives Γ is ds=some Γ'->frees Γ is ds->(∀ σ',En K B F σ' H Γ'->QQ σ' H)->o_ is vs σ H QQ:=by
 induction is with
 | nil=>
  intro Γ σ vs ds Γ' QQ e r g f k;cases ds with
  | nil=>cases g;cases r;exact⟨rfl,k σ e⟩
  | cons d ds=>cases g
 | cons i is ih=>
  intro Γ σ vs ds Γ' QQ e r g f k;cases ds with
  | nil=>cases g
  | cons d ds=>
   obtain⟨v,ws,rfl,r1,r2⟩:=r;exact⟨v,ws,rfl,ih (e.set (r:=.fz d) f.1 r1) r2 g f.2 k⟩
def G_ (is:List Nat) (e3:TE3) (D:E3) (Γ:G):Prop:=e3 Γ fun r Γ1=>∃ ds Γ',r.d=.tup ds/\gives Γ1 is ds=some Γ'/\frees Γ1 is ds/\D.nx Γ'
theorem uy{is:List Nat}:∀ {Γ Γ':G} {ds:List D},gives Γ is ds=some Γ'->ds.length=is.length:=by
 induction is with
 | nil=>intro Γ Γ' ds h;cases ds with | nil=>rfl | cons=>cases h
 | cons i is ih=>intro Γ Γ' ds h;cases ds with | nil=>cases h | cons d ds=>simp [ih h]
theorem vh{kt:Nat}{pt:Pos}{is:List Nat}(hK:X.K=K)(he:P3 K X e te e3)(hg:PGs X es (o_ is))(hc:X.calm=true)(hn:autoParam ((assignEach es X.env).length=is.length) wE)(hst:autoParam ((assignEach es X.env).findIdx? (·.1)=none) wE)(hs:autoParam (swapsWithSole [.Tuple es kt pt] e pos.line X.env=pure false) wE)(hw:autoParam (swappedStores [.Tuple es kt pt] e X.env=pure none) wE)(h1:autoParam ((assignEach [.Tuple es kt pt] X.env).map (·.2)=[assign (.Tuple es kt pt) X.env]) wE) :
  P3S K X (.Assign [.Tuple es kt pt] e pos) (j_ te (Kd K is.length (o_ is))) (G_ is e3):=⟨by subst hK;exact yi he.pe (CD hc hg hn hst) hs hw h1,fun B F σ H Γ D D3 e k q=>
 he.rf B F σ H Γ _ _ e q fun v H' Z=>by
  obtain⟨F',Γ',r,s,e',rv,ds,Γ2,h1,h2,h3,q'⟩:=Z;obtain⟨F2,s2,e2,r2⟩:=e'.frozen rv;rw[h1] at r2;obtain⟨p,vs,rfl,h4,h5⟩:=r2;refine⟨p,vs,rfl,.inl (.inl (e2.sub _ _ h4)),by rw[h5.length,uy h2],su e2 h5 h2 h3 fun σ' e3=>k.nx F2 σ' _ Γ2 (s.trans s2) e3 q'⟩⟩
noncomputable def putD (Γ:G) (i:Nat) (d:D):G:=match Γ[i]? with
 | some (some (.ow _))=>Γ.set i (some (.ow d))
 | some (some (.ln _))=>Γ.set i (some (.ln d))
 | _=>Γ
noncomputable def c7 (Γ:G) (i:Nat):Option (List D):=match Γ[i]? with
 | some (some (.ow (.lst xs)))=>some xs
 | some (some (.ln (.lst xs)))=>some xs
 | _=>none
theorem uv(h:c7 Γ i=some xs):Hld Γ i (.lst xs):=by
 unfold c7 at h;split at h
 ·cases h;rename_i q;exact .inl q
 ·cases h;rename_i q;exact .inr q
 ·cases h
theorem En.LV(e:En K B F σ H Γ){d0 d1:D}(hh:Hld Γ i d0)(hp:σ[i]?=some (some (V.ref p))){o1:HO}(r:Own K F (upd H p o1) p d1):En K B F σ (upd H p o1) (putD Γ i d1):=by
 obtain⟨p0,a0,b0,c0⟩:=e.hl i _ hh;rw[hp] at a0;cases a0;obtain⟨o,ho⟩:=c0.some;have hput:(Γ[i]?=some (some (Sl.ow d0))/\putD Γ i d1=Γ.set i (some (.ow d1)))\/(Γ[i]?=some (some (Sl.ln d0))/\putD Γ i d1=Γ.set i (some (.ln d1))):=by
  rcases hh with q | q
  ·exact .inl ⟨q,by unfold putD;rw[q]⟩
  ·exact .inr ⟨q,by unfold putD;rw[q]⟩
 have il:i < Γ.length:=by rcases hput with ⟨q,_⟩ | ⟨q,_⟩ <;> exact(gS0 q).1
 have other:∀ {j:Nat},j≠i->(putD Γ i d1)[j]?=Γ[j]?:=fun z=>by
  rcases hput with ⟨_,q⟩ | ⟨_,q⟩ <;> rw[q,az (Ne.symm z)]
 have same:∀ {s:Sl},(putD Γ i d1)[i]?=some (some s)->(s=.ow d1/\Γ[i]?=some (some (Sl.ow d0)))\/(s=.ln d1/\Γ[i]?=some (some (Sl.ln d0))):=fun {s} q=>by
  rcases hput with ⟨a,b⟩ | ⟨a,b⟩
  ·rw[b,aC il] at q;cases q;exact .inl ⟨rfl,a⟩
  ·rw[b,aC il] at q;cases q;exact .inr ⟨rfl,a⟩
 have hld:∀ {j x},Hld (putD Γ i d1) j x->(j=i/\x=d1)\/(j≠i/\Hld Γ j x):=fun {j x} q=>by
  by_cases z:j=i
  ·subst z
   left
   rcases q with q | q <;> rcases same q with ⟨h,_⟩ | ⟨h,_⟩ <;> cases h <;> exact⟨rfl,rfl⟩
  ·right;exact⟨z,by unfold Hld at q ⊢;rw[other z] at q;exact q⟩
 have hld':∀ {j x},Hld (putD Γ i d1) j x->∃ y,Hld Γ j y:=fun q=>by
  rcases hld q with ⟨rfl,_⟩ | ⟨_,q⟩
  ·exact⟨_,hh⟩
  ·exact⟨_,q⟩
 refine⟨?_,?_,?_,?_,?_,?_,?_,?_,e.keep,e.new,?_,?_⟩
 ·intro b u q;have z:b≠p:=fun z=>by subst z;rw[b0] at q;cases q
  rw[ah z];exact e.sub b u q
 ·rcases hput with ⟨_,q⟩ | ⟨_,q⟩ <;> rw[q,List.length_set] <;> exact e.len
 ·intro j d q;by_cases z:j=i
  ·subst z;rcases same q with ⟨h,_⟩ | ⟨h,_⟩ <;> cases h
  ·rw[other z] at q;exact e.fz j d q
 ·intro j d q;rcases hld q with ⟨rfl,rfl⟩ | ⟨z,q⟩
  ·exact⟨p,hp,b0,r⟩
  ·obtain⟨p',a,b,c⟩:=e.hl j d q;have ne:p'≠p:=fun y=>z (e.dis j i _ _ p q hh (y ▸ a) hp);exact⟨p',a,b,c.mono (aE.refl F) (ah ne)⟩
 ·intro j d p' q a;by_cases z:j=i
  ·subst z;rcases same q with ⟨h,g⟩ | ⟨h,g⟩
   ·exact e.ow j _ p' g a
   ·cases h
  ·rw[other z] at q;exact e.ow j d p' q a
 ·intro j d p' q a;by_cases z:j=i
  ·subst z;rcases same q with ⟨h,g⟩ | ⟨h,g⟩
   ·cases h
   ·exact e.ln j _ p' g a
  ·rw[other z] at q;exact e.ln j d p' q a
 ·intro j k d d' p' q1 q2;obtain⟨y1,h1⟩:=hld' q1;obtain⟨y2,h2⟩:=hld' q2;exact e.dis j k y1 y2 p' h1 h2
 ·intro j p' q;obtain⟨a,d,b⟩:=e.par j p' q;refine⟨a,?_⟩;by_cases z:j=i
  ·subst z;rcases hput with ⟨c,_⟩ | ⟨_,c⟩
   ·rw[b] at c;cases c
   ·exact⟨_,by rw[c,aC il]⟩
  ·exact⟨d,by rw[other z];exact b⟩
 ·intro b u q n;have z:b≠p:=fun z=>by
   subst z;rcases hh with g | g
   ·rw[e.ow i _ _ g hp] at q;cases q
   ·exact n i (e.ln i _ _ g hp)
  rw[ah z];exact e.rest b u q n
 ·intro b q;by_cases z:b=p
  ·subst z;rw[ar] at q;cases q
  ·rw[ah z] at q;exact e.dom b q
theorem En.mut(e:En K B F σ H Γ){xs':List D}(h:c7 Γ i=some xs)(hp:σ[i]?=some (some (V.ref p))){vs':List V}(r:aA K F xs' vs'):En K B F σ (upd H p (.lst vs')) (putD Γ i (.lst xs')):=
 e.LV (uv h) hp ⟨vs',ar,r⟩
end
section
noncomputable def newD:On->G->Nat->Option D
 | some j'::ls,s::cs,j=>if j'=j then (match s with
   | some (.ln d)=>some d
   | _=>newD ls cs j) else newD ls cs j
 | none::ls,_::cs,j=>newD ls cs j
 | _,_,_=>none
theorem gw:∀ {ls:On} {cs:G} {j:Nat} {d:D},newD ls cs j=some d->∃ k:Nat,ls[k]?=some (some j)/\cs[k]?=some (some (Sl.ln d))
 | some j'::ls,s::cs,j,d,h=>by
  unfold newD at h;split at h
  ·rename_i e;subst e;split at h
   ·cases h;exact⟨0,rfl,rfl⟩
   ·obtain⟨k,a,b⟩:=gw h;exact⟨k + 1,by simpa using a,by simpa using b⟩
  ·obtain⟨k,a,b⟩:=gw h;exact⟨k + 1,by simpa using a,by simpa using b⟩
 | none::ls,_::cs,j,d,h=>by
  unfold newD at h;obtain⟨k,a,b⟩:=gw h;exact⟨k + 1,by simpa using a,by simpa using b⟩
 | [],_,_,_,h=>by unfold newD at h;cases h
 | some _::_,[],_,_,h=>by unfold newD at h;cases h
 | none::_,[],_,_,h=>by unfold newD at h;cases h
theorem qF:∀ {ls:On} {cs:G} {j k:Nat} {d:D},ls[k]?=some (some j)->cs[k]?=some (some (Sl.ln d))->∃ d',newD ls cs j=some d'
 | [],_,_,_,_,h,_=>by simp at h
 | _::_,[],_,_,_,_,h=>by simp at h
 | some j'::ls,s::cs,j,0,d,h,h'=>by
  simp at h h';subst h h';exact⟨d,by unfold newD;rw[if_pos rfl]⟩
 | none::ls,s::cs,j,0,d,h,h'=>by simp at h
 | some j'::ls,s::cs,j,k + 1,d,h,h'=>by
  unfold newD;split
  ·split
   ·exact⟨_,rfl⟩
   ·exact qF (k:=k) (by simpa using h) (by simpa using h')
  ·exact qF (k:=k) (by simpa using h) (by simpa using h')
 | none::ls,s::cs,j,k + 1,d,h,h'=>by
  unfold newD;exact qF (k:=k) (by simpa using h) (by simpa using h')
noncomputable def jT (n:Option D):Option Sl->Option Sl
 | some (.ow d)=>some (.ow (n.getD d))
 | some (.ln d)=>some (.ln (n.getD d))
 | s=>s
noncomputable def bD (ls:On) (Γ cs:G):G:=Γ.mapIdx fun j s=>jT (newD ls cs j) s
theorem dR{cs:G}:(bD ls Γ cs)[j]?=(Γ[j]?).map (jT (newD ls cs j)):=by
 unfold bD;rw[List.getElem?_mapIdx]
theorem En.back{F1:Hp}{own':List (Nat×Addr)}{Γc:G}(e:En K B F1 σ H1 Γ)(e2:En K ⟨F1,H1,own'⟩ F σc H Γc)(h1:∀ k p,(k,p)∈own'->∃ j d,ls[k]?=some (some j)/\Hld Γ j d/\σ[j]?=some (some (V.ref p))):En K B F σ H (bD ls Γ Γc):=by
 have gfz:∀ {j d},(bD ls Γ Γc)[j]?=some (some (Sl.fz d))->Γ[j]?=some (some (Sl.fz d)):=fun {j d} q=>by
  rw[dR] at q;cases w:Γ[j]? with
  | none=>rw[w] at q;cases q
  | some s=>
   rw[w] at q;cases s with
   | none=>cases q
   | some s=>cases s <;> cases q;rfl
 have gow:∀ {j d},(bD ls Γ Γc)[j]?=some (some (Sl.ow d))->∃ d0,Γ[j]?=some (some (Sl.ow d0))/\d=(newD ls Γc j).getD d0:=fun {j d} q=>by
  rw[dR] at q;cases w:Γ[j]? with
  | none=>rw[w] at q;cases q
  | some s=>
   rw[w] at q;cases s with
   | none=>cases q
   | some s=>cases s <;> cases q;exact⟨_,rfl,rfl⟩
 have gln:∀ {j d},(bD ls Γ Γc)[j]?=some (some (Sl.ln d))->∃ d0,Γ[j]?=some (some (Sl.ln d0))/\d=(newD ls Γc j).getD d0:=fun {j d} q=>by
  rw[dR] at q;cases w:Γ[j]? with
  | none=>rw[w] at q;cases q
  | some s=>
   rw[w] at q;cases s with
   | none=>cases q
   | some s=>cases s <;> cases q;exact⟨_,rfl,rfl⟩
 have gh:∀ {j d},Hld (bD ls Γ Γc) j d->∃ d0,Hld Γ j d0/\d=(newD ls Γc j).getD d0:=fun {j d} q=>by
  rcases q with q | q
  ·obtain⟨d0,a,b⟩:=gow q;exact⟨d0,.inl a,b⟩
  ·obtain⟨d0,a,b⟩:=gln q;exact⟨d0,.inr a,b⟩
 refine⟨e2.sub,by unfold bD;rw[List.length_mapIdx];exact e.len,?_,?_,?_,?_,?_,?_,e.keep.trans e2.keep,?_,?_,?_⟩
 ·intro j d q;obtain⟨v,a,b⟩:=e.fz j d (gfz q);exact⟨v,a,b.mono e2.keep⟩
 ·intro j d q;obtain⟨d0,w0,rfl⟩:=gh q;obtain⟨p,a,b,c⟩:=e.hl j d0 w0;obtain⟨o,ho⟩:=c.some;have fp:F p=none:=by
   cases w:F p with
   | none=>rfl
   | some u=>
    rcases e2.new p u w with z | z
    ·rw[show F1 p=some u from z] at b;cases b
    ·rw[show H1 p=none from z] at ho;cases ho
  refine⟨p,a,fp,?_⟩;cases w:newD ls Γc j with
  | some d'=>
   obtain⟨k,x,y⟩:=gw w;obtain⟨p',a',b',c'⟩:=e2.hl k d' (.inr y);obtain⟨j2,d2,x2,_,a2⟩:=h1 k p' (e2.ln k d' p' y a');rw[x] at x2;cases x2;rw[a] at a2;cases a2;exact c'
  | none=>
   have hk:∀ k,(k,p)∉own':=fun k hk=>by
    obtain⟨j2,d2,x2,q2,a2⟩:=h1 k p hk;obtain⟨_,d3,y⟩:=e2.par k p hk;have:j2=j:=e.dis j2 j d2 d0 p q2 w0 a2 a;subst this;obtain⟨d4,z⟩:=qF x2 y;rw[w] at z;cases z
   have hp:H p=H1 p:=by rw[ho];exact e2.rest p o ho hk
   exact c.mono e2.keep hp
 ·intro j d p q a;obtain⟨d0,q,_⟩:=gow q;exact e.ow j d0 p q a
 ·intro j d p q a;obtain⟨d0,q,_⟩:=gln q;exact e.ln j d0 p q a
 ·intro i j d d' p q1 q2;obtain⟨d0,q1,_⟩:=gh q1;obtain⟨d1,q2,_⟩:=gh q2;exact e.dis i j d0 d1 p q1 q2
 ·intro j p q;obtain⟨a,d,b⟩:=e.par j p q;exact⟨a,_,by rw[dR,b];rfl⟩
 ·intro b o q;rcases e2.new b o q with z | z
  ·exact e.new b o z
  ·exact .inr (e.dom b z)
 ·intro b o q n;have q1:=e.rest b o q n;refine e2.rest b o q1 fun k hk=>?_;obtain⟨j,d,x,y,a⟩:=h1 k b hk;rcases y with y | y
  ·rw[e.ow j d b y a] at q;cases q
  ·exact n j (e.ln j d b y a)
 ·intro b q;exact e.dom b (e2.dom b q)
structure ItR (K:Fg0) (F:Hp) (J:It) (xs:List D):Prop where
 go:∀ i H',aE F H'->i < xs.length->J.go i H'
 stop:∀ i H',aE F H'->i=xs.length->J.stop i H'
 yld:∀ i H' x H'' d,aE F H'->xs[i]?=some d->J.yld i H' x H''->(H''=H'/\Rep K F d x)\/∃ t vs ds,H' t=none/\H''=upd H' t (.tup vs)/\x=.ref t/\aA K F ds vs/\d=.tup ds
abbrev TI3:=G->(List D->G->Prop)->Prop
def Ew (K:Fg0) (t:TI) (i3:TI3):Prop:=∀ (B:Bs) (F:Hp) (σ:L2.St) (H:Hp) (Γ:G) (Q:List D->G->Prop) (R:It->Hp->Prop),En K B F σ H Γ->i3 Γ Q->(∀ J H1 F1 Γ1 xs,aE F F1->En K B F1 σ H1 Γ1->ItR K F1 J xs->Q xs Γ1->R J H1)->t σ H R
structure P3I (K:Fg0) (X:Cx) (tg iter:Expr) (t:TI) (i3:TI3):Prop where
 pe:PI X tg iter t
 rf:Ew K t i3
abbrev TG3:=D->G->(G->Prop)->Prop
def Bt (K:Fg0) (g:TG) (g3:TG3):Prop:=∀ (B:Bs) (F:Hp) (σ:L2.St) (H:Hp) (Γ:G) (v:V) (d:D) (Q:G->Prop) (QQ:L2.St->Hp->Prop),En K B F σ H Γ->Rep K F d v->g3 d Γ Q->(∀ σ' Γ',En K B F σ' H Γ'->Q Γ'->QQ σ' H)->g v σ H QQ
structure P3G (K:Fg0) (X:Cx) (tg:Expr) (g:TG) (g3:TG3):Prop where
 pe:PG X tg g
 rf:Bt K g g3
def tgN (i:Nat) (d:D) (Γ:G) (Q:G->Prop):Prop:=aW Γ i/\Q (Γ.set i (some (.fz d)))
def tgT (is:List Nat) (d:D) (Γ:G) (Q:G->Prop):Prop:=∃ ds Γ',d=.tup ds/\gives Γ is ds=some Γ'/\frees Γ is ds/\Q Γ'
theorem bx{x:Str}(hN:X.N.Nodup)(hi:X.N[i]?=some x)(hx:Loc X.env.scope x)(hf:X.fn x=true\/X.env.scope.names.lookup x=some .local:=by first | exact .inl rfl | exact .inr rfl | assumption):P3G K X (.Name x pos) (hX i) (tgN i):=
 ⟨bI hN hi hx hf,fun B F σ H Γ v d Q QQ e r q k=>k _ _ (e.set (r:=.fz d) q.1 r) q.2⟩
theorem mW{kt:Nat}{is:List Nat}(hK:X.K=K)(hg:PGs X es (o_ is))(hc:X.calm=true)(hn:autoParam ((assignEach es X.env).length=is.length) wE)(hst:autoParam ((assignEach es X.env).findIdx? (·.1)=none) wE) :
  P3G K X (.Tuple es kt pos) (Kd K is.length (o_ is)) (tgT is):=⟨by subst hK;exact CD hc hg hn hst,fun B F σ H Γ v d Q QQ e r q k=>by
 obtain⟨ds,Γ',rfl,h1,h2,q⟩:=q;obtain⟨p,vs,rfl,h4,h5⟩:=r;exact⟨p,vs,rfl,.inl (.inl (e.sub _ _ h4)),by rw[h5.length,uy h1],su e h5 h1 h2 fun σ' e'=>k σ' Γ' e' q⟩⟩
theorem ItR.turn{J:It}(R:ItR K F J xs){H'':Hp}(s:aE F F')(e:En K B F' σ H' Γ){d:D}{x:V}(hd:xs[i]?=some d)(y:J.yld i H' x H''):∃ F2,aE F' F2/\En K B F2 σ H'' Γ/\Rep K F2 d x:=by
 rcases R.yld i H' x H'' d (s.trans e.sub) hd y with ⟨rfl,r⟩ | ⟨t,vs,ds,h1,rfl,rfl,r,rfl⟩
 ·exact⟨F',aE.refl F',e,r.mono s⟩
 ·exact⟨upd F' t (.tup vs),aQ (e.nof h1),(e.alloc h1 _).freeze (e.nof h1) ar (e.dom _ h1) (e.nK h1),t,vs,rfl,ar,r.mono (s.trans (aQ (e.nof h1)))⟩
def Gq (i3:TI3) (g3:TG3) (b3:TS3) (D:E3) (Γ:G):Prop:=i3 Γ fun xs Γ1=>∃ Iv:Nat->G->Prop,Iv 0 Γ1/\(∀ k d Γ,xs[k]?=some d->Iv k Γ->g3 d Γ fun Γ'=>b3 { D with nx:=Iv (k + 1),ct:=Iv (k + 1),bk:=D.nx } Γ')/\∀ Γ,Iv xs.length Γ->D.nx Γ
theorem iE{body:List Stmt}{i3:TI3}{g3:TG3}{tb:TS}{b3:TS3}(hp:PassesOwn (model X.prog X.w) X.A X.env X.xe)(hc:X.calm=true)(hi:P3I K X tg iter wi i3)(hg:P3G K X tg g g3)(hb:j6 K X body tb b3)(hs:autoParam (∀ x,foldedSetIterable iter X.env x=pure x) wT) :
  P3S K X (.For tg iter body [] pos) (Iw wi g tb) (Gq i3 g3 b3):=⟨CA hp hc hi.pe hg.pe hb.pe hs,fun B F σ H Γ D D3 e k q=>by
 refine hi.rf B F σ H Γ _ _ e q fun J H1 F1 Γ1 xs s1 e1 R Z=>?_;obtain⟨Iv,i0,it,ie⟩:=Z;refine⟨fun i m σ H=>m=xs.length - i/\i<=xs.length/\∃ F' Γ',aE F1 F'/\En K B F' σ H Γ'/\Iv i Γ',⟨_,rfl,Nat.zero_le _,F1,Γ1,aE.refl _,e1,i0⟩,?_⟩;rintro i m σ2 H2 ⟨rfl,hi',F2,Γ2,s2,e2,iv⟩;by_cases lt:i < xs.length
 ·refine .inr ⟨R.go i H2 (s2.trans e2.sub) lt,fun σ' H'=>∃ F' Γ',aE F1 F'/\En K B F' σ' H' Γ'/\Iv (i + 1) Γ',fun σ' H' ⟨F',Γ',a,b,c⟩=>⟨xs.length - (i + 1),by lia,rfl,lt,F',Γ',a,b,c⟩,fun x H3 y=>?_⟩;have hd:xs[i]?=some xs[i]:=gE0 lt;obtain⟨F3,s3,e3,r3⟩:=R.turn s2 e2 hd y;refine hg.rf B F3 σ2 H3 Γ2 x _ _ _ e3 r3 (it i _ Γ2 hd iv) fun σ' Γ' e4 q4=>?_;have s4:=s2.trans s3;refine hb.rf B F3 σ' H3 Γ' _ { D3 with nx:=Iv (i + 1),ct:=Iv (i + 1),bk:=D3.nx } e4 ⟨fun F' σ' H' Γ' s e q=>⟨F',Γ',s4.trans s,e,q⟩,fun F' σ' H' Γ' v r s e rv q=>k.rt F' σ' H' Γ' v r ((s1.trans s4).trans s) e rv q,fun F' σ' H' Γ' s e q=>k.nx F' σ' H' Γ' ((s1.trans s4).trans s) e q,fun F' σ' H' Γ' s e q=>⟨F',Γ',s4.trans s,e,q⟩⟩ q4
 ·have z:i=xs.length:=by lia
  subst z;exact .inl ⟨R.stop _ H2 (s2.trans e2.sub) rfl,k.nx F2 σ2 H2 Γ2 (s1.trans s2) e2 (ie Γ2 iv)⟩⟩
def iL3 (a3:TE3) (Γ:G) (Q:List D->G->Prop):Prop:=a3 Γ fun r Γ1=>∃ xs,r.d=.lst xs/\Q xs Γ1
theorem cb{l:Expr}{tl:TE}{l3:TE3}(hK:X.K=K)(h:P3 K X l tl l3):P3I K X tg l (Hv K tl) (iL3 l3):=⟨by subst hK;exact Fo h.pe,fun B F σ H Γ Q R e q k=>
 h.rf B F σ H Γ _ _ e q fun v H' Z=>by
  obtain⟨F',Γ',r,s,e',rv,xs,hx,q'⟩:=Z;obtain⟨F2,s2,e2,r2⟩:=e'.frozen rv;rw[hx] at r2;obtain⟨p,vs,rfl,h1,h2⟩:=r2;refine⟨p,rfl,⟨vs,SqL.of (e2.sub _ _ h1)⟩,k _ H' F2 Γ' xs (s.trans s2) e2 ⟨fun i H'' sm lt=>?_,fun i H'' sm ei=>?_,fun i H'' x H3 d sm hd y=>?_⟩ q'⟩
  ·rw[<- h2.length] at lt;exact⟨vs,vs[i],SqL.of (sm _ _ h1),by simp [lt]⟩
  ·exact⟨vs,SqL.of (sm _ _ h1),by rw[h2.length];lia⟩
  ·obtain⟨e1,y⟩:=y;obtain⟨d',hd',r⟩:=h2.Gk (y vs (SqL.of (sm _ _ h1)));rw[hd] at hd';cases hd';exact .inl ⟨e1,r⟩⟩
noncomputable def rng (lo:Int) (n:Nat):List D:=(List.range n).map fun (k:Nat)=>D.int (lo + (k:Int))
theorem Lj{lo:Int}:ItR K F (Itr lo n) (rng lo n):=by
 have hl:(rng lo n).length=n:=by simp [rng]
 refine⟨fun i H' _ lt=>by rw[hl] at lt;exact lt,fun i H' _ e=>by rw[hl] at e;exact Nat.le_of_eq e.symm,fun i H' x H'' d _ hd y=>?_⟩;obtain⟨e1,e2⟩:=y;subst e1 e2;refine .inl ⟨rfl,?_⟩;have hi:i < n:=by have:=(gS0 hd).1;rw[hl] at this;exact this
 have:(rng lo n)[i]?=some (.int (lo + i)):=by unfold rng;rw[List.getElem?_map,List.getElem?_range hi];rfl
 rw[this] at hd;cases hd
 rfl
def iR1 (t3:TA3) (Γ:G) (Q:List D->G->Prop):Prop:=t3 Γ fun ds Γ1=>∃ j:Int,ds=[.int j]/\-(2 ^ 62)<=j/\j < 2 ^ 62/\Q (rng 0 j.toNat) Γ1
theorem cD{a3:TA3}{p:Pos}(hg:Gl X "range")(hm:X.mg "range"=none)(ha:P3A K X [a] ta a3)(hs:autoParam (starEach [a] X.env=[(false,eval a X.env)]) wE):P3I K X tg (.Call (.Name "range" p) [a] [] pos) (Hu ta) (iR1 a3):=⟨AR hg hm ha.pe hs,fun B F σ H Γ Q R e q k=>
 ha.rf B F σ H Γ _ _ e q fun vs H' Z=>by
  obtain⟨F',Γ',ds,s,e',rv,j,h1,h2,h3,q'⟩:=Z;subst h1;obtain⟨v,ws,rfl,r1,r2⟩:=rv;cases r1;cases r2;exact⟨j,rfl,h2,h3,k _ H' F' Γ' _ s e' Lj q'⟩⟩
noncomputable def my (xs ys:List D):List D:=(xs.zip ys).map fun p=>.tup [p.1,p.2]
def iZ3 (t3:TA3) (Γ:G) (Q:List D->G->Prop):Prop:=t3 Γ fun ds Γ1=>∃ xs ys,ds=[.lst xs,.lst ys]/\Q (my xs ys) Γ1
theorem qM{d:D}(h:(my xs ys)[i]?=some d):∃ x y,xs[i]?=some x/\ys[i]?=some y/\d=.tup [x,y]:=by
 unfold my at h;rw[List.getElem?_map] at h;cases q:(xs.zip ys)[i]? with
 | none=>rw[q] at h;cases h
 | some p=>
  rw[q] at h;cases h;rw[List.getElem?_zip_eq_some] at q;exact⟨_,_,q.1,q.2,rfl⟩
theorem JS{b:Expr}{a3:TA3}{kt:Nat}{p:Pos}(hg:Gl X "zip")(hm:X.mg "zip"=none)(ha:P3A K X [a,b] ta a3)(hs:autoParam (starEach [a,b] X.env=[(false,eval a X.env),(false,eval b X.env)]) wE)(hs2:autoParam (starEach [b] X.env=[(false,eval b X.env)]) wE) :
  P3I K X (.Tuple es kt tp) (.Call (.Name "zip" p) [a,b] [] pos) (Mb ta) (iZ3 a3):=⟨IU hg hm ha.pe hs hs2,fun B F σ H Γ Q R e q k=>
 ha.rf B F σ H Γ _ _ e q fun vs H' Z=>by
  obtain⟨F',Γ',ds,s,e',rv,xs,ys,h1,q'⟩:=Z;subst h1;obtain⟨v,ws,rfl,⟨p1,vs1,rfl,g1,r1⟩,w,ws',rfl,⟨p2,vs2,rfl,g2,r2⟩,r3⟩:=rv;cases r3;refine⟨p1,p2,vs1,vs2,rfl,e'.sub _ _ g1,e'.sub _ _ g2,k _ H' F' Γ' _ s e' ⟨fun i H'' sm lt=>?_,fun i H'' sm ei=>?_,fun i H'' x H3 d sm hd y=>?_⟩ q'⟩
  ·obtain⟨x,y,hx,hy,_⟩:=qM (gE0 lt);obtain⟨v,hv,_⟩:=r1.get hx;obtain⟨w,hw,_⟩:=r2.get hy;exact⟨vs1,vs2,v,w,sm _ _ g1,sm _ _ g2,hv,hw⟩
  ·refine⟨vs1,vs2,sm _ _ g1,sm _ _ g2,?_⟩;subst ei;unfold my;rw[lM0,List.length_zip,r1.length,r2.length];lia
  ·obtain⟨t,zs1,zs2,x1,y1,ht,a1,a2,b1,b2,rfl,rfl⟩:=y;rw[sm _ _ g1] at a1;cases a1;rw[sm _ _ g2] at a2;cases a2;obtain⟨dx,dy,hx,hy,rfl⟩:=qM hd;obtain⟨v,hv,rv⟩:=r1.get hx;obtain⟨w,hw,rw'⟩:=r2.get hy;rw[b1] at hv;cases hv;rw[b2] at hw;cases hw;exact .inr ⟨t,_,[dx,dy],ht,rfl,rfl,⟨_,_,rfl,rv,_,_,rfl,rw',rfl⟩,rfl⟩⟩
noncomputable def uJ (xs:List D):List D:=xs.mapIdx fun i x=>.tup [.int i,x]
def iE3 (t3:TA3) (Γ:G) (Q:List D->G->Prop):Prop:=t3 Γ fun ds Γ1=>∃ xs,ds=[.lst xs]/\Q (uJ xs) Γ1
theorem pj{d:D}(h:(uJ xs)[i]?=some d):∃ x,xs[i]?=some x/\d=.tup [.int i,x]:=by
 unfold uJ at h;rw[List.getElem?_mapIdx] at h;cases q:xs[i]? with
 | none=>rw[q] at h;cases h
 | some p=>rw[q] at h;cases h;exact⟨_,rfl,rfl⟩
theorem Gd{a3:TA3}{kt:Nat}{p:Pos}(hg:Gl X "enumerate")(hm:X.mg "enumerate"=none)(ha:P3A K X [a] ta a3)(hs:autoParam (starEach [a] X.env=[(false,eval a X.env)]) wE) :
  P3I K X (.Tuple es kt tp) (.Call (.Name "enumerate" p) [a] [] pos) (Hw ta) (iE3 a3):=⟨Fp hg hm ha.pe hs,fun B F σ H Γ Q R e q k=>
 ha.rf B F σ H Γ _ _ e q fun vs H' Z=>by
  obtain⟨F',Γ',ds,s,e',rv,xs,h1,q'⟩:=Z;subst h1;obtain⟨v,ws,rfl,⟨p1,vs1,rfl,g1,r1⟩,r3⟩:=rv;cases r3;refine⟨p1,vs1,rfl,e'.sub _ _ g1,k _ H' F' Γ' _ s e' ⟨fun i H'' sm lt=>?_,fun i H'' sm ei=>?_,fun i H'' x H3 d sm hd y=>?_⟩ q'⟩
  ·obtain⟨x,hx,_⟩:=pj (gE0 lt);obtain⟨v,hv,_⟩:=r1.get hx;exact⟨vs1,v,sm _ _ g1,hv⟩
  ·refine⟨vs1,sm _ _ g1,?_⟩;subst ei;unfold uJ;rw[List.length_mapIdx,r1.length];exact Nat.le_refl _
  ·obtain⟨t,zs1,x1,ht,a1,b1,rfl,rfl⟩:=y;rw[sm _ _ g1] at a1;cases a1;obtain⟨dx,hx,rfl⟩:=pj hd;obtain⟨v,hv,rv⟩:=r1.get hx;rw[b1] at hv;cases hv;exact .inr ⟨t,_,[.int i,dx],ht,rfl,rfl,⟨_,_,rfl,rfl,_,_,rfl,rv,rfl⟩,rfl⟩⟩
theorem zr(h:H p=some (.lst vs)):tyV K "list" (.ref p) H:=.inl ⟨rfl,_,SqL.of h⟩
theorem En.c7(e:En K B F σ H Γ)(h:c7 Γ i=some xs):∃ p vs,σ[i]?=some (some (V.ref p))/\H p=some (.lst vs)/\aA K F xs vs:=by
 obtain⟨p,a,b,vs,c,d⟩:=e.hl i _ (uv h);exact⟨p,vs,a,c,d⟩
def Ky (i:Nat) (e3:TE3) (Γ:G) (Q:RV->G->Prop):Prop:=(∃ xs,c7 Γ i=some xs)/\e3 Γ fun r Γ1=>∃ xs,c7 Γ1 i=some xs/\xs.length < sizeLine/\Q (.fz .non) (putD Γ1 i (.lst (xs++[r.d])))
theorem E4(i:Nat)(h:Ref K te e3):Ref K (tBM K "list" vp (jV i) (nj te qh)) (Ky i e3):=by
 intro B F σ H Γ Q QQ e ⟨⟨xs0,h0⟩,q⟩ k;obtain⟨p,vs0,a0,b0,_⟩:=e.c7 h0;refine⟨_,a0,zr b0,h B F σ H Γ _ _ e q fun v H' Z=>?_⟩;obtain⟨F',Γ',r,s,e',rv,xs,hx,hz,q'⟩:=Z;obtain⟨F2,s2,e2,r2⟩:=e'.frozen rv;obtain⟨p',vs,a,b,c⟩:=e2.c7 hx;rw[a0] at a;cases a;exact⟨p,vs,v,rfl,rfl,b,by rw[c.length];exact hz,k _ _ ⟨F2,_,.fz .non,s.trans s2,e2.mut hx a0 (aA.append (ys:=[r.d]) c ⟨v,[],rfl,r2,rfl⟩),rfl,q'⟩⟩
variable {eb:TB3}
theorem gv(i:Nat){x:Str}(hK:X.K=K)(hx:P3B K X (.Name x px) (jV i) (bor i))(he:P3 K X e te e3)(hbase:autoParam (attributeBase (.Name x px) "append" X.env (eval (.Name x px) X.env)=eval (.Name x px) X.env) wE)(hfew:((backTo cpos (starEach [e] X.env)).all (fun x=>!x.1) && (backToKw cpos (keywordEach [] X.env)).all (fun x=>x.1.isSome)
   && decide ([e].length + ([]:List Keyword).length + (if ([]:List Keyword).isEmpty then 0 else 1) < 30))=true:=by rfl)(hline:autoParam ((apos.endLine == cpos.line)=true) wE)(hs:autoParam (starEach [e] X.env=(false,eval e X.env)::starEach [] X.env) wE)(hplain:autoParam ((backTo cpos (starEach [] X.env)).any (·.1)=false) wE) :
  P3 K X (.Call (.Attribute (.Name x px) "append" apos) [e] [] cpos) (tBM K "list" vp (jV i) (nj te qh)) (Ky i e3):=
 ⟨by subst hK;exact LH PySem.F.plainAttrs_list PySem.F.slot_list_append PySem.F.type_list_append A2 hx.pe (cv he.pe jx hs) hbase hfew hline hs hplain,E4 i he.rf⟩
def zA (i:Nat) (k3:TB3) (e3:TE3) (D:E3) (Γ:G):Prop:=e3 Γ fun r Γ1=>(∃ xs,c7 Γ1 i=some xs)/\k3 Γ1 fun b Γ2=>∃ xs k j,c7 Γ2 i=some xs/\b.at Γ2=some (.int k)/\ixN xs.length k=some j/\D.nx (putD Γ2 i (.lst (xs.set j r.d)))
theorem ER(i:Nat){x:Str}{k:Expr}{tk:TE}(hx:P3B K X (.Name x px) (jV i) (bor i))(hk:P3B K X k tk k3)(he:P3 K X e te e3)(pe:PS X (.Assign [.Subscript (.Name x px) k p2] e pos) (j_ te (DE (jV i) tk ub))) :
  P3S K X (.Assign [.Subscript (.Name x px) k p2] e pos) (j_ te (DE (jV i) tk ub)) (zA i k3 e3):=⟨pe,fun B F σ H Γ D D3 e k q=>
 he.rf B F σ H Γ _ _ e q fun v H' Z=>by
  obtain⟨F',Γ',r,s,e',rv,⟨xs0,h0⟩,q'⟩:=Z;obtain⟨F2,s2,e2,r2⟩:=e'.frozen rv;obtain⟨p,vs0,a0,b0,_⟩:=e2.c7 h0;refine⟨_,a0,hk.rf B F2 σ H' Γ' _ _ e2 q' fun u H2 Z=>?_⟩;obtain⟨F3,Γ3,bo,s3,e3,rb,xs,kk,j,hx,hb,hj,q3⟩:=Z;obtain⟨p',vs,a,b,c⟩:=e3.c7 hx;rw[a0] at a;cases a;have hu:u=.int kk:=e3.bo rb hb;exact⟨p,vs,kk,j,rfl,hu,b,by rw[c.length];exact hj,k.nx F3 σ _ _ ((s.trans s2).trans s3) (e3.mut hx a0 (aA.set (r2.mono s3) j c)) q3⟩⟩
end
noncomputable def je:Option (Option Sl)->Option Sl
 | some (some (.fz d))=>some (.fz d)
 | some (some (.ow d))=>some (.ln d)
 | some (some (.ln d))=>some (.ln d)
 | _=>none
noncomputable def tK (Γ:G):Bo->Option Sl
 | .d x=>some (.fz x)
 | .v i=>je Γ[i]?
noncomputable def bU:Option Bo->Option Nat
 | some (.v i)=>some i
 | _=>none
noncomputable def C2 (Γ:G) (σ:L2.St) (k:Nat):Option Bo->Option (Nat×Addr)
 | some (.v i)=>match Γ[i]?,σ[i]? with
  | some (some (.ow _)),some (some (.ref p))=>some (k,p)
  | some (some (.ln _)),some (some (.ref p))=>some (k,p)
  | _,_=>none
 | _=>none
noncomputable def ownOf (Γ:G) (σ:L2.St) (bs:List (Option Bo)):List (Nat×Addr):=(List.range bs.length).filterMap fun k=>(bs[k]?).bind (C2 Γ σ k)
theorem lD{bs:List (Option Bo)}:(k,p)∈ownOf Γ σ bs↔∃ i d,bs[k]?=some (some (Bo.v i))/\Hld Γ i d/\σ[i]?=some (some (V.ref p)):=by
 unfold ownOf;rw[List.mem_filterMap];constructor
 ·rintro⟨k',_,h⟩;cases q:bs[k']? with
  | none=>rw[q] at h;cases h
  | some o=>
   rw[q] at h;change C2 Γ σ k' o=some (k,p) at h;unfold C2 at h;split at h
   ·rename_i i;split at h
    ·rename_i d p' h1 h2;cases h;exact⟨i,d,q,.inl h1,h2⟩
    ·rename_i d p' h1 h2;cases h;exact⟨i,d,q,.inr h1,h2⟩
    ·cases h
   ·cases h
 ·rintro⟨i,d,h1,h2,h3⟩;refine⟨k,List.mem_range.mpr (gS0 h1).1,?_⟩;rw[h1];show C2 Γ σ k (some (Bo.v i))=_;unfold C2;rcases h2 with h2 | h2
  ·simp only[h2,h3]
  ·simp only[h2,h3]
noncomputable def dU (Γ:G) (bs:List (Option Bo)):G:=bs.map fun o=>o.bind (tK Γ)
theorem jf{bs:List (Option Bo)}{s:Sl}:(dU Γ bs)[k]?=some (some s)↔∃ bo,bs[k]?=some (some bo)/\tK Γ bo=some s:=by
 unfold dU;rw[List.getElem?_map];constructor
 ·intro h;cases q:bs[k]? with
  | none=>rw[q] at h;cases h
  | some o=>
   rw[q] at h;cases o with
   | none=>cases h
   | some bo=>exact⟨bo,rfl,by simpa using h⟩
 ·rintro⟨bo,h1,h2⟩;rw[h1];simp [h2]
theorem GN{bo:Bo}{d:D}(h:tK Γ bo=some (.ln d)):∃ i,bo=.v i/\Hld Γ i d:=by
 cases bo with
 | d x=>cases h
 | v i=>
  change je Γ[i]?=_ at h;unfold je at h;split at h
  ·cases h
  ·cases h;rename_i q;exact⟨i,rfl,.inl q⟩
  ·cases h;rename_i q;exact⟨i,rfl,.inr q⟩
  ·cases h
theorem GO{bo:Bo}{d:D}(h:tK Γ bo=some (.fz d)):bo=.d d\/∃ i,bo=.v i/\Γ[i]?=some (some (Sl.fz d)):=by
 cases bo with
 | d x=>cases h;exact .inl rfl
 | v i=>
  change je Γ[i]?=_ at h;unfold je at h;split at h
  ·cases h;rename_i q;exact .inr ⟨i,rfl,q⟩
  ·cases h
  ·cases h
  ·cases h
theorem wm{bo:Bo}{d:D}:tK Γ bo≠some (.ow d):=by
 intro h;cases bo with
 | d x=>cases h
 | v i=>change je Γ[i]?=_ at h;unfold je at h;split at h <;> cases h
theorem jG{bs:List (Option Bo)}:∀ (k:Nat) (d:D),(dU Γ bs)[k]?≠some (some (Sl.ow d)):=fun k d h=>by
 obtain⟨bo,_,h⟩:=jf.mp h;exact wm h
theorem En.inner(e:En K B F σ H Γ){bs:List (Option Bo)}(hl:σc.length=bs.length)(hσ:∀ (k:Nat) (bo:Bo) (s:Sl),bs[k]?=some (some bo)->tK Γ bo=some s->∃ v,σc[k]?=some (some v)/\qb K F σ bo v)(nd:∀ (k k' i:Nat),bs[k]?=some (some (Bo.v i))->bs[k']?=some (some (Bo.v i))->k=k'):En K ⟨F,H,ownOf Γ σ bs⟩ F σc H (dU Γ bs):=by
 have held:∀ {k d},Hld (dU Γ bs) k d->∃ i p,bs[k]?=some (some (Bo.v i))/\Hld Γ i d/\σ[i]?=some (some (V.ref p))/\σc[k]?=some (some (V.ref p)):=fun {k d} q=>by
  rcases q with q | q
  ·obtain⟨bo,h1,h2⟩:=jf.mp q;exact absurd h2 wm
  ·obtain⟨bo,h1,h2⟩:=jf.mp q;obtain⟨v,h3,h4⟩:=hσ k bo _ h1 h2;obtain⟨i,rfl,h5⟩:=GN h2;obtain⟨p,h6,_⟩:=e.hl i d h5;rw[show σ[i]?=some (some v) from h4] at h6;cases h6;exact⟨i,p,h1,h5,h4,h3⟩
 refine⟨e.sub,by unfold dU;rw[lM0];exact hl,?_,?_,?_,?_,?_,?_,aE.refl F,fun b o h=>.inl h,fun b o h _=>h,fun b h=>h⟩
 ·intro k d q;obtain⟨bo,h1,h2⟩:=jf.mp q;obtain⟨v,h3,h4⟩:=hσ k bo _ h1 h2;refine⟨v,h3,?_⟩;rcases GO h2 with rfl | ⟨i,rfl,h5⟩
  ·exact h4
  ·obtain⟨u,h6,h7⟩:=e.fz i d h5;rw[show σ[i]?=some (some v) from h4] at h6;cases h6;exact h7
 ·intro k d q;obtain⟨i,p,h1,h2,h3,h4⟩:=held q;obtain⟨p',h5,h6,h7⟩:=e.hl i d h2;rw[h3] at h5;cases h5;exact⟨p,h4,h6,h7⟩
 ·intro k d p q;obtain⟨bo,h1,h2⟩:=jf.mp q;exact absurd h2 wm
 ·intro k d p q a;obtain⟨i,p',h1,h2,h3,h4⟩:=held (.inr q);rw[a] at h4;cases h4;exact lD.mpr ⟨i,d,h1,h2,h3⟩
 ·intro k k' d d' p q1 q2 a1 a2;obtain⟨i,p1,h1,h2,h3,h4⟩:=held q1;obtain⟨i',p2,h1',h2',h3',h4'⟩:=held q2;rw[a1] at h4;cases h4;rw[a2] at h4';cases h4';have:=e.dis i i' d d' p h2 h2' h3 h3';subst this;exact nd k k' i h1 h1'
 ·intro k p q;obtain⟨i,d,h1,h2,h3⟩:=lD.mp q;have ha:tK Γ (.v i)=some (.ln d):=by
   show je Γ[i]?=_;rcases h2 with h2 | h2 <;> rw[h2] <;> rfl
  obtain⟨v,h4,h5⟩:=hσ k _ _ h1 ha;rw[show σ[i]?=some (some v) from h5] at h3;cases h3;exact⟨h4,d,jf.mpr ⟨_,h1,ha⟩⟩
theorem nF{bs:List (Option Bo)}:∀ k p,(k,p)∈ownOf Γ σ bs->∃ j d,(bs.map bU)[k]?=some (some j)/\Hld Γ j d/\σ[j]?=some (some (V.ref p)):=fun k p h=>by
 obtain⟨i,d,h1,h2,h3⟩:=lD.mp h;exact⟨i,d,by rw[List.getElem?_map,h1];rfl,h2,h3⟩
noncomputable def dj (fr:On):List (Option Bo):=fr.map fun o=>o.map Bo.v
def sO (fr:On) (i3:TI3) (g3:TG3) (e3:TE3) (Γ:G) (Q:RV->G->Prop):Prop:=i3 Γ fun xs Γ1=>xs.length < sizeLine/\∃ Iv:Nat->List D->G->Prop,Iv 0 [] (dU Γ1 (dj fr))/\
 (∀ k d ys Γc,xs[k]?=some d->ys.length=k->Iv k ys Γc->g3 d Γc fun Γ2=>e3 Γ2 fun r Γ3=>Iv (k + 1) (ys++[r.d]) Γ3)/\∀ ys Γc,ys.length=xs.length->Iv xs.length ys Γc->Q (.fr (.lst ys)) (bD fr Γ1 Γc)
theorem Ef(h:(fr.filterMap id).Nodup):∀ (k k' i:Nat),(dj fr)[k]?=some (some (Bo.v i))->(dj fr)[k']?=some (some (Bo.v i))->k=k':=by
 unfold dj;have go:∀ (l:On),(l.filterMap id).Nodup->∀ (k k' i:Nat),l[k]?=some (some i)->l[k']?=some (some i)->k=k':=by
  intro l
  induction l with
  | nil=>intro _ k k' i h;simp at h
  | cons o l ih=>
   intro hn k k' i h h';cases o with
   | none=>
    rw[List.filterMap_cons_none rfl] at hn;cases k with
    | zero=>simp at h
    | succ k=>
     cases k' with
     | zero=>simp at h'
     | succ k'=>rw[ih hn k k' i (by simpa using h) (by simpa using h')]
   | some j=>
    rw[show List.filterMap id (some j::l)=j::List.filterMap id l from rfl,List.nodup_cons] at hn;have mem:∀ {k:Nat},l[k]?=some (some i)->i∈l.filterMap id:=fun q=>List.mem_filterMap.mpr ⟨some i,List.mem_of_getElem? q,rfl⟩;cases k with
    | zero=>
     simp at h;subst h;cases k' with
     | zero=>rfl
     | succ k'=>exact absurd (mem (by simpa using h')) hn.1
    | succ k=>
     cases k' with
     | zero=>
      simp at h';subst h';exact absurd (mem (by simpa using h)) hn.1
     | succ k'=>rw[ih hn.2 k k' i (by simpa using h) (by simpa using h')]
 intro k k' i h1 h2;refine go fr h k k' i ?_ ?_
 ·rw[List.getElem?_map] at h1;cases q:fr[k]? with
  | none=>rw[q] at h1;cases h1
  | some o=>rw[q] at h1;cases o with | none=>cases h1 | some j=>cases h1;rfl
 ·rw[List.getElem?_map] at h2;cases q:fr[k']? with
  | none=>rw[q] at h2;cases h2
  | some o=>rw[q] at h2;cases o with | none=>cases h2 | some j=>cases h2;rfl
theorem r_:(dj fr).map bU=fr:=by
 unfold dj;rw[List.map_map]
 conv=>rhs;rw[<- List.map_id fr]
 refine List.map_congr_left fun o _=>?_;cases o <;> rfl
theorem En.blk(e:En K B F σ H Γ)(nd:(fr.filterMap id).Nodup):En K ⟨F,H,ownOf Γ σ (dj fr)⟩ F (k7 fr σ) H (dU Γ (dj fr)):=by
 refine e.inner (by unfold k7 dj;simp) (fun k bo s h1 h2=>?_) (Ef nd);unfold dj at h1;rw[List.getElem?_map] at h1;cases q:fr[k]? with
 | none=>rw[q] at h1;cases h1
 | some o=>
  rw[q] at h1;cases o with
  | none=>cases h1
  | some j=>
   cases h1;have:∃ d,Gat Γ j=some d:=by
    change je Γ[j]?=_ at h2;unfold je at h2;unfold Gat
    split at h2 <;> first | (cases h2;done) | (rename_i w;rw[w];exact⟨_,rfl⟩) | exact⟨_,rfl⟩
   obtain⟨d,hd⟩:=this;obtain⟨v,hv,_⟩:=e.get hd;refine⟨v,?_,hv⟩;unfold k7;rw[List.getElem?_map,q];simp [hv]
theorem wL{i3:TI3}{g3:TG3}(nd:(fr.filterMap id).Nodup)(hi:Ew K wi i3)(hg:Bt K g g3)(he:Ref K te e3):Ref K (qS fr wi g te) (sO fr i3 g3 e3):=by
 intro B F σ H Γ Q QQ e q k;refine hi B F σ H Γ _ _ e q fun J H1 F1 Γ1 xs s1 e1 R Z=>?_;obtain⟨hz,Iv,i0,it,ie⟩:=Z;have eb:=e1.blk nd;refine⟨fun i m ys σc H=>m=xs.length - i/\i<=xs.length/\∃ F' Γc ds,aE F1 F'/\En K ⟨F1,H1,ownOf Γ1 σ (dj fr)⟩ F' σc H Γc/\aA K F' ds ys/\ds.length=i/\Iv i ds Γc,⟨_,rfl,Nat.zero_le _,F1,_,[],aE.refl _,eb,rfl,rfl,i0⟩,?_⟩;rintro i m ys σc H2 ⟨rfl,hi',F2,Γ2,ds,s2,e2,r2,hl,iv⟩;refine⟨by rw[r2.length,hl];lia,?_⟩;by_cases lt:i < xs.length
 ·refine .inr ⟨R.go i H2 (s2.trans e2.sub) lt,fun x H3 y=>?_⟩;have hd:xs[i]?=some xs[i]:=gE0 lt;obtain⟨F3,s3,e3',r3⟩:=R.turn s2 e2 hd y;refine hg _ F3 σc H3 Γ2 x _ _ _ e3' r3 (it i _ ds Γ2 hd hl iv) fun σ2 Γ4 e4 q4=>?_;refine⟨fun y H5=>∃ F5 Γ5 r,aE F3 F5/\En K ⟨F1,H1,ownOf Γ1 σ (dj fr)⟩ F5 σ2 H5 Γ5/\jH K ⟨F1,H1,ownOf Γ1 σ (dj fr)⟩ F5 σ2 H5 Γ5 y r/\Iv (i + 1) (ds++[r.d]) Γ5,fun y H5 Z=>?_,he _ F3 σ2 H3 Γ4 _ _ e4 q4 fun v H' p=>p⟩;obtain⟨F5,Γ5,r,s5,e5,rv,iv5⟩:=Z;obtain⟨F6,s6,e6,r6⟩:=e5.frozen rv;refine⟨xs.length - (i + 1),by lia,rfl,lt,F6,Γ5,ds++[r.d],((s2.trans s3).trans s5).trans s6,e6,?_,by simp [hl],iv5⟩;exact aA.append (ys:=[r.d]) (r2.mono ((s3.trans s5).trans s6)) ⟨y,[],rfl,r6,rfl⟩
 ·have z:i=xs.length:=by lia
  subst z;refine .inl ⟨R.stop _ H2 (s2.trans e2.sub) rfl,fun l hl'=>k _ _ ?_⟩;have eo:En K B F2 σ H2 (bD fr Γ1 Γ2):=e1.back (ls:=fr) e2 (by have:=nF (Γ:=Γ1) (σ:=σ) (bs:=dj fr);rw[r_] at this;exact this);exact Po.mono (s1.trans s2) (jv eo hl' r2 (ie ds Γ2 hl iv))
theorem cH{i3:TI3}{g3:TG3}(hc:X.calm=true)(hi:P3I K X tg iter wi i3)(Bk:Blk X.N X.env.scope sc Nc fr)(hg:∀ s₀ H₀ C ex pn,P3G K (bC X sc Nc s₀ H₀ C ex pn) tg g g3)(he:∀ s₀ H₀ C ex pn,P3 K (bC X sc Nc s₀ H₀ C ex pn) elt te e3)(nd:autoParam ((fr.filterMap id).Nodup) wP)(hs:autoParam (∀ x,foldedSetIterable iter X.env x=pure x) wT) :
  P3 K X (.ListComp elt [⟨tg,iter,[],0⟩] sc pos) (qS fr wi g te) (sO fr i3 g3 e3):=
 ⟨zI hc hi.pe Bk (fun a b c d e=>(hg a b c d e).pe) (fun a b c d e=>(he a b c d e).pe) hs,wL nd hi.rf (hg X.s₀ X.H₀ 0 [] []).rf (he X.s₀ X.H₀ 0 [] []).rf⟩
theorem rA{x:Str}{spos:Pos}{i3:TI3}{g3:TG3}(hN:X.N.Nodup)(hi':X.N[i]?=some x)(hx:X.env.scope.names.lookup x=some .local)(hc:X.calm=true)(hi:P3I K X tg iter wi i3)(Bk:Blk X.N X.env.scope sc Nc fr)(hg:∀ s₀ H₀ C ex pn,P3G K (bC X sc Nc s₀ H₀ C ex pn) tg g g3)(he:∀ s₀ H₀ C ex pn,P3 K (bC X sc Nc s₀ H₀ C ex pn) elt te e3)(nd:autoParam ((fr.filterMap id).Nodup) wP)(hsw:autoParam (swapsWith (.ListComp elt [⟨tg,iter,[],0⟩] sc pos) (some (.Name x px)) spos.line X.env=pure true) wE)(hs:autoParam (∀ x,foldedSetIterable iter X.env x=pure x) wT) :
  P3S K X (.Assign [.Name x px] (.ListComp elt [⟨tg,iter,[],0⟩] sc pos) spos) (j_ (qS fr wi g te) (hX i)) (Ca i (sO fr i3 g3 e3)):=
 ⟨yh hN hi' hx hc hi.pe Bk (fun a b c d e=>(hg a b c d e).pe) (fun a b c d e=>(he a b c d e).pe) hsw hs,zE (wL nd hi.rf (hg X.s₀ X.H₀ 0 [] []).rf (he X.s₀ X.H₀ 0 [] []).rf)⟩
abbrev S3:=G->(RV->G->Prop)->Prop
def sp3 (K:Fg0) (n:Nat) (S:S3):Sp:=fun vs H Q _=>vs.length=n/\∃ F own Γa Q3,En K ⟨F,H,own⟩ F (vs.map some) H Γa/\(∀ (k:Nat) (d:D),Γa[k]?≠some (some (Sl.ow d)))/\S Γa Q3/\∀ r Γ',Q3 r Γ'->∀ v H' F',En K ⟨F,H,own⟩ F' (vs.map some) H' Γ'->jH K ⟨F,H,own⟩ F' (vs.map some) H' Γ' v r->Q v H'
noncomputable def bP:List Bo->List Nat
 | []=>[]
 | .d _::bs=>bP bs
 | .v i::bs=>i::bP bs
def fK (n:Nat) (S:S3) (t3:cV) (Γ:G) (Q:RV->G->Prop):Prop:=t3 Γ fun bs Γ1=>bs.length=n/\(bP bs).Nodup/\S (dU Γ1 (bs.map some)) fun r Γa=>Q r (bD ((bs.map some).map bU) Γ1 Γa)
theorem Dp:∀ {bs:List Bo},(bP bs).Nodup->∀ (k k' i:Nat),(bs.map some)[k]?=some (some (Bo.v i))->(bs.map some)[k']?=some (some (Bo.v i))->k=k':=by
 intro bs h k k' i h1 h2;have key:((((bs.map some).map bU)).filterMap id)=bP bs:=by
  clear h h1 h2
  induction bs with
  | nil=>rfl
  | cons b bs ih=>cases b with
   | d x=>simpa [bU,bP] using ih
   | v j=>simpa [bU,bP] using ih
 rw[<- key] at h;refine Ef h k k' i ?_ ?_
 ·unfold dj;rw[List.getElem?_map,List.getElem?_map,h1];rfl
 ·unfold dj;rw[List.getElem?_map,List.getElem?_map,h2];rfl
theorem bj.get:∀ {bs:List Bo} {vs:List V},bj K F σ bs vs->∀ {k:Nat} {bo:Bo},bs[k]?=some bo->∃ v,vs[k]?=some v/\qb K F σ bo v
 | [],_,_,k,bo,e=>by simp at e
 | x::xs,_,⟨v,ws,h1,h2,h3⟩,0,d,e=>by subst h1;simp at e;subst e;exact⟨v,rfl,h2⟩
 | x::xs,_,⟨v,ws,h1,h2,h3⟩,i + 1,d,e=>by
  subst h1;obtain⟨u,a,b⟩:=bj.get h3 (k:=i) (bo:=d) (by simpa using e);exact⟨u,by simpa using a,b⟩
theorem bj.length:∀ {bs:List Bo} {vs:List V},bj K F σ bs vs->vs.length=bs.length
 | [],_,h=>by cases h;rfl
 | _::_,_,Z=>by obtain⟨v,ws,h1,h2,h3⟩:=Z;subst h1;simp [bj.length h3]
theorem En.args(e:En K B F σ H Γ){bs:List Bo}(r:bj K F σ bs vs)(nd:(bP bs).Nodup):En K ⟨F,H,ownOf Γ σ (bs.map some)⟩ F (vs.map some) H (dU Γ (bs.map some)):=by
 refine e.inner (by simp [r.length]) (fun k bo s h1 h2=>?_) (Dp nd);rw[List.getElem?_map] at h1;cases q:bs[k]? with
 | none=>rw[q] at h1;cases h1
 | some b=>
  rw[q] at h1;cases h1;obtain⟨v,a,b⟩:=r.get q;exact⟨v,by rw[List.getElem?_map,a];rfl,b⟩
theorem En.called(e:En K B F σ H Γ){bs:List (Option Bo)}{r:RV}(e2:En K ⟨F,H,ownOf Γ σ bs⟩ F' σc H' Γa)(rv:jH K ⟨F,H,ownOf Γ σ bs⟩ F' σc H' Γa v r) :
  aE F F'/\En K B F' σ H' (bD (bs.map bU) Γ Γa)/\jH K B F' σ H' (bD (bs.map bU) Γ Γa) v r:=by
 have eo:=e.back e2 nF;refine⟨e2.keep,eo,?_⟩;have nw:∀ {p:Addr},H p=none->∀ (i:Nat) (x:D),Hld (bD (bs.map bU) Γ Γa) i x->σ[i]?≠some (some (V.ref p)):=fun {p} h4' i x hx hp=>by
  obtain⟨d0,w⟩:∃ d0,Hld Γ i d0:=by
   rcases hx with hx | hx <;> rw[dR] at hx
   ·cases w:Γ[i]? with
    | none=>rw[w] at hx;cases hx
    | some s=>rw[w] at hx;cases s with
     | none=>cases hx
     | some s=>cases s with
      | fz d=>cases hx
      | ow d=>exact⟨d,.inl w⟩
      | ln d=>cases hx
   ·cases w:Γ[i]? with
    | none=>rw[w] at hx;cases hx
    | some s=>rw[w] at hx;cases s with
     | none=>cases hx
     | some s=>cases s with
      | fz d=>cases hx
      | ow d=>cases hx
      | ln d=>exact⟨d,.inr w⟩
  obtain⟨p',a,b,c⟩:=e.hl i d0 w;rw[hp] at a;cases a;obtain⟨o,ho⟩:=c.some;rw[h4'] at ho;cases ho
 cases r with
 | fz d=>exact rv
 | fr d=>
  obtain⟨p,h1,h2,h3,h4,h5⟩:=rv;exact⟨p,h1,h2,h3,e.dom p h4,nw h4⟩
 | two xs ys=>
  obtain⟨t,p,q,vs,ws,h1,h2,h3,h4,h5,h6,h7,h8⟩:=rv;exact⟨t,p,q,vs,ws,h1,h2,h3,h4,h5,h6,h7,fun z hz=>⟨(h8 z hz).1,e.dom z (h8 z hz).2.1,nw (h8 z hz).2.1⟩⟩
 | tol x xs ys=>
  obtain⟨p,q,w,vs,h1,h2,h3,h4,h5,h6,h8⟩:=rv;exact⟨p,q,w,vs,h1,h2,h3,h4,h5,h6,fun z hz=>⟨(h8 z hz).1,e.dom z (h8 z hz).2.1,nw (h8 z hz).2.1⟩⟩
 | rws xss=>
  obtain⟨p,qs,h1,h2,h3,h4,h8⟩:=rv;exact⟨p,qs,h1,h2,h3,h4,fun z hz=>⟨(h8 z hz).1,e.dom z (h8 z hz).2.1,nw (h8 z hz).2.1⟩⟩
theorem wM{t3:cV}{S:S3}{E:XK}(h:sU K t t3):Ref K (tV (sp3 K n S) [] E t) (fK n S t3):=by
 intro B F σ H Γ Q QQ e q k;refine h B F σ H Γ _ _ e q fun vs H1 Z=>?_;obtain⟨F1,Γ1,bs,s1,e1,r1,hn,nd,q1⟩:=Z;show sp3 K n S (vs++[]) H1 QQ E;rw[List.append_nil];refine⟨by rw[r1.length];exact hn,F1,_,_,_,e1.args r1 nd,jG,q1,fun r Γa q v H' F' e2 rv=>?_⟩;obtain⟨a,b,c⟩:=e1.called e2 rv;exact k v H' ⟨F',_,r,s1.trans a,b,c,q⟩
noncomputable def gb (Γa Γ':G):G:=Γa.mapIdx fun k s=>match s with
 | some (.ln d)=>(match Γ'[k]? with
  | some (some (.ln d'))=>some (.ln d')
  | _=>some (.ln d))
 | s=>s
theorem FD{d:D}(h:Γa[k]?=some (some (Sl.ln d)))(h':Γ'[k]?=some (some (Sl.ln d'))):(gb Γa Γ')[k]?=some (some (Sl.ln d')):=by
 unfold gb;rw[List.getElem?_mapIdx,h];simp [h']
theorem nG{s:Sl}(h:(gb Γa Γ')[k]?=some (some s)):(∃ d d',Γa[k]?=some (some (Sl.ln d))/\s=.ln d')\/(Γa[k]?=some (some s)/\∀ d,s≠.ln d):=by
 unfold gb at h;rw[List.getElem?_mapIdx] at h;cases w:Γa[k]? with
 | none=>rw[w] at h;cases h
 | some o=>
  rw[w] at h;cases o with
  | none=>cases h
  | some s'=>
   cases s' with
   | fz d=>cases h;exact .inr ⟨rfl,fun d z=>by cases z⟩
   | ow d=>cases h;exact .inr ⟨rfl,fun d z=>by cases z⟩
   | ln d=>
    left
    simp only[Option.map_some,Option.some.injEq] at h;split at h
    ·cases h;exact⟨d,_,rfl,rfl⟩
    ·cases h;exact⟨d,_,rfl,rfl⟩
theorem En.out{F0 H0:Hp}{own:List (Nat×Addr)}{σa σ':L2.St}(e0:En K ⟨F0,H0,own⟩ F0 σa H0 Γa)(hno:∀ (k:Nat) (d:D),Γa[k]?≠some (some (Sl.ow d)))(e1:En K ⟨F0,H0,own⟩ F' σ' H' Γ'){r:RV}(rv:jH K ⟨F0,H0,own⟩ F' σ' H' Γ' v r) :
  En K ⟨F0,H0,own⟩ F' σa H' (gb Γa Γ')/\jH K ⟨F0,H0,own⟩ F' σa H' (gb Γa Γ') v r:=by
 have lnk:∀ {k:Nat} {d:D},Γa[k]?=some (some (Sl.ln d))->∃ p d',(k,p)∈own/\σa[k]?=some (some (V.ref p))/\σ'[k]?=some (some (V.ref p))/\Γ'[k]?=some (some (Sl.ln d'))/\(gb Γa Γ')[k]?=some (some (Sl.ln d')):=fun {k d} h=>by
  obtain⟨p,a,b,c⟩:=e0.hl k d (.inr h);have m:=e0.ln k d p h a;obtain⟨a',d',b'⟩:=e1.par k p m;exact⟨p,d',m,a,a',b',FD h b'⟩
 have hld:∀ {k:Nat} {d:D},Hld (gb Γa Γ') k d->∃ p d0,Γa[k]?=some (some (Sl.ln d0))/\(k,p)∈own/\σa[k]?=some (some (V.ref p))/\σ'[k]?=some (some (V.ref p))/\Γ'[k]?=some (some (Sl.ln d)):=fun {k d} h=>by
  rcases h with h | h
  ·rcases nG h with ⟨d1,d2,_,z⟩ | ⟨z,_⟩
   ·cases z
   ·exact absurd z (hno k d)
  ·rcases nG h with ⟨d1,d2,z,_⟩ | ⟨_,z⟩
   ·obtain⟨p,d',m,a,a',b',c'⟩:=lnk z;rw[h] at c';cases c';exact⟨p,d1,z,m,a,a',b'⟩
   ·exact absurd rfl (z d)
 refine⟨⟨e1.sub,?_,?_,?_,?_,?_,?_,?_,e1.keep,e1.new,e1.rest,e1.dom⟩,?_⟩
 ·unfold gb;rw[List.length_mapIdx];exact e0.len
 ·intro k d q;rcases nG q with ⟨d1,d2,_,z⟩ | ⟨z,_⟩
  ·cases z
  ·obtain⟨u,a,b⟩:=e0.fz k d z;exact⟨u,a,b.mono e1.keep⟩
 ·intro k d q;obtain⟨p,d0,_,m,a,a',b⟩:=hld q;obtain⟨p',x,y,z⟩:=e1.hl k d (.inr b);rw[a'] at x;cases x;exact⟨p,a,y,z⟩
 ·intro k d p q;rcases nG q with ⟨d1,d2,_,z⟩ | ⟨z,_⟩
  ·cases z
  ·exact absurd z (hno k d)
 ·intro k d p q a;obtain⟨p',d0,_,m,a',_⟩:=hld (.inr q);rw[a] at a';cases a';exact m
 ·intro k k' d d' p q1 q2 a1 a2;obtain⟨p1,d1,z1,_⟩:=hld q1;obtain⟨p2,d2,z2,_⟩:=hld q2;exact e0.dis k k' d1 d2 p (.inr z1) (.inr z2) a1 a2
 ·intro k p q;obtain⟨a,d,b⟩:=e0.par k p q;obtain⟨p',d',m,a',_,_,c⟩:=lnk b;exact⟨a,d',c⟩
 ·cases r with
  | fz d=>exact rv
  | fr d=>
   obtain⟨p,h1,h2,h3,h4,h5⟩:=rv;refine⟨p,h1,h2,h3,h4,fun k x hx a=>?_⟩;obtain⟨p',d0,_,m,a',b',c'⟩:=hld hx;rw[a] at a';cases a';exact h5 k x (.inr c') b'
  | two xs ys=>
   obtain⟨t,p,q,vs,ws,h1,h2,h3,h4,h5,h6,h7,h8⟩:=rv;refine⟨t,p,q,vs,ws,h1,h2,h3,h4,h5,h6,h7,fun z hz=>⟨(h8 z hz).1,(h8 z hz).2.1,fun k x hx a=>?_⟩⟩;obtain⟨p',d0,_,m,a',b',c'⟩:=hld hx;rw[a] at a';cases a';exact(h8 z hz).2.2 k x (.inr c') b'
  | tol x xs ys=>
   obtain⟨p,q,w,vs,h1,h2,h3,h4,h5,h6,h8⟩:=rv;refine⟨p,q,w,vs,h1,h2,h3,h4,h5,h6,fun z hz=>⟨(h8 z hz).1,(h8 z hz).2.1,fun k x hx a=>?_⟩⟩;obtain⟨p',d0,_,m,a',b',c'⟩:=hld hx;rw[a] at a';cases a';exact(h8 z hz).2.2 k x (.inr c') b'
  | rws xss=>
   obtain⟨p,qs,h1,h2,h3,h4,h8⟩:=rv;refine⟨p,qs,h1,h2,h3,h4,fun z hz=>⟨(h8 z hz).1,(h8 z hz).2.1,fun k x hx a=>?_⟩⟩;obtain⟨p',d0,_,m,a',b',c'⟩:=hld hx;rw[a] at a';cases a';exact(h8 z hz).2.2 k x (.inr c') b'
noncomputable def cO (N:Ls0) (Γa:G):G:=Γa++List.replicate (N.length - Γa.length) none
theorem En.start(e:En K B F (vs.map some) H Γa)(hl:Γa.length<=N.length):En K B F (L2.start N vs) H (cO N Γa):=by
 have len:=e.len;rw[lM0] at len;have hs:∀ {i:Nat},i < Γa.length->(L2.start N vs)[i]?=(vs.map some)[i]?:=fun {i} h=>by
  unfold L2.start;rw[List.getElem?_append_left (by rw[lM0];lia)]
 have hg:∀ {i:Nat} {s:Sl},(cO N Γa)[i]?=some (some s)->i < Γa.length/\Γa[i]?=some (some s):=fun {i s} h=>by
  unfold cO at h;by_cases lt:i < Γa.length
  ·rw[List.getElem?_append_left lt] at h;exact⟨lt,h⟩
  ·rw[List.getElem?_append_right (by lia)] at h;have:=List.mem_of_getElem? h;rw[List.mem_replicate] at this;cases this.2
 have hh:∀ {i:Nat} {d:D},Hld (cO N Γa) i d->i < Γa.length/\Hld Γa i d:=fun h=>by
  rcases h with h | h
  ·exact⟨(hg h).1,.inl (hg h).2⟩
  ·exact⟨(hg h).1,.inr (hg h).2⟩
 refine⟨e.sub,?_,?_,?_,?_,?_,?_,?_,e.keep,e.new,e.rest,e.dom⟩
 ·unfold L2.start cO;simp only[List.length_append,lM0,List.length_replicate];lia
 ·intro i d q;obtain⟨lt,q⟩:=hg q;rw[hs lt];exact e.fz i d q
 ·intro i d q;obtain⟨lt,q⟩:=hh q;rw[hs lt];exact e.hl i d q
 ·intro i d p q a;obtain⟨lt,q⟩:=hg q;rw[hs lt] at a;exact e.ow i d p q a
 ·intro i d p q a;obtain⟨lt,q⟩:=hg q;rw[hs lt] at a;exact e.ln i d p q a
 ·intro i j d d' p q1 q2 a1 a2;obtain⟨l1,q1⟩:=hh q1;obtain⟨l2,q2⟩:=hh q2;rw[hs l1] at a1;rw[hs l2] at a2;exact e.dis i j d d' p q1 q2 a1 a2
 ·intro i p q;obtain⟨a,d,b⟩:=e.par i p q;have lt:i < Γa.length:=(gS0 b).1;refine⟨by rw[hs lt];exact a,d,?_⟩;unfold cO;rw[List.getElem?_append_left lt];exact b
theorem ok3{x:Str}{S:S3}(F:Fun K x qual st f fd)(Sc:au N ps (ag st))(hN:autoParam (ps.length<=N.length) wP)(hbody:∀ (cdv:Value) (A:Around) (outer:List Env) (s:Shared) (H:Hp) (E:XK),bF k (A.deeper (envOfC qual (ag st) s.heap.objs.size f cdv))->
   ∃ t t3,j6 K (j1 CX0 P w K mg base N qual (ag st) f cdv A outer s H E).nox (cI st) t t3/\∀ Γa Q,S Γa Q->Γa.length=ps.length->t3 { nx:=fun Γ'=>Q (.fz .non) (gb Γa Γ'),rt:=fun r Γ'=>Q r (gb Γa Γ') } (cO N Γa)) :
  aG P w K mg base CX0 (k + 1) f fd ps (sp3 K ps.length S):=by
 refine F.ok Sc (fun vs H Q E h=>h.1) fun cdv A outer s H vs Q E hr h=>?_;obtain⟨hl,F0,own,Γa,Q3,e,hno,hS,hQ⟩:=h;obtain⟨t,t3,ht,rd⟩:=hbody cdv A outer s H E hr;have hla:Γa.length=ps.length:=by rw[<- e.len,lM0];exact hl
 refine⟨t,ht.pe,ht.rf ⟨F0,H,own⟩ F0 _ H _ _ { nx:=fun Γ'=>Q3 (.fz .non) (gb Γa Γ'),rt:=fun r Γ'=>Q3 r (gb Γa Γ') } (e.start (N:=N) (by rw[hla];exact hN)) ⟨?_,?_,fun _ _ _ _ _ _ z=>False.elim z,fun _ _ _ _ _ _ z=>False.elim z⟩ (rd Γa Q3 hS hla)⟩
 ·intro F' σ' H' Γ' s' e' q;obtain⟨a,b⟩:=e.out hno e' (v:=.non) (r:=.fz .non) rfl;exact hQ _ _ q _ _ _ a b
 ·intro F' σ' H' Γ' v r s' e' rv q;obtain⟨a,b⟩:=e.out hno e' rv;exact hQ _ _ q _ _ _ a b
section
variable {C:Addr}{x m:Str}{p:Pos}{ta:TE}{t3:cV}{o3:TB3}{S:S3}
theorem ak(hK:X.K=K)(F:aG X.prog X.w X.K X.mg X.base CX0 k f fd ps (sp3 K n S))(hr:bF k X.A)(hg:Gl X x)(hm:X.mg x=some (.ref f))(hk:PySem.W.keepIn X.K (.ref f)=true)(hb:Binds X.K fd ps [])(ha:sV K X (e::es) t t3)(hdb:autoParam ((x == ("__debug__":Str))=false) wP)(he:autoParam (starEach (e::es) X.env=(false,eval e X.env)::starEach es X.env) wE)(hpl:autoParam ((backTo pos (starEach es X.env)).any (·.1)=false) wE) :
  P3 K X (.Call (.Name x p) (e::es) [] pos) (tV (sp3 K n S) [] E0 t) (fK n S t3):=⟨Fv F hr hg hm hk hb .nil kC ha.pe hdb he hpl,wM ha.rf⟩
theorem CZ(hK:X.K=K)(F:aG X.prog X.w X.K X.mg X.base CX0 k f fd ps (sp3 K n S))(hr:bF k X.A)(hg:Gl X x)(hm:X.mg x=some (.ref f))(hk:PySem.W.keepIn X.K (.ref f)=true)(hb:Binds X.K fd ps [])(hdb:autoParam ((x == ("__debug__":Str))=false) wP) :
  P3 K X (.Call (.Name x p) [] [] pos) (tV (sp3 K n S) [] E0 qh) (fK n S qp):=⟨CS F hr hg hm hk hb .nil kC hdb,wM (ae (X:=X)).rf⟩
def zN (C:Addr) (m:Str) (n:Nat) (S:S3) (o3:TB3) (t3:cV) (Γ:G) (Q:RV->G->Prop):Prop:=o3 Γ fun x Γ1=>(∃ ns xs,x.at Γ1=some (.ins C ns xs)/\m∉ns)/\t3 Γ1 fun bs Γ2=>bs.length + 1=n/\(bP (x::bs)).Nodup/\S (dU Γ2 ((x::bs).map some)) fun r Γa=>Q r (bD (((x::bs).map some).map bU) Γ2 Γa)
theorem uo{ns:Ls0}:∀ {gs:List (Str×V)} {m:Str},gs.map (·.1)=ns->m∉ns->gs.lookup m=none:=by
 induction ns with
 | nil=>intro gs m h _;cases gs with | nil=>rfl | cons=>cases h
 | cons a ns ih=>
  intro gs m h hn;cases gs with
  | nil=>cases h
  | cons g gs=>
   simp only[List.map_cons,List.cons.injEq] at h;obtain⟨rfl,h⟩:=h;rw[List.mem_cons,not_or] at hn;obtain⟨g1,g2⟩:=g;rw[List.lookup_cons,show (m == g1)=false from beq_eq_false_iff_ne.mpr hn.1];exact ih h hn.2
theorem wJ(ho:tN K ta o3)(ha:sU K t t3):Ref K (tU C m (sp3 K n S) [] E0 ta t) (zN C m n S o3 t3):=by
 intro B F σ H Γ Q QQ e q kk;refine ho B F σ H Γ _ _ e q fun v H0 Z=>?_;obtain⟨F0,Γ0,bo,s0,e0,r0,⟨ns,xs,hx,hm⟩,q0⟩:=Z;obtain⟨p,dx,gs,rfl,h1,h2,h3⟩:=e0.bo r0 hx;refine⟨p,dx,gs,rfl,h1,uo h2 hm,ha B F0 σ H0 Γ0 _ _ e0 q0 fun vs H1 Z=>?_⟩;obtain⟨F1,Γ1,bs,s1,e1,r1,hn,nd,q1⟩:=Z;show sp3 K n S (V.ref p::(vs++[])) H1 QQ E0;rw[List.append_nil];have rr:bj K F1 σ (bo::bs) (V.ref p::vs):=⟨_,_,rfl,r0.mono s1,r1⟩;refine⟨by rw[rr.length];exact hn,F1,_,_,_,e1.args rr nd,jG,q1,fun r Γa q v H' F' e2 rv=>?_⟩;obtain⟨a,b,c⟩:=e1.called e2 rv;exact kk v H' ⟨F',_,r,(s0.trans s1).trans a,b,c,q⟩
theorem fZ{pl:Sem Bool}(hK:X.K=K)(he:P3B K X o ta o3)(c:Cls X.K C)(hm:Meth X.K C m f)(F:aG X.prog X.w X.K X.mg X.base CX0 k f fd ps (sp3 K n S))(hr:bF k X.A)(hb:Binds X.K fd ps [])(ha:sV K X (e::es) t t3)(hst:autoParam (starEach (e::es) X.env=(false,eval e X.env)::starEach es X.env) wE)(hpl:autoParam ((backTo pos (starEach es X.env)).any (·.1)=false) wE)(ht:eval (.Call (.Attribute o m apos) (e::es) [] pos) X.env=(do
   let ov <- eval o X.env
   standAt apos.atName
   let (f,first) <- holding [ov] (getMethod ov m pl)
   callWith pos f first (backTo pos (starEach (e::es) X.env)) (backToKw pos (keywordEach [] X.env))):=by rfl) :
  P3 K X (.Call (.Attribute o m apos) (e::es) [] pos) (tU C m (sp3 K n S) [] E0 ta t) (zN C m n S o3 t3):=⟨Fs he.pe c hm F hr hb .nil kC ha.pe hst hpl ht,wJ he.rf ha.rf⟩
theorem bh{pl:Sem Bool}(hK:X.K=K)(he:P3B K X o ta o3)(c:Cls X.K C)(hm:Meth X.K C m f)(F:aG X.prog X.w X.K X.mg X.base CX0 k f fd ps (sp3 K n S))(hr:bF k X.A)(hb:Binds X.K fd ps [])(ht:eval (.Call (.Attribute o m apos) [] [] pos) X.env=(do
   let ov <- eval o X.env
   standAt apos.atName
   let (f,first) <- holding [ov] (getMethod ov m pl)
   callWith pos f first (backTo pos (starEach [] X.env)) (backToKw pos (keywordEach [] X.env))):=by rfl) :
  P3 K X (.Call (.Attribute o m apos) [] [] pos) (tU C m (sp3 K n S) [] E0 ta qh) (zN C m n S o3 qp):=⟨wV he.pe c hm F hr hb .nil kC ht,wJ he.rf (ae (X:=X)).rf⟩
theorem P3.or{t t':TE}{a3 b3:TE3}(h:P3 K X e t a3)(h':P3 K X e t' b3):P3 K X e (fun σ H Q=>t σ H Q\/t' σ H Q) (fun Γ Q=>a3 Γ Q\/b3 Γ Q):=
 ⟨fun pins s σ H Q I q=>q.elim (h.pe pins s σ H Q I) (h'.pe pins s σ H Q I),fun B F σ H Γ Q QQ e q k=>q.imp (fun q=>h.rf B F σ H Γ Q QQ e q k) (fun q=>h'.rf B F σ H Γ Q QQ e q k)⟩
theorem lC(M:Mk0 X.K C)(hg:Gl X x)(hm:X.mg x=some (.ref C))(hdb:autoParam ((x == ("__debug__":Str))=false) wP):P3 K X (.Call (.Name x p) [] [] pos) (zx C) (fun Γ Q=>Q (.fr (.ins C [] [])) Γ):=
 ⟨AV M hg hm hdb,fun B F σ H Γ Q QQ e q k=>fun y dy hy hdy ne=>k _ _ (by
  have e1:=e.alloc hdy (.own y);have hy':(upd H dy (.own y)) y=none:=by rw[ah (Ne.symm ne)];exact hy
  exact⟨F,Γ,.fr (.ins C [] []),aE.refl F,e1.alloc hy' _,⟨y,rfl,e1.nof hy',⟨dy,[],ar,rfl,rfl⟩,e.dom _ hy,e1.nK hy'⟩,q⟩)⟩
end
section
variable {p:Pos}{x:Str}
theorem ud{n:String}(hg:Gl X x)(hm:X.mg x=none)(hv:bootBuiltins x=some (.type n))(hn:autoParam (x≠"__name__") wP)(hd:autoParam ((x == ("__debug__":Str))=false) wP):P3 K X (.Name x pos) (tC (.ty n)) (t3C (.ty n)):=
 ⟨Fw (v:=.ty n) hg hm hv rfl hn hd,rC fun _=>rfl⟩
theorem wI(i:Nat){y:Str}{k:Expr}{tk:TE}(hx:P3B K X (.Name y px) (jV i) (bor i))(hk:P3B K X k tk k3)(he:P3 K X e te e3)(ha:∀ v,assign (.Subscript (.Name y px) k p2) X.env v=(do
   let ov <- holding [v] (eval (.Name y px) X.env)
   let iv <- holding [v,ov] (eval k X.env)
   standAt p2
   holding [v,ov,iv] (setItem ov iv v)
   release [v,ov,iv] []):=by intro _;rfl)(hs:autoParam (swapsWithSole [.Subscript (.Name y px) k p2] e pos.line X.env=pure false) wE)(hw:autoParam (swappedStores [.Subscript (.Name y px) k p2] e X.env=pure none) wE)(h1:autoParam ((assignEach [.Subscript (.Name y px) k p2] X.env).map (·.2)=[assign (.Subscript (.Name y px) k p2) X.env]) wE) :
  P3S K X (.Assign [.Subscript (.Name y px) k p2] e pos) (j_ te (DE (jV i) tk ub)) (zA i k3 e3):=ER i hx hk he (yi he.pe (CF hx.pe hk.pe set_list ha) hs hw h1)
theorem En.grow(e:En K B F σ H Γ)(s:aE H H')(S:Addr)(hS:H S=none):∃ F',aE F F'/\En K B F' σ H' Γ/\F' S=none/\∀ b o,b≠S->H b=none->H' b=some o->F' b=some o:=by
 refine⟨fun b=>if H b=none/\b≠S then H' b else F b,?_,?_,?_,?_⟩
 ·intro b o h;show (if _ then _ else _)=_;have:=e.sub b o h;rw[if_neg (by rw[this];simp)];exact h
 ·refine⟨?_,e.len,?_,?_,e.ow,e.ln,e.dis,e.par,?_,?_,fun b o h n=>s b o (e.rest b o h n),fun b h=>e.dom b (s.free h)⟩
  ·intro b o h;change (if _ then _ else _)=_ at h;split at h
   ·exact h
   ·exact s b o (e.sub b o h)
  ·intro i d h;obtain⟨v,a,b⟩:=e.fz i d h;refine⟨v,a,b.mono fun b o h=>?_⟩;show (if _ then _ else _)=_;have:=e.sub b o h;rw[if_neg (by rw[this];simp)];exact h
  ·intro i d h;obtain⟨q,a,b,c⟩:=e.hl i d h;obtain⟨o,ho⟩:=c.some;refine⟨q,a,?_,c.mono (fun b o h=>?_) (by rw[ho];exact s _ _ ho)⟩
   ·show (if _ then _ else _)=_;rw[if_neg (by rw[ho];simp)];exact b
   ·show (if _ then _ else _)=_;have:=e.sub b o h;rw[if_neg (by rw[this];simp)];exact h
  ·intro b o h;have h':=e.keep b o h;show (if _ then _ else _)=_;have:=e.sub b o h';rw[if_neg (by rw[this];simp)];exact h'
  ·intro b o h;change (if _ then _ else _)=_ at h;split at h
   ·rename_i q;exact .inr (e.dom b q.1)
   ·exact e.new b o h
 ·show (if _ then _ else _)=_;rw[if_neg (by simp)];exact e.nof hS
 ·intro b o n h h';show (if _ then _ else _)=_;rw[if_pos ⟨h,n⟩];exact h'
def lz3 (t3:cV) (Γ:G) (Q:RV->G->Prop):Prop:=t3 Γ fun bs Γ1=>∃ xs ys,ats Γ1 bs=some [.lst xs,.lst ys]/\min xs.length ys.length < sizeLine/\Q (.fr (.lst (my xs ys))) Γ1
theorem zD {F:Hp}:∀ {ds:List D} {vs:List V},vs.length=ds.length->(∀ (i:Nat) d v,ds[i]?=some d->vs[i]?=some v->Rep K F d v)->aA K F ds vs
 | [],vs,h,_=>by cases vs with | nil=>rfl | cons=>simp at h
 | d::ds,vs,h,k=>by
  cases vs with
  | nil=>simp at h
  | cons v vs=>exact⟨v,vs,rfl,k 0 d v rfl rfl,zD (by simpa using h) fun i d v h1 h2=>k (i + 1) d v (by simpa using h1) (by simpa using h2)⟩
theorem BB:(my xs ys).length=min xs.length ys.length:=by unfold my;rw[lM0,List.length_zip]
theorem yl{b:Expr}{t3:cV}{p pos2:Pos}(hc:X.calm=true)(hg:Gl X "list")(hm:X.mg "list"=none)(hg2:Gl X "zip")(hm2:X.mg "zip"=none)(ha:sV K X [a,b] ta t3)(hs:autoParam (starEach [a,b] X.env=[(false,eval a X.env),(false,eval b X.env)]) wE)(hs2:autoParam (starEach [b] X.env=[(false,eval b X.env)]) wE)(hs3:autoParam (starEach [Expr.Call (.Name "zip" p2) [a,b] [] pos2] X.env=[(false,eval (.Call (.Name "zip" p2) [a,b] [] pos2) X.env)]) wE) :
  P3 K X (.Call (.Name "list" p) [.Call (.Name "zip" p2) [a,b] [] pos2] [] pos) (wu ta) (lz3 t3):=⟨yj hc hg hm hg2 hm2 ha.pe hs hs2 hs3,by
 intro B F σ H Γ Q QQ e q k;refine ha.rf B F σ H Γ _ _ e q fun vs H1 Z=>?_;obtain⟨F1,Γ1,bs,s1,e1,r0,xs,ys,hd,hz,q1⟩:=Z;obtain⟨v,w,rfl,⟨p1,vs1,rfl,g1,r1⟩,⟨p2,vs2,rfl,g2,r2⟩⟩:=(e1.bos r0 hd).two;refine⟨p1,p2,vs1,vs2,rfl,g1,g2,by rw[r1.length,r2.length];exact hz,fun S ts H' hS sm h1 h2 h3 h4=>k _ _ ?_⟩;obtain⟨F2,s2,e2,f2,g⟩:=e1.grow sm S hS;have hS':∀ t∈ts,t≠S:=fun t ht z=>by
  subst z;obtain⟨j,hj,hjt⟩:=List.getElem_of_mem ht;have hx:j < vs1.length:=by rw[h2] at hj;lia
  have hy:j < vs2.length:=by rw[h2] at hj;lia
  have:=h3 j t _ _ (by rw[<- hjt];exact gE0 hj) (gE0 hx) (gE0 hy);rw[h1] at this;cases this
 refine⟨F2,Γ1,.fr (.lst (my xs ys)),s1.trans s2,e2,⟨S,rfl,f2,⟨_,h1,?_⟩,e1.dom _ hS,e1.nK hS⟩,q1⟩;refine zD (by rw[lM0,h2,BB,r1.length,r2.length]) fun i d v hd hv=>?_;obtain⟨dx,dy,hx,hy,rfl⟩:=qM hd;rw[List.getElem?_map] at hv;cases ht:ts[i]? with
 | none=>rw[ht] at hv;cases hv
 | some t=>
  rw[ht] at hv;cases hv;obtain⟨v,hv,rv⟩:=r1.get hx;obtain⟨w,hw,rw'⟩:=r2.get hy;have m:=List.mem_of_getElem? ht;exact⟨t,_,rfl,g t _ (hS' t m) (h4 t m) (h3 i t v w ht hv hw),⟨_,_,rfl,rv.mono s2,_,_,rfl,rw'.mono s2,rfl⟩⟩⟩
theorem zb{cs:G}(h:ls.all (·.isNone)=true):bD ls Γ cs=Γ:=by
 have hn:∀ j,newD ls cs j=none:=by
  intro j;cases q:newD ls cs j with
  | none=>rfl
  | some d=>
   obtain⟨k,a,_⟩:=gw q;have:=List.all_eq_true.mp h _ (List.mem_of_getElem? a);cases this
 refine List.ext_getElem? fun i=>?_;rw[dR,hn];cases q:Γ[i]? with
 | none=>rfl
 | some s=>cases s with
  | none=>rfl
  | some s=>cases s <;> rfl
end
theorem MY{α:Type}{a:α}{l:List α}:atI (a::l) 0=some a:=by
 unfold L2.atI ixN;simp
theorem MX{α:Type}{a b:α}{l:List α}:atI (a::b::l) 1=some b:=by
 have:ixN (a::b::l).length 1=some 1:=by
  unfold ixN;rw[if_pos (by decide),if_pos (by simp;lia)];rfl
 unfold L2.atI;rw[this];rfl
theorem MW{α:Type}{a b c:α}{l:List α}:atI (a::b::c::l) 2=some c:=by
 have:ixN (a::b::c::l).length 2=some 2:=by
  unfold ixN;rw[if_pos (by decide),if_pos (by simp;lia)];rfl
 unfold L2.atI;rw[this];rfl
theorem MV{α:Type}{a b c d:α}{l:List α}:atI (a::b::c::d::l) 3=some d:=by
 have:ixN (a::b::c::d::l).length 3=some 3:=by
  unfold ixN;rw[if_pos (by decide),if_pos (by simp;lia)];rfl
 unfold L2.atI;rw[this];rfl
theorem JM:ixN 3 0=some 0:=rfl
theorem JL:ixN 3 1=some 1:=rfl
theorem JK:ixN 3 2=some 2:=rfl
theorem bR{α:Type}{xs:List α}{k:Int}{d:α}(h:0<=k)(e:xs[k.toNat]?=some d):atI xs k=some d:=by
 obtain⟨j,rfl⟩:∃ j:Nat,k=(j:Int):=⟨k.toNat,by lia⟩;exact GI (by simpa using e)
theorem GH{ns:Li0}{k:Int}(h0:0<=k)(h1:k < (ns.length:Int)):atI ns k=some (ns.getD k.toNat 0):=by
 refine bR h0 ?_;have:k.toNat < ns.length:=by lia
 rw[gE0 this];simp [List.getD,this]
theorem GJ{α:Type}{xs:List α}{k:Int}(h0:0<=k)(h1:k < (xs.length:Int)):∃ d,atI xs k=some d/\d∈xs:=by
 have:k.toNat < xs.length:=by lia
 exact⟨xs[k.toNat],bR h0 (gE0 this),List.getElem_mem this⟩
def Hr (n:Nat):S3:=fun Γ Q=>∃ ns:Li0,Γ=[some (.fz (.scr ns))]/\ns.length<=n/\∀ Γ',Q (.fz (.bl true)) Γ'
theorem Jz(F:aG P w K mg base CX0 k f fd ps (sp3 K 1 (Hr n))) :
  aG P w K mg base CX0 k f fd ps (fun vs H Q _=>∃ (p:Addr) (ns:Li0),vs=[.ref p]/\SqL K H p (ns.map V.int)/\ns.length<=n/\∀ H',Q (.bl true) H'):=by
 refine F.imp fun vs H Q E h=>?_;obtain⟨p,ns,rfl,hs,hn,q⟩:=h;have go1:∀ {i:Nat} {s:Sl},([some (Sl.fz (.scr ns))]:G)[i]?=some (some s)->i=0/\s=.fz (.scr ns):=fun {i s} h=>by
  cases i with
  | zero=>cases h;exact⟨rfl,rfl⟩
  | succ i=>cases h
 refine⟨rfl,H,[],[some (.fz (.scr ns))],fun r _=>r=.fz (.bl true),⟨aE.refl H,rfl,?_,?_,?_,?_,?_,?_,aE.refl H,fun b o h=>.inl h,fun b o h _=>h,fun b h=>h⟩,?_,⟨ns,rfl,hn,fun _=>rfl⟩,?_⟩
 ·intro i d h;obtain⟨rfl,e⟩:=go1 h;cases e;exact⟨_,rfl,p,rfl,hs⟩
 ·intro i d h;rcases h with h | h <;> cases (go1 h).2
 ·intro i d p h;cases (go1 h).2
 ·intro i d p h;cases (go1 h).2
 ·intro i j d e p h;rcases h with h | h <;> cases (go1 h).2
 ·intro i p h;cases h
 ·intro k d h;cases (go1 h).2
 ·intro r Γ' e v H' F' _ rv;subst e;have:v=.bl true:=rv;subst this;exact q H'
open PySem L2 PySem.Spec PySem.SeqAt
noncomputable def b2 (b:Bool):Int:=if b then 1 else 0
mutual
noncomputable def eqN:Nat->D->D->Option Bool
 | _,.non,.non=>some true
 | _,.bl a,.bl b=>some (a == b)
 | _,.int a,.int b=>some (a == b)
 | _,.str a,.str b=>some (a == b)
 | n + 1,.lst xs,.lst ys=>c_ n xs ys
 | n + 1,.tup xs,.tup ys=>c_ n xs ys
 | _,_,_=>none
noncomputable def c_:Nat->List D->List D->Option Bool
 | _,[],[]=>some true
 | n,x::xs,y::ys=>match eqN n x y,c_ n xs ys with
  | some a,some b=>some (a && b)
  | _,_=>none
 | _,_,_=>some false
end
theorem sL {n:Nat}:∀ {xs ys:List D} {k:Bool},c_ n xs ys=some k->xs.length≠ys.length->k=false
 | [],[],_,_,h=>absurd rfl h
 | x::xs,[],_,e,_=>by unfold c_ at e;cases e;rfl
 | [],y::ys,_,e,_=>by unfold c_ at e;cases e;rfl
 | x::xs,y::ys,k,e,h=>by
  unfold c_ at e;split at e
  ·rename_i a b ha hb;cases e;rw[sL hb (by simpa using h),Bool.and_false]
  ·cases e
theorem kW {n:Nat}:∀ {xs ys:List D} {k:Bool},c_ n xs ys=some k->∃ e:Nat->Bool,(∀ (j:Nat) x y,xs[j]?=some x->ys[j]?=some y->eqN n x y=some (e j))/\k=((List.range (min xs.length ys.length)).all e && xs.length == ys.length)
 | [],[],k,h=>by unfold c_ at h;cases h;exact⟨fun _=>true,fun j x y h=>by simp at h,by simp⟩
 | x::xs,[],k,h=>by unfold c_ at h;cases h;exact⟨fun _=>true,fun j x y _ h=>by simp at h,by simp⟩
 | [],y::ys,k,h=>by unfold c_ at h;cases h;exact⟨fun _=>true,fun j x y h=>by simp at h,by simp⟩
 | x::xs,y::ys,k,h=>by
  unfold c_ at h;split at h
  ·rename_i a b ha hb;cases h;obtain⟨e,h1,h2⟩:=kW hb;refine⟨fun j=>match j with | 0=>a | j + 1=>e j,fun j x' y' hx hy=>?_,?_⟩
   ·cases j with
    | zero=>simp at hx hy;subst hx hy;exact ha
    | succ j=>exact h1 j x' y' (by simpa using hx) (by simpa using hy)
   ·subst h2;have hm:min (x::xs).length (y::ys).length=min xs.length ys.length + 1:=by simp [Nat.succ_min_succ]
    rw[hm,List.range_succ_eq_map,List.all_cons,List.all_map];simp only[List.length_cons,Function.comp_def,Bool.and_assoc]
    congr 1
    congr 1
    simp
  ·cases h
mutual
theorem vY:∀ {n:Nat} {d d':D} {v:V} {k:Bool},Rep K F d v->Rep K F d' v->eqN n d d'=some k->k=true
 | n,d,d',v,k,h,h',e=>by
  unfold eqN at e;split at e <;> first
   | (cases e;rfl)
   | (cases e;cases h;cases h';simp;done)
   | (cases e;cases h;cases h';done)
   | (cases e;cases h;obtain⟨_,_,z,_⟩:=h';cases z;done)
   | (cases e;cases h';obtain⟨_,_,z,_⟩:=h;cases z;done)
   | (obtain⟨p,vs,rfl,a,b⟩:=h;obtain⟨p',vs',q,a',b'⟩:=h';cases q;rw[a] at a';cases a';exact uG b b' e)
   | (obtain⟨p,vs,rfl,a,b⟩:=h;obtain⟨p',vs',q,a',b'⟩:=h';cases q;rw[a] at a';cases a';done)
   | (cases e;done)
theorem uG:∀ {n:Nat} {xs ys:List D} {vs:List V} {k:Bool},aA K F xs vs->aA K F ys vs->c_ n xs ys=some k->k=true
 | n,[],[],_,k,_,_,e=>by unfold c_ at e;cases e;rfl
 | n,x::xs,[],_,k,⟨v,ws,h1,_⟩,h',e=>by cases h';cases h1
 | n,[],y::ys,_,k,h,⟨v,ws,h1,_⟩,e=>by cases h;cases h1
 | n,x::xs,y::ys,_,k,⟨v,ws,h1,h2,h3⟩,⟨v',ws',h1',h2',h3'⟩,e=>by
  subst h1;cases h1';unfold c_ at e;split at e
  ·rename_i a b ha hb;cases e;rw[vY h2 h2' ha,uG h3 h3' hb];rfl
  ·cases e
end
section
variable {pins:Pn}
theorem Vals.at'{xs:List V}(r:Vals xs us)(h:j < us.toArray.size):∃ v,xs[j]?=some v/\RelV v (us.toArray[j]):=by
 have h1:j < xs.length:=by rw[r.length];simpa using h
 obtain⟨u,hu,ru⟩:=r.get (gE0 h1);refine⟨_,gE0 h1,?_⟩;have:us.toArray[j]=u:=by
  have h2:j < us.length:=by simpa using h
  have h3:us[j]?=some us[j]:=gE0 h2;rw[hu] at h3;cases h3;simp
 rw[this];exact ru
theorem o9(I:Inv X pins σ H s)(h:H p=some (.lst vs)):∃ its:Lv0,Vals vs its/\s.heap.IsList p its.toArray:=by
 obtain⟨its,n,r,e,_⟩:=I.lst h;exact⟨its,r,_,e,rfl,n,rfl⟩
theorem o8(I:Inv X pins σ H s)(h:H p=some (.tup vs)):∃ its:Lv0,Vals vs its/\s.heap.IsTuple p its.toArray:=by
 obtain⟨its,r,⟨o,e,hc,n,d⟩,_⟩:=I.tuple (a:=p) (xs:=vs) (.inl (.inl h));exact⟨its,r,o,e,hc,n,d⟩
theorem v5{zs:Lv0}{e:Nat->Bool}(ih:∀ {d d':D} {v v':V} {u u':Value} {k:Bool},Rep K F d v->Rep K F d' v'->RelV v u->RelV v' u'->eqN n d d'=some k->EqAt A s u u' k)(r1:aA K F xs vs)(r2:aA K F ys ws)(q1:Vals vs us)(q2:Vals ws zs)(he:∀ (j:Nat) x y,xs[j]?=some x->ys[j]?=some y->eqN n x y=some (e j)) :
  ∀ j (h1:j < us.toArray.size) (h2:j < zs.toArray.size),EqAt A s us.toArray[j] zs.toArray[j] (e j):=fun j h1 h2=>by
 obtain⟨v,hv,rv⟩:=Vals.at' q1 h1;obtain⟨w,hw,rw'⟩:=Vals.at' q2 h2;obtain⟨d,hd,rd⟩:=r1.Gk hv;obtain⟨d',hd',rd'⟩:=r2.Gk hw;exact ih rd rd' rv rw' (he j d d' hd hd')
theorem wN{k:Bool}(I:Inv X pins σ H s)(ih:∀ {d d':D} {v v':V} {u u':Value} {k:Bool},Rep K F d v->Rep K F d' v'->RelV v u->RelV v' u'->eqN n d d'=some k->EqAt A.in1 s u u' k)(h1:H p=some (.lst vs))(h2:H q=some (.lst ws))(r1:aA K F xs vs)(r2:aA K F ys ws)(he:c_ n xs ys=some k)(hu:A.units < cLine):RcAt A s (.ref p) (.ref q) k:=by
 obtain⟨us,q1,l1⟩:=o9 I h1;obtain⟨zs,q2,l2⟩:=o9 I h2;have n1:us.toArray.size=xs.length:=by rw[<- r1.length,q1.length];simp
 have n2:zs.toArray.size=ys.length:=by rw[<- r2.length,q2.length];simp
 by_cases hl:xs.length=ys.length
 ·obtain⟨e,g,rfl⟩:=kW he;have:=RcAt.lists l1 l2 (by rw[n1,n2,hl]) hu (v5 ih r1 r2 q1 q2 g);rw[n1] at this;rw[hl,Nat.min_self,beq_self_eq_true,Bool.and_true];rw[hl] at this;exact this
 ·rw[sL he hl];refine RcAt.lists_lengths l1 l2 ?_ hu;rw[n1,n2,bne_iff_ne];exact hl
theorem ua{k:Bool}(I:Inv X pins σ H s)(ih:∀ {d d':D} {v v':V} {u u':Value} {k:Bool},Rep K F d v->Rep K F d' v'->RelV v u->RelV v' u'->eqN n d d'=some k->EqAt A.in1 s u u' k)(h1:H p=some (.tup vs))(h2:H q=some (.tup ws))(r1:aA K F xs vs)(r2:aA K F ys ws)(he:c_ n xs ys=some k)(hu:A.units < cLine):RcAt A s (.ref p) (.ref q) k:=by
 obtain⟨us,q1,l1⟩:=o8 I h1;obtain⟨zs,q2,l2⟩:=o8 I h2;have n1:us.toArray.size=xs.length:=by rw[<- r1.length,q1.length];simp
 have n2:zs.toArray.size=ys.length:=by rw[<- r2.length,q2.length];simp
 obtain⟨e,g,rfl⟩:=kW he;have:=RcAt.tuples l1 l2 hu (v5 ih r1 r2 q1 q2 g);rw[n1,n2] at this;exact this
theorem vZ(I:Inv X pins σ H s)(sm:aE F H):∀ (n:Nat) {A:Around} {d d':D} {v v':V} {u u':Value} {k:Bool},A.units + n < cLine->Rep K F d v->Rep K F d' v'->RelV v u->RelV v' u'->eqN n d d'=some k->EqAt A s u u' k:=by
 intro n
 induction n with
 | zero=>
  intro A d d' v v' u u' k hu r r' q q' e;unfold eqN at e;split at e <;> (try (cases e;done)) <;> (try (rename_i hn;cases hn;done)) <;> cases r <;> cases r'
  ·cases e;cases q;cases q';exact EqAt.same _
  ·cases e;cases q;cases q';exact .bool_bool _ _
  ·cases e;obtain⟨t,rfl⟩:=q;obtain⟨t',rfl⟩:=q';exact .int_int _ _ _ _
  ·cases e;obtain⟨t,rfl⟩:=q;obtain⟨t',rfl⟩:=q';exact .str_str _ _ _ _
 | succ n ih=>
  intro A d d' v v' u u' k hu r r' q q' e;have hu0:A.units < cLine:=by lia
  have hu1:A.in1.units + n < cLine:=by show A.units + 1 + n < cLine;lia
  have e0:=e;unfold eqN at e;split at e
  ·cases r;cases r';cases e;cases q;cases q';exact EqAt.same _
  ·cases r;cases r';cases e;cases q;cases q';exact .bool_bool _ _
  ·cases r;cases r';cases e;obtain⟨t,rfl⟩:=q;obtain⟨t',rfl⟩:=q';exact .int_int _ _ _ _
  ·cases r;cases r';cases e;obtain⟨t,rfl⟩:=q;obtain⟨t',rfl⟩:=q';exact .str_str _ _ _ _
  ·
   rename_i n' xs ys hn;cases hn;have r0:=r;have r0':=r';obtain⟨p,vs,rfl,a1,b1⟩:=r;obtain⟨p',vs',rfl,a2,b2⟩:=r';cases q;cases q';by_cases z:p=p'
   ·subst z;rw[vY r0 r0' e0];exact EqAt.same _
   ·exact .of_refs z (wN I (fun r r' q q' e=>ih hu1 r r' q q' e) (sm _ _ a1) (sm _ _ a2) b1 b2 e hu0)
  ·
   rename_i n' xs ys hn;cases hn;have r0:=r;have r0':=r';obtain⟨p,vs,rfl,a1,b1⟩:=r;obtain⟨p',vs',rfl,a2,b2⟩:=r';cases q;cases q';by_cases z:p=p'
   ·subst z;rw[vY r0 r0' e0];exact EqAt.same _
   ·exact .of_refs z (ua I (fun r r' q q' e=>ih hu1 r r' q q' e) (sm _ _ a1) (sm _ _ a2) b1 b2 e hu0)
  ·cases e
def Ct (K:Fg0) (n:Nat) (neg:Bool):R2:=fun x y H Q=>∃ F d d' k,aE F H/\fL K F H d x/\fL K F H d' y/\eqN (n + 1) d d'=some k/\Q (.bl (neg ^^ k)) H
theorem Ln(I:Inv X pins σ H s)(sm:aE F H)(n:Nat){d:D}{v':V}{u':Value}{k:Bool}(hu:A.units + n + 1 < cLine)(r:fL K F H d v)(r':fL K F H d' v')(q:RelV v u)(q':RelV v' u')(e:eqN (n + 1) d d'=some k):RcAt A s u u' k:=by
 have hu0:A.units < cLine:=by lia
 have hu1:A.in1.units + n < cLine:=by show A.units + 1 + n < cLine;lia
 unfold eqN at e;split at e
 ·cases r;cases r';cases e;cases q;cases q';exact .none_none
 ·cases r;cases r';cases e;cases q;cases q';exact .bool_bool _ _
 ·cases r;cases r';cases e;obtain⟨t,rfl⟩:=q;obtain⟨t',rfl⟩:=q';exact .int_int _ _ _ _
 ·cases r;cases r';cases e;obtain⟨t,rfl⟩:=q;obtain⟨t',rfl⟩:=q';exact .str_str _ _ _ _
 ·rename_i n' xs ys hn;cases hn;obtain⟨p,vs,rfl,a1,b1⟩:=r;obtain⟨p',vs',rfl,a2,b2⟩:=r';cases q;cases q';exact wN I (fun r r' q q' e=>vZ I sm _ hu1 r r' q q' e) a1 a2 b1 b2 e hu0
 ·rename_i n' xs ys hn;cases hn;obtain⟨p,vs,rfl,a1,b1⟩:=r;obtain⟨p',vs',rfl,a2,b2⟩:=r';cases q;cases q';exact ua I (fun r r' q q' e=>vZ I sm _ hu1 r r' q q' e) (sm _ _ a1) (sm _ _ a2) b1 b2 e hu0
 ·cases e
theorem Jk(hK:X.K=K)(hu:X.A.units + n + 1 < cLine):OpR X (compareOp .Eq) (Ct K n false):=by
 intro pins s σ H x y v u Q I rx ry h;obtain⟨F,d,d',k,sm,r,r',e,q⟩:=h;refine Ln I sm n hu r r' rx ry e _ _ _ _ (yS I q (by simp))
def Gv (n:Nat) (neg:Bool) (x y:D) (Γ:G) (Q:RV->G->Prop):Prop:=∃ k,eqN (n + 1) x y=some k/\Q (.fz (.bl (neg ^^ k))) Γ
theorem DO{neg:Bool}:mx K (Ct K n neg) (Gv n neg):=by
 intro B F σ H Γ x y dx dy Q QQ e rx ry q k;obtain⟨b,hb,q⟩:=q;exact⟨F,dx,dy,b,e.sub,rx,ry,hb,k _ _ (kB e q)⟩
theorem eS(hK:X.K=K)(hr:bF k X.A):C3 K X .Eq (Ct K 20 false) (Gv 20 false):=⟨Jk hK (by have:=hr.un;lia),DO⟩
theorem Ce{k:Bool}(I:Inv X pins σ H s)(ih:∀ {d d':D} {v v':V} {u u':Value} {k:Bool},Rep K F d v->Rep K F d' v'->RelV v u->RelV v' u'->eqN n d d'=some k->EqAt A.in1 s u u' k)(h1:H p=some (.lst vs))(h2:H q=some (.lst ws))(r1:aA K F xs vs)(r2:aA K F ys ws)(he:c_ n xs ys=some k)(hu:A.units < cLine):RcNeAt A s (.ref p) (.ref q) (!k):=by
 obtain⟨us,q1,l1⟩:=o9 I h1;obtain⟨zs,q2,l2⟩:=o9 I h2;have n1:us.toArray.size=xs.length:=by rw[<- r1.length,q1.length];simp
 have n2:zs.toArray.size=ys.length:=by rw[<- r2.length,q2.length];simp
 by_cases hl:xs.length=ys.length
 ·obtain⟨e,g,rfl⟩:=kW he;have:=RcNeAt.lists l1 l2 (by rw[n1,n2,hl]) hu (v5 ih r1 r2 q1 q2 g);rw[n1] at this;rw[hl,Nat.min_self,beq_self_eq_true,Bool.and_true];rw[hl] at this;exact this
 ·rw[sL he hl];refine RcNeAt.lists_lengths l1 l2 ?_ hu;rw[n1,n2,bne_iff_ne];exact hl
theorem AF{k:Bool}(I:Inv X pins σ H s)(ih:∀ {d d':D} {v v':V} {u u':Value} {k:Bool},Rep K F d v->Rep K F d' v'->RelV v u->RelV v' u'->eqN n d d'=some k->EqAt A.in1 s u u' k)(h1:H p=some (.tup vs))(h2:H q=some (.tup ws))(r1:aA K F xs vs)(r2:aA K F ys ws)(he:c_ n xs ys=some k)(hu:A.units < cLine):RcNeAt A s (.ref p) (.ref q) (!k):=by
 obtain⟨us,q1,l1⟩:=o8 I h1;obtain⟨zs,q2,l2⟩:=o8 I h2;have n1:us.toArray.size=xs.length:=by rw[<- r1.length,q1.length];simp
 have n2:zs.toArray.size=ys.length:=by rw[<- r2.length,q2.length];simp
 obtain⟨e,g,rfl⟩:=kW he;have:=RcNeAt.tuples l1 l2 hu (v5 ih r1 r2 q1 q2 g);rw[n1,n2] at this;exact this
theorem Lk(I:Inv X pins σ H s)(sm:aE F H)(n:Nat){d:D}{v':V}{u':Value}{k:Bool}(hu:A.units + n + 1 < cLine)(r:fL K F H d v)(r':fL K F H d' v')(q:RelV v u)(q':RelV v' u')(e:eqN (n + 1) d d'=some k):RcNeAt A s u u' (!k):=by
 have hu0:A.units < cLine:=by lia
 have hu1:A.in1.units + n < cLine:=by show A.units + 1 + n < cLine;lia
 unfold eqN at e;split at e
 ·cases r;cases r';cases e;cases q;cases q';exact .none_none
 ·cases r;cases r';cases e;cases q;cases q';exact .bool_bool _ _
 ·cases r;cases r';cases e;obtain⟨t,rfl⟩:=q;obtain⟨t',rfl⟩:=q';exact .int_int _ _ _ _
 ·cases r;cases r';cases e;obtain⟨t,rfl⟩:=q;obtain⟨t',rfl⟩:=q';exact .str_str _ _ _ _
 ·rename_i n' xs ys hn;cases hn;obtain⟨p,vs,rfl,a1,b1⟩:=r;obtain⟨p',vs',rfl,a2,b2⟩:=r';cases q;cases q';exact Ce I (fun r r' q q' e=>vZ I sm _ hu1 r r' q q' e) a1 a2 b1 b2 e hu0
 ·rename_i n' xs ys hn;cases hn;obtain⟨p,vs,rfl,a1,b1⟩:=r;obtain⟨p',vs',rfl,a2,b2⟩:=r';cases q;cases q';exact AF I (fun r r' q q' e=>vZ I sm _ hu1 r r' q q' e) (sm _ _ a1) (sm _ _ a2) b1 b2 e hu0
 ·cases e
theorem Jh(hK:X.K=K)(hu:X.A.units + n + 1 < cLine):OpR X (compareOp .NotEq) (Ct K n true):=by
 intro pins s σ H x y v u Q I rx ry h;obtain⟨F,d,d',k,sm,r,r',e,q⟩:=h;refine Lk I sm n hu r r' rx ry e _ _ _ _ (yS I q (by simp))
theorem eR(hK:X.K=K)(hr:bF k X.A):C3 K X .NotEq (Ct K 20 true) (Gv 20 true):=⟨Jh hK (by have:=hr.un;lia),DO⟩
theorem uI {n:Nat}:∀ (xs ys:Li0),c_ n (xs.map .int) (ys.map .int)=some (decide (xs=ys))
 | [],[]=>by simp [c_]
 | x::xs,[]=>by simp [c_]
 | [],y::ys=>by simp [c_]
 | x::xs,y::ys=>by
  simp only[List.map_cons,c_,uI xs ys,eqN]
  congr 1
  rw[Bool.eq_iff_iff];simp
theorem sJ(xs ys:Li0):eqN (n + 1) (.lst (xs.map .int)) (.lst (ys.map .int))=some (decide (xs=ys)):=by
 unfold eqN;exact uI xs ys
end
end L3
variable {Y:L2.Cx}{ys xs:List L3.D}{σ':L2.St}{p0 px:PySem.Pos}{it C0 q C₀ U:PySem.Addr}{fp qs own Cs:La0}{tn:Nat->PySem.Heap->Prop}{J:L2.It}{Q:L3.RV->L3.G->Prop}{ifs:List PySem.Expr}{e3 l3 f3:L3.TE3}{g3:L3.TG3}{B:L3.Bs}{Γ Γ1 Γ':L3.G}{QQ:List L2.V->L2.St->L2.Hp->Prop}{i3:L3.TI3}{a e c body:PySem.Expr}{b3 a3 k3 o3:L3.TB3}{t3:L3.cV}{ns:Ls0}{v:L2.V}{S:L3.S3}{m z nm y:PySem.Str}{l clos:List (PySem.Str×PySem.Addr)}{D1 E1:L3.E3}{QB:L3.Bo->L3.G->Prop}{QO:Option Int->L3.G->Prop}{u ts:L2.TS}{A3:L3.TT3}{s3 u3 x3:L3.TS3}{r:L3.RV}{F0 H0:L2.Hp}{tc:L2.TT}{L:Nat}{ss:List PySem.Stmt}{xss:List (List L3.D)}{ls:On}{ob:Option L3.D}
namespace L2
open PySem PySem.Spec PyProof.Rows
structure Acc (Y:Cx) (D:Addr) (pl:Pn) (ys:List V) (σ:St) (H:Hp) (s:Shared):Prop where
 us:∃ us,Inv Y ((D,bL us us.length)::pl) σ H s/\Vals ys us
 exD:D∈Y.ex
 nd:∀ p∈Y.pn++pl,p.1≠D
abbrev TB:=List V->St->Hp->(List V->St->Hp->Prop)->Prop
def PB (Y:Cx) (D:Addr) (m:Sem Fin->Sem Fin) (t:TB):Prop:=
 ∀ (k:Sem Fin) (pl:Pn) (s:Shared) (ys:List V) (σ:St) (H:Hp) (Q:List V->St->Hp->Prop) (R:Fin->Shared->Prop),Acc Y D pl ys σ H s->t ys σ H Q->
  (∀ ys' σ' H' s',Acc Y D pl ys' σ' H' s'->Q ys' σ' H'->wpAny (model Y.prog Y.w) Y.A k R (fun _ _=>False) s')->wpAny (model Y.prog Y.w) Y.A (m k) R (fun _ _=>False) s
section
variable {D:Addr}
def El (te:TE):TB:=fun ys σ H Q=>ys.length < sizeLine/\te σ H fun y H'=>Q (ys++[y]) σ H'
noncomputable abbrev HK (elt:Expr) (D:Addr) (env:Env) (k:Sem Fin):Sem Fin:=(eval elt env >>= fun x=>call (.builtin "list.append") [.ref D,x] >>= fun _=>pure ()) >>= fun _=>k
theorem Acc.pins{pl:Pn}{ys:List V}(a:Acc Y D pl ys σ H s)(I:Inv Y ((D,bL us us.length)::pl) σ' H' s')(r:Vals ys us):Acc Y D pl ys σ' H' s':=⟨⟨us,I,r⟩,a.exD,a.nd⟩
theorem Fy(hx:Y.xe=fun _ _=>False)(he:PE Y elt te):PB Y D (HK elt D Y.env) (El te):=by
 intro k pl s ys σ H Q R a ⟨hz,q⟩ hk;obtain⟨us,I,rv⟩:=a.us;have he':=he _ s σ H _ I q;rw[hx] at he';refine wpAny_bind (wpAny_bind (thn he' fun y s7 ⟨yv,H7,I7,r7,q7⟩=>wpAny_bind ?_));obtain⟨pD,pH,pL,pF,pc⟩:=I7.pin (D,bL us us.length) (List.mem_append_right _ List.mem_cons_self);have hlen:us.length=ys.length:=rv.length.symm;refine append_at (hsz:=by rw[List.size_toArray,hlen];exact Nat.le_of_lt hz) pD fun h8 sb8 hD8=>wpAny_pure ?_;have I7n:Inv Y pl σ H7 s7:=I7.g9 fun p z=>I7.pin p (List.mem_append_right _ (List.mem_cons_of_mem _ z));have I8:Inv Y pl σ H7 { s7 with heap:=h8 }:=I7n.turned (t':=s7.toks) (it:=D) (fun b o hb e=>(sb8.2 b hb).trans e) pH pL (.inl a.exD) (fun x c e=>(I7.ok.exf D a.exD).2 x c e) a.nd;have e8:h8.get? D=some (bL (us++[y]) (us++[y]).length):=by
  rw[hD8];simp
 refine hk (ys++[yv]) σ H7 _ ⟨⟨us++[y],I8.g9 fun p z=>?_,rv.append (.cons r7 .nil)⟩,a.exD,a.nd⟩ q7;rcases List.mem_cons.mp z with e | z
 ·subst e;exact⟨e8,pH,pL,pF,fun v z=>by cases z⟩
 ·exact I8.pin p (List.mem_append_right _ z)
def xJ (J:It) (g:TG) (t:TB):TB:=fun ys σ H Q=>∃ W:Nat->Nat->List V->St->Hp->Prop,(∃ m,W 0 m ys σ H)/\∀ i m ys σ H,W i m ys σ H->
 (J.stop i H/\Q ys σ H)\/(J.go i H/\∀ x H',J.yld i H x H'->g x σ H' fun σ2 H2=>t ys σ2 H2 fun ys' σ' H''=>∃ m',m' < m/\W (i + 1) m' ys' σ' H'')
theorem Hq{gens:List Comprehension}{d:Nat}{m:Sem Fin->Sem Fin}{t:TB}(hx:Y.xe=fun _ _=>False)(hc:Y.calm=true)(T:Turn Y.prog Y.w Y.K tg J fp it tn)(hg:PG Y tg g)(hm:PB Y D m t)(hturn:compTurn (.ListComp elt gens sc pos) d (.ref it) (.ref D) Y.env=(standAt p0 >>= fun _=>pyNext (.ref it) >>= fun r=>match r with
   | none=>pure (.done .next)
   | some v=>letOwnedTupleGo tg (.ref it) v >>= fun _=>assign tg Y.env v >>= fun _=>m (again (.compLoop (.ListComp elt gens sc pos) d (.ref it) (.ref D) Y.env)))){pl:Pn}{ys:List V}{Q:List V->St->Hp->Prop}(a:Acc Y D pl ys σ H s)(st:tn 0 s.heap)(f:∀ b∈fp,eU Y pl H b/\D≠b)(q:xJ J g t ys σ H Q)(hR:∀ ys' σ' H' s',Acc Y D pl ys' σ' H' s'->Q ys' σ' H'->R (.ok .next) s'):codeAny (model Y.prog Y.w) Y.A (.compLoop (.ListComp elt gens sc pos) d (.ref it) (.ref D) Y.env) R s:=by
 obtain⟨W,⟨m0,w0⟩,turn⟩:=q;have stat:∀ {H':Hp} {o:Obj},(∀ b∈fp,H' b=none)->∀ b∈fp,eU Y ((D,o)::pl) H' b:=fun hn b hb=>by
  obtain⟨⟨_,f1,f2,f3,f4,f5⟩,f6⟩:=f b hb;refine⟨hn b hb,f1,f2,f3,f4,fun p hp=>?_⟩;rcases List.mem_append.mp hp with hp | hp
  ·exact f5 p (List.mem_append_left _ hp)
  ·rcases List.mem_cons.mp hp with e | hp
   ·subst e;exact f6
   ·exact f5 p (List.mem_append_right _ hp)
 refine codeAny_loop rfl (fun n s'=>∃ i ys' σ' H',Acc Y D pl ys' σ' H' s'/\tn i s'.heap/\(∀ b∈fp,H' b=none)/\W i n ys' σ' H') (fun n s3 hI=>?_) m0 ⟨0,ys,σ,H,a,st,fun b hb=>(f b hb).1.1,w0⟩;show wpAny _ _ ((compTurn (.ListComp elt gens sc pos) d (.ref it) (.ref D) Y.env).onRaise (fun x=>do noteFrame x Y.env;theTreesLotGoes x)) _ _ s3;refine wpAny_noted ?_;rw[hturn];obtain⟨i,ys3,σ3,H3,a3,st3,fr3,w3⟩:=hI;obtain⟨us3,I3,rv3⟩:=a3.us;have noE:∀ {M:Model} {A:Around} {α:Type} {t:Sem α} {Q:α->Shared->Prop} {E:VS} {s:Shared},wpAny M A t Q (fun _ _=>False) s->wpAny M A t Q E s:=fun h=>wpAny_mono h (fun _ _ x=>x) fun _ _ x=>x.elim;refine wpAny_bind (wpAny_standAt (wpAny_bind ?_));rcases turn i n ys3 σ3 H3 w3 with ⟨stop,qn⟩ | ⟨go,step⟩
 ·refine noE (thn (T.done Y rfl rfl rfl hc i _ s3 σ3 H3 _ I3 (stat fr3) st3 stop) fun r s4 Z=>?_);obtain⟨hr,I4⟩:=Z;subst hr;exact wpAny_pure (hR ys3 σ3 H3 s4 (a3.pins I4 rv3) qn)
 ·refine noE (thn (T.item Y rfl rfl rfl hc i _ s3 σ3 H3 _ I3 (stat fr3) st3 go) fun r s4 Z=>?_);obtain⟨u,hr,h4⟩:=Z;subst hr;refine wpAny_bind (noE (thn h4 fun _ s5 Z=>?_));obtain⟨x,H5,I5,r5,y5,st5,fr5⟩:=Z;have I5':=I5.pinned (stat fr5) (T.obj _ _ st5);have hg':=hg _ s5 σ3 H5 x u _ I5' r5 (step x H5 y5);rw[hx] at hg';refine wpAny_bind (noE (thn hg' fun _ s6 Z=>?_));obtain⟨σ6,H6,I6,q6⟩:=Z;have a6:Acc Y D (pl++rF fp s5.heap) ys3 σ6 H6 s6:=⟨⟨us3,I6,rv3⟩,a.exD,fun p hp=>by
   rcases List.mem_append.mp hp with hp | hp
   ·exact a.nd p (List.mem_append_left _ hp)
   ·rcases List.mem_append.mp hp with hp | hp
    ·exact a.nd p (List.mem_append_right _ hp)
    ·exact fun z=>(f p.1 (ui hp).1).2 z.symm⟩
  refine noE (hm _ _ s6 ys3 σ6 H6 _ _ a6 q6 fun ys7 σ7 H7 s7 a7 ⟨m',hlt,w7⟩=>wpAny_pure ⟨rfl,m',hlt,i + 1,ys7,σ7,H7,?_,?_,?_,w7⟩)
  ·obtain⟨us7,I7,rv7⟩:=a7.us;exact⟨⟨us7,I7.g9 fun p hp=>I7.pin p (List.mem_append_right _ (by
    rcases List.mem_cons.mp hp with e | hp
    ·subst e;exact List.mem_cons_self
    ·exact List.mem_cons_of_mem _ (List.mem_append_left _ hp))),rv7⟩,a.exD,a.nd⟩
  ·obtain⟨us7,I7,rv7⟩:=a7.us;exact T.keep _ _ _ st5 fun b hb o e=>(I7.pin (b,o) (List.mem_append_right _ (List.mem_cons_of_mem _ (List.mem_append_right _ (eO hb e))))).1
  ·intro b hb;obtain⟨us7,I7,rv7⟩:=a7.us;obtain⟨o,e,d⟩:=T.obj _ _ st5 b hb;exact(I7.pin (b,o) (List.mem_append_right _ (List.mem_cons_of_mem _ (List.mem_append_right _ (eO hb e))))).2.1
end
theorem oy{gens:List Comprehension}{d:Nat}{it acc:Value}(hcl:gens[d]?=some ⟨tg,iter,ifs,0⟩)(same:codeAny (model prog w) A (.compLoop (.ListComp elt gens sc pos) d it acc env) R s)(anew:wpAny (model prog w) A (pyIter it) (fun it2 s2=>codeAny (model prog w) A (.compLoop (.ListComp elt gens sc pos) d it2 acc env) R s2) (notedBy (model prog w) A env fun x s2=>R (.error x) s2) s) :
  codeAny (model prog w) A (.compStart (.ListComp elt gens sc pos) d it acc env) R s:=by
 have cl:(clausesOf (.ListComp elt gens sc pos))[d]?=some ⟨tg,iter,ifs,0⟩:=hcl;apply codeAny_of_tree;apply wpAny_notedAt (pos:=theWindowsPlace) (m:=compStart (.ListComp elt gens sc pos) d it acc env);simp only[compStart,cl];apply wpAny_bind;apply wpAny_askSetting;apply wpAny_ite;split
 ·exact wpAny_pure ⟨rfl,same⟩
 ·apply wpAny_bind;apply wpAny_rule;apply wpAny_bind;apply wpAny_standAt;exact wpAny_bind (wpAny_mono anew (fun _ _ q=>wpAny_pure ⟨rfl,q⟩) fun _ _ q=>q)
section
variable {D:Addr}
def Ek (wi:TI) (g:TG) (t:TB):TB:=fun ys σ H Q=>wi σ H fun J H1=>xJ J g t ys σ H1 Q
noncomputable abbrev Hd (elt:Expr) (gens:List Comprehension) (sc:Scope) (pos:Pos) (d:Nat) (iter:Expr) (D:Addr) (env:Env) (k:Sem Fin):Sem Fin:=
 eval iter env >>= fun x=>standAt iter.pos >>= fun _=>foldedSetIterable iter env x >>= fun x=>holding [x] (pyIter x) >>= fun itv=>runOwn (.compStart (.ListComp elt gens sc pos) d itv (.ref D) env) env >>= fun _=>k
theorem Fx{gens:List Comprehension}{d:Nat}{m:Sem Fin->Sem Fin}{t:TB}(hx:Y.xe=fun _ _=>False)(hc:Y.calm=true)(hcl:gens[d]?=some ⟨tg,iter,ifs,0⟩)(hi:PI Y tg iter wi)(hg:PG Y tg g)(hm:PB Y D m t)(hturn:∀ it,compTurn (.ListComp elt gens sc pos) d (.ref it) (.ref D) Y.env=(standAt p0 >>= fun _=>pyNext (.ref it) >>= fun r=>match r with
   | none=>pure (.done .next)
   | some v=>letOwnedTupleGo tg (.ref it) v >>= fun _=>assign tg Y.env v >>= fun _=>m (again (.compLoop (.ListComp elt gens sc pos) d (.ref it) (.ref D) Y.env))))(hs:autoParam (∀ x,foldedSetIterable iter Y.env x=pure x) wT):PB Y D (Hd elt gens sc pos d iter D Y.env) (Ek wi g t):=by
 intro k pl s ys σ H Q R a q hk;obtain⟨us,I,rv⟩:=a.us;have hi':=hi _ s σ H _ I q;rw[hx] at hi';refine wpAny_bind (thn hi' fun v s1 h1=>wpAny_bind (wpAny_standAt (wpAny_bind ?_)));rw[hs];refine wpAny_pure (wpAny_bind (wpAny_holding (thn h1 fun itv s2 h2=>?_)));obtain⟨it,fp,tn,J,H2,e,I2,T,st2,f2,cw⟩:=h2;subst e;have a2:=a.pins I2 rv;refine wpAny_bind (wpAny_runOwn ?_);have lp:∀ {R:Result->Shared->Prop},(∀ ys' σ' H' s',Acc Y D pl ys' σ' H' s'->Q ys' σ' H'->R (.ok .next) s')->codeAny (model Y.prog Y.w) Y.A (.compLoop (.ListComp elt gens sc pos) d (.ref it) (.ref D) Y.env) R s2:=fun hR=>
  Hq hx hc T hg hm (hturn it) a2 st2 (fun b hb=>by
   obtain⟨f0,f1,f3,f4,f5,f6⟩:=f2 b hb;exact⟨⟨f0,f1,f3,f4,f5,fun p hp=>f6 p (by
    rcases List.mem_append.mp hp with hp | hp
    ·exact List.mem_append_left _ hp
    ·exact List.mem_append_right _ (List.mem_cons_of_mem _ hp))⟩,f6 (D,_) (List.mem_append_right _ List.mem_cons_self)⟩) cw hR
 have fin:=lp (R:=fun r s'=>match r with | .ok f=>wpAny (model Y.prog Y.w) Y.A k R (fun _ _=>False) s' | .error e=>False) fun ys' σ' H' s' a' q'=>hk ys' σ' H' s' a' q';have fin2:codeAny (model Y.prog Y.w) Y.A (.compLoop (.ListComp elt gens sc pos) d (.ref it) (.ref D) Y.env) (fun r s'=>match r with | .ok f=>wpAny (model Y.prog Y.w) Y.A k R (fun _ _=>False) s' | .error e=>cameBackBy (model Y.prog Y.w) Y.A Y.env (fun _ _=>False) e s') s2:=
  codeAny_mono fin fun r s' h=>by cases r with | ok f=>exact h | error e=>exact h.elim
 exact oy hcl fin2 (wpAny_mono (T.self Y.A 0 _ _ (fun _ _=>False) st2 fin2) (fun _ _ h=>h) fun _ _ h=>h.elim)
end
theorem xD{gens:List Comprehension}{m:Addr->Env->Sem Fin->Sem Fin}{t:TB}(hcl:gens[0]?=some ⟨tg,iter,ifs,0⟩)(B:Blk X.N X.env.scope sc Nc fr)(hc:X.calm=true)(hg:∀ s₀ H₀ C ex pn,PG (bC X sc Nc s₀ H₀ C ex pn) tg g)(hm:∀ s₀ H₀ C ex pn D,PB (bC X sc Nc s₀ H₀ C ex pn) D (m D (bC X sc Nc s₀ H₀ C ex pn).env) t)(hturn:∀ (it D:Addr) (env:Env),compTurn (.ListComp elt gens sc pos) 0 (.ref it) (.ref D) env=(standAt p0 >>= fun _=>pyNext (.ref it) >>= fun r=>match r with
   | none=>pure (.done .next)
   | some v=>letOwnedTupleGo tg (.ref it) v >>= fun _=>assign tg env v >>= fun _=>m D env (again (.compLoop (.ListComp elt gens sc pos) 0 (.ref it) (.ref D) env)))){pins:Pn}{s2:Shared}(I2:Inv X pins σ H2 s2)(T:Turn X.prog X.w X.K tg J fp it tn)(st2:tn 0 s2.heap)(f2:∀ b∈fp,eU X pins H2 b){Q:VK}(cw:xJ J g t [] (k7 fr σ) H2 fun ys _ H'=>ys.length < sizeLine/\∀ l,H' l=none->Q (.ref l) (upd H' l (.lst ys))){RR:Value->Addr->Result->Shared->Prop}(hRR:∀ D C s' H',Inv X pins σ H' s'->(∃ m,s'.heap.Ns C m)->eU X pins H' C->Q (.ref D) H'->RR (.ref D) C (.ok .next) s') :
  wpAny (model X.prog X.w) X.A (newList []) (fun acc s₃=>wpAny (model X.prog X.w) X.A (newFunctionEnv sc X.env.globals (takes X.env.cells sc.names []) [] X.env.qual none .none (some X.env)) (fun cenv s₄=>
   codeAny (model X.prog X.w) X.A (.compStart (.ListComp elt gens sc pos) 0 (.ref it) acc { cenv with scope:=relabel sc X.env }) (RR acc cenv.locals) s₄) E s₃) E s2:=by
 refine wpAny_newObj_type (uj fun h₁ hns₁ old₁ cl₁=>?_);dsimp only at hns₁ old₁ cl₁ ⊢;generalize hH2:s2.heap.push { cls:=.type "list",dict:=none,data:=.seq ([]:Lv0).toArray }=hp at hns₁ old₁ cl₁ ⊢;have hCs:hp.objs.size=s2.heap.objs.size + 1:=by rw[<- hH2,Heap.size_push]
 generalize hCe:hp.objs.size=C at hns₁ cl₁ ⊢;generalize hDe:s2.heap.objs.size=D at hCs ⊢;have hDC:D≠C:=by rw[<- hCe,hCs];exact Nat.ne_of_lt (Nat.lt_succ_self _)
 have up:∀ b o,s2.heap.get? b=some o->hp.get? b=some o:=fun b o e=>by rw[<- hH2];exact Heap.get?_push_of_some _ e
 have hDp:hp.get? D=some (bL [] 0):=by rw[<- hH2,<- hDe];exact Heap.get?_push_size _ rfl
 have I3:Inv X pins σ H2 { s2 with heap:=hp }:=I2.kept (t':=s2.toks) up;have hD0:H2 D=none:=I2.hok.fresh (by rw[hDe];exact Nat.le_refl _);have fD:eU X pins H2 D:=I2.qv (by rw[hDe];exact Nat.le_refl _) hD0;have fpo:∀ b∈fp,∃ o,s2.heap.get? b=some o/\∀ v,o.data≠.cell v:=T.obj 0 _ st2;have fplt:∀ b∈fp,b < D:=fun b hb=>by obtain⟨o,e,_⟩:=fpo b hb;rw[<- hDe];exact Heap.lt_size e
 have hDfp:D∉fp:=fun hb=>Nat.lt_irrefl _ (fplt D hb);have hCfp:C∉fp:=fun hb=>by have:=fplt C hb;rw[<- hCe,hCs] at this;exact absurd (Nat.lt_of_succ_lt this) (Nat.lt_irrefl _)
 have nobase:∀ b,(b∈X.ex\/X.s₀.heap.objs.size<=b)->∀ o,X.base.get? b≠some o:=fun b h o e=>by
  rcases h with h | h
  ·exact I2.ok.noex b o e h
  ·exact absurd (Nat.lt_of_lt_of_le (Heap.lt_size e) (Nat.le_trans I2.ok.bsz h)) (Nat.lt_irrefl _)
 have hex:∀ b∈D::fp,b < hp.objs.size/\b∉X.fs/\b≠X.env.locals/\(∀ x c,X.env.cells.lookup x=some c->c≠b)/\∀ o,X.base.get? b≠some o:=fun b hb=>by
  have fb:eU X pins H2 b:=by
   rcases List.mem_cons.mp hb with e | hb
   ·rw[e];exact fD
   ·exact f2 b hb
  refine⟨?_,fb.2.2.1,fb.2.1,fb.2.2.2.2.1,nobase b fb.2.2.2.1⟩;rcases List.mem_cons.mp hb with e | hb
  ·rw[e,hCs];exact Nat.lt_succ_self _
  ·rw[hCs];exact Nat.lt_succ_of_lt (fplt b hb)
 have hCle:hp.objs.size<=C:=by rw[hCe];exact Nat.le_refl _
 have ok:(bC X sc Nc { s2 with heap:=hp } H2 C (D::fp) (X.pn++pins)).Ok:=Ee B I3 hCle hex;have old:∀ b u,hp.get? b=some u->h₁.get? b=some u:=old₁;have J0:Inv (bC X sc Nc { s2 with heap:=hp } H2 C (D::fp) (X.pn++pins)) [(D,bL [] 0)] (k7 fr σ) H2 { s2 with heap:=h₁ }:=
  Ah B ok I3 hCle rfl rfl old hns₁ cl₁ hDp hD0 fD.2.1 fD.2.2.1 (fun v z=>by cases z)
 have a0:Acc (bC X sc Nc { s2 with heap:=hp } H2 C (D::fp) (X.pn++pins)) D [] [] (k7 fr σ) H2 { s2 with heap:=h₁ }:=
  ⟨⟨[],J0,.nil⟩,List.mem_cons_self,fun p hp'=>fD.2.2.2.2.2 p (by simpa using hp')⟩
 have fpY:∀ b∈fp,eU (bC X sc Nc { s2 with heap:=hp } H2 C (D::fp) (X.pn++pins)) [] H2 b/\D≠b:=fun b hb=>
  ⟨⟨(f2 b hb).1,fun e=>hCfp (by have e':b=C:=e;rw[<- e'];exact hb),ok.exfs b (List.mem_cons_of_mem _ hb),.inl (List.mem_cons_of_mem _ hb),(ok.exf b (List.mem_cons_of_mem _ hb)).2,fun p hp'=>(f2 b hb).2.2.2.2.2 p (by simpa using hp')⟩,fun z=>hDfp (by rw[z];exact hb)⟩
 have loop:codeAny (model X.prog X.w) X.A (.compLoop (.ListComp elt gens sc pos) 0 (.ref it) (.ref D) (compEnvC sc (bcl X.env.cells sc C) C X.env)) (RR (.ref D) C) { s2 with heap:=h₁ }:=by
  refine Hq (Y:=bC X sc Nc { s2 with heap:=hp } H2 C (D::fp) (X.pn++pins)) (D:=D) rfl hc T (hg _ _ _ _ _) (hm _ _ _ _ _ D) (hturn it D _) a0 (T.keep _ _ _ st2 (fun b _ o e=>old b o (up b o e))) fpY cw fun ys σ4 H3 s4 a4 hq=>?_;obtain⟨us,I4,rv⟩:=a4.us;obtain⟨hsz,qn⟩:=hq;obtain⟨pD,pH,_,_,_⟩:=I4.pin (D,bL us us.length) (List.mem_append_right _ List.mem_cons_self);obtain⟨mC',hnC,_⟩:=I4.loc;have un:Un (frs X.stack) fp H2 (upd H3 D (.lst ys)) s2.heap s4.heap:=by
   have u0:Un (frs X.stack) (D::fp) H2 H3 hp s4.heap:=I4.base;have neD:∀ {b:Addr} {o:Obj},s2.heap.get? b=some o->b≠D:=fun e=>by rw[<- hDe];exact Nat.ne_of_lt (Heap.lt_size e)
   have nx:∀ {b:Addr} {o:Obj},s2.heap.get? b=some o->b∉fp->b∉D::fp:=fun e h1 h2=>by
    rcases List.mem_cons.mp h2 with z | z
    ·exact neD e z
    ·exact h1 z
   have neT:∀ {b:Addr} {o:HO},H2 b=some o->b≠D:=fun e z=>by rw[z,hD0] at e;cases e
   exact⟨fun b o e n hb hx=>u0.keep b o (up b o e) n hb (nx e hx),fun b o e n hb hx=>u0.slot b o (up b o e) n hb (nx e hx),fun b o e n hx=>by rw[ah (neD e)];exact u0.free b o (up b o e) n (nx e hx),
    fun b o e hx=>u0.there b o (up b o e) (nx e hx),fun b xs e=>by rw[ah (neT e)];exact u0.tups b xs e,fun b o xs e=>by rw[ah (neT e)];exact u0.i7 b o xs e,fun b ps e=>by rw[ah (neT e)];exact u0.tbls b ps e⟩
  have hok:HOk X.prog X.w (upd H3 D (.lst ys)) s4.heap:=fun b u e=>by
   by_cases hb:b=D
   ·subst hb;rw[ar] at e;cases e;exact⟨Nat.le_of_lt hsz,us,us.length,rv,pD⟩
   ·rw[ah hb] at e;refine(I4.hok b u e).lK (fun c v _ q=>q) (fun c q=>?_) fun c xs q=>?_
    ·rw[ah (fun z=>by rw[z] at q;rw[show H3 D=none from pH] at q;cases q)];exact q
    ·rw[ah (fun z=>by rw[z] at q;rw[show H3 D=none from pH] at q;cases q)];exact q
  have I5:Inv X pins σ (upd H3 D (.lst ys)) s4:=I2.Af I4.os un hok I4.bare fun b hb=>⟨(f2 b hb).2.2.2.1,(f2 b hb).2.1,(f2 b hb).2.2.2.2.1,(f2 b hb).2.2.2.2.2⟩;refine hRR D C s4 _ I5 ⟨mC',hnC⟩ ?_ (qn D pH);have hC2:s2.heap.objs.size<=C:=by rw[hDe,<- hCe,hCs];exact Nat.le_succ _
  refine I2.qv hC2 ?_;rw[ah (Ne.symm hDC)];exact I4.free
 exact oy hcl loop (wpAny_mono (T.self X.A 0 _ _ (fun _ _=>False) (T.keep _ _ _ st2 (fun b _ o e=>old b o (up b o e))) loop) (fun _ _ h=>h) fun _ _ h=>h.elim)
def xW (fr:On) (wi:TI) (g:TG) (t:TB):TE:=fun σ H Q=>wi σ H fun J H1=>xJ J g t [] (k7 fr σ) H1 fun ys _ H'=>ys.length < sizeLine/\∀ l,H' l=none->Q (.ref l) (upd H' l (.lst ys))
theorem CL{rest:List Comprehension}{m:Addr->Env->Sem Fin->Sem Fin}{t:TB}(hc:X.calm=true)(hi:PI X tg iter wi)(B:Blk X.N X.env.scope sc Nc fr)(hg:∀ s₀ H₀ C ex pn,PG (bC X sc Nc s₀ H₀ C ex pn) tg g)(hm:∀ s₀ H₀ C ex pn D,PB (bC X sc Nc s₀ H₀ C ex pn) D (m D (bC X sc Nc s₀ H₀ C ex pn).env) t)(hturn:∀ (it D:Addr) (env:Env),compTurn (.ListComp elt (⟨tg,iter,ifs,0⟩::rest) sc pos) 0 (.ref it) (.ref D) env=(standAt p0 >>= fun _=>pyNext (.ref it) >>= fun r=>match r with
   | none=>pure (.done .next)
   | some v=>letOwnedTupleGo tg (.ref it) v >>= fun _=>assign tg env v >>= fun _=>m D env (again (.compLoop (.ListComp elt (⟨tg,iter,ifs,0⟩::rest) sc pos) 0 (.ref it) (.ref D) env))))(hs:autoParam (∀ x,foldedSetIterable iter X.env x=pure x) wT) :
  PE X (.ListComp elt (⟨tg,iter,ifs,0⟩::rest) sc pos) (xW fr wi g t):=by
 intro pins s σ H Q I h;rw[eval_ListComp];refine wpAny_comprehension_free (use:=none) rfl hs (v_ B I) B.kind B.locs (thn (hi pins s σ H _ I h) fun v s1 h1=>thn h1 fun itv s2 h2=>?_);obtain⟨it,fp,tn,J,H2,e,I2,T,st2,f2,cw⟩:=h2;subst e;refine xD (RR:=fun acc C=>compPost (model X.prog X.w) X.A X.xe none (EP X pins σ Q) acc C) rfl B hc hg hm hturn I2 T st2 f2 cw fun D C s' H' I' hn fC q=>?_;obtain⟨m,hn⟩:=hn;exact⟨m,hn,fun h' sb=>⟨.ref D,H',I'.turned (t':=s'.toks) (fun b o hb e=>(sb.2 b hb).trans e) fC.1 fC.2.1 fC.2.2.2.1 fC.2.2.2.2.1 fC.2.2.2.2.2,rfl,q⟩⟩
end L2
namespace L3
open PySem L2 PySem.Spec
noncomputable abbrev oF:=List D->G->(List D->G->Prop)->Prop
noncomputable def PoL (K:Fg0) (B:Bs) (F:Hp) (Q:List D->G->Prop):List V->L2.St->Hp->Prop:=fun ys' σ' H'=>∃ F' Γ' ds',aE F F'/\En K B F' σ' H' Γ'/\aA K F' ds' ys'/\Q ds' Γ'
def sT (K:Fg0) (t:TB) (b3:oF):Prop:=∀ (B:Bs) (F:Hp) (σ:L2.St) (H:Hp) (Γ:G) (ys:List V) (ds:List D) (Q:List D->G->Prop) (QQ:List V->L2.St->Hp->Prop),En K B F σ H Γ->aA K F ds ys->b3 ds Γ Q->(∀ ys' σ' H',PoL K B F Q ys' σ' H'->QQ ys' σ' H')->t ys σ H QQ
def DP (e3:TE3) (ys:List D) (Γ:G) (Q:List D->G->Prop):Prop:=ys.length < sizeLine/\e3 Γ fun r Γ1=>Q (ys++[r.d]) Γ1
def zS (xs:List D) (g3:TG3) (b3:oF) (ys:List D) (Γ:G) (Q:List D->G->Prop):Prop:=∃ Iv:Nat->List D->G->Prop,Iv 0 ys Γ/\(∀ k d ys Γ,xs[k]?=some d->Iv k ys Γ->g3 d Γ fun Γ'=>b3 ys Γ' (Iv (k + 1)))/\∀ ys Γ,Iv xs.length ys Γ->Q ys Γ
def Ci (i3:TI3) (g3:TG3) (b3:oF) (ys:List D) (Γ:G) (Q:List D->G->Prop):Prop:=i3 Γ fun xs Γ1=>zS xs g3 b3 ys Γ1 Q
def v8 (fr:On) (i3:TI3) (g3:TG3) (b3:oF) (Γ:G) (Q:RV->G->Prop):Prop:=i3 Γ fun xs Γ1=>zS xs g3 b3 [] (dU Γ1 (dj fr)) fun ys Γc=>ys.length < sizeLine/\Q (.fr (.lst ys)) (bD fr Γ1 Γc)
section
variable {Da:Addr}
theorem Co(h:Ref K te e3):sT K (El te) (DP e3):=by
 intro B F σ H Γ ys ds Q QQ e r ⟨hz,q⟩ k;refine⟨by rw[r.length];exact hz,h B F σ H Γ _ _ e q fun v H' ⟨F',Γ',rv,s,e',rr,q'⟩=>k _ _ _ ?_⟩;obtain⟨F2,s2,e2,r2⟩:=e'.frozen rr;exact⟨F2,Γ',ds++[rv.d],s.trans s2,e2,aA.append (ys:=[rv.d]) (r.mono (s.trans s2)) ⟨v,[],rfl,r2,rfl⟩,q'⟩
theorem wK{t:TB}{b3:oF}(hg:Bt K g g3)(h:sT K t b3){ys:List V}{ds:List D}{Q:List D->G->Prop}(R:ItR K F J xs)(e:En K B F σ H Γ)(r:aA K F ds ys)(q:zS xs g3 b3 ds Γ Q)(k:∀ ys' σ' H',PoL K B F Q ys' σ' H'->QQ ys' σ' H'):xJ J g t ys σ H QQ:=by
 obtain⟨Iv,i0,it,ie⟩:=q;refine⟨fun i m ys σ H=>m=xs.length - i/\i<=xs.length/\∃ F' Γ' ds,aE F F'/\En K B F' σ H Γ'/\aA K F' ds ys/\Iv i ds Γ',⟨_,rfl,Nat.zero_le _,F,Γ,ds,aE.refl F,e,r,i0⟩,?_⟩;rintro i m ys2 σ2 H2 ⟨rfl,hi,F2,Γ2,ds2,s2,e2,r2,iv⟩;by_cases lt:i < xs.length
 ·refine .inr ⟨R.go i H2 (s2.trans e2.sub) lt,fun x H3 y=>?_⟩;have hd:xs[i]?=some xs[i]:=gE0 lt;obtain⟨F3,s3,e3,r3⟩:=R.turn s2 e2 hd y;refine hg B F3 σ2 H3 Γ2 x _ _ _ e3 r3 (it i _ ds2 Γ2 hd iv) fun σ' Γ' e4 q4=>?_;exact h B F3 σ' H3 Γ' ys2 ds2 _ _ e4 (r2.mono s3) q4 fun ys' σ'' H4 ⟨F4,Γ4,d4,s4,e5,r5,iv5⟩=>⟨xs.length - (i + 1),by lia,rfl,lt,F4,Γ4,d4,(s2.trans s3).trans s4,e5,r5,iv5⟩
 ·have z:i=xs.length:=by lia
  subst z;exact .inl ⟨R.stop _ H2 (s2.trans e2.sub) rfl,k _ _ _ ⟨F2,Γ2,ds2,s2,e2,r2,ie ds2 Γ2 iv⟩⟩
theorem Cm{t:TB}{b3:oF}(hi:Ew K wi i3)(hg:Bt K g g3)(h:sT K t b3):sT K (Ek wi g t) (Ci i3 g3 b3):=by
 intro B F σ H Γ ys ds Q QQ e r q k;refine hi B F σ H Γ _ _ e q fun J H1 F1 Γ1 xs s1 e1 R q1=>?_;exact wK hg h R e1 (r.mono s1) q1 fun ys' σ' H2 ⟨F2,Γ2,d2,s2,rest⟩=>k _ _ _ ⟨F2,Γ2,d2,s1.trans s2,rest⟩
theorem AJ{t:TB}{b3:oF}(nd:(fr.filterMap id).Nodup)(hi:Ew K wi i3)(hg:Bt K g g3)(h:sT K t b3):Ref K (xW fr wi g t) (v8 fr i3 g3 b3):=by
 intro B F σ H Γ Q QQ e q k;refine hi B F σ H Γ _ _ e q fun J H1 F1 Γ1 xs s1 e1 R q1=>?_;refine wK hg h R (e1.blk nd) (ds:=[]) rfl q1 fun ys σ' H2 ⟨F2,Γ2,d2,s2,e2,r2,hz,q2⟩=>⟨by rw[r2.length];exact hz,fun l hl'=>k _ _ ?_⟩;have eo:En K B F2 σ H2 (bD fr Γ1 Γ2):=e1.back (ls:=fr) e2 (by have:=nF (Γ:=Γ1) (σ:=σ) (bs:=dj fr);rw[r_] at this;exact this);exact Po.mono (s1.trans s2) (jv eo hl' r2 q2)
theorem CU{i0 t0 i1 t1:Expr}{wi1:TI}{j3:TI3}{g1:TG}{h3:TG3}(hc:X.calm=true)(hi:P3I K X t0 i0 wi i3)(Bk:Blk X.N X.env.scope sc Nc fr)(hg:∀ s₀ H₀ C ex pn,P3G K (bC X sc Nc s₀ H₀ C ex pn) t0 g g3)(hj:∀ s₀ H₀ C ex pn,P3I K (bC X sc Nc s₀ H₀ C ex pn) t1 i1 wi1 j3)(hh:∀ s₀ H₀ C ex pn,P3G K (bC X sc Nc s₀ H₀ C ex pn) t1 g1 h3)(he:∀ s₀ H₀ C ex pn,P3 K (bC X sc Nc s₀ H₀ C ex pn) elt te e3)(hs1:∀ s₀ H₀ C ex pn x,foldedSetIterable i1 (bC X sc Nc s₀ H₀ C ex pn).env x=pure x:=by intros;rfl)(nd:autoParam ((fr.filterMap id).Nodup) wP)(hs:autoParam (∀ x,foldedSetIterable i0 X.env x=pure x) wT) :
  P3 K X (.ListComp elt [⟨t0,i0,[],0⟩,⟨t1,i1,[],0⟩] sc pos) (xW fr wi g (Ek wi1 g1 (El te))) (v8 fr i3 g3 (Ci j3 h3 (DP e3))):=
 ⟨CL (m:=fun D env=>Hd elt [⟨t0,i0,[],0⟩,⟨t1,i1,[],0⟩] sc pos 1 i1 D env) hc hi.pe Bk (fun a b c d e=>(hg a b c d e).pe)
  (fun a b c d e D=>Fx (m:=HK elt D _) rfl hc (by rfl) (hj a b c d e).pe (hh a b c d e).pe (Fy rfl (he a b c d e).pe) (fun _=>rfl) (hs1 a b c d e)) (fun _ _ _=>rfl) hs,
  AJ nd hi.rf (hg X.s₀ X.H₀ 0 [] []).rf (Cm (hj X.s₀ X.H₀ 0 [] []).rf (hh X.s₀ X.H₀ 0 [] []).rf (Co (he X.s₀ X.H₀ 0 [] []).rf))⟩
end
theorem Mz{a b:Int}:eqN n (.int a) (.int b)=some (a == b):=by cases n <;> rfl
theorem HJ{a b:Str}:eqN n (.str a) (.str b)=some (a == b):=by cases n <;> rfl
theorem MA{a b:Bool}:eqN n (.bl a) (.bl b)=some (a == b):=by cases n <;> rfl
noncomputable def fo (s:Option D):Option Sl:=s.map Sl.fz
theorem Kh{s:Option Sl}:aW (s::Γ) (i + 1)=aW Γ i:=rfl
theorem Kj:aW (none::Γ) 0=True:=rfl
theorem Ke{d:D}:aW (some (.fz d)::Γ) 0=True:=rfl
theorem Kf{d:D}:aW (some (.ow d)::Γ) 0=True:=rfl
theorem Ki{s:Option D}:aW (fo s::Γ) 0=True:=by cases s <;> rfl
end L3
universe u
namespace L3
open PySem L2 PySem.Spec
structure Tag {α:Sort u} (q:α):Type where
def m1 (o:Option D) (k:D->Prop) (_:Tag k):Prop:=match o with
 | some d=>k d
 | none=>False
theorem zR{d:D}{k:D->Prop}{t:Tag k}:m1 (some d) k t=k d:=rfl
theorem dP{o:Option D}{k:D->Prop}{t:Tag k}:m1 o k t↔∃ d,o=some d/\k d:=by
 cases o with
 | none=>exact⟨fun h=>h.elim,fun Z=>by obtain⟨_,h,_⟩:=Z;cases h⟩
 | some d=>exact⟨fun h=>⟨d,rfl,h⟩,fun Z=>by obtain⟨_,h,q⟩:=Z;cases h;exact q⟩
def HN (fr:On) (i3:TI3) (g3:TG3) (e3:TE3) (Γ:G) (Q:RV->G->Prop) (_:Tag (fr,i3,g3,e3)) (_:Tag Q):Prop:=sO fr i3 g3 e3 Γ Q
def Mu (i3:TI3) (g3:TG3) (b3:TS3) (D:E3) (Γ:G) (_:Tag (i3,g3,b3)) (_:Tag D):Prop:=Gq i3 g3 b3 D Γ
def DX (fr:On) (i3:TI3) (g3:TG3) (b3:oF) (Γ:G) (Q:RV->G->Prop) (_:Tag (fr,i3,g3,b3)) (_:Tag Q):Prop:=v8 fr i3 g3 b3 Γ Q
theorem DY{b3:oF}:v8 fr i3 g3 b3 Γ Q=DX fr i3 g3 b3 Γ Q ⟨⟩ ⟨⟩:=rfl
theorem Gz:sO fr i3 g3 e3 Γ Q=HN fr i3 g3 e3 Γ Q ⟨⟩ ⟨⟩:=rfl
theorem Kk{b3:TS3}{D:E3}:Gq i3 g3 b3 D Γ=Mu i3 g3 b3 D Γ ⟨⟩ ⟨⟩:=rfl
section
variable {op:D->D->TE3}
theorem B1:lJ op a3 b3 Γ Q=(a3 Γ fun x Γ1=>b3 Γ1 fun y Γ2=>m1 (x.at Γ2) (fun dx=>m1 (y.at Γ2) (fun dy=>op dx dy Γ2 Q) ⟨⟩) ⟨⟩):=by
 unfold lJ
 congr;funext x Γ1;congr;funext y Γ2
 refine propext ⟨fun Z=>by obtain⟨dx,dy,h1,h2,h3⟩:=Z;rw[h1,h2];exact h3,fun h=>?_⟩;obtain⟨dx,h1,h⟩:=dP.mp h;obtain⟨dy,h2,h⟩:=dP.mp h;exact⟨dx,dy,h1,h2,h⟩
theorem Iz{op:D->TE3}:Aw op a3 Γ Q=(a3 Γ fun x Γ1=>m1 (x.at Γ1) (fun dx=>op dx Γ1 Q) ⟨⟩):=by
 unfold Aw
 congr;funext x Γ1
 exact propext dP.symm
theorem Hs{i:Int}:ix3 (.lst xs) (.int i) Γ Q=m1 (atI xs i) (fun d=>Q (.fz d) Γ) ⟨⟩:=propext dP.symm
theorem L7{i:Int}:ix3 (.tup xs) (.int i) Γ Q=m1 (atI xs i) (fun d=>Q (.fz d) Γ) ⟨⟩:=propext dP.symm
def mL (o:Option (List D)) (k:List D->Prop) (_:Tag k):Prop:=match o with
 | some d=>k d
 | none=>False
theorem FQ{d:List D}{k:List D->Prop}{t:Tag k}:mL (some d) k t=k d:=rfl
theorem GD{c3:List D->TE3}:xF c3 t3 Γ Q=(t3 Γ fun bs Γ1=>mL (ats Γ1 bs) (fun ds=>c3 ds Γ1 Q) ⟨⟩):=by
 unfold xF
 congr;funext bs Γ1
 refine propext ⟨fun Z=>by obtain⟨ds,h,q⟩:=Z;rw[h];exact q,fun h=>?_⟩;cases e:ats Γ1 bs with
 | none=>rw[e] at h;exact h.elim
 | some ds=>rw[e] at h;exact⟨ds,rfl,h⟩
def mN (o:Option Nat) (k:Nat->Prop) (_:Tag k):Prop:=match o with
 | some d=>k d
 | none=>False
theorem FP{d:Nat}{k:Nat->Prop}{t:Tag k}:mN (some d) k t=k d:=rfl
def mI (o:Option D) (k:Int->Prop) (_:Tag k):Prop:=match o with
 | some (.int d)=>k d
 | _=>False
theorem FR{d:Int}{k:Int->Prop}{t:Tag k}:mI (some (.int d)) k t=k d:=rfl
theorem EN{D:E3}:zA i k3 e3 D Γ=(e3 Γ fun r Γ1=>(∃ xs,c7 Γ1 i=some xs)/\k3 Γ1 fun b Γ2=>mL (c7 Γ2 i) (fun xs=>mI (b.at Γ2) (fun k=>mN (ixN xs.length k) (fun j=>D.nx (putD Γ2 i (.lst (xs.set j r.d)))) ⟨⟩) ⟨⟩) ⟨⟩):=by
 unfold zA
 congr;funext r Γ1;congr;funext b Γ2
 refine propext ⟨fun ⟨xs,k,j,h1,h2,h3,q⟩=>?_,fun h=>?_⟩
 ·rw[h1,h2];show mN (ixN xs.length k) _ ⟨⟩;rw[h3];exact q
 ·cases e:c7 Γ2 i with
  | none=>rw[e] at h;exact h.elim
  | some xs=>
   rw[e] at h;replace h:mI (b.at Γ2) (fun k=>mN (ixN xs.length k) (fun j=>D.nx (putD Γ2 i (.lst (xs.set j r.d)))) ⟨⟩) ⟨⟩:=h;cases e2:b.at Γ2 with
   | none=>rw[e2] at h;exact h.elim
   | some d=>
    rw[e2] at h;cases d with
    | int k=>
     replace h:mN (ixN xs.length k) (fun j=>D.nx (putD Γ2 i (.lst (xs.set j r.d)))) ⟨⟩:=h;cases e3:ixN xs.length k with
     | none=>rw[e3] at h;exact h.elim
     | some j=>rw[e3] at h;exact⟨xs,k,j,rfl,rfl,e3,h⟩
    | _=>exact h.elim
end
theorem xo{α:Type}{l:List α}{a b:α}(h:(l++[a])[i]?=some b):l[i]?=some b\/(i=l.length/\b=a):=by
 rcases Nat.lt_or_ge i l.length with q | q
 ·rw[List.getElem?_append_left q] at h;exact .inl h
 ·have q2:i=l.length:=by
   have:=(gS0 h).1;rw[List.length_append,List.length_singleton] at this;lia
  subst q2;rw[List.getElem?_append_right (Nat.le_refl _),Nat.sub_self] at h;exact .inr ⟨rfl,(Option.some.inj h).symm⟩
theorem gM{α:Type}{l:List α}{a b:α}(h:l[i]?=some b):(l++[a])[i]?=some b:=by
 rw[List.getElem?_append_left (gS0 h).1];exact h
theorem kH{α:Type}{l:List α}{a:α}:(l++[a])[l.length]?=some a:=by
 rw[List.getElem?_append_right (Nat.le_refl _),Nat.sub_self];rfl
theorem En.push(e:En K B F σ H Γ){x:Addr}{d:D}(rv:jH K B F σ H Γ (.ref x) (.fr d)):En K B F (σ++[some (V.ref x)]) H (Γ++[some (Sl.ow d)]):=by
 obtain⟨p,e1,hF,ho,hB,hn⟩:=rv;cases e1;have hl:=e.len;have hG:∀ {i:Nat} {s:Sl},(Γ++[some (Sl.ow d)])[i]?=some (some s)->Γ[i]?=some (some s)\/(i=Γ.length/\s=.ow d):=fun h=>by
  rcases xo h with q | ⟨q,q2⟩
  ·exact .inl q
  ·cases q2;exact .inr ⟨q,rfl⟩
 have hS:∀ {i:Nat} {s:Option Sl},Γ[i]?=some s->(σ++[some (V.ref x)])[i]?=σ[i]?:=fun h=>by
  have lt:=(gS0 h).1;rw[List.getElem?_append_left (by lia)]
 have hat:(σ++[some (V.ref x)])[Γ.length]?=some (some (V.ref x)):=by rw[<- hl];exact kH
 have hH:∀ {i:Nat} {c:D},Hld (Γ++[some (Sl.ow d)]) i c->Hld Γ i c\/(i=Γ.length/\c=d):=fun h=>by
  rcases h with h | h
  ·rcases hG h with q | ⟨q,q2⟩
   ·exact .inl (.inl q)
   ·cases q2;exact .inr ⟨q,rfl⟩
  ·rcases hG h with q | ⟨q,q2⟩
   ·exact .inl (.inr q)
   ·cases q2
 have hHS:∀ {i:Nat} {c:D},Hld Γ i c->(σ++[some (V.ref x)])[i]?=σ[i]?:=fun h=>by
  rcases h with h | h <;> exact hS h
 refine⟨e.sub,by simp [hl],?_,?_,?_,?_,?_,?_,e.keep,e.new,e.rest,e.dom⟩
 ·intro i c h;rcases hG h with q | ⟨_,q⟩
  ·rw[hS q];exact e.fz i c q
  ·cases q
 ·intro i c h;rcases hH h with q | ⟨rfl,rfl⟩
  ·rw[hHS q];exact e.hl i c q
  ·exact⟨x,hat,hF,ho⟩
 ·intro i c q h a;rcases hG h with z | ⟨rfl,z⟩
  ·rw[hS z] at a;exact e.ow i c q z a
  ·rw[hat] at a;cases a;exact hB
 ·intro i c q h a;rcases hG h with z | ⟨_,z⟩
  ·rw[hS z] at a;exact e.ln i c q z a
  ·cases z
 ·intro i j c c' q h h' a a';rcases hH h with z | ⟨rfl,rfl⟩
  ·rw[hHS z] at a;rcases hH h' with z' | ⟨rfl,rfl⟩
   ·rw[hHS z'] at a';exact e.dis i j c c' q z z' a a'
   ·rw[hat] at a';cases a';exact absurd a (hn i c z)
  ·rw[hat] at a;cases a;rcases hH h' with z' | ⟨rfl,rfl⟩
   ·rw[hHS z'] at a';exact absurd a' (hn j c' z')
   ·rfl
 ·intro i q h;obtain⟨a,c,b⟩:=e.par i q h;exact⟨by rw[hS b];exact a,c,gM b⟩
theorem En.pop{x:Addr}{d:D}(e:En K B F (σ++[some (V.ref x)]) H (Γ++[some (Sl.ow d)])):En K B F σ H Γ/\jH K B F σ H Γ (.ref x) (.fr d):=by
 have hl:σ.length=Γ.length:=by have:=e.len;simpa using this
 have hat:(σ++[some (V.ref x)])[Γ.length]?=some (some (V.ref x)):=by rw[<- hl];exact kH
 have hS:∀ {i:Nat} {s:Option Sl},Γ[i]?=some s->(σ++[some (V.ref x)])[i]?=σ[i]?:=fun h=>by
  have lt:=(gS0 h).1;rw[List.getElem?_append_left (by lia)]
 have hL:Hld (Γ++[some (Sl.ow d)]) Γ.length d:=.inl kH;have up:∀ {i:Nat} {c:D},Hld Γ i c->Hld (Γ++[some (Sl.ow d)]) i c:=fun h=>h.imp gM gM;have hHS:∀ {i:Nat} {c:D},Hld Γ i c->(σ++[some (V.ref x)])[i]?=σ[i]?:=fun h=>by
  rcases h with h | h <;> exact hS h
 obtain⟨p,a,b,c⟩:=e.hl _ _ hL;rw[hat] at a;cases a;refine⟨⟨e.sub,hl,?_,?_,?_,?_,?_,?_,e.keep,e.new,e.rest,e.dom⟩,x,rfl,b,c,e.ow _ _ _ kH hat,?_⟩
 ·intro i c h;have:=e.fz i c (gM h)
  rwa [hS h] at this
 ·intro i c h;have:=e.hl i c (up h)
  rwa [hHS h] at this
 ·intro i c q h a;exact e.ow i c q (gM h) (by rw[hS h];exact a)
 ·intro i c q h a;exact e.ln i c q (gM h) (by rw[hS h];exact a)
 ·intro i j c c' q h h' a a';exact e.dis i j c c' q (up h) (up h') (by rw[hHS h];exact a) (by rw[hHS h'];exact a')
 ·intro i q h;obtain⟨a,c,b'⟩:=e.par i q h;rcases xo b' with z | ⟨_,z⟩
  ·exact⟨by rw[<- hS z];exact a,c,z⟩
  ·cases z
 ·intro i c h q;have lt:i < Γ.length:=by rcases h with h | h <;> exact(gS0 h).1
  have:=e.dis i _ c d x (up h) hL (by rw[hHS h];exact q) hat
  lia
theorem En.Nx(e:En K B F σ H Γ){d0 d1:D}(hh:Hld Γ i d0)(hp:σ[i]?=some (some (V.ref p))){o1:HO}(r:Own K F (upd H p o1) p d1):En K B F σ (upd H p o1) (putD Γ i d1):=by
 obtain⟨p0,a0,b0,c0⟩:=e.hl i _ hh;rw[hp] at a0;cases a0;obtain⟨o,ho⟩:=c0.some;have hput:(Γ[i]?=some (some (Sl.ow d0))/\putD Γ i d1=Γ.set i (some (.ow d1)))\/(Γ[i]?=some (some (Sl.ln d0))/\putD Γ i d1=Γ.set i (some (.ln d1))):=by
  rcases hh with q | q
  ·exact .inl ⟨q,by unfold putD;rw[q]⟩
  ·exact .inr ⟨q,by unfold putD;rw[q]⟩
 have il:i < Γ.length:=by rcases hput with ⟨q,_⟩ | ⟨q,_⟩ <;> exact(gS0 q).1
 have other:∀ {j:Nat},j≠i->(putD Γ i d1)[j]?=Γ[j]?:=fun z=>by
  rcases hput with ⟨_,q⟩ | ⟨_,q⟩ <;> rw[q,az (Ne.symm z)]
 have same:∀ {s:Sl},(putD Γ i d1)[i]?=some (some s)->(s=.ow d1/\Γ[i]?=some (some (Sl.ow d0)))\/(s=.ln d1/\Γ[i]?=some (some (Sl.ln d0))):=fun {s} q=>by
  rcases hput with ⟨a,b⟩ | ⟨a,b⟩
  ·rw[b,aC il] at q;cases q;exact .inl ⟨rfl,a⟩
  ·rw[b,aC il] at q;cases q;exact .inr ⟨rfl,a⟩
 have hld:∀ {j x},Hld (putD Γ i d1) j x->(j=i/\x=d1)\/(j≠i/\Hld Γ j x):=fun {j x} q=>by
  by_cases z:j=i
  ·subst z
   left
   rcases q with q | q <;> rcases same q with ⟨h,_⟩ | ⟨h,_⟩ <;> cases h <;> exact⟨rfl,rfl⟩
  ·right;exact⟨z,by unfold Hld at q ⊢;rw[other z] at q;exact q⟩
 have hld':∀ {j x},Hld (putD Γ i d1) j x->∃ y,Hld Γ j y:=fun q=>by
  rcases hld q with ⟨rfl,_⟩ | ⟨_,q⟩
  ·exact⟨_,hh⟩
  ·exact⟨_,q⟩
 refine⟨?_,?_,?_,?_,?_,?_,?_,?_,e.keep,e.new,?_,?_⟩
 ·intro b u q;have z:b≠p:=fun z=>by subst z;rw[b0] at q;cases q
  rw[ah z];exact e.sub b u q
 ·rcases hput with ⟨_,q⟩ | ⟨_,q⟩ <;> rw[q,List.length_set] <;> exact e.len
 ·intro j d q;by_cases z:j=i
  ·subst z;rcases same q with ⟨h,_⟩ | ⟨h,_⟩ <;> cases h
  ·rw[other z] at q;exact e.fz j d q
 ·intro j d q;rcases hld q with ⟨rfl,rfl⟩ | ⟨z,q⟩
  ·exact⟨p,hp,b0,r⟩
  ·obtain⟨p',a,b,c⟩:=e.hl j d q;have ne:p'≠p:=fun y=>z (e.dis j i _ _ p q hh (y ▸ a) hp);exact⟨p',a,b,c.mono (aE.refl F) (ah ne)⟩
 ·intro j d p' q a;by_cases z:j=i
  ·subst z;rcases same q with ⟨h,g⟩ | ⟨h,g⟩
   ·exact e.ow j _ p' g a
   ·cases h
  ·rw[other z] at q;exact e.ow j d p' q a
 ·intro j d p' q a;by_cases z:j=i
  ·subst z;rcases same q with ⟨h,g⟩ | ⟨h,g⟩
   ·cases h
   ·exact e.ln j _ p' g a
  ·rw[other z] at q;exact e.ln j d p' q a
 ·intro j k d d' p' q1 q2;obtain⟨y1,h1⟩:=hld' q1;obtain⟨y2,h2⟩:=hld' q2;exact e.dis j k y1 y2 p' h1 h2
 ·intro j p' q;obtain⟨a,d,b⟩:=e.par j p' q;refine⟨a,?_⟩;by_cases z:j=i
  ·subst z;rcases hput with ⟨c,_⟩ | ⟨_,c⟩
   ·rw[b] at c;cases c
   ·exact⟨_,by rw[c,aC il]⟩
  ·exact⟨d,by rw[other z];exact b⟩
 ·intro b u q n;have z:b≠p:=fun z=>by
   subst z;rcases hh with g | g
   ·rw[e.ow i _ _ g hp] at q;cases q
   ·exact n i (e.ln i _ _ g hp)
  rw[ah z];exact e.rest b u q n
 ·intro b q;by_cases z:b=p
  ·subst z;rw[ar] at q;cases q
  ·rw[ah z] at q;exact e.dom b q
noncomputable def sg (Γ:G) (i:Nat):Option (Addr×Ls0×List D):=match Γ[i]? with
 | some (some (.ow (.ins C ns xs)))=>some (C,ns,xs)
 | some (some (.ln (.ins C ns xs)))=>some (C,ns,xs)
 | _=>none
theorem uw(h:sg Γ i=some (C,ns,xs)):Hld Γ i (.ins C ns xs):=by
 unfold sg at h;split at h
 ·cases h;rename_i q;exact .inl q
 ·cases h;rename_i q;exact .inr q
 ·cases h
theorem wO {f:Str} {v:V}:∀ {fs:List (Str×V)},f∉fs.map (·.1)->gX f v fs=fs++[(f,v)]
 | [],_=>rfl
 | (g,x)::r,h=>by
  simp only[List.map_cons,List.mem_cons,not_or] at h;show (if g=f then _ else _)=_;rw[if_neg (Ne.symm h.1),wO h.2];rfl
theorem aA.snoc(r:aA K F xs vs){d:D}(q:Rep K F d v):aA K F (xs++[d]) (vs++[v]):=r.append ⟨v,[],rfl,q,rfl⟩
def oI (o:Option (Addr×Ls0×List D)) (k:Addr->Ls0->List D->Prop):Prop:=match o with
 | some (C,ns,xs)=>k C ns xs
 | none=>False
def B_ (C0:Addr) (i:Nat) (f:Str) (e3:TE3) (D:E3) (Γ:G):Prop:=e3 Γ fun r Γ1=>oI (sg Γ1 i) fun C ns xs=>C=C0/\(f∉ns/\ns.length < 1000)/\D.nx (putD Γ1 i (.ins C (ns++[f]) (xs++[r.d])))
theorem Ck{f:Str}(hC:Cls K C0)(hn:bO K C0 f)(h:Ref K te e3):GX K (ID K (jV i) te f) (B_ C0 i f e3):=by
 intro B F σ H Γ D D3 en k q;refine h B F σ H Γ _ _ en q fun v H1 Z=>?_;obtain⟨F1,Γ1,r,s1,e1,rv,q1⟩:=Z;obtain⟨F2,s2,e2,rp⟩:=e1.frozen rv;have q2:oI (sg Γ1 i) fun C ns xs=>C=C0/\(f∉ns/\ns.length < 1000)/\D3.nx (putD Γ1 i (.ins C (ns++[f]) (xs++[r.d]))):=q1;cases w:sg Γ1 i with
 | none=>rw[w] at q2;exact q2.elim
 | some t=>
  obtain⟨C,ns,xs⟩:=t;rw[w] at q2;obtain⟨rfl,⟨hf,hl⟩,q2⟩:=q2;obtain⟨p,a,b,dx,gs,c1,c2,c3⟩:=e2.hl i _ (uw w);refine⟨_,a,p,C,dx,gs,rfl,c1,hC,hn,?_,?_⟩
  ·have:=congrArg List.length c2;rw[lM0] at this;lia
  ·have hf':f∉gs.map (·.1):=by rw[c2];exact hf
   rw[wO hf'];have ow:Own K F2 (upd H1 p (.ins C dx (gs++[(f,v)]))) p (.ins C (ns++[f]) (xs++[r.d])):=⟨dx,gs++[(f,v)],ar,by rw[List.map_append,c2];rfl,by rw[List.map_append];exact c3.snoc rp⟩;exact k.nx F2 σ _ _ (s1.trans s2) (e2.Nx (uw w) a ow) q2
theorem lz(i:Nat){x f:Str}(hK:X.K=K)(hC:Cls K C0)(hn:bO K C0 f)(hx:P3B K X (.Name x px) (jV i) (bor i))(he:P3 K X e te e3)(hs:autoParam (swapsWith e (some (.Attribute (.Name x px) f p2)) pos.line X.env=pure false) wE) :
  P3S K X (.Assign [.Attribute (.Name x px) f p2] e pos) (ID K (jV i) te f) (B_ C0 i f e3):=⟨by subst hK;exact IT hx.pe he.pe hs,Ck hC hn he.rf⟩
theorem bj.push{x:V}:∀ {bs:List Bo} {vs:List V},bj K F σ bs vs->bj K F (σ++[some x]) bs vs
 | [],_,h=>h
 | .d d::bs,_,⟨v,ws,h1,h2,h3⟩=>⟨v,ws,h1,h2,bj.push h3⟩
 | .v i::bs,_,⟨v,ws,h1,h2,h3⟩=>⟨v,ws,h1,gM h2,bj.push h3⟩
theorem bj.ds:∀ {ds:List D} {vs:List V},aA K F ds vs->bj K F σ (ds.map Bo.d) vs
 | [],_,h=>h
 | _::_,_,⟨v,ws,h1,h2,h3⟩=>⟨v,ws,h1,h2,bj.ds h3⟩
theorem xg:∀ ds:List D,bP (ds.map Bo.d)=[]
 | []=>rfl
 | _::ds=>xg ds
theorem GP(ds:List D)(Γ:G):dU Γ ((ds.map Bo.d).map some)=ds.map fun d=>some (Sl.fz d):=by
 unfold dU;rw[List.map_map,List.map_map];rfl
theorem zM {cs:G} {j:Nat}:∀ ds:List D,newD (((ds.map Bo.d).map some).map bU) cs j=none
 | []=>by cases cs <;> rfl
 | _::ds=>by
  cases cs with
  | nil=>rfl
  | cons c cs=>exact zM (cs:=cs) ds
def Mt (Γa:G) (k:D->Prop):Prop:=match Γa with
 | some (.ln d)::_=>k d
 | _=>False
def Dj (C:Addr) (n:Nat) (S:S3) (t3:TA3) (Γ:G) (Q:RV->G->Prop):Prop:=t3 Γ fun ds Γ1=>ds.length + 1=n/\
 S (some (.ln (.ins C [] []))::ds.map fun d=>some (.fz d)) fun r Γa=>r=.fz .non/\Mt Γa fun d=>Q (.fr d) Γ1
theorem Cn{E:XK}{t3:TA3}(h:KN K t t3):Ref K (BY C (sp3 K n S) [] E t) (Dj C n S t3):=by
 intro B F σ H Γ Q QQ e q k;refine h B F σ H Γ _ _ e q fun vs H1 Z=>?_;obtain⟨F1,Γ1,ds,s1,e1,r1,hn,q1⟩:=Z;intro y dy hy hdy ne;rw[List.append_nil];have a1:=e1.alloc hdy (.own y);have hy':(upd H1 dy (.own y)) y=none:=by rw[ah (Ne.symm ne)];exact hy
 have e2:En K B F1 σ (upd (upd H1 dy (.own y)) y (.ins C dy [])) Γ1:=a1.alloc hy' _;have rv:jH K B F1 σ (upd (upd H1 dy (.own y)) y (.ins C dy [])) Γ1 (.ref y) (.fr (.ins C [] [])):=⟨y,rfl,a1.nof hy',⟨dy,[],ar,rfl,rfl⟩,e1.dom _ hy,a1.nK hy'⟩;have ep:=e2.push rv;have hl:σ.length=Γ1.length:=e1.len;have rb:bj K F1 (σ++[some (V.ref y)]) (Bo.v Γ1.length::ds.map Bo.d) (.ref y::vs):=⟨_,_,rfl,by rw[<- hl];exact kH,(bj.ds r1).push⟩;have nd:(bP (Bo.v Γ1.length::ds.map Bo.d)).Nodup:=by
  show (Γ1.length::bP (ds.map Bo.d)).Nodup;rw[xg];simp
 have eG:dU (Γ1++[some (Sl.ow (.ins C [] []))]) ((Bo.v Γ1.length::ds.map Bo.d).map some)=some (.ln (.ins C [] []))::ds.map fun d=>some (.fz d):=by
  rw[List.map_cons,<- GP ds (Γ1++[some (Sl.ow (.ins C [] []))])];show (some (Bo.v Γ1.length)).bind (tK _)::_=_
  congr 1
  show je (Γ1++[some (Sl.ow (.ins C [] []))])[Γ1.length]?=_;rw[kH];rfl
 have len:(V.ref y::vs).length=n:=by rw[<- hn,List.length_cons,r1.length]
 refine⟨len,F1,_,_,_,ep.args rb nd,jG,by rw[eG];exact q1,fun r Γa q2 v H' F' e3 rv'=>?_⟩;obtain⟨rfl,q2⟩:=q2;obtain⟨sm,eb,_⟩:=ep.called e3 rv';have ev:v=.non:=rv';cases Γa with
 | nil=>exact q2.elim
 | cons s Γr=>
  cases s with
  | none=>exact q2.elim
  | some s=>
   cases s with
   | fz d=>exact q2.elim
   | ow d=>exact q2.elim
   | ln d=>
    have q2:Q (.fr d) Γ1:=q2;have eq:bD (((Bo.v Γ1.length::ds.map Bo.d).map some).map bU) (Γ1++[some (Sl.ow (.ins C [] []))]) (some (.ln d)::Γr)=Γ1++[some (Sl.ow d)]:=by
     refine List.ext_getElem? fun j=>?_;rw[dR];show Option.map (jT (if Γ1.length=j then some d else newD (((ds.map Bo.d).map some).map bU) Γr j)) _=_;by_cases hj:Γ1.length=j
     ·subst hj;rw[if_pos rfl,kH,kH];rfl
     ·rw[if_neg hj,zM];have:(Γ1++[some (Sl.ow d)])[j]?=(Γ1++[some (Sl.ow (.ins C [] []))])[j]?:=by
       rcases Nat.lt_or_ge j Γ1.length with z | z
       ·rw[List.getElem?_append_left z,List.getElem?_append_left z]
       ·rw[List.getElem?_eq_none (by simp;lia),List.getElem?_eq_none (by simp;lia)]
      rw[this];cases (Γ1++[some (Sl.ow (.ins C [] []))])[j]? with
      | none=>rfl
      | some s=>cases s with
       | none=>rfl
       | some s=>cases s <;> rfl
    rw[eq] at eb;obtain⟨e5,rv5⟩:=eb.pop;exact⟨ev,k _ _ ⟨F',Γ1,.fr d,s1.trans sm,e5,rv5,q2⟩⟩
section
variable {x:Str}{p:Pos}{t3:TA3}
theorem c5(M:Mk X.K C f)(F:aG X.prog X.w X.K X.mg X.base CX0 k f fd ps (sp3 K n S))(hr:bF (k + 1) X.A)(hg:Gl X x)(hm:X.mg x=some (.ref C))(hb:Binds X.K fd ps [])(ha:P3A K X (e::es) t t3)(hdb:autoParam ((x == ("__debug__":Str))=false) wP)(he:autoParam (starEach (e::es) X.env=(false,eval e X.env)::starEach es X.env) wE)(hpl:autoParam ((backTo pos (starEach es X.env)).any (·.1)=false) wE) :
  P3 K X (.Call (.Name x p) (e::es) [] pos) (BY C (sp3 K n S) [] E0 t) (Dj C n S t3):=⟨Ft M F hr hg hm hb .nil kC ha.pe hdb he hpl,Cn ha.rf⟩
end
noncomputable def signs (z:Str):List D:=z.cps.toList.map fun c=>D.str (sgn c)
def oS (d:D) (k:Str->Prop):Prop:=match d with
 | .str z=>k z
 | _=>False
theorem LQ{d:D}{k:Str->Prop}(h:oS d k):∃ z,d=.str z/\k z:=by
 cases d <;> first | exact h.elim | exact⟨_,rfl,h⟩
noncomputable def asc (z:Str):Bool:=z.cps.all (· < 128)
def iS3 (a3:TE3) (Γ:G) (Q:List D->G->Prop):Prop:=a3 Γ fun r Γ1=>oS r.d fun z=>asc z=true/\Q (signs z) Γ1
theorem tX(z:Str):(signs z).length=z.cps.size:=by simp [signs]
theorem Lc:ItR K F (Its z) (signs z):=by
 refine⟨fun i H' _ lt=>by rw[tX] at lt;exact lt,fun i H' _ e=>by rw[tX] at e;exact Nat.le_of_eq e.symm,fun i H' x H'' d _ hd y=>?_⟩;obtain⟨e1,c,hc,rfl⟩:=y;refine .inl ⟨e1,?_⟩;unfold signs at hd;rw[List.getElem?_map,Array.getElem?_toList,hc] at hd;cases hd;rfl
theorem JT{l:Expr}{tl:TE}(h:P3 K X l tl l3):P3I K X tg l (Md tl) (iS3 l3):=⟨IW h.pe,fun B F σ H Γ Q R e q k=>
 h.rf B F σ H Γ _ _ e q fun v H' Z=>by
  obtain⟨F',Γ',r,s,e',rv,q'⟩:=Z;obtain⟨z,hz,ha,q'⟩:=LQ q';obtain⟨F2,s2,e2,r2⟩:=e'.frozen rv;rw[hz] at r2;exact⟨z,r2,ha,k _ H' F2 Γ' _ (s.trans s2) e2 Lc q'⟩⟩
section
variable {b f:Expr}{tb tf to:TE}
noncomputable def dS:D->Bool
 | .str _=>true
 | _=>false
theorem MM(T:TyS X.K):B3 K X (.builtin "isinstance") (fun xs H Q=>∃ x,xs=[x,.ty "str"]/\Kn H x/\Q (.bl (isS x)) H) (is3 "str" dS):=Ec (g:=fun _ v=>isS v) (D4 T) fun s h hk=>by
 rename_i F H d v;cases d <;> first
  | (cases h;rfl)
  | (cases hk;done)
  | (obtain⟨p,vs,rfl,_⟩:=h;rfl)
  | (obtain⟨p,rfl,_⟩:=h;rfl)
  | (obtain⟨p,dx,gs,rfl,_⟩:=h;rfl)
end
mutual
noncomputable def dt:D->PyData
 | .non=>.none
 | .bl b=>.bool b
 | .int i=>.int i
 | .str x=>.str x
 | .lst xs=>.list (dtL xs)
 | .tup xs=>.tuple (dtL xs)
 | .dct=>.dict []
 | .dcs k i=>.dict [(.str k,.int i)]
 | _=>.none
noncomputable def dtL:List D->List PyData
 | []=>[]
 | x::xs=>dt x::dtL xs
end
inductive Sh:Nat->Nat->D->Prop where
 | non:Sh 100 1 .non
 | bl (b:Bool):Sh 100 1 (.bl b)
 | int {i:Int} (h:i.natAbs < 10 ^ 60):Sh 100 1 (.int i)
 | str {x:Str} {n:Nat} (h:(PyData.shown (.str x)).length<=n):Sh n 1 (.str x)
 | dct:Sh 100 1 .dct
 | dcs {k:Str} {i:Int} {n:Nat} (h:i.natAbs < 10 ^ 60) (hn:(PyData.shown (.dict [(.str k,.int i)])).length<=n):Sh n 1 (.dcs k i)
 | lst {n k l:Nat} {xs:List D} (h:∀ x∈xs,Sh n k x) (hl:xs.length<=l):Sh (l * (n + 2) + 3) (k + 1) (.lst xs)
 | tup {n k l:Nat} {xs:List D} (h:∀ x∈xs,Sh n k x) (hl:xs.length<=l):Sh (l * (n + 2) + 3) (k + 1) (.tup xs)
 | up {n k n' k':Nat} {d:D} (h:Sh n k d) (h1:n<=n') (h2:k<=k'):Sh n' k' d
structure ShD (n k:Nat) (d:D):Prop where
 sh:(dt d).showable=true
 dp:(dt d).depth<=k
 ln:(dt d).shown.length<=n
 dt:∀ {K:Fg0} {F H:Hp} {v:V},aE F H->Rep K F d v->Dt K H v (dt d)
theorem Gb{i:Int}(h:i.natAbs < 10 ^ 60):(PyData.shown (.int i)).length<=100:=by
 have e:=int_text_length_le10 (k:=60) (by decide) h;show (Str.ofString (toString i)).length<=100;rw[ofString_length];lia
theorem yN{i:Int}(h:i.natAbs < 10 ^ 60):PyData.showable (.int i)=true:=by
 show decide (i.natAbs.log2 < 1920)=true;rw[decide_eq_true_eq];by_cases h0:i.natAbs=0
 ·rw[h0];decide
 ·rw[Nat.log2_lt h0];exact Nat.lt_of_lt_of_le (show i.natAbs < 2 ^ 200 from Nat.lt_trans h (by decide)) (Nat.pow_le_pow_right (by decide) (by decide))
theorem shL {n k:Nat}:∀ {xs:List D},(∀ x∈xs,ShD n k x)->PyData.showableAll (dtL xs)=true/\PyData.depthAll (dtL xs)<=k/\((PyData.shownAll (dtL xs)).map (·.length)).sum<=xs.length * n/\(PyData.shownAll (dtL xs)).length=xs.length/\
  ∀ {K:Fg0} {F H:Hp} {vs:List V},aE F H->aA K F xs vs->cW K H vs (dtL xs)
 | [],_=>⟨rfl,by simp [dtL,PyData.depthAll],by simp [dtL,PyData.shownAll],rfl,fun _ r=>by cases r;exact .nil⟩
 | x::xs,h=>by
  obtain⟨h1,h3,h4,h5,h6⟩:=shL (xs:=xs) fun y hy=>h y (List.mem_cons_of_mem _ hy);have e:=h x List.mem_cons_self;have e4:=e.ln;have e3:=e.dp;refine⟨?_,?_,?_,?_,fun s r=>?_⟩
  ·simp only[dtL,PyData.showableAll,e.sh,h1,Bool.and_self]
  ·simp only[dtL,PyData.depthAll];lia
  ·simp only[dtL,PyData.shownAll,List.map_cons,List.sum_cons,List.length_cons,Nat.add_mul,Nat.one_mul];lia
  ·simp only[dtL,PyData.shownAll,List.length_cons,h5]
  ·obtain⟨v,ws,rfl,r1,r2⟩:=r;exact .cons (e.dt s r1) (h6 s r2)
theorem Sh.spec{d:D}(h:Sh n k d):ShD n k d:=by
 induction h with
 | non=>exact⟨rfl,by simp [dt,PyData.depth],by decide,fun _ r=>by cases r;exact .non⟩
 | bl b=>exact⟨rfl,by simp [dt,PyData.depth],by cases b <;> decide,fun _ r=>by cases r;exact .bl b⟩
 | @int i h=>exact⟨yN h,by simp [dt,PyData.depth],Gb h,fun _ r=>by cases r;exact .int i⟩
 | @str x n h=>exact⟨rfl,by simp [dt,PyData.depth],h,fun _ r=>by cases r;exact .str x⟩
 | @lst n k l xs h hl ih=>
  obtain⟨h1,h3,h4,h5,h6⟩:=shL ih;refine⟨by simp only[dt,PyData.showable,h1],by simp only[dt,PyData.depth];lia,?_,fun s r=>?_⟩
  ·have e:=listText_len_le (PyData.shownAll (dtL xs));have e2:(PyData.shown (dt (.lst xs)))=listText (PyData.shownAll (dtL xs)):=by simp only[dt,PyData.shown]
   rw[e2];have e3:xs.length * n<=l * n:=Nat.mul_le_mul_right _ hl;have e4:l * (n + 2)=l * n + l * 2:=Nat.mul_add ..;lia
  ·obtain⟨p,vs,rfl,g,r⟩:=r;exact .lst (SqL.of (s _ _ g)) (h6 s r)
 | @tup n k l xs h hl ih=>
  obtain⟨h1,h3,h4,h5,h6⟩:=shL ih;refine⟨by simp only[dt,PyData.showable,h1],by simp only[dt,PyData.depth];lia,?_,fun s r=>?_⟩
  ·have e:=tupleText_len_le (PyData.shownAll (dtL xs));have e2:(PyData.shown (dt (.tup xs)))=tupleText (PyData.shownAll (dtL xs)):=by simp only[dt,PyData.shown]
   rw[e2];have e3:xs.length * n<=l * n:=Nat.mul_le_mul_right _ hl;have e4:l * (n + 2)=l * n + l * 2:=Nat.mul_add ..;lia
  ·obtain⟨p,vs,rfl,g,r⟩:=r;exact .tup (.inl (.inl (s _ _ g))) (h6 s r)
 | dct=>exact⟨rfl,by simp [dt,PyData.depth,PyData.depthKv],by decide,fun s r=>by obtain⟨p,rfl,h⟩:=r;exact .dct (s _ _ h)⟩
 | @dcs k i n h hn=>exact⟨by have:=yN h;simp only[dt,PyData.showable,PyData.showableKv] at this ⊢;simpa using this,by simp [dt,PyData.depth,PyData.depthKv],hn,fun s r=>by obtain⟨p,rfl,h⟩:=r;exact .dcs k i (s _ _ h)⟩
 | up h h1 h2 ih=>exact⟨ih.sh,Nat.le_trans ih.dp h2,Nat.le_trans ih.ln h1,ih.dt⟩
noncomputable def IB:D->Bool
 | .lst _=>true
 | .tup _=>true
 | _=>false
noncomputable def shw (d:D):Str:=(dt d).shown
theorem Sh.dtB{d:D}(h:Sh n k d)(hs:IB d=true)(s:aE F H)(r:fL K F H d v):∃ a,v=.ref a/\Dt K H v (dt d):=by
 cases d with
 | lst xs=>
  obtain⟨p,vs,rfl,g,r⟩:=r;refine⟨p,rfl,?_⟩;have go:∀ {n k:Nat} {d:D},Sh n k d->∀ xs,d=.lst xs->∀ x∈xs,∃ n k,Sh n k x:=by
   intro n k d h
   induction h with
   | lst h hl ih=>intro xs e x hx;cases e;exact⟨_,_,h x hx⟩
   | up h h1 h2 ih=>exact ih
   | _=>intro xs e;cases e
  have all:∀ {ys:List D} {ws:List V},(∀ x∈ys,∃ n k,Sh n k x)->aA K F ys ws->cW K H ws (dtL ys):=by
   intro ys
   induction ys with
   | nil=>intro ws _ r;cases r;exact .nil
   | cons y ys ih=>
    intro ws hh r;obtain⟨w,ws',rfl,r1,r2⟩:=r;obtain⟨n',k',hy⟩:=hh y List.mem_cons_self;exact .cons (hy.spec.dt s r1) (ih (fun z hz=>hh z (List.mem_cons_of_mem _ hz)) r2)
  exact .lst (SqL.of g) (all (go h xs rfl) r)
 | tup xs=>
  have r':Rep K F (.tup xs) v:=r;have q:=h.spec.dt s r';obtain⟨p,vs,rfl,_⟩:=r';exact⟨p,rfl,q⟩
 | _=>cases hs
section
variable {f:Expr}{tf:TE}
def DI (C0:Addr) (f:Str) (x:D) (Γ:G) (Q:RV->G->Prop):Prop:=match x with
 | .ins C ns xs=>C=C0/\m1 ((ns.zip xs).lookup f) (fun d=>Q (.fz d) Γ) ⟨⟩
 | _=>False
theorem ej{f:Str}(hK:X.K=K)(ha:P3B K X a ta a3)(hC:Cls K C0)(hn:bO K C0 f)(hb:autoParam (attributeBase a f X.env (eval a X.env)=eval a X.env) wE) :
  P3 K X (.Attribute a f pos) (La K ta f) (Aw (DI C0 f) a3):=⟨by subst hK;exact I9 ha.pe hb,ye (r:=fun x H1 Q=>∃ a C dx fs v,x=.ref a/\H1 a=some (.ins C dx fs)/\Cls K C/\bO K C f/\fs.lookup f=some v/\Q v H1) (ta:=ta) (by
 intro B F σ H Γ x dx Q QQ e rx q k;unfold DI at q;split at q
 ·obtain⟨rfl,q⟩:=q;obtain⟨d,hd,q⟩:=dP.mp q;obtain⟨p,dx,gs,rfl,h1,h2,h3⟩:=rx;obtain⟨v,hv,r⟩:=aA.lookup h2 h3 hd;exact⟨p,_,dx,gs,v,rfl,h1,hC,hn,hv,k _ _ (g8 e r q)⟩
 ·exact q.elim) ha.rf⟩
noncomputable def kt (zs:Ls0):D:=.ktup (zs.map .str)
structure KQ (K:Fg0) (mg:SV) (x:Str) (p:Addr) (zs:Ls0):Prop where
 mg:mg x=some (.ref p)
 sq:∀ F:Hp,SqT K F p (zs.map V.str)
theorem aA.strs:∀ (zs:Ls0),aA K F (zs.map D.str) (zs.map V.str)
 | []=>rfl
 | z::zs=>⟨_,_,rfl,rfl,aA.strs zs⟩
theorem hU{x:Str}{zs:Ls0}(hg:Gl X x)(hm:KQ K X.mg x p zs)(hd:autoParam ((x == ("__debug__":Str))=false) wP):P3 K X (.Name x pos) (tC (.ref p)) (t3C (kt zs)):=
 ⟨vz hg hm.mg rfl hd,rC fun F=>⟨p,_,rfl,hm.sq F,aA.strs zs⟩⟩
end
def oIt (o:Option (Addr×Ls0×List D)) (k:Addr->Ls0->List D->Prop) (_:Tag k):Prop:=oI o k
theorem C8{k:Addr->Ls0->List D->Prop}{t:Tag k}:oIt (some (C,ns,xs)) k t=k C ns xs:=rfl
def oSt (o:D) (k:Str->Prop) (_:Tag k):Prop:=oS o k
theorem FI{k:Str->Prop}{t:Tag k}:oSt (.str z) k t=k z:=rfl
def HF (o:G) (k:D->Prop) (_:Tag k):Prop:=Mt o k
theorem Gm{d:D}{k:D->Prop}{t:Tag k}:HF (some (.ln d)::Γ) k t=k d:=rfl
section
variable {QI:List D->G->Prop}{f:Str}{t3:TA3}{k1 k2:Str}{d1 d2 d0:D}{l3 h3:TO3}
theorem EO:B_ C0 i f e3 D1 Γ=(e3 Γ fun r Γ1=>oIt (sg Γ1 i) (fun C ns xs=>C=C0/\(f∉ns/\ns.length < 1000)/\D1.nx (putD Γ1 i (.ins C (ns++[f]) (xs++[r.d])))) ⟨⟩):=rfl
theorem Me:iS3 e3 Γ QI=(e3 Γ fun r Γ1=>oSt r.d (fun z=>asc z=true/\QI (signs z) Γ1) ⟨⟩):=rfl
end
def bT (c:Bool) (p q:Prop) (_:Tag p) (_:Tag q):Prop:=match c with
 | true=>p
 | false=>q
theorem NX{p q:Prop}{s:Tag p}{t:Tag q}:bT true p q s t=p:=rfl
theorem NY{p q:Prop}{s:Tag p}{t:Tag q}:bT false p q s t=q:=rfl
section
variable {QT:Bool->G->Prop}{QA:List D->G->Prop}{QL:List Bo->G->Prop}{QG:G->Prop}{is:List Nat}{t u:TS3}{c3:TB3}{B3:TT3}{t3:TA3}{tb:cV}{d:D}{l3 h3 s3:TO3}{bb:oF}
theorem Ml:Cb t u D1 Γ=t { D1 with nx:=u D1 } Γ:=rfl
theorem J2:xa D1 Γ=D1.nx Γ:=rfl
theorem Mj:Ca i e3 D1 Γ=(e3 Γ fun r Γ1=>aW Γ1 i/\D1.nx (Γ1.set i (some r.sl))):=rfl
theorem Hz:AG e3 D1 Γ=e3 Γ D1.rt:=rfl
theorem J7:DR e3 D1 Γ=(e3 Γ fun _ Γ1=>D1.nx Γ1):=rfl
theorem Mh:tst e3 Γ QT=(e3 Γ fun x Γ1=>match x.d with | .bl k=>QT k Γ1 | _=>False):=rfl
theorem HC:bor i Γ QB=((∃ d,Gat Γ i=some d)/\QB (.v i) Γ):=rfl
theorem HD:bof e3 Γ QB=(e3 Γ fun x Γ1=>QB (.d x.d) Γ1):=rfl
theorem z8:eH a3 tb Γ QL=(a3 Γ fun x Γ1=>tb Γ1 fun xs Γ2=>QL (x::xs) Γ2):=rfl
theorem Dz:qp Γ QL=QL [] Γ:=rfl
theorem DA:ip e3 t3 Γ QA=(e3 Γ fun x Γ1=>t3 Γ1 fun xs Γ2=>QA (x.d::xs) Γ2):=rfl
theorem HA:yw Γ QA=QA [] Γ:=rfl
theorem h_c:t3C d Γ Q=Q (.fz d) Γ:=rfl
theorem Mq:Kz A3 B3 Γ QT=(A3 Γ fun c Γ1=>bT c (B3 Γ1 QT) (QT false Γ1) ⟨⟩ ⟨⟩):=by
 show (A3 Γ fun c Γ1=>match c with | true=>B3 Γ1 QT | false=>QT false Γ1)=_
 congr 1
theorem NQ:or3 A3 B3 Γ QT=(A3 Γ fun c Γ1=>bT c (QT true Γ1) (B3 Γ1 QT) ⟨⟩ ⟨⟩):=by
 show (A3 Γ fun c Γ1=>match c with | true=>QT true Γ1 | false=>B3 Γ1 QT)=_
 congr 1
theorem Mm:yu A3 Γ QT=(A3 Γ fun c Γ1=>QT (!c) Γ1):=rfl
theorem HB:Jx t3 Γ Q=(t3 Γ fun xs Γ1=>xs.length<=sizeLine/\Q (.fr (.lst xs)) Γ1):=rfl
theorem Hy:As t3 Γ Q=(t3 Γ fun xs Γ1=>xs.length<=sizeLine/\Q (.fz (.tup xs)) Γ1):=rfl
theorem Mp:Ky i e3 Γ Q=((∃ xs,c7 Γ i=some xs)/\e3 Γ fun r Γ1=>∃ xs,c7 Γ1 i=some xs/\xs.length < sizeLine/\Q (.fz .non) (putD Γ1 i (.lst (xs++[r.d])))):=rfl
theorem JV:G_ is e3 D1 Γ=(e3 Γ fun r Γ1=>∃ ds Γ',r.d=.tup ds/\gives Γ1 is ds=some Γ'/\frees Γ1 is ds/\D1.nx Γ'):=rfl
theorem JU:G9 a3 Γ QO=(a3 Γ fun x Γ1=>∃ i,x.at Γ1=some (.int i)/\QO (some i) Γ1):=rfl
theorem J1:Hl Γ QO=QO none Γ:=rfl
abbrev hI (Iv:Nat->G->Prop) (k:Nat) (Γ:G) (_:Tag Iv):Prop:=Iv k Γ
def Ho (xs:List D) (Γ1:G) (g3:TG3) (b3:TS3) (E1:E3) (_:Tag (g3,b3,E1)):Prop:=∃ Iv:Nat->G->Prop,Iv 0 Γ1/\(∀ k d Γ,xs[k]?=some d->Iv k Γ->g3 d Γ fun Γ'=>b3 { E1 with nx:=Iv (k + 1),ct:=Iv (k + 1),bk:=E1.nx } Γ')/\∀ Γ,Iv xs.length Γ->E1.nx Γ
theorem Mo{b3:TS3}{t1:Tag (i3,g3,b3)}{t2:Tag D1}:Mu i3 g3 b3 D1 Γ t1 t2=(i3 Γ fun xs Γ1=>Ho xs Γ1 g3 b3 D1 ⟨⟩):=rfl
theorem cU{b3:TS3}{t:Tag (g3,b3,E1)}(Iv:Nat->G->Prop)(h0:Iv 0 Γ1)(hs:∀ k d Γ,xs[k]?=some d->Iv k Γ->g3 d Γ fun Γ'=>b3 { E1 with nx:=fun Γ=>hI Iv (k + 1) Γ ⟨⟩,ct:=fun Γ=>hI Iv (k + 1) Γ ⟨⟩,bk:=E1.nx } Γ')(he:∀ Γ,Iv xs.length Γ->E1.nx Γ):Ho xs Γ1 g3 b3 E1 t:=⟨Iv,h0,hs,he⟩
abbrev hJ (Iv:Nat->List D->G->Prop) (k:Nat) (ys:List D) (Γ:G) (_:Tag Iv):Prop:=Iv k ys Γ
def HM (xs:List D) (Γ1:G) (fr:On) (g3:TG3) (e3:TE3) (Q:RV->G->Prop) (_:Tag (fr,g3,e3,Q)):Prop:=∃ Iv:Nat->List D->G->Prop,Iv 0 [] (dU Γ1 (dj fr))/\
 (∀ k d ys Γc,xs[k]?=some d->ys.length=k->Iv k ys Γc->g3 d Γc fun Γ2=>e3 Γ2 fun r Γ3=>Iv (k + 1) (ys++[r.d]) Γ3)/\∀ ys Γc,ys.length=xs.length->Iv xs.length ys Γc->Q (.fr (.lst ys)) (bD fr Γ1 Γc)
theorem J8{t1:Tag (fr,i3,g3,e3)}{t2:Tag Q}:HN fr i3 g3 e3 Γ Q t1 t2=(i3 Γ fun xs Γ1=>xs.length < sizeLine/\HM xs Γ1 fr g3 e3 Q ⟨⟩):=rfl
theorem b8{t:Tag (fr,g3,e3,Q)}(Iv:Nat->List D->G->Prop)(h0:Iv 0 [] (dU Γ1 (dj fr)))(hs:∀ k d ys Γc,xs[k]?=some d->ys.length=k->Iv k ys Γc->g3 d Γc fun Γ2=>e3 Γ2 fun r Γ3=>hJ Iv (k + 1) (ys++[r.d]) Γ3 ⟨⟩)(he:∀ ys Γc,ys.length=xs.length->Iv xs.length ys Γc->Q (.fr (.lst ys)) (bD fr Γ1 Γc)):HM xs Γ1 fr g3 e3 Q t:=⟨Iv,h0,hs,he⟩
def DW (xs:List D) (Γ1:G) (fr:On) (g3:TG3) (b3:oF) (Q:RV->G->Prop) (_:Tag (fr,g3,b3,Q)):Prop:=zS xs g3 b3 [] (dU Γ1 (dj fr)) fun ys Γc=>ys.length < sizeLine/\Q (.fr (.lst ys)) (bD fr Γ1 Γc)
theorem Gg{t1:Tag (fr,i3,g3,bb)}{t2:Tag Q}:DX fr i3 g3 bb Γ Q t1 t2=(i3 Γ fun xs Γ1=>DW xs Γ1 fr g3 bb Q ⟨⟩):=rfl
theorem Bj{b3:oF}{t:Tag (fr,g3,b3,Q)}(Iv:Nat->List D->G->Prop)(h0:Iv 0 [] (dU Γ1 (dj fr)))(hs:∀ k d ys Γ,xs[k]?=some d->Iv k ys Γ->g3 d Γ fun Γ'=>b3 ys Γ' fun ys Γ=>hJ Iv (k + 1) ys Γ ⟨⟩)(he:∀ ys Γc,Iv xs.length ys Γc->ys.length < sizeLine/\Q (.fr (.lst ys)) (bD fr Γ1 Γc)):DW xs Γ1 fr g3 b3 Q t:=⟨Iv,h0,hs,he⟩
theorem Km:eqN (n + 1) (.lst xs) (.lst [])=some xs.isEmpty:=by cases n <;> cases xs <;> rfl
theorem Ko{a b c:Int}:eqN (n + 1) (.lst [.int a,.int b,.int c]) (.lst [.int a,.int b,.int c])=some true:=by
 have:=sJ (n:=n) [a,b,c] [a,b,c];rw[decide_eq_true rfl] at this;exact this
def xk (S:S3) (A:G) (L:On) (Γ1:G) (Q:RV->G->Prop) (_:Tag Q):Prop:=S A (fun r Γa=>Q r (bD L Γ1 Γa))
def Mg (S:S3) (A:G) (Γ1:G) (Q:RV->G->Prop) (_:Tag Q):Prop:=S A (fun r Γa=>r=.fz .non/\HF Γa (fun d=>Q (.fr d) Γ1) ⟨⟩)
theorem Ae{t3:cV}:fK n S t3 Γ Q=(t3 Γ fun bs Γ1=>bs.length=n/\(bP bs).Nodup/\xk S (dU Γ1 (bs.map some)) ((bs.map some).map bU) Γ1 Q ⟨⟩):=rfl
theorem Ju{t3:cV}:zN C m n S o3 t3 Γ Q=(o3 Γ fun x Γ1=>(∃ ns xs,x.at Γ1=some (.ins C ns xs)/\m∉ns)/\t3 Γ1 fun bs Γ2=>bs.length + 1=n/\(bP (x::bs)).Nodup/\xk S (dU Γ2 ((x::bs).map some)) (((x::bs).map some).map bU) Γ2 Q ⟨⟩):=rfl
theorem Jv{t3:TA3}:Dj C n S t3 Γ Q=(t3 Γ fun ds Γ1=>ds.length + 1=n/\Mg S (some (.ln (.ins C [] []))::ds.map fun d=>some (.fz d)) Γ1 Q ⟨⟩):=rfl
def bG (c:Bool) (t u:TS3) (E1:E3) (Γ:G) (_:Tag (t,u,E1)):Prop:=match c with
 | true=>t E1 Γ
 | false=>u E1 Γ
theorem N3{s:Tag (t,u,D1)}:bG true t u D1 Γ s=t D1 Γ:=rfl
theorem N4{s:Tag (t,u,D1)}:bG false t u D1 Γ s=u D1 Γ:=rfl
theorem qa{c:Bool}{s:Tag (t,u,D1)}(h1:c=true->t D1 Γ)(h2:c=false->u D1 Γ):bG c t u D1 Γ s:=by
 cases c with
 | true=>exact h1 rfl
 | false=>exact h2 rfl
theorem Mn:Ba A3 t u D1 Γ=(A3 Γ fun c Γ1=>bG c t u D1 Γ1 ⟨⟩):=by
 show (A3 Γ fun c Γ1=>match c with | true=>t D1 Γ1 | false=>u D1 Γ1)=_
 congr 1
theorem NT{e:D}:ip (t3C e) t3 Γ QA=(t3 Γ fun xs Γ2=>QA (e::xs) Γ2):=rfl
theorem Hx{d e:D}:As (ip (t3C d) (ip (t3C e) yw)) Γ Q=Q (.fz (.tup [d,e])) Γ:=by
 show (2<=sizeLine/\Q (.fz (.tup [d,e])) Γ)=_;exact propext ⟨fun h=>h.2,fun h=>⟨by rw[sizeLine_eq];decide,h⟩⟩
theorem NU{d e:D}:ip (As (ip (t3C d) (ip (t3C e) yw))) t3 Γ QA=(t3 Γ fun xs Γ2=>QA (.tup [d,e]::xs) Γ2):=by
 show As (ip (t3C d) (ip (t3C e) yw)) Γ (fun x Γ1=>t3 Γ1 fun xs Γ2=>QA (x.d::xs) Γ2)=_;rw[Hx];rfl
end
theorem ln0{α:Type}{us:List α}(h:us.length=0):us=[]:=List.eq_nil_of_length_eq_zero h
theorem ln1{α:Type}{us:List α}(h:us.length=1):∃ a,us=[a]:=by
 match us,h with
 | [a],_=>exact⟨a,rfl⟩
theorem ln2{α:Type}{us:List α}(h:us.length=2):∃ a b,us=[a,b]:=by
 match us,h with
 | [a,b],_=>exact⟨a,b,rfl⟩
theorem ln3{α:Type}{us:List α}(h:us.length=3):∃ a b c,us=[a,b,c]:=by
 match us,h with
 | [a,b,c],_=>exact⟨a,b,c,rfl⟩
theorem ln4{α:Type}{us:List α}(h:us.length=4):∃ a b c d,us=[a,b,c,d]:=by
 match us,h with
 | [a,b,c,d],_=>exact⟨a,b,c,d,rfl⟩
theorem ln5{α:Type}{us:List α}(h:us.length=5):∃ a b c d e,us=[a,b,c,d,e]:=by
 match us,h with
 | [a,b,c,d,e],_=>exact⟨a,b,c,d,e,rfl⟩
section
noncomputable def Bs.hid (B:Bs) (p:Addr) (o:HO):Bs:=⟨B.F,upd B.H p o,B.own⟩
theorem En.hide(e:En K B F σ H Γ){o:HO}(hF:F p=none)(hH:H p=some o)(hn:∀ (i:Nat) (d:D),Hld Γ i d->σ[i]?≠some (some (V.ref p))):En K (B.hid p o) F σ H Γ where
 sub:=e.sub
 len:=e.len
 fz:=e.fz
 hl:=e.hl
 ow:=fun i d p' h a=>by
  have z:p'≠p:=fun z=>hn i d (.inl h) (z ▸ a);show upd B.H p o p'=none;rw[ah z];exact e.ow i d p' h a
 ln:=e.ln
 dis:=e.dis
 par:=e.par
 keep:=e.keep
 new:=fun b u h=>by
  rcases e.new b u h with q | q
  ·exact .inl q
  ·have z:b≠p:=fun z=>by subst z;rw[hF] at h;cases h
   exact .inr (by show upd B.H p o b=none;rw[ah z];exact q)
 rest:=fun b u h n=>by
  by_cases z:b=p
  ·subst z;have h:upd B.H b o b=some u:=h;rw[ar] at h;cases h;exact hH
  ·have h:upd B.H p o b=some u:=h;rw[ah z] at h;exact e.rest b u h n
 dom:=fun b h=>by
  have z:b≠p:=fun z=>by subst z;rw[hH] at h;cases h
  show upd B.H p o b=none;rw[ah z];exact e.dom b h
theorem En.BP{o:HO}(e:En K (B.hid p o) F σ H Γ)(hB:B.H p=none)(hF:B.F p=none)(hn:∀ i,(i,p)∉B.own) :
  En K B F σ H Γ/\H p=some o/\F p=none/\∀ (i:Nat) (d:D),Hld Γ i d->σ[i]?≠some (some (V.ref p)):=by
 have at_p:(B.hid p o).H p=some o:=ar;have ne:∀ {b:Addr},b≠p->(B.hid p o).H b=B.H b:=fun z=>ah z;have un:∀ {b:Addr},(B.hid p o).H b=none->B.H b=none:=fun {b} h=>by
  have z:b≠p:=fun z=>by subst z;rw[at_p] at h;cases h
  rw[<- ne z];exact h
 refine⟨⟨e.sub,e.len,e.fz,e.hl,fun i d q h a=>un (e.ow i d q h a),e.ln,e.dis,e.par,e.keep,fun b u h=>(e.new b u h).imp id un,fun b u h n=>e.rest b u ?_ n,fun b h=>un (e.dom b h)⟩,e.rest p o at_p hn,?_,fun i d h a=>?_⟩
 ·have z:b≠p:=fun z=>by subst z;rw[hB] at h;cases h
  rw[ne z];exact h
 ·cases q:F p with
  | none=>rfl
  | some u=>
   rcases e.new p u q with z | z
   ·rw[show (B.hid p o).F p=B.F p from rfl,hF] at z;cases z
   ·rw[at_p] at z;cases z
 ·rcases h with h | h
  ·have z:=e.ow i d p h a;rw[at_p] at z;cases z
  ·exact hn i (e.ln i d p h a)
def frL (r:RV) (k:List D->Prop):Prop:=match r with
 | .fr (.lst xs)=>k xs
 | _=>False
theorem yQ{k:List D->Prop}(h:frL r k):∃ xs,r=.fr (.lst xs)/\k xs:=by
 cases r with
 | fz d=>exact h.elim
 | two _ _=>exact h.elim
 | rws _=>exact h.elim
 | tol _ _ _=>exact h.elim
 | fr d=>cases d <;> first | exact h.elim | exact⟨_,rfl,h⟩
def K5 (a3 b3:TE3) (Γ:G) (Q:RV->G->Prop):Prop:=a3 Γ fun r Γ1=>frL r fun xs=>b3 Γ1 fun r' Γ2=>frL r' fun ys=>Q (.two xs ys) Γ2
variable {b:Expr}{tb:TE}{a3 b3:TE3}
theorem Jb{x1}(ha:P3 K X a ta a3)(hb:P3 K X b tb b3)(hs:autoParam (starEach [a,b] X.env=(false,eval a X.env)::starEach [b] X.env) wE)(hs2:autoParam (starEach [b] X.env=(false,eval b X.env)::starEach [] X.env) wE):P3 K X (.Tuple [a,b] x1 pos) (Il (nj ta (nj tb qh))) (K5 a3 b3):=⟨CH (cv ha.pe (cv hb.pe jx hs2) hs),by
 intro B F σ H Γ Q QQ e q k;refine ha.rf B F σ H Γ _ _ e q fun v H1 Z=>?_;obtain⟨F1,Γ1,r,s1,e1,rv,q1⟩:=Z;obtain⟨xs,rfl,q1⟩:=yQ q1;obtain⟨p,rfl,f1,⟨vs,h1,r1⟩,b1,n1⟩:=rv;have bf:B.F p=none:=by
  cases z:B.F p with
  | none=>rfl
  | some o=>have:=e1.keep _ _ z;rw[f1] at this;cases this
 have no:∀ i,(i,p)∉B.own:=fun i z=>by
  obtain⟨x,d,y⟩:=e1.par i p z;exact n1 i d (.inr y) x
 refine hb.rf (B.hid p (.lst vs)) F1 σ H1 Γ1 _ _ (e1.hide f1 h1 n1) q1 fun w H2 Z=>?_;obtain⟨F2,Γ2,r',s2,e2,rv2,q2⟩:=Z;obtain⟨ys,rfl,q2⟩:=yQ q2;obtain⟨q',rfl,f2,⟨ws,h2,r2⟩,b2,n2⟩:=rv2;have ne:q'≠p:=fun z=>by
  have b2:upd B.H p (.lst vs) q'=none:=b2;rw[z,ar] at b2;cases b2
 have b2':B.H q'=none:=by
  have b2:upd B.H p (.lst vs) q'=none:=b2;rw[ah ne] at b2;exact b2
 obtain⟨e3,h3,f3,n3⟩:=e2.BP b1 bf no;refine⟨by show 2<=sizeLine;rw[sizeLine_eq];lia,fun l hl=>k _ _ ⟨F2,Γ2,.two xs ys,s1.trans s2,e3.alloc hl _,⟨l,p,q',vs,ws,rfl,ar,?_,?_,r1.mono s2,r2,Ne.symm ne,fun z hz=>?_⟩,q2⟩⟩
 ·rw[ah (aJ h3 hl)];exact h3
 ·rw[ah (aJ h2 hl)];exact h2
 ·rcases hz with rfl | rfl | rfl
  ·exact⟨e3.nof hl,e3.dom _ hl,e3.nK hl⟩
  ·exact⟨f3,b1,n3⟩
  ·exact⟨f2,b2',n2⟩⟩
def iT3 (a3:TE3) (Γ:G) (Q:List D->G->Prop):Prop:=a3 Γ fun r Γ1=>∃ xs,r.d=.tup xs/\Q xs Γ1
theorem Dw{l:Expr}{tl:TE}(hK:X.K=K)(h:P3 K X l tl l3):P3I K X tg l (Mc K tl) (iT3 l3):=⟨by subst hK;exact IV h.pe,fun B F σ H Γ Q R e q k=>
 h.rf B F σ H Γ _ _ e q fun v H' Z=>by
  obtain⟨F',Γ',r,s,e',rv,xs,hx,q'⟩:=Z;obtain⟨F2,s2,e2,r2⟩:=e'.frozen rv;rw[hx] at r2;obtain⟨p,vs,rfl,h1,h2⟩:=r2;refine⟨p,rfl,⟨vs,SqT.of (e2.sub _ _ h1)⟩,k _ H' F2 Γ' xs (s.trans s2) e2 ⟨fun i H'' sm lt=>?_,fun i H'' sm ei=>?_,fun i H'' x H3 d sm hd y=>?_⟩ q'⟩
  ·rw[<- h2.length] at lt;exact⟨vs,vs[i],SqT.of (sm _ _ h1),by simp [lt]⟩
  ·exact⟨vs,SqT.of (sm _ _ h1),by rw[h2.length];lia⟩
  ·obtain⟨e1,y⟩:=y;obtain⟨d',hd',r⟩:=h2.Gk (y vs (SqT.of (sm _ _ h1)));rw[hd] at hd';cases hd';exact .inl ⟨e1,r⟩⟩
end
open PySem L2 PySem.Spec PyProof.Rows
noncomputable def wd (i:Int):List Nat:=(toString i).toList.map Char.toNat
noncomputable def tl:Li0->List Nat
 | []=>[93]
 | i::is=>44::32::(wd i++tl is)
noncomputable def lt:Li0->List Nat
 | []=>[91,93]
 | i::is=>91::(wd i++tl is)
structure XD where
 C:Addr
 ns:Ls0
 xs:List D
def M3 (K:Fg0) (F:Hp) (cls:Value) (dx:Option Addr) (x:XD):Prop:=cls=.ref x.C/\∃ d gs,dx=some d/\F d=some (XdO d gs)/\gs.map (·.1)=x.ns/\aA K F x.xs (gs.map (·.2))
def XR (K:Fg0) (B:Bs) (F0:Hp) (E:L2.St->XK) (W:XD->G->Prop):Prop:=∀ F' σ' H' Γ' cls dx x,aE F0 F'->En K B F' σ' H' Γ'->M3 K F' cls dx x->W x Γ'->E σ' cls dx H'
def M6 (K:Fg0) (B:Bs) (F0:Hp) (t:TE) (t3:TE3):Prop:=∀ (F:Hp) (σ:L2.St) (H:Hp) (Γ:G) (Q:RV->G->Prop) (QQ:VK),aE F0 F->En K B F σ H Γ->t3 Γ Q->(∀ v H',Po K B F σ Q v H'->QQ v H')->t σ H QQ
def uS (K:Fg0) (B:Bs) (F0:Hp) (t:TS) (t3:TS3):Prop:=∀ (F:Hp) (σ:L2.St) (H:Hp) (Γ:G) (D:Ends) (D3:E3),aE F0 F->En K B F σ H Γ->qf K B F D D3->t3 D3 Γ->t D σ H
structure P3X (K:Fg0) (X:Cx) (B:Bs) (F0:Hp) (e:Expr) (t:TE) (t3:TE3):Prop where
 pe:PE X e t
 rf:M6 K B F0 t t3
structure tO (K:Fg0) (X:Cx) (B:Bs) (F0:Hp) (st:Stmt) (t:TS) (t3:TS3):Prop where
 pe:PS X st t
 rf:uS K B F0 t t3
structure jU (K:Fg0) (X:Cx) (B:Bs) (F0:Hp) (st:List Stmt) (t:TS) (t3:TS3):Prop where
 pe:PSs X st t
 rf:uS K B F0 t t3
section
variable {rest:List Stmt}{t:TS}{t3:TS3}
theorem P3S.x(h:P3S K X st t t3):tO K X B F0 st t t3:=⟨h.pe,fun F σ H Γ D D3 _=>h.rf B F σ H Γ D D3⟩
theorem j6.x(h:j6 K X rest t t3):jU K X B F0 rest t t3:=⟨h.pe,fun F σ H Γ D D3 _=>h.rf B F σ H Γ D D3⟩
theorem j9(h:tO K X B F0 st t t3):jU K X B F0 [st] t t3:=⟨lA h.pe,h.rf⟩
theorem m_(h:tO K X B F0 st t t3)(h2:jU K X B F0 rest u u3):jU K X B F0 (st::rest) (Av t u) (Cb t3 u3):=
 ⟨eh h.pe h2.pe,fun F σ H Γ D D3 w e k q=>h.rf F σ H Γ { D with nx:=u D } { D3 with nx:=u3 D3 } w e ⟨fun F' σ' H' Γ' s e' q'=>h2.rf F' σ' H' Γ' D D3 (w.trans s) e' (k.mono s) q',k.rt,k.bk,k.ct⟩ q⟩
theorem BJ(h:P3X K X B F0 e te e3):tO K X B F0 (.Return (some e) pos) (Io te) (AG e3):=⟨Cw h.pe,fun F σ H Γ D D3 w e k q=>
 h.rf F σ H Γ _ _ w e q fun v H' ⟨F',Γ',r,s,e',rv,q'⟩=>k.rt F' σ H' Γ' v r s e' rv q'⟩
theorem uX(h:P3X K X B F0 e te e3)(hs:autoParam (swapsWith e none pos.line X.env=pure false) wE):tO K X B F0 (.Expr e pos) (BZ te) (DR e3):=⟨lB h.pe hs,fun F σ H Γ D D3 w e k q=>
 h.rf F σ H Γ _ _ w e q fun v H' ⟨F',Γ',r,s,e',rv,q'⟩=>k.nx F' σ H' Γ' s e' q'⟩
theorem BK{a b:List Stmt}(hc:P3T K X c tc A3)(ha:jU K X B F0 a t t3)(hb:jU K X B F0 b u u3):tO K X B F0 (.If c a b pos) (Iu tc t u) (Ba A3 t3 u3):=⟨Hg hc.pe ha.pe hb.pe,fun F σ H Γ D D3 w e k q=>
 hc.rf B F σ H Γ _ _ e q fun b H' Z=>by
  obtain⟨F',Γ',s,e',q'⟩:=Z;cases b with
  | true=>exact ha.rf F' σ H' Γ' D D3 (w.trans s) e' (k.mono s) q'
  | false=>exact hb.rf F' σ H' Γ' D D3 (w.trans s) e' (k.mono s) q'⟩
end
noncomputable abbrev S3X:=G->(RV->G->Prop)->(XD->G->Prop)->Prop
def u9 (K:Fg0) (n:Nat) (S:S3X):Sp:=fun vs H Q E=>vs.length=n/\∃ F own Γa Q3 W3,En K ⟨F,H,own⟩ F (vs.map some) H Γa/\(∀ (k:Nat) (d:D),Γa[k]?≠some (some (Sl.ow d)))/\S Γa Q3 W3/\
 (∀ r Γ',Q3 r Γ'->∀ v H' F',En K ⟨F,H,own⟩ F' (vs.map some) H' Γ'->jH K ⟨F,H,own⟩ F' (vs.map some) H' Γ' v r->Q v H')/\
 ∀ x Γ',W3 x Γ'->∀ H' F' cls dx,En K ⟨F,H,own⟩ F' (vs.map some) H' Γ'->M3 K F' cls dx x->E cls dx H'
def y9 (n:Nat) (S:S3X) (t3:cV) (W:XD->G->Prop) (Γ:G) (Q:RV->G->Prop):Prop:=t3 Γ fun bs Γ1=>bs.length=n/\(bP bs).Nodup/\S (dU Γ1 (bs.map some)) (fun r Γa=>Q r (bD ((bs.map some).map bU) Γ1 Γa)) fun x Γa=>W x (bD ((bs.map some).map bU) Γ1 Γa)
theorem AK{S:S3X}{E:L2.St->XK}{W:XD->G->Prop}(h:sU K t t3)(x:XR K B F0 E W):M6 K B F0 (xY (u9 K n S) [] E t) (y9 n S t3 W):=by
 intro F σ H Γ Q QQ w e q k;refine h B F σ H Γ _ _ e q fun vs H1 Z=>?_;obtain⟨F1,Γ1,bs,s1,e1,r1,hn,nd,q1⟩:=Z;show u9 K n S (vs++[]) H1 QQ (E σ);rw[List.append_nil];refine⟨by rw[r1.length];exact hn,F1,_,_,_,_,e1.args r1 nd,jG,q1,fun r Γa q v H' F' e2 rv=>?_,fun y Γa q H' F' cls dx e2 xr=>?_⟩
 ·obtain⟨s2,e3,rv2⟩:=e1.called e2 rv;exact k _ _ ⟨F',_,r,s1.trans s2,e3,rv2,q⟩
 ·obtain⟨s2,e3,_⟩:=e1.called e2 (v:=.non) (r:=.fz .non) rfl;exact x F' σ H' _ cls dx y ((w.trans s1).trans s2) e3 xr q
theorem FH{x:Str}{S:S3X}(F:Fun K x qual st f fd)(Sc:au N ps (ag st))(hN:autoParam (ps.length<=N.length) wP)(hbody:∀ (cdv:Value) (A:Around) (outer:List Env) (s:Shared) (H:Hp) (E:XK),bF k (A.deeper (envOfC qual (ag st) s.heap.objs.size f cdv))->
   ∃ (t:TS) (t3:(XD->G->Prop)->TS3),(∀ B F0 W,XR K B F0 (fun _=>E) W->jU K (j1 (CX1 P w base) P w K mg base N qual (ag st) f cdv A outer s H E) B F0 (cI st) t (t3 W))/\
    ∀ Γa Q W3,S Γa Q W3->Γa.length=ps.length->t3 (fun x Γ'=>W3 x (gb Γa Γ')) { nx:=fun Γ'=>Q (.fz .non) (gb Γa Γ'),rt:=fun r Γ'=>Q r (gb Γa Γ') } (cO N Γa)) :
  aG P w K mg base (CX1 P w base) (k + 1) f fd ps (u9 K ps.length S):=by
 obtain⟨oc,od,kV,doc,pm,an,cdv,ct,osl,rfl,lk,hcd⟩:=F.ex;refine DH lk hcd Sc (fun vs H Q E h=>h.1) fun A outer s H vs Q E hr h=>?_;obtain⟨hl,F0,own,Γa,Q3,W3,e,hno,hS,hQ,hW⟩:=h;obtain⟨t,t3,ht,rd⟩:=hbody cdv A outer s H E hr;have hla:Γa.length=ps.length:=by rw[<- e.len,lM0];exact hl
 have xr:XR K ⟨F0,H,own⟩ F0 (fun _=>E) (fun x Γ'=>W3 x (gb Γa Γ')):=fun F' σ' H' Γ' cls dx x _ e' r q=>by
  obtain⟨a,_⟩:=e.out hno e' (v:=.non) (r:=.fz .non) rfl;exact hW _ _ q _ _ _ _ a r
 have hp:=ht ⟨F0,H,own⟩ F0 _ xr;refine⟨t,hp.pe,hp.rf F0 _ H _ _ { nx:=fun Γ'=>Q3 (.fz .non) (gb Γa Γ'),rt:=fun r Γ'=>Q3 r (gb Γa Γ') } (aE.refl F0) (e.start (N:=N) (by rw[hla];exact hN)) ⟨?_,?_,fun _ _ _ _ _ _ z=>False.elim z,fun _ _ _ _ _ _ z=>False.elim z⟩ (rd Γa Q3 W3 hS hla)⟩
 ·intro F' σ' H' Γ' s' e' q;obtain⟨a,b⟩:=e.out hno e' (v:=.non) (r:=.fz .non) rfl;exact hQ _ _ q _ _ _ a b
 ·intro F' σ' H' Γ' v r s' e' rv q;obtain⟨a,b⟩:=e.out hno e' rv;exact hQ _ _ q _ _ _ a b
section
variable {CX:CXT}{x:Str}{p:Pos}{S:S3X}{E:L2.St->XK}{W:XD->G->Prop}
theorem nc(hK:X.K=K)(xr:XR K B F0 E W)(F:aG X.prog X.w X.K X.mg X.base CX k f fd ps (u9 K n S))(hx:e9 CX X E)(hr:bF k X.A)(hg:Gl X x)(hm:X.mg x=some (.ref f))(hk:PySem.W.keepIn X.K (.ref f)=true)(hb:Binds X.K fd ps [])(ha:sV K X (e::es) t t3)(hdb:autoParam ((x == ("__debug__":Str))=false) wP)(he:autoParam (starEach (e::es) X.env=(false,eval e X.env)::starEach es X.env) wE)(hpl:autoParam ((backTo pos (starEach es X.env)).any (·.1)=false) wE) :
  P3X K X B F0 (.Call (.Name x p) (e::es) [] pos) (xY (u9 K n S) [] E t) (y9 n S t3 W):=⟨CO F hr hg hm hk hb .nil hx ha.pe hdb he hpl,AK ha.rf xr⟩
end
def Az (K:Fg0) (C:Addr) (ns:Ls0):Sp:=fun vs H Q _=>∃ e ys,vs=.ref e::ys/\ys.length=ns.length/\H e=some (dM e C none)/\∀ d,H d=none->d≠e->Q .non (upd (upd H d (XdO d (ns.zip ys))) e (dM e C (some d)))
def yf (C:Addr) (ns:Ls0) (t3:TA3) (W:XD->G->Prop) (_:E3) (Γ:G):Prop:=t3 Γ fun ds Γ1=>ds.length=ns.length/\W ⟨C,ns,ds⟩ Γ1
theorem zk:∀ {ns:Ls0} {ys:List V},ys.length=ns.length->(ns.zip ys).map (·.1)=ns
 | [],[],_=>rfl
 | n::ns,y::ys,h=>by simp only[List.zip_cons_cons,List.map_cons];rw[zk (by simpa using h)]
 | [],_::_,h=>by cases h
 | _::_,[],h=>by cases h
theorem zi:∀ {ns:Ls0} {ys:List V},ys.length=ns.length->(ns.zip ys).map (·.2)=ys
 | [],[],_=>rfl
 | n::ns,y::ys,h=>by simp only[List.zip_cons_cons,List.map_cons];rw[zi (by simpa using h)]
 | [],_::_,h=>by cases h
 | _::_,[],h=>by cases h
section
variable {CX:CXT}{x:Str}{p:Pos}{t3:TA3}{E:XK}{W:XD->G->Prop}
theorem AH(h:KN K t t3)(xr:XR K B F0 (fun _=>E) W):uS K B F0 (xV C (Az K C ns) [] E0 E t) (yf C ns t3 W):=by
 intro F σ H Γ D D3 w e kk q;refine h B F σ H Γ _ _ e q fun vs H1 ⟨F1,Γ1,ds,s1,e1,r1,hn,q1⟩ y hy=>?_;rw[List.append_nil];have hl:vs.length=ns.length:=by rw[r1.length];exact hn
 refine⟨y,vs,rfl,hl,ar,fun d hd ne=>⟨rfl,some d,ar,?_⟩⟩;have hd1:H1 d=none:=by rw[ah ne] at hd;exact hd
 have eq:L2.del (upd (upd (upd H1 y (dM y C none)) d (XdO d (ns.zip vs))) y (dM y C (some d))) y=upd H1 d (XdO d (ns.zip vs)):=by
  funext b
  by_cases h1:b=y
  ·subst h1;rw[ou,ah (Ne.symm ne)];exact hy.symm
  ·rw[jF h1,ah h1];by_cases h2:b=d
   ·subst h2;rw[ar,ar]
   ·rw[ah h2,ah h2,ah h1]
 rw[eq];have hF:F1 d=none:=by
  cases z:F1 d with
  | none=>rfl
  | some o=>rw[e1.sub d o z] at hd1;cases hd1
 have e2:=e1.alloc hd1 (XdO d (ns.zip vs));have e3:=e2.freeze hF ar (e1.dom d hd1) (e1.nK hd1);refine xr _ σ _ Γ1 _ _ ⟨C,ns,ds⟩ ((w.trans s1).trans (aQ hF)) e3 ⟨rfl,d,_,rfl,ar,zk hl,?_⟩ q1;rw[zi hl];exact r1.mono (aQ hF)
theorem qP(hK:X.K=K)(xr:XR K B F0 (fun _=>E) W)(M:XMk X.K C f)(F:aG X.prog X.w X.K X.mg X.base CX0 k f fd ps (Az K C ns))(hr:bF (k + 1) X.A)(hg:Gl X x)(hm:X.mg x=some (.ref C))(hb:Binds X.K fd ps [])(hR:Raises X E)(hz:ps.length<=sizeLine)(ha:P3A K X (e::es) t t3)(hdb:autoParam ((x == ("__debug__":Str))=false) wP)(he:autoParam (starEach (e::es) X.env=(false,eval e X.env)::starEach es X.env) wE)(hpl:autoParam ((backTo cpos (starEach es X.env)).any (·.1)=false) wE) :
  tO K X B F0 (.Raise (some (.Call (.Name x p) (e::es) [] cpos)) none pos) (xV C (Az K C ns) [] E0 E t) (yf C ns t3 W):=
 ⟨Cy M F hr hg hm hb .nil kC hR hz ha.pe hdb he hpl,AH ha.rf xr⟩
end
noncomputable def E3.vS (D:E3) (i:Nat):E3:=⟨fun Γ=>aW Γ i/\D.nx (Γ.set i none),D.rt,fun Γ=>aW Γ i/\D.bk (Γ.set i none),fun Γ=>aW Γ i/\D.ct (Γ.set i none)⟩
def G2 (K:Fg0) (C₀:Addr) (i:Nat) (s3:TS3) (D:E3) (x:XD) (Γ:G):Prop:=PySem.W.mroIn K x.C (.ref C₀)=some true/\aW Γ i/\s3 (D.vS i) (Γ.set i (some (.fz (.exc x.C x.ns x.xs))))
def Ii (K:Fg0) (C₀:Addr) (i:Nat) (b3:(XD->G->Prop)->TS3) (s3:TS3) (D:E3) (Γ:G):Prop:=b3 (G2 K C₀ i s3 D) D Γ
theorem En.gone(e:En K B F σ H Γ)(hi:aW Γ i):En K B F (σ.set i none) H (Γ.set i none):=by
 have e1:=e.forget hi;have il:=fu hi;have ne:∀ {j:Nat} {s:Sl},(Γ.set i none)[j]?=some (some s)->(σ.set i none)[j]?=σ[j]?:=fun {j s} q=>by
  by_cases z:j=i
  ·subst z;rw[aC il] at q;cases q
  ·exact az (Ne.symm z)
 have nh:∀ {j:Nat} {d:D},Hld (Γ.set i none) j d->(σ.set i none)[j]?=σ[j]?:=fun q=>q.elim ne ne;refine⟨e1.sub,by rw[List.length_set];exact e1.len,fun j d q=>by rw[ne q];exact e1.fz j d q,fun j d q=>by rw[nh q];exact e1.hl j d q,fun j d p q a=>e1.ow j d p q (by rw[<- ne q];exact a),fun j d p q a=>e1.ln j d p q (by rw[<- ne q];exact a),
  fun j k d d' p q1 q2 a1 a2=>e1.dis j k d d' p q1 q2 (by rw[<- nh q1];exact a1) (by rw[<- nh q2];exact a2),fun j p q=>?_,e1.keep,e1.new,e1.rest,e1.dom⟩
 obtain⟨a,d,b⟩:=e1.par j p q;exact⟨by rw[ne b];exact a,d,b⟩
theorem qf.vS{D:Ends}{D3:E3}(k:qf K B F D D3):qf K B F (D.vS i) (D3.vS i) where
 nx:=fun F' σ' H' Γ' s e q=>k.nx F' _ H' _ s (e.gone q.1) q.2
 rt:=fun F' σ' H' Γ' v r s e rv q=>k.rt F' σ' H' Γ' v r s e rv q
 bk:=fun F' σ' H' Γ' s e q=>k.bk F' _ H' _ s (e.gone q.1) q.2
 ct:=fun F' σ' H' Γ' s e q=>k.ct F' _ H' _ s (e.gone q.1) q.2
theorem EY{tb:(L2.St->XK)->TS}{b3:(XD->G->Prop)->TS3}(hb:∀ F1 E W,XR K B F1 E W->uS K B F1 (tb E) (b3 W))(hs:uS K B F0 ts s3):uS K B F0 (Im K C₀ i tb ts) (Ii K C₀ i b3 s3):=by
 intro F σ H Γ D D3 w e k q;refine hb F (EI K C₀ i ts D) (G2 K C₀ i s3 D3) (fun F' σ' H' Γ' cls dx x s e' r q'=>?_) F σ H Γ D D3 (aE.refl F) e k q;obtain⟨hm,hf,q'⟩:=q';obtain⟨rfl,d,gs,rfl,hd,hn,hr⟩:=r;refine⟨x.C,rfl,hm,fun a ha=>?_⟩;have hF:F' a=none:=by
  cases z:F' a with
  | none=>rfl
  | some o=>rw[e'.sub a o z] at ha;cases ha
 have e2:=e'.alloc ha (m6 a (.ref x.C) (some d));have e3:=e2.freeze hF ar (e'.dom a ha) (e'.nK ha);have s2:=aQ (o:=m6 a (.ref x.C) (some d)) hF;have da:d≠a:=fun z=>by rw[z,hF] at hd;cases hd
 have rv:jH K B (upd F' a (m6 a (.ref x.C) (some d))) σ' (upd H' a (m6 a (.ref x.C) (some d))) Γ' (.ref a) (.fz (.exc x.C x.ns x.xs)):=by
  show Rep K _ (.exc x.C x.ns x.xs) _;rw[Rep];exact⟨a,some d,gs,rfl,ar,(by show upd F' a _ d=_;rw[ah da];exact hd),hn,hr.mono s2⟩
 have e4:=e3.set hf rv;exact hs _ _ _ _ _ _ ((w.trans s).trans s2) e4 ((k.mono (s.trans s2)).vS) q'
section
variable {x:Str}{L:Addr}{body suite:List Stmt}{b₀:Stmt}{np hpos:Pos}{tb:(L2.St->XK)->TS}{b3:(XD->G->Prop)->TS3}
theorem H_(hK:X.K=K)(c:Et X.K C₀)(hst:X.stack=X.env::X.outer)(hfr:X.env.frame=some L)(hg:Gl X x)(hm:X.mg x=some (.ref C₀))(hN:X.N.Nodup)(hi:X.N[i]?=some nm)(hk:X.env.kindOf nm=some .local)(hb:∀ pins F1 E W,XR K B F1 E W->jU K ((X.mO pins).ng (XP (X.mO pins) E)) B F1 body (tb E) (b3 W))(hs:∀ pins e,jU K ((X.mO pins).sui e) B F0 (b₀::suite) ts s3)(hdb:autoParam ((x == ("__debug__":Str))=false) wP) :
  tO K X B F0 (.Try body [.ExceptHandler (some (.Name x np)) (some nm) (b₀::suite) hpos] [] [] pos) (Im K C₀ i tb ts) (Ii K C₀ i b3 s3):=by
 subst hK;exact⟨IP c hst hfr hg hm hN hi hk (fun pins E=>(hb pins F0 E (fun _ _=>False) (fun _ _ _ _ _ _ _ _ _ _ q=>q.elim)).pe) (fun pins e=>(hs pins e).pe) hdb,EY (fun F1 E W xr=>(hb [] F1 E W xr).rf) (hs [] 0).rf⟩
end
def BG (P:Addr->Prop) (f:Str) (x:D) (Γ:G) (Q:RV->G->Prop):Prop:=match x with
 | .exc C ns xs=>P C/\∃ d,(ns.zip xs).lookup f=some d/\Q (.fz d) Γ
 | _=>False
theorem qD{f:Str}{P:Addr->Prop}(hK:X.K=K)(ha:P3B K X a ta a3)(hC:∀ C,P C->tM K C/\bO K C f)(hb:attributeBase a f X.env (eval a X.env)=eval a X.env) :
  P3 K X (.Attribute a f pos) (G3 K ta f) (Aw (BG P f) a3):=⟨by subst hK;exact Fq ha.pe hb,ye (r:=fun x H1 Q=>∃ e C d fs v,x=.ref e/\H1 e=some (m6 e (.ref C) (some d))/\H1 d=some (XdO d fs)/\tM K C/\bO K C f/\fs.lookup f=some v/\Q v H1) (ta:=ta) (by
 intro B F σ H Γ x dx Q QQ e rx q k;unfold BG at q;split at q
 ·obtain⟨hP,d,hd,q⟩:=q;obtain⟨p,dd,gs,rfl,h1,h0,h2,h3⟩:=rx;obtain⟨v,hv,r⟩:=aA.lookup h2 h3 hd;obtain⟨c1,c2⟩:=hC _ hP;cases dd with
  | none=>rw[show gs=[] from h0] at hv;cases hv
  | some dd=>exact⟨p,_,dd,gs,v,rfl,e.sub _ _ h1,e.sub _ _ h0,c1,c2,hv,k _ _ (g8 e r q)⟩
 ·exact q.elim) ha.rf⟩
noncomputable def dvv:D->Option Value
 | .adr a=>some (.ref a)
 | .ty n=>some (.type n)
 | _=>none
def JN (K:Fg0) (P:Addr->Prop) (ds:List D) (Γ:G) (Q:RV->G->Prop):Prop:=match ds with
 | [.exc C ns xs,c]=>P C/\∃ u b,dvv c=some u/\PySem.W.kitOne K (.ref C) u=some b/\Q (.fz (.bl b)) Γ
 | _=>False
theorem Ea{P:Addr->Prop}(hK:X.K=K)(hC:∀ C,P C->XIs K C):B3 K X (.builtin "isinstance") (fun xs H Q=>∃ e C d fs c b,xs=[.ref e,c]/\H e=some (m6 e (.ref C) d)/\XDk H d fs/\XIs K C/\isC c=true/\PySem.W.kitOne K (.ref C) (vv c)=some b/\Q (.bl b) H) (JN K P):=⟨by subst hK;exact D0,by
 intro B F σ H Γ vs ds Q QQ e r q k;unfold JN at q;split at q
 ·obtain⟨v,w,rfl,h1,h2⟩:=r.two;obtain⟨hP,u,b,hu,hk,q⟩:=q;obtain⟨p,dd,gs,rfl,g1,g0,g2,g3⟩:=h1;rename_i c;have hw:isC w=true/\vv w=u:=by
   cases c with
   | adr a=>cases h2;cases hu;exact⟨rfl,rfl⟩
   | ty n=>cases h2;cases hu;exact⟨rfl,rfl⟩
   | _=>cases hu
  exact⟨p,_,dd,gs,w,b,rfl,e.sub _ _ g1,g0.mono e.sub,hC _ hP,hw.1,by rw[hw.2];exact hk,k _ _ (kB e q)⟩
 ·exact q.elim⟩
end L3
namespace L2
open PySem PySem.Spec PyProof.Rows
theorem D7:bS X (.builtin "isinstance") (fun xs H Q=>∃ x c t b,xs=[x,c]/\k8 X.K H x t/\isC c=true/\PySem.W.kitOne X.K t (vv c)=some b/\Q (.bl b) H):=by
 intro pins s σ H xs us Q I r h;obtain⟨x,c,t,b,rfl,ty,ic,k,q⟩:=h;obtain⟨u,w',rfl,ru,rw'⟩:=vals2 r;obtain rfl:=G1 ic rw';exact ur I ru ty k fun tk=>⟨.bl b,H,I.tok _,rfl,q⟩
end L2
namespace L3
open PySem L2
section
variable {b:Expr}{to:TE}{o3 a3:TE3}
noncomputable def itx (i:Int):Str:=Str.ofString (toString i)
theorem Fj(e:En K B F σ H Γ){l:Addr}(hl:H l=none)(q:Q (.fz .dct) Γ):Po K B F σ Q (.ref l) (upd H l (.dK [])):=
 ⟨upd F l (.dK []),Γ,.fz .dct,aQ (e.nof hl),(e.alloc hl _).freeze (e.nof hl) ar (e.dom _ hl) (e.nK hl),⟨l,rfl,ar⟩,q⟩
theorem Je:P3 K X (.Dict [] [] pos) B0 (t3C .dct):=⟨CK,fun B F σ H Γ Q QQ e q k=>fun p hp=>k _ _ (Fj e hp q)⟩
theorem nE{x:Str}(hg:Gl X x)(hm:X.mg x=some (.ref C))(hd:autoParam ((x == ("__debug__":Str))=false) wP):P3 K X (.Name x pos) (tC (.ref C)) (t3C (.adr C)):=
 ⟨vz hg hm rfl hd,fun B F σ H Γ Q QQ e q k=>k _ _ (g8 (d:=.adr C) e rfl q)⟩
structure Ex (K:Fg0) (C:Addr):Prop where
 cl:Cls K C
 ha:PySem.W.findIn K (.ref C) "__class__"=some (some (.builtin "object.__class__"))
 hn:PySem.W.specialIn K (.builtin "object.__class__") "__get__"=some (some (.builtin "getset_descriptor.__get__"))
 ht:PySem.W.takesIn K (.builtin "object.__class__")=some true
 hm:PySem.W.mroIn K C (.type "object")=some true
 o:PySem.W.kitOne K (.ref C) (.ref C)=some true
 b:PySem.W.kitOne K (.type "bool") (.ref C)=some false
 i:PySem.W.kitOne K (.type "int") (.ref C)=some false
 n:PySem.W.kitOne K (.type "NoneType") (.ref C)=some false
 s:PySem.W.kitOne K (.type "str") (.ref C)=some false
 l:PySem.W.kitOne K (.type "list") (.ref C)=some false
 t:PySem.W.kitOne K (.type "tuple") (.ref C)=some false
 d:PySem.W.kitOne K (.type "dict") (.ref C)=some false
noncomputable def C4 (C:Addr):D->Option Bool
 | .ins C' _ _=>if C'=C then some true else none
 | d=>if knD d=true then some false else none
theorem FC{d:D}(h:knD d=true):C4 C d=some false:=by
 cases d <;> first | rfl | cases h
def JO (C:Addr) (ds:List D) (Γ:G) (Q:RV->G->Prop):Prop:=match ds with
 | [d,.adr C']=>C'=C/\∃ b,C4 C d=some b/\Q (.fz (.bl b)) Γ
 | _=>False
theorem HU(hK:X.K=K)(c:Ex K C):B3 K X (.builtin "isinstance") (fun xs H Q=>∃ x c t b,xs=[x,c]/\k8 K H x t/\isC c=true/\PySem.W.kitOne K t (vv c)=some b/\Q (.bl b) H) (JO C):=⟨by subst hK;exact D7,by
 intro B F σ H Γ vs ds Q QQ e r q k;unfold JO at q;split at q
 ·rename_i d C';obtain⟨rfl,b,hb,q⟩:=q;obtain⟨v,w,rfl,h1,h2⟩:=r.two;cases h2;have go:∃ t,k8 K H v t/\PySem.W.kitOne K t (.ref C')=some b:=by
   by_cases hk:knD d=true
   ·rw[FC hk] at hb;cases hb;cases Dr e.sub h1 hk with
    | non=>exact⟨_,.non,c.n⟩
    | bl x=>exact⟨_,.bl x,c.b⟩
    | int x=>exact⟨_,.int x,c.i⟩
    | str x=>exact⟨_,.str x,c.s⟩
    | lst x=>exact⟨_,.lst x,c.l⟩
    | tup x=>exact⟨_,.tup x,c.t⟩
    | dK x=>exact⟨_,.dK x,c.d⟩
   ·cases d with
    | ins C0 ns xs=>
     have hb':(if C0=C' then some true else none)=some b:=hb;by_cases z:C0=C'
     ·rw[if_pos z] at hb';cases hb';subst z;obtain⟨p,dx,gs,rfl,g,_⟩:=h1;exact⟨_,.ins g c.cl c.ha c.hn c.ht c.hm,c.o⟩
     ·rw[if_neg z] at hb';cases hb'
    | _=>first | exact absurd rfl hk | cases hb
  obtain⟨t,ty,kk⟩:=go;exact⟨v,_,t,b,rfl,ty,rfl,kk,k _ _ (kB e q)⟩
 ·exact q.elim⟩
end
section
variable {t:TS}{t3:TS3}
theorem P3S.ofX(h:∀ B F0,tO K X B F0 st t t3):P3S K X st t t3:=⟨(h ⟨fun _=>none,fun _=>none,[]⟩ fun _=>none).pe,fun B F σ H Γ D D3 e k q=>(h B F).rf F σ H Γ D D3 (aE.refl F) e k q⟩
def Ni (K:Fg0):Sp:=fun vs H Q _=>∃ e C dx y,vs=[.ref e,y]/\gz K C "ValueError" "ValueError.__new__"=true/\H e=some (dM e C dx)/\Q .non H
end
def fz3 (e3:TE3) (Γ:G) (Q:RV->G->Prop):Prop:=e3 Γ fun r Γ1=>Q (.fz r.d) Γ1
theorem uf(h:P3 K X e te e3):P3 K X e te (fz3 e3):=⟨h.pe,fun B F σ H Γ Q QQ en q k=>h.rf B F σ H Γ _ _ en q fun v H' Z=>by
 obtain⟨F',Γ',r,s,e',rv,q'⟩:=Z;obtain⟨F2,s2,e2,rp⟩:=e'.frozen rv;exact k v H' ⟨F2,Γ',.fz r.d,s.trans s2,e2,rp,q'⟩⟩
def Mf (S:S3X) (Γa:G) (ls:On) (Γ:G) (Q:RV->G->Prop) (W:XD->G->Prop) (_:Tag (Q,W)):Prop:=S Γa (fun r Γb=>Q r (bD ls Γ Γb)) fun x Γb=>W x (bD ls Γ Γb)
section
variable {W:XD->G->Prop}{D:E3}
theorem GC{S:S3X}:y9 n S t3 W Γ Q=(t3 Γ fun bs Γ1=>bs.length=n/\(bP bs).Nodup/\Mf S (dU Γ1 (bs.map some)) ((bs.map some).map bU) Γ1 Q W ⟨⟩):=rfl
theorem E6{t3:TA3}:yf C ns t3 W D Γ=(t3 Γ fun ds Γ1=>ds.length=ns.length/\W ⟨C,ns,ds⟩ Γ1):=rfl
def mC (o:Option Nat) (k:Nat->Prop) (_:Tag k):Prop:=∃ c,o=some c/\k c
theorem L8{i:Int}:ix3 (.str z) (.int i) Γ Q=(z.length<=sizeLine/\mC (atI z.cps.toList i) (fun c=>Q (.fz (.str ⟨#[c]⟩)) Γ) ⟨⟩):=rfl
end
end L3
namespace L2
open PySem PySem.Spec PyProof.Rows
section
variable {b:Expr}{tb:TE}{rest:List Expr}
theorem y6(hr:bF k X.A):bS X (.builtin "repr") (fun xs H Q=>(xs=[.non]/\Q (.str "None") H)\/(∃ c,xs=[.bl c]/\Q (.str (if c then "True" else "False")) H)\/(∃ i,xs=[.int i]/\i.natAbs.log2 < 1920/\Q (.str (toString i)) H)\/∃ z,xs=[.str z]/\(reprText z).length<=sizeLine/\Q (.str (reprText z)) H):=by
 intro pins s σ H xs us Q I r h;rcases h with ⟨rfl,q⟩ | ⟨c,rfl,q⟩ | ⟨i,rfl,hi,q⟩ | ⟨z,rfl,hz,q⟩
 ·obtain⟨u,rfl,ru⟩:=vals1 r;cases ru;exact P.repr_of_none ⟨.str _,H,I.tok _,⟨_,rfl⟩,q⟩
 ·obtain⟨u,rfl,ru⟩:=vals1 r;cases ru;exact P.repr_of_bool ⟨.str _,H,I.tok _,⟨_,rfl⟩,q⟩
 ·obtain⟨u,rfl,ru⟩:=vals1 r;obtain⟨t,rfl⟩:=ru;exact P.repr_of_int hi ⟨.str _,H,I.tok _,⟨_,rfl⟩,q⟩
 ·obtain⟨u,rfl,ru⟩:=vals1 r;obtain⟨t,rfl⟩:=ru;exact P.repr_of_str ⟨.str _,H,I.tok _,⟨_,rfl⟩,q⟩ hz
end
end L2
namespace L3
open PySem L2
section
variable {b:Expr}{rest:List Expr}{to tb:TE}{o3 a3 b3:TE3}
noncomputable def scl:D->Option Str
 | .non=>some "None"
 | .bl c=>some (if c then "True" else "False")
 | .int i=>some (itx i)
 | .str z=>some (reprText z)
 | _=>none
noncomputable def rpr (d:D):Str:=(scl d).getD (shw d)
def okR (d:D):Prop:=(IB d=true\/d=.dct)/\Sh 10000000 20 d\/d=.non\/(∃ c,d=.bl c)\/(∃ i,d=.int i/\i.natAbs < 10 ^ 60)\/∃ z,d=.str z/\(reprText z).length<=sizeLine
def yc (ds:List D) (Γ:G) (Q:RV->G->Prop):Prop:=match ds with
 | [d]=>okR d/\Q (.fz (.str (rpr d))) Γ
 | _=>False
theorem iq(hK:X.K=K)(hr:bF k X.A):B3 K X (.builtin "repr") (fun xs H Q=>(∃ a d,xs=[.ref a]/\Dt K H (.ref a) d/\Shw d/\Q (.str d.shown) H)\/((xs=[.non]/\Q (.str "None") H)\/(∃ c,xs=[.bl c]/\Q (.str (if c then "True" else "False")) H)\/(∃ i,xs=[.int i]/\i.natAbs.log2 < 1920/\Q (.str (toString i)) H)\/∃ z,xs=[.str z]/\(reprText z).length<=sizeLine/\Q (.str (reprText z)) H)) yc:=
 ⟨by subst hK;exact bS.or (y7 hr) (y6 hr),by
 intro B F σ H Γ vs ds Q QQ e r q k;unfold yc at q;split at q
 ·obtain⟨hd,q⟩:=q;obtain⟨v,rfl,h⟩:=r.one;rcases hd with ⟨hs,sh⟩ | rfl | ⟨c,rfl⟩ | ⟨i,rfl,hi⟩ | ⟨z,rfl,hz⟩
  ·left
   have sp:=sh.spec;have fin:Shw (dt _):=⟨sp.sh,sp.dp,by rw[sizeLine_eq];have:=sp.ln;lia⟩;rename_i d;rcases hs with hs | rfl
   ·obtain⟨a,rfl,hd⟩:=sh.dtB hs e.sub h;have er:rpr d=shw d:=by cases d <;> first | rfl | cases hs
    rw[er] at q;exact⟨a,_,rfl,hd,fin,k _ _ (kz e q)⟩
   ·have h':Rep K F .dct v:=h;have hd:=sp.dt e.sub h';obtain⟨p,rfl,_⟩:=h';exact⟨p,_,rfl,hd,fin,k _ _ (kz e q)⟩
  ·cases h;exact .inr (.inl ⟨rfl,k _ _ (kz e q)⟩)
  ·cases h;exact .inr (.inr (.inl ⟨c,rfl,k _ _ (kz e q)⟩))
  ·cases h;exact .inr (.inr (.inr (.inl ⟨i,rfl,of_decide_eq_true (yN hi),k _ _ (kz e q)⟩)))
  ·cases h;exact .inr (.inr (.inr (.inr ⟨z,rfl,hz,k _ _ (kz e q)⟩)))
 ·exact q.elim⟩
end
end L3
namespace L2
open PySem PySem.Spec PyProof.Rows
structure tL (K:Fg0) (U C:Addr):Prop where
 mro:∃ cd rest,PySem.W.clsIn K C=some cd/\cd.mro=.ref C::rest/\rest.all (fun v=>match v with | .ref a=>a == U | .type _=>true | _=>false)=true/\(C=U\/Value.ref U∈rest)/\Value.type "ValueError"∈rest
 ty:PySem.W.typeIn K (.ref C)=some (.type "type")
section
variable {D:Addr}
theorem tL.other(x:tL K U C)(y:tL K U D)(ne:D≠C)(nu:D≠U):PySem.W.kitOne K (.ref C) (.ref D)=some false:=by
 obtain⟨cd,rest,h1,h2,h3,_⟩:=x.mro;obtain⟨cd2,rest2,g1,_⟩:=y.mro;have s:PySem.W.subIn K (.ref C) (.ref D)=some false:=by
  show PySem.W.mroIn K C (.ref D)=_;unfold PySem.W.mroIn;rw[h1,Option.bind_some,if_neg (by rw[h2];simp),h2]
  congr 1
  rw[List.contains_cons,Bool.or_eq_false_iff];refine⟨by rw[beq_eq_false_iff_ne];exact fun e=>ne (Value.ref.inj e),?_⟩;rw[Bool.eq_false_iff];intro c;have m:=List.contains_iff_mem.mp c;have:=List.all_eq_true.mp h3 _ m;exact nu (beq_iff_eq.mp this)
 unfold PySem.W.kitOne;rw[if_neg (by intro e;exact ne (Value.ref.inj (beq_iff_eq.mp e)).symm)];unfold PySem.W.kitCls;dsimp only;rw[if_pos (by rw[g1,y.ty];rfl)];exact s
theorem tL.self:PySem.W.kitOne K (.ref C) (.ref C)=some true:=by
 unfold PySem.W.kitOne;rw[if_pos (by simp)]
end
structure Es (K:Fg0) (U C f:Addr) (ns:Ls0):Prop where
 xm:XMk K C f
 cl:ze K C
 is:XIs K C
 un:tL K U C
 na:∀ n∈ns,bO K C n
 tk:∀ n∈ns,PySem.W.takerIn K C n=some none
noncomputable def Ig (K:Fg0) (U C:Addr):Bool:=match PySem.W.clsIn K C with
 | none=>false
 | some cd=>match cd.mro with
  | .ref c::rest=>c == C && rest.all (fun v=>match v with | .ref a=>a == U | .type _=>true | _=>false) && (C == U || rest.contains (.ref U)) && rest.contains (.type "ValueError")
  | _=>false
theorem Ic(h:Ig K U C=true)(ty:PySem.W.typeIn K (.ref C)=some (.type "type")):tL K U C:=by
 unfold Ig at h;cases e:PySem.W.clsIn K C with
 | none=>rw[e] at h;cases h
 | some cd=>
  rw[e] at h;dsimp only at h;split at h
  ·rename_i c rest hm;simp only[Bool.and_eq_true,Bool.or_eq_true,beq_iff_eq] at h;obtain⟨⟨⟨rfl,h2⟩,h3⟩,h4⟩:=h;exact⟨⟨cd,rest,e,hm,h2,h3.imp id List.contains_iff_mem.mp,List.contains_iff_mem.mp h4⟩,ty⟩
  ·cases h
noncomputable def xoB (K:Fg0) (U C f:Addr) (ns:Ls0):Bool:=
 gz K C "ValueError" "ValueError.__new__" && PySem.W.findIn K (.ref C) "__init__" == some (some (.ref f)) && PySem.W.isFn K (.ref f) && PySem.W.keepIn K (.ref C) && PySem.W.hasDictIn K C && (PySem.W.clsIn K C).any (fun cd=>oK cd.mro)
 && PySem.W.findIn K (.ref C) "__setattr__" == some (some (.builtin "object.__setattr__")) && PySem.W.findIn K (.ref C) "__getattribute__" == some (some (.builtin "BaseException.__getattribute__")) && PySem.W.findIn K (.ref C) "__getattr__" == some none
 && PySem.W.mroIn K C (.type "BaseException") == some true && PySem.W.findIn K (.ref C) "__class__" == some (some (.builtin "object.__class__")) && PySem.W.specialIn K (.builtin "object.__class__") "__get__" == some (some (.builtin "getset_descriptor.__get__"))
 && PySem.W.takesIn K (.builtin "object.__class__") == some true && PySem.W.mroIn K C (.type "object") == some true && Ig K U C && PySem.W.typeIn K (.ref C) == some (.type "type")
 && ns.all (fun n=>PySem.W.findIn K (.ref C) n == some none && PySem.W.takerIn K C n == some none)
theorem zm(h:xoB K U C f ns=true):Es K U C f ns:=by
 unfold xoB at h;simp only[Bool.and_eq_true,beq_iff_eq,List.all_eq_true] at h;obtain⟨⟨⟨⟨⟨⟨⟨⟨⟨⟨⟨⟨⟨⟨⟨⟨h1,h2⟩,h3⟩,h4⟩,h5⟩,h6⟩,h7⟩,h8⟩,h9⟩,h10⟩,h11⟩,h12⟩,h13⟩,h14⟩,h15⟩,h16⟩,h17⟩:=h;exact⟨⟨h1,h2,h3,h4⟩,⟨h5,h6,h7⟩,⟨⟨h8,h9,h5,h10⟩,h11,h12,h13,h14⟩,Ic h15 h16,fun n hn=>(h17 n hn).1,fun n hn=>(h17 n hn).2⟩
noncomputable def Dd:La0->Bool
 | []=>true
 | x::xs=>xs.all (fun y=>!(x == y)) && Dd xs
theorem Dc:∀ {l:La0},Dd l=true->l.Nodup
 | [],_=>List.nodup_nil
 | x::xs,h=>by
  rw[Dd,Bool.and_eq_true,List.all_eq_true] at h;refine List.nodup_cons.mpr ⟨fun m=>?_,Dc h.2⟩;have:=h.1 x m;simp at this
theorem vR{l:La0}(nd:(U::l).Nodup)(hu:∀ C∈l,tL K U C){D:Addr}(hi:l[i]?=some D)(hj:l[j]?=some C):PySem.W.kitOne K (.ref C) (.ref D)=some (decide (i=j)):=by
 obtain⟨n1,n2⟩:=List.nodup_cons.mp nd;by_cases e:i=j
 ·subst e;rw[hi] at hj;cases hj;rw[decide_eq_true rfl];exact tL.self
 ·rw[decide_eq_false e];refine(hu C (List.mem_of_getElem? hj)).other (hu D (List.mem_of_getElem? hi)) (fun z=>?_) (fun z=>n1 (z ▸ List.mem_of_getElem? hi));subst z;obtain⟨a1,a2⟩:=gS0 hi;obtain⟨b1,b2⟩:=gS0 hj;rcases Nat.lt_or_gt_of_ne e with lt | gt
  ·exact List.pairwise_iff_getElem.mp n2 i j a1 b1 lt (a2.trans b2.symm)
  ·exact List.pairwise_iff_getElem.mp n2 j i b1 a1 gt (b2.trans a2.symm)
open PySem PySem.Spec PyProof.Rows
def Bu (X:Cx) (L:Nat):Prop:=∀ (i:Nat) (x:Str),L<=i->X.N[i]?=some x->¬ Vis X.env.scope x
def Gh (L:Nat) (σ σ':St):Prop:=σ'.length=σ.length/\∀ i,i < L->σ'[i]?=σ[i]?
def tGh (L:Nat) (t:TS):TS:=fun D σ H=>∃ σ',Gh L σ σ'/\t D σ' H
section
variable {pins:Pn}{t:TS}
theorem Inv.ghost(I:Inv X pins σ H s)(P:Bu X L)(g:Gh L σ σ'):Inv X pins σ' H s:=
 ⟨I.ok,I.os,I.bare,I.base,let ⟨m,hn,hl'⟩:=I.loc;⟨m,hn,fun i x v e1 e2 e3=>by
  by_cases lt:i < L
  ·exact hl' i x v e1 (by rw[<- g.2 i lt];exact e2) e3
  ·exact absurd e3 (P i x (Nat.le_of_not_lt lt) e1)⟩,I.cell,I.free,I.freeC,I.pin,I.hok,g.1.trans I.len⟩
theorem yg(P:Bu X L)(h:PSs X ss t):PSs X ss (tGh L t):=fun pins s σ H D I ⟨σ',g,q⟩=>h pins s σ' H D (I.ghost P g) q
noncomputable def wU (N:Ls0) (sc:Scope) (L:Nat):Bool:=(N.drop L).all fun x=>(sc.names.lookup x).isNone
theorem vw(hN:X.N=N)(h:wU N X.env.scope L=true):Bu X L:=fun i x le e v=>by
 subst hN;unfold wU at h;rw[List.all_eq_true] at h;have m:x∈X.N.drop L:=by
  have:(X.N.drop L)[i - L]?=some x:=by rw[List.getElem?_drop,Nat.add_sub_cancel' le];exact e
  exact List.mem_of_getElem? this
 have:=h x m;rcases v with v | v | v <;> rw[v] at this <;> cases this
end
end L2
namespace L3
open PySem L2 PySem.Spec PyProof.Rows
section
def Wk (K:Fg0) (Γ Γ':G):Prop:=∀ (B:Bs) (F:Hp) (σ:L2.St) (H:Hp),En K B F σ H Γ->∃ F',aE F F'/\En K B F' σ H Γ'
def wk3 (K:Fg0) (t3:TS3) (D:E3) (Γ:G):Prop:=∃ Γ',Wk K Γ Γ'/\t3 D Γ'
theorem Hf{t:TS}{t3:TS3}(h:j6 K X ss t t3):j6 K X ss t (wk3 K t3):=⟨h.pe,fun B F σ H Γ D D3 e k Z=>by
 obtain⟨Γ',w,q⟩:=Z;obtain⟨F1,s1,e1⟩:=w B F σ H e;exact h.rf B F1 σ H Γ' D D3 e1 (k.mono s1) q⟩
theorem En.Ll(e:En K B F σ H Γ){d d':D}(h:Γ[i]?=some (some (Sl.fz d)))(r:∀ v,σ[i]?=some (some v)->Rep K F d' v):En K B F σ H (Γ.set i (some (Sl.fz d'))):=by
 have il:i < Γ.length:=(gS0 h).1;have gt:∀ {j:Nat} {s:Sl},(Γ.set i (some (Sl.fz d')))[j]?=some (some s)->(j=i/\s=.fz d')\/(j≠i/\Γ[j]?=some (some s)):=fun {j s} q=>by
  by_cases z:j=i
  ·subst z;rw[aC il] at q;cases q;exact .inl ⟨rfl,rfl⟩
  ·rw[az (Ne.symm z)] at q;exact .inr ⟨z,q⟩
 have hld:∀ {j:Nat} {x:D},Hld (Γ.set i (some (Sl.fz d'))) j x->Hld Γ j x:=fun {j x} q=>by
  rcases q with q | q <;> rcases gt q with ⟨_,z⟩ | ⟨_,z⟩
  ·cases z
  ·exact .inl z
  ·cases z
  ·exact .inr z
 refine⟨e.sub,by rw[List.length_set];exact e.len,fun j x q=>?_,fun j x q=>e.hl j x (hld q),fun j x p q a=>?_,fun j x p q a=>?_,fun j k x y p q1 q2=>e.dis j k x y p (hld q1) (hld q2),fun j p q=>?_,e.keep,e.new,e.rest,e.dom⟩
 ·rcases gt q with ⟨rfl,z⟩ | ⟨_,z⟩
  ·cases z;obtain⟨v,a,_⟩:=e.fz _ _ h;exact⟨v,a,r v a⟩
  ·exact e.fz j x z
 ·rcases gt q with ⟨_,z⟩ | ⟨_,z⟩
  ·cases z
  ·exact e.ow j x p z a
 ·rcases gt q with ⟨_,z⟩ | ⟨_,z⟩
  ·cases z
  ·exact e.ln j x p z a
 ·obtain⟨a,x,b⟩:=e.par j p q;have z:i≠j:=fun z=>by subst z;rw[h] at b;cases b
  exact⟨a,x,by rw[az z];exact b⟩
theorem En.adr(e:En K B F σ H Γ)(h:Hld Γ i (.cel q xs)):σ[i]?=some (some (V.ref q))/\F q=none/\∃ vs,H q=some (.lst vs)/\aA K F xs vs:=by
 obtain⟨p,a,b,rfl,vs,c,d⟩:=e.hl i _ h;exact⟨a,b,vs,c,d⟩
def GU (r:RV) (k:Addr->Prop):Prop:=match r with
 | .fz (.adr q)=>k q
 | _=>False
theorem GS{k:Addr->Prop}(h:GU r k):∃ q,r=.fz (.adr q)/\k q:=by
 cases r with
 | fz d=>cases d <;> first | exact h.elim | exact⟨_,rfl,h⟩
 | fr _=>exact h.elim
 | two _ _=>exact h.elim
 | rws _=>exact h.elim
 | tol _ _ _=>exact h.elim
def AD (r:RV) (k:List (List D)->Prop):Prop:=match r with
 | .rws xss=>k xss
 | _=>False
theorem vi{k:List (List D)->Prop}(h:AD r k):∃ xss,r=.rws xss/\k xss:=by
 cases r with
 | rws xss=>exact⟨_,rfl,h⟩
 | fz _=>exact h.elim
 | fr _=>exact h.elim
 | two _ _=>exact h.elim
 | tol _ _ _=>exact h.elim
def vB (b:Bo) (k:Nat->Prop):Prop:=match b with
 | .v j=>k j
 | .d _=>False
def MQ (e3:TE3) (Γ:G) (Q:Bo->G->Prop):Prop:=e3 Γ fun r Γ1=>GU r fun q=>∃ j xs,Hld Γ1 j (.cel q xs)/\Q (.v j) Γ1
theorem bA(h:P3 K X e te e3):P3B K X e te (MQ e3):=⟨h.pe,by
 intro B F σ H Γ Q QQ en q k;refine h.rf B F σ H Γ _ _ en q fun v H1 Z=>?_;obtain⟨F1,Γ1,r,s1,e1,rv,q1⟩:=Z;obtain⟨q',rfl,j,xs,hj,q1⟩:=GS q1;have hv:v=.ref q':=rv;subst hv;exact k _ _ ⟨F1,Γ1,.v j,s1,e1,(e1.adr hj).1,q1⟩⟩
noncomputable def mM (Γ:G) (j:Nat) (xs:List D):G:=match Γ[j]? with
 | some (some (.ow (.cel q _)))=>Γ.set j (some (.ow (.cel q xs)))
 | some (some (.ln (.cel q _)))=>Γ.set j (some (.ln (.cel q xs)))
 | _=>Γ
theorem Fb(h:Hld Γ j (.cel q xs)):mM Γ j ys=putD Γ j (.cel q ys):=by
 rcases h with h | h <;> unfold mM putD <;> rw[h]
theorem En.Jt(e:En K B F σ H Γ){ws:List V}(h:Hld Γ j (.cel q xs))(r:aA K F ys ws):En K B F σ (upd H q (.lst ws)) (mM Γ j ys):=by
 rw[Fb h];exact e.LV h (e.adr h).1 ⟨rfl,ws,ar,r⟩
variable {k:Expr}{to tk:TE}
def Hb (o3 k3:TB3) (e3:TE3) (D:E3) (Γ:G):Prop:=e3 Γ fun r Γ1=>o3 Γ1 fun bo Γ2=>vB bo fun j=>k3 Γ2 fun b Γ3=>∃ q xs k n,Hld Γ3 j (.cel q xs)/\b.at Γ3=some (.int k)/\ixN xs.length k=some n/\D.nx (mM Γ3 j (xs.set n r.d))
theorem ES(ho:P3B K X o to o3)(hk:P3B K X k tk k3)(he:P3 K X e te e3)(ha:∀ v,assign (.Subscript o k p2) X.env v=(do
   let ov <- holding [v] (eval o X.env)
   let iv <- holding [v,ov] (eval k X.env)
   standAt p2
   holding [v,ov,iv] (setItem ov iv v)
   release [v,ov,iv] []):=by intro _;rfl)(hs:autoParam (swapsWithSole [.Subscript o k p2] e pos.line X.env=pure false) wE)(hw:autoParam (swappedStores [.Subscript o k p2] e X.env=pure none) wE)(h1:autoParam ((assignEach [.Subscript o k p2] X.env).map (·.2)=[assign (.Subscript o k p2) X.env]) wE) :
  P3S K X (.Assign [.Subscript o k p2] e pos) (j_ te (DE to tk ub)) (Hb o3 k3 e3):=⟨yi he.pe (CF ho.pe hk.pe set_list ha) hs hw h1,fun B F σ H Γ D D3 en kk q=>
 he.rf B F σ H Γ _ _ en q fun v H' Z=>by
  obtain⟨F',Γ',r,s,e',rv,q'⟩:=Z;obtain⟨F2,s2,e2,r2⟩:=e'.frozen rv;refine ho.rf B F2 σ H' Γ' _ _ e2 q' fun w H2 Z=>?_;obtain⟨F3,Γ3,bo,s3,e3,rb,q3⟩:=Z;cases bo with
  | d _=>exact q3.elim
  | v j=>
   refine hk.rf B F3 σ H2 Γ3 _ _ e3 q3 fun u H3 Z=>?_;obtain⟨F4,Γ4,b4,s4,e4,rb4,q0,xs,kk',n,hj,hb,hn,q4⟩:=Z;obtain⟨a1,a2,vs,a3,a4⟩:=e4.adr hj;have hw:σ[j]?=some (some w):=rb;rw[a1] at hw;cases hw;have hu:u=.int kk':=e4.bo rb4 hb;exact⟨q0,vs,kk',n,rfl,hu,a3,by rw[a4.length];exact hn,kk.nx F4 σ _ _ (((s.trans s2).trans s3).trans s4) (e4.Jt hj (aA.set (r2.mono (s3.trans s4)) n a4)) q4⟩⟩
noncomputable def qY (σ:L2.St) (g:Nat):La0->L2.St
 | []=>σ
 | q::qs=>qY (σ.set g (some (V.ref q))) (g + 1) qs
noncomputable def iW (Γ:G) (g:Nat):La0->List (List D)->G
 | q::qs,xs::xss=>iW (Γ.set g (some (.ow (.cel q xs)))) (g + 1) qs xss
 | _,_=>Γ
theorem tY:∀ {qs:La0} {σ:L2.St} {g:Nat},(qY σ g qs).length=σ.length
 | [],_,_=>rfl
 | q::qs,σ,g=>by unfold qY;rw[tY,List.length_set]
theorem wx:∀ {qs:La0} {σ:L2.St} {g i:Nat},i < g->(qY σ g qs)[i]?=σ[i]?
 | [],_,_,_,_=>rfl
 | q::qs,σ,g,i,h=>by unfold qY;rw[wx (Nat.lt_succ_of_lt h),az (Nat.ne_of_gt h)]
theorem wz{g:Nat}(h:L<=g):Gh L σ (qY σ g qs):=⟨tY,fun i lt=>wx (Nat.lt_of_lt_of_le lt h)⟩
theorem En.yO:∀ {qs:La0} {xss:List (List D)} {g:Nat} {σ:L2.St} {Γ:G},En K B F σ H Γ->de K F H qs xss->qs.Nodup->(∀ z,z∈qs->F z=none/\B.H z=none/\∀ (i:Nat) (e:D),Hld Γ i e->σ[i]?≠some (some (V.ref z)))->
  (∀ k,k < qs.length->Γ[g + k]?=some none)->En K B F (qY σ g qs) H (iW Γ g qs xss)
 | [],_,_,_,_,e,h,_,_,_=>by cases h;exact e
 | q::qs,_,g,σ,Γ,e,⟨xs,xt,vs,h1,h2,h3,h4⟩,nd,hn,hf=>by
  subst h1;obtain⟨n1,n2⟩:=List.nodup_cons.mp nd;obtain⟨a1,a2,a3⟩:=hn q (.head _);have fg:Γ[g]?=some none:=hf 0 (Nat.succ_pos _);have fr:aW Γ g:=by unfold aW;rw[fg];trivial
  have e1:=e.set (r:=.fr (.cel q xs)) fr ⟨q,rfl,a1,⟨rfl,vs,h2,h3⟩,a2,a3⟩;have il:=fu fr;have is:g < σ.length:=by rw[e.len];exact il
  refine En.yO (qs:=qs) e1 h4 n2 (fun z hz=>?_) fun k hk=>?_
  ·obtain⟨b1,b2,b3⟩:=hn z (.tail _ hz);refine⟨b1,b2,fun i d hi=>?_⟩;by_cases w:i=g
   ·subst w;rw[aC is];intro y;cases y;exact n1 hz
   ·rw[az (Ne.symm w)];exact b3 i d (by unfold Hld at hi ⊢;rw[az (Ne.symm w)] at hi;exact hi)
  ·rw[az (by lia),show g + 1 + k=g + (k + 1) by lia];exact hf (k + 1) (Nat.succ_lt_succ hk)
theorem rB:∀ {qs:La0},aA K F (qs.map D.adr) (qs.map V.ref)
 | []=>rfl
 | _::_=>⟨_,_,rfl,rfl,rB⟩
theorem de.length:∀ {qs:La0} {xss:List (List D)},de K F H qs xss->qs.length=xss.length
 | [],_,h=>by cases h;rfl
 | _::_,_,Z=>by obtain⟨xs,xt,vs,h1,_,_,h4⟩:=Z;subst h1;simp [h4.length]
def B9 (g i:Nat) (e3:TE3) (u3:TS3) (D:E3) (Γ:G):Prop:=e3 Γ fun r Γ1=>AD r fun xss=>aW Γ1 i/\(∀ k,k < xss.length + 1->Γ1[g + k]?=some none)/\∀ p qs,qs.length=xss.length->u3 D (iW (Γ1.set i (some (.fz (.adr p)))) g (p::qs) (qs.map .adr::xss))
theorem E8{x:Str}{rest:List Stmt}(L g i:Nat)(hL:L<=g)(hi:i < L)(P:Bu X L)(hs:P3S K X (.Assign [.Name x px] e pos) (j_ te (hX i)) x3)(he:P3 K X e te e3)(h2:j6 K X rest u u3) :
  j6 K X (.Assign [.Name x px] e pos::rest) (Av (j_ te (hX i)) (tGh L u)) (B9 g i e3 u3):=⟨eh hs.pe (yg P h2.pe),fun B F σ H Γ D D3 e k q=>he.rf B F σ H Γ _ _ e q fun v H' Z=>by
  obtain⟨F',Γ',r,s,e',rv,q'⟩:=Z;obtain⟨xss,rfl,hf,hfree,q'⟩:=vi q';obtain⟨p,qs,rfl,h1,h2',h3,h4⟩:=rv;have e1:=e'.set (r:=.fz (.adr p)) hf rfl;have il:=fu hf;have e2:=e1.yO (g:=g) (qs:=p::qs) (xss:=qs.map .adr::xss) ⟨_,_,_,rfl,h1,rB,h3⟩ h2' (fun z hz=>⟨(h4 z hz).1,(h4 z hz).2.1,fun j d hj=>by
   by_cases w:j=i
   ·subst w;rcases hj with hj | hj <;> rw[aC il] at hj <;> cases hj
   ·rw[az (Ne.symm w)];exact(h4 z hz).2.2 j d (by unfold Hld at hj ⊢;rw[az (Ne.symm w)] at hj;exact hj)⟩) fun k hk=>by
   rw[az (by lia)];exact hfree k (by rw[<- h3.length];exact hk)
  exact⟨_,wz hL,h2.rf B F' _ H' _ D D3 e2 (k.mono s) (q' p qs h3.length)⟩⟩
end
noncomputable def Bs.qu (B:Bs):List (Addr×HO)->Bs
 | []=>B
 | (q,o)::l=>(Bs.qu B l).hid q o
theorem Dx:∀ {l:List (Addr×HO)},(B.qu l).F=B.F
 | []=>rfl
 | _::l=>Dx (l:=l)
theorem xl:∀ {l:List (Addr×HO)},(B.qu l).own=B.own
 | []=>rfl
 | _::l=>xl (l:=l)
theorem z7:∀ {l:List (Addr×HO)} {q:Addr},(B.qu l).H q=none->B.H q=none/\q∉l.map (·.1)
 | [],q,h=>⟨h,by simp⟩
 | (z,o)::l,q,h=>by
  have h:upd (B.qu l).H z o q=none:=h;have ne:q≠z:=fun w=>by rw[w,ar] at h;cases h
  rw[ah ne] at h;obtain⟨a,b⟩:=z7 h;exact⟨a,by rw[List.map_cons,List.mem_cons,not_or];exact⟨ne,b⟩⟩
theorem uu:∀ {l:List (Addr×HO)} {q:Addr},B.H q=none->q∉l.map (·.1)->(B.qu l).H q=none
 | [],q,h,_=>h
 | (z,o)::l,q,h,n=>by
  rw[List.map_cons,List.mem_cons,not_or] at n;show upd (B.qu l).H z o q=none;rw[ah n.1];exact uu h n.2
theorem En.zq:∀ {l:List (Addr×HO)},En K (B.qu l) F σ H Γ->(l.map (·.1)).Nodup->(∀ z,z∈l->B.H z.1=none/\B.F z.1=none/\∀ i,(i,z.1)∉B.own)->
  En K B F σ H Γ/\∀ z,z∈l->H z.1=some z.2/\F z.1=none/\∀ (i:Nat) (d:D),Hld Γ i d->σ[i]?≠some (some (V.ref z.1))
 | [],e,_,_=>⟨e,fun _ h=>nomatch h⟩
 | (q,o)::l,e,nd,hn=>by
  rw[List.map_cons,List.nodup_cons] at nd;obtain⟨b1,b2,b3⟩:=hn (q,o) (.head _);obtain⟨e1,h1,f1,n1⟩:=En.BP (B:=B.qu l) e (uu b1 nd.1) (by rw[Dx];exact b2) (by rw[xl];exact b3);obtain⟨e2,k2⟩:=En.zq e1 nd.2 fun z hz=>hn z (.tail _ hz);refine⟨e2,fun z hz=>?_⟩;rcases List.mem_cons.mp hz with rfl | hz
  ·exact⟨h1,f1,n1⟩
  ·exact k2 z hz
def v9 (fr:On) (i3:TI3) (g3:TG3) (e3:TE3) (Γ:G) (Q:RV->G->Prop):Prop:=i3 Γ fun xs Γ1=>xs.length < sizeLine/\∃ Iv:Nat->List (List D)->G->Prop,Iv 0 [] (dU Γ1 (dj fr))/\
 (∀ k d ys Γc,xs[k]?=some d->ys.length=k->Iv k ys Γc->g3 d Γc fun Γ2=>e3 Γ2 fun r Γ3=>frL r fun zs=>Iv (k + 1) (ys++[zs]) Γ3)/\∀ ys Γc,ys.length=xs.length->Iv xs.length ys Γc->Q (.rws ys) (bD fr Γ1 Γc)
theorem de.snoc:∀ {qs:La0} {xss:List (List D)} {q:Addr} {xs:List D} {vs:List V},de K F H qs xss->H q=some (.lst vs)->aA K F xs vs->de K F H (qs++[q]) (xss++[xs])
 | [],_,q,xs,vs,h,h1,h2=>by cases h;exact⟨xs,[],vs,rfl,h1,h2,rfl⟩
 | _::_,_,q,xs,vs,⟨ys,yt,ws,a1,a2,a3,a4⟩,h1,h2=>by subst a1;exact⟨ys,_,ws,rfl,a2,a3,de.snoc a4 h1 h2⟩
noncomputable def oG (K:Fg0) (F:Hp):List (Addr×HO)->List (List D)->Prop
 | [],xss=>xss=[]
 | z::l,xss=>∃ xs xt vs,xss=xt++[xs]/\z.2=.lst vs/\aA K F xs vs/\oG K F l xt
theorem oG.mono(s:aE F F'):∀ {l:List (Addr×HO)} {xss:List (List D)},oG K F l xss->oG K F' l xss
 | [],_,h=>h
 | _::_,_,⟨xs,xt,vs,h1,h2,h3,h4⟩=>⟨xs,xt,vs,h1,h2,h3.mono s,oG.mono s h4⟩
theorem oG.at:∀ {l:List (Addr×HO)} {xss:List (List D)},oG K F l xss->(∀ z,z∈l->H z.1=some z.2)->de K F H (l.map (·.1)).reverse xss
 | [],_,h,_=>h
 | z::l,_,⟨xs,xt,vs,h1,h2,h3,h4⟩,hH=>by
  subst h1;rw[List.map_cons,List.reverse_cons];exact(oG.at h4 fun y hy=>hH y (.tail _ hy)).snoc (by rw[hH z (.head _),h2]) h3
theorem AI(nd:(fr.filterMap id).Nodup)(hi:Ew K wi i3)(hg:Bt K g g3)(he:Ref K te e3):Ref K (qS fr wi g te) (v9 fr i3 g3 e3):=by
 intro B F σ H Γ Q QQ e q k;refine hi B F σ H Γ _ _ e q fun J H1 F1 Γ1 xs s1 e1 R Z=>?_;obtain⟨hz,Iv,i0,it,ie⟩:=Z;have eb:=e1.blk nd;refine⟨fun i m ys σc H=>m=xs.length - i/\i<=xs.length/\∃ F' Γc ds l,aE F1 F'/\En K ((Bs.mk F1 H1 (ownOf Γ1 σ (dj fr))).qu l) F' σc H Γc/\ys=((l.map (·.1)).reverse).map V.ref/\(l.map (·.1)).Nodup/\(∀ z,z∈l->H1 z.1=none)/\oG K F' l ds/\l.length=i/\ds.length=i/\Iv i ds Γc,
  ⟨_,rfl,Nat.zero_le _,F1,_,[],[],aE.refl _,eb,rfl,by simp,(fun _ h=>nomatch h),rfl,rfl,rfl,i0⟩,?_⟩
 rintro i m ys σc H2 ⟨rfl,hi',F2,Γ2,ds,l,s2,e2,rfl,nd2,new2,r2,hl2,hl,iv⟩;refine⟨by simp [hl2];lia,?_⟩;have cond:∀ z,z∈l->(Bs.mk F1 H1 (ownOf Γ1 σ (dj fr))).H z.1=none/\(Bs.mk F1 H1 (ownOf Γ1 σ (dj fr))).F z.1=none/\∀ j,(j,z.1)∉(Bs.mk F1 H1 (ownOf Γ1 σ (dj fr))).own:=fun z hz=>by
  have h1:=new2 z hz;refine⟨h1,e1.nof h1,fun j hj=>?_⟩;obtain⟨i',d,_,h5,h6⟩:=lD.mp hj;exact e1.nK h1 i' d h5 h6
 by_cases lt:i < xs.length
 ·refine .inr ⟨R.go i H2 (s2.trans e2.sub) lt,fun x H3 y=>?_⟩;have hd:xs[i]?=some xs[i]:=gE0 lt;obtain⟨F3,s3,e3',r3⟩:=R.turn s2 e2 hd y;refine hg _ F3 σc H3 Γ2 x _ _ _ e3' r3 (it i _ ds Γ2 hd hl iv) fun σ2 Γ4 e4 q4=>?_;refine⟨fun y H5=>∃ F5 Γ5 r,aE F3 F5/\En K ((Bs.mk F1 H1 (ownOf Γ1 σ (dj fr))).qu l) F5 σ2 H5 Γ5/\jH K ((Bs.mk F1 H1 (ownOf Γ1 σ (dj fr))).qu l) F5 σ2 H5 Γ5 y r/\frL r fun zs=>Iv (i + 1) (ds++[zs]) Γ5,fun y H5 Z=>?_,he _ F3 σ2 H3 Γ4 _ _ e4 q4 fun v H' p=>p⟩;obtain⟨F5,Γ5,r,s5,e5,rv,iv5⟩:=Z;obtain⟨zs,rfl,iv5⟩:=yQ iv5;obtain⟨p,rfl,f5,⟨vs,h5,r5⟩,b5,n5⟩:=rv;obtain⟨b6,b7⟩:=z7 b5;refine⟨xs.length - (i + 1),by lia,rfl,lt,F5,Γ5,ds++[zs],(p,.lst vs)::l,((s2.trans s3).trans s5),e5.hide f5 h5 n5,by simp,?_,?_,⟨zs,ds,vs,rfl,rfl,r5,r2.mono (s3.trans s5)⟩,by simp [hl2],by simp [hl],iv5⟩
  ·rw[List.map_cons,List.nodup_cons];exact⟨b7,nd2⟩
  ·intro z hz;rcases List.mem_cons.mp hz with rfl | hz
   ·exact b6
   ·exact new2 z hz
 ·have z:i=xs.length:=by lia
  subst z;refine .inl ⟨R.stop _ H2 (s2.trans e2.sub) rfl,fun l' hl'=>k _ _ ?_⟩;obtain⟨e3,k3⟩:=e2.zq nd2 cond;have eo:En K B F2 σ H2 (bD fr Γ1 Γ2):=e1.back (ls:=fr) e3 (by have:=nF (Γ:=Γ1) (σ:=σ) (bs:=dj fr);rw[r_] at this;exact this);have nh:∀ {p:Addr},H1 p=none->∀ (i:Nat) (x:D),Hld (bD fr Γ1 Γ2) i x->σ[i]?≠some (some (V.ref p)):=fun {p} h4' i x hx hp=>by
   obtain⟨d0,w⟩:∃ d0,Hld Γ1 i d0:=by
    rcases hx with hx | hx <;> rw[dR] at hx
    ·cases w:Γ1[i]? with
     | none=>rw[w] at hx;cases hx
     | some s=>rw[w] at hx;cases s with
      | none=>cases hx
      | some s=>cases s with
       | fz d=>cases hx
       | ow d=>exact⟨d,.inl w⟩
       | ln d=>cases hx
    ·cases w:Γ1[i]? with
     | none=>rw[w] at hx;cases hx
     | some s=>rw[w] at hx;cases s with
      | none=>cases hx
      | some s=>cases s with
       | fz d=>cases hx
       | ow d=>cases hx
       | ln d=>exact⟨d,.inr w⟩
   exact e1.nK h4' i d0 w hp
  have mem:∀ {z:Addr},z∈(l.map (·.1)).reverse->∃ o,(z,o)∈l:=fun {z} hz=>by
   rw[List.mem_reverse,List.mem_map] at hz;obtain⟨⟨y,o⟩,hy,rfl⟩:=hz;exact⟨o,hy⟩
  refine⟨F2,_,.rws ds,s1.trans s2,eo.alloc hl' _,⟨l',(l.map (·.1)).reverse,rfl,ar,?_,?_,fun z hz=>?_⟩,ie ds Γ2 hl iv⟩
  ·rw[List.nodup_cons];refine⟨fun hz=>?_,List.pairwise_reverse.mpr (nd2.imp fun h=>Ne.symm h)⟩;obtain⟨o,ho⟩:=mem hz;rw[(k3 _ ho).1] at hl';cases hl'
  ·refine(r2.at fun z hz=>(k3 z hz).1).mono (aE.refl F2) fun z hz=>?_;obtain⟨o,ho⟩:=mem hz;exact ah (aJ (k3 _ ho).1 hl')
  ·rcases List.mem_cons.mp hz with rfl | hz
   ·exact⟨eo.nof hl',eo.dom _ hl',eo.nK hl'⟩
   ·obtain⟨o,ho⟩:=mem hz;have h1:=new2 _ ho;exact⟨(k3 _ ho).2.1,e1.dom _ h1,nh h1⟩
theorem wX(hc:X.calm=true)(hi:P3I K X tg iter wi i3)(Bk:Blk X.N X.env.scope sc Nc fr)(hg:∀ s₀ H₀ C ex pn,P3G K (bC X sc Nc s₀ H₀ C ex pn) tg g g3)(he:∀ s₀ H₀ C ex pn,P3 K (bC X sc Nc s₀ H₀ C ex pn) elt te e3)(nd:autoParam ((fr.filterMap id).Nodup) wP)(hs:autoParam (∀ x,foldedSetIterable iter X.env x=pure x) wT) :
  P3 K X (.ListComp elt [⟨tg,iter,[],0⟩] sc pos) (qS fr wi g te) (v9 fr i3 g3 e3):=
 ⟨zI hc hi.pe Bk (fun a b c d e=>(hg a b c d e).pe) (fun a b c d e=>(he a b c d e).pe) hs,AI nd hi.rf (hg X.s₀ X.H₀ 0 [] []).rf (he X.s₀ X.H₀ 0 [] []).rf⟩
noncomputable def ka (Γ:G) (g:Nat):Nat->G
 | 0=>Γ
 | n + 1=>ka (Γ.set g none) (g + 1) n
theorem wB:∀ {n:Nat} {Γ:G} {g i:Nat},i < g->(ka Γ g n)[i]?=Γ[i]?
 | 0,_,_,_,_=>rfl
 | n + 1,Γ,g,i,h=>by unfold ka;rw[wB (Nat.lt_succ_of_lt h),az (Nat.ne_of_gt h)]
theorem En.i7:∀ {qs:La0} {xss:List (List D)} {g:Nat} {F:Hp} {Γ:G},En K B F σ H Γ->xss.length=qs.length->(∀ k q xs,qs[k]?=some q->xss[k]?=some xs->Γ[g + k]?=some (some (Sl.ow (.cel q xs))))->
  ∃ F',aE F F'/\En K B F' σ H (ka Γ g qs.length)/\aA K F' (xss.map .lst) (qs.map V.ref)/\∀ b o,F' b=some o->F b=some o\/(b∈qs/\∃ vs,o=.lst vs)
 | [],[],g,F,Γ,e,_,_=>⟨F,aE.refl F,e,rfl,fun b o h=>.inl h⟩
 | q::qs,xs::xss,g,F,Γ,e,hl,h=>by
  have h0:Γ[g]?=some (some (Sl.ow (.cel q xs))):=h 0 q xs rfl rfl;obtain⟨a1,a2,vs,a3,a4⟩:=e.adr (.inl h0);obtain⟨p,b1,b2,b3⟩:=e.hl g _ (.inl h0);have e1:=e.forget (i:=g) (by unfold aW;rw[h0];trivial);have nh:∀ (i:Nat) (d:D),Hld (Γ.set g none) i d->σ[i]?≠some (some (V.ref q)):=fun i d hi z=>by
   have il:g < Γ.length:=(gS0 h0).1;have ne:i≠g:=fun w=>by subst w;rcases hi with hi | hi <;> rw[aC il] at hi <;> cases hi
   have hi':Hld Γ i d:=by unfold Hld at hi ⊢;rw[az (Ne.symm ne)] at hi;exact hi
   exact ne (e.dis i g d _ q hi' (.inl h0) z a1)
  have e2:=e1.freeze a2 a3 (e.ow g _ q h0 a1) nh;have s1:=aQ (o:=.lst vs) a2;obtain⟨F',s',e',r',k'⟩:=En.i7 (qs:=qs) (xss:=xss) (g:=g + 1) e2 (by simpa using hl) fun k q' xs' hq hx=>by
   rw[az (by lia),show g + 1 + k=g + (k + 1) by lia];exact h (k + 1) q' xs' (by simpa using hq) (by simpa using hx)
  refine⟨F',s1.trans s',e',⟨_,_,rfl,⟨q,vs,rfl,s' _ _ ar,a4.mono (s1.trans s')⟩,r'⟩,fun b o hb=>?_⟩;rcases k' b o hb with w | ⟨w,v⟩
  ·by_cases z:b=q
   ·subst z;rw[ar] at w;cases w;exact .inr ⟨.head _,vs,rfl⟩
   ·rw[ah z] at w;exact .inl w
  ·exact .inr ⟨.tail _ w,v⟩
structure Bw (Γ:G) (i g:Nat) (p:Addr) (qs:La0) (xss:List (List D)):Prop where
 nm:Γ[i]?=some (some (Sl.fz (.adr p)))
 lt:i < g
 at0:Γ[g]?=some (some (Sl.ow (.cel p (qs.map .adr))))
 len:xss.length=qs.length
 ats:∀ k q xs,qs[k]?=some q->xss[k]?=some xs->Γ[g + 1 + k]?=some (some (Sl.ow (.cel q xs)))
noncomputable def Bd (Γ:G) (i g n:Nat) (xss:List (List D)):G:=(ka Γ g (n + 1)).set i (some (.fz (.lst (xss.map .lst))))
theorem En.Bd {i g:Nat} {p:Addr} {qs:La0} {xss:List (List D)} (e:En K B F σ H Γ) (h:Bw Γ i g p qs xss) :
  ∃ F',aE F F'/\En K B F' σ H (Bd Γ i g qs.length xss)/\∀ b o,F' b=some o->F b=some o\/(b∈p::qs/\∃ vs,o=.lst vs):=by
 have il:g < Γ.length:=(gS0 h.at0).1;obtain⟨a1,a2,vs,a3,a4⟩:=e.adr (.inl h.at0);obtain⟨u,b1,b2⟩:=e.fz i _ h.nm;cases (show u=V.ref p from b2);have e1:=e.forget (i:=g) (by unfold aW;rw[h.at0];trivial);have nh:∀ (i:Nat) (d:D),Hld (Γ.set g none) i d->σ[i]?≠some (some (V.ref p)):=fun i d hi z=>by
  have ne:i≠g:=fun w=>by subst w;rcases hi with hi | hi <;> rw[aC il] at hi <;> cases hi
  have hi':Hld Γ i d:=by unfold Hld at hi ⊢;rw[az (Ne.symm ne)] at hi;exact hi
  exact ne (e.dis i g d _ p hi' (.inl h.at0) z a1)
 have e2:=e1.freeze a2 a3 (e.ow g _ p h.at0 a1) nh;have s1:=aQ (o:=.lst vs) a2;obtain⟨F',s',e',r',k'⟩:=e2.i7 (qs:=qs) (xss:=xss) (g:=g + 1) h.len fun k q xs hq hx=>by
  rw[az (by lia)];exact h.ats k q xs hq hx
 have vq:vs=qs.map V.ref:=by
  have go:∀ {qs:La0} {vs:List V},aA K F (qs.map D.adr) vs->vs=qs.map V.ref:=by
   intro qs
   induction qs with
   | nil=>intro vs h;exact h
   | cons q qs ih=>
    intro vs h;obtain⟨v,ws,rfl,r1,r2⟩:=h;rw[show v=V.ref q from r1,ih r2];rfl
  exact go a4
 refine⟨F',s1.trans s',?_,fun b o hb=>?_⟩
 ·refine e'.Ll (i:=i) (d:=.adr p) ?_ fun v hv=>?_
  ·rw[wB (Nat.lt_succ_of_lt h.lt),az (Nat.ne_of_gt h.lt)];exact h.nm
  ·rw[b1] at hv;cases hv;exact⟨p,vs,rfl,s' _ _ ar,by rw[vq];exact r'⟩
 ·rcases k' b o hb with w | ⟨w,v⟩
  ·by_cases z:b=p
   ·subst z;rw[ar] at w;cases w;exact .inr ⟨.head _,vs,rfl⟩
   ·rw[ah z] at w;exact .inl w
  ·exact .inr ⟨.tail _ w,v⟩
theorem Ib{g:Nat}(h:Bw Γ i g p qs xss):Wk K Γ (Bd Γ i g qs.length xss):=fun B F σ H e=>by
 obtain⟨F',s,e',_⟩:=e.Bd h;exact⟨F',s,e'⟩
theorem FK{cs:G}(h:∀ k:Nat,ls[k]?≠some (some j)):newD ls cs j=none:=by
 cases q:newD ls cs j with
 | none=>rfl
 | some d=>obtain⟨k,a,_⟩:=gw q;exact absurd a (h k)
open PySem L2 PySem.Spec PyProof.Rows
theorem Eg:bare (.lst xs)=.lst xs:=rfl
theorem Eh:bare (.ins C ns xs)=.ins C ns xs:=rfl
theorem Ei:bare (.cel q xs)=.lst xs:=rfl
noncomputable def tlG (T:G):G:=T
noncomputable def nn (m:Nat):G:=List.replicate m none
noncomputable def tlE:G:=[]
noncomputable def phs (m:Nat):Ls0:=(List.range m).map fun i=>⟨#[0,i]⟩
theorem mB{Γa:G}{m:Nat}(h:Γa.length<=N.length):cO (N++phs m) Γa=Γa++(List.replicate (N.length - Γa.length) none++tlG (nn m++tlE)):=by
 unfold cO phs nn tlG tlE;rw[List.append_nil,List.length_append,lM0,List.length_range,List.replicate_append_replicate,show N.length + m - Γa.length=N.length - Γa.length + m by lia]
noncomputable def sQ (k:Nat) (ls:On) (Γ cs:G):G:=Γ.mapIdx fun i s=>jT (newD ls cs (i + k)) s
noncomputable def lsB:On->Nat->Bool
 | [],_=>true
 | none::l,k=>lsB l k
 | some j::l,k=>decide (j < k) && lsB l k
section
variable {cs T:G}{s:Option Sl}
theorem GF:bD ls Γ cs=sQ 0 ls Γ cs:=rfl
theorem Bq:sQ k ls [] cs=[]:=rfl
theorem za:sQ k ls (s::Γ) cs=jT (newD ls cs k) s::sQ (k + 1) ls Γ cs:=by
 unfold sQ;rw[List.mapIdx_cons,Nat.zero_add]
 congr 2
 funext i s
 rw[Nat.add_right_comm,Nat.add_assoc]
theorem yJ:∀ {ls:On},lsB ls k=true->∀ {j:Nat},k<=j->∀ a:Nat,ls[a]?≠some (some j)
 | [],_,j,_,a,h=>by simp at h
 | none::l,hb,j,hj,0,h=>by simp at h
 | none::l,hb,j,hj,a + 1,h=>yJ (ls:=l) hb hj a (by simpa using h)
 | some i::l,hb,j,hj,0,h=>by
  have hb:(decide (i < k) && lsB l k)=true:=hb;rw[Bool.and_eq_true] at hb;have:=of_decide_eq_true hb.1;simp at h;lia
 | some i::l,hb,j,hj,a + 1,h=>by
  have hb:(decide (i < k) && lsB l k)=true:=hb;rw[Bool.and_eq_true] at hb;exact yJ (ls:=l) hb.2 hj a (by simpa using h)
theorem y_{s:Option Sl}:jT none s=s:=by
 cases s with
 | none=>rfl
 | some s=>cases s <;> rfl
theorem Ej(h:lsB ls k=true):sQ k ls (tlG T) cs=tlG T:=by
 unfold sQ tlG;apply List.ext_getElem?;intro i;rw[List.getElem?_mapIdx,FK fun a=>yJ h (Nat.le_add_left k i) a];cases T[i]? with
 | none=>rfl
 | some s=>simp [y_]
theorem FW:lsB [] k=true:=rfl
theorem Dl{l:On}:lsB (none::l) k=lsB l k:=rfl
theorem Dk{l:On}:lsB (some j::l) k=(decide (j < k) && lsB l k):=rfl
end
section
variable {b3 t3:TS3}
def DV (fr:On) (i3:TI3) (g3:TG3) (e3:TE3) (Γ:G) (Q:RV->G->Prop) (_:Tag (fr,i3,g3,e3)) (_:Tag Q):Prop:=v9 fr i3 g3 e3 Γ Q
theorem Gy:v9 fr i3 g3 e3 Γ Q=DV fr i3 g3 e3 Γ Q ⟨⟩ ⟨⟩:=rfl
abbrev hR (Iv:Nat->List (List D)->G->Prop) (k:Nat) (ys:List (List D)) (Γ:G) (_:Tag Iv):Prop:=Iv k ys Γ
def DU (xs:List D) (Γ1:G) (fr:On) (g3:TG3) (e3:TE3) (Q:RV->G->Prop) (_:Tag (fr,g3,e3,Q)):Prop:=∃ Iv:Nat->List (List D)->G->Prop,Iv 0 [] (dU Γ1 (dj fr))/\
 (∀ k d ys Γc,xs[k]?=some d->ys.length=k->Iv k ys Γc->g3 d Γc fun Γ2=>e3 Γ2 fun r Γ3=>frL r fun zs=>Iv (k + 1) (ys++[zs]) Γ3)/\∀ ys Γc,ys.length=xs.length->Iv xs.length ys Γc->Q (.rws ys) (bD fr Γ1 Γc)
theorem Gf{t1:Tag (fr,i3,g3,e3)}{t2:Tag Q}:DV fr i3 g3 e3 Γ Q t1 t2=(i3 Γ fun xs Γ1=>xs.length < sizeLine/\DU xs Γ1 fr g3 e3 Q ⟨⟩):=rfl
theorem uK{t:Tag (fr,g3,e3,Q)}(Iv:Nat->List (List D)->G->Prop)(h0:Iv 0 [] (dU Γ1 (dj fr)))(hs:∀ k d ys Γc,xs[k]?=some d->ys.length=k->Iv k ys Γc->g3 d Γc fun Γ2=>e3 Γ2 fun r Γ3=>frL r fun zs=>hR Iv (k + 1) (ys++[zs]) Γ3 ⟨⟩)(he:∀ ys Γc,ys.length=xs.length->Iv xs.length ys Γc->Q (.rws ys) (bD fr Γ1 Γc)):DU xs Γ1 fr g3 e3 Q t:=⟨Iv,h0,hs,he⟩
def MZ (j:Nat) (ob:Option D) (d:D) (Γ:G) (N:G->Prop) (_:Tag N):Prop:=∃ q xs k n,Hld Γ j (.cel q xs)/\ob=some (.int k)/\ixN xs.length k=some n/\N (mM Γ j (xs.set n d))
theorem JY:Hb o3 k3 e3 D1 Γ=(e3 Γ fun r Γ1=>o3 Γ1 fun bo Γ2=>vB bo fun j=>k3 Γ2 fun b Γ3=>MZ j (b.at Γ3) r.d Γ3 D1.nx ⟨⟩):=rfl
theorem KI{k:Addr->Prop}:GU (.fz (.adr q)) k=k q:=rfl
theorem IE{k:List (List D)->Prop}:AD (.rws xss) k=k xss:=rfl
theorem Nf{k:Nat->Prop}:vB (.v j) k=k j:=rfl
def GL (q:Addr) (Γ:G) (Q:Bo->G->Prop) (_:Tag Q):Prop:=∃ j xs,Hld Γ j (.cel q xs)/\Q (.v j) Γ
theorem J_:MQ e3 Γ QB=(e3 Γ fun r Γ1=>GU r fun q=>GL q Γ1 QB ⟨⟩):=rfl
theorem Ep{t:Tag QB}(j:Nat)(h:Hld Γ j (.cel q xs))(hq:QB (.v j) Γ):GL q Γ QB t:=⟨j,xs,h,hq⟩
def Lx (g i:Nat) (xss:List (List D)) (Γ1:G) (u3:TS3) (E1:E3) (_:Tag (u3,E1)):Prop:=aW Γ1 i/\(∀ k,k < xss.length + 1->Γ1[g + k]?=some none)/\∀ p qs,qs.length=xss.length->u3 E1 (iW (Γ1.set i (some (.fz (.adr p)))) g (p::qs) (qs.map .adr::xss))
theorem JW{g:Nat}:B9 g i e3 u3 D1 Γ=(e3 Γ fun r Γ1=>AD r fun xss=>Lx g i xss Γ1 u3 D1 ⟨⟩):=rfl
def wkH (K:Fg0) (t3:TS3) (E1:E3) (Γ:G) (_:Tag (t3,E1)):Prop:=wk3 K t3 E1 Γ
theorem NP:wk3 K t3 D1 Γ=wkH K t3 D1 Γ ⟨⟩:=rfl
theorem BM{t:Tag (t3,D1)}(h:Wk K Γ Γ')(q:t3 D1 Γ'):wkH K t3 D1 Γ t:=⟨Γ',h,q⟩
end
noncomputable def gh (c:D->Sl) (p:Addr) (ds:List D) (qs:La0) (xss:List (List D)):G:=some (c (.cel p ds))::List.zipWith (fun q xs=>some (c (.cel q xs))) qs xss
section
variable {c:D->Sl}{ds:List D}{T T' pre:G}{g m y:Nat}
theorem Kc(h:qs.length=xss.length):(gh c p ds qs xss).length=qs.length + 1:=by
 unfold gh;rw[List.length_cons,List.length_zipWith,<- h,Nat.min_self]
theorem xn(hq:qs[y]?=some q)(hx:xss[y]?=some xs):(gh c p ds qs xss++T)[1 + y]?=some (some (c (.cel q xs))):=by
 rw[Nat.add_comm];unfold gh;rw[List.cons_append,List.getElem?_cons_succ,List.getElem?_append_left (by
  rw[List.length_zipWith];have:=(gS0 hq).1;have:=(gS0 hx).1;lia),List.getElem?_zipWith,hq,hx]
theorem lI(h:pre.length=L):(pre++T)[L + j]?=T[j]?:=by
 subst h;rw[List.getElem?_append_right (Nat.le_add_right _ _),Nat.add_sub_cancel_left]
theorem lH{d:D}(h:pre.length=L)(hj:Hld T j d):Hld (pre++tlG T) (L + j) d:=by
 unfold Hld tlG at *;rw[lI h];exact hj
theorem qB{s:Option Sl}(h:pre.length=L):(pre++T).set (L + j) s=pre++T.set j s:=by
 subst h;rw[List.set_append_right _ _ (Nat.le_add_right _ _),Nat.add_sub_cancel_left]
theorem wQ(h:pre.length=L):mM (pre++tlG T) (L + j) ys=pre++tlG (mM T j ys):=by
 unfold mM tlG;rw[lI h];split
 ·rw[qB h]
 ·rw[qB h]
 ·rfl
theorem By {f:Addr->List D->Option Sl}:∀ {qs:La0} {xss:List (List D)} {y:Nat} {q:Addr},qs[y]?=some q->(List.zipWith f qs xss).set y (f q ys)=List.zipWith f qs (xss.set y ys)
 | [],_,_,_,h=>by simp at h
 | a::qs,[],y,q,h=>by simp
 | a::qs,x::xss,0,q,h=>by simp at h;subst h;rfl
 | a::qs,x::xss,y + 1,q,h=>by
  simp only[List.zipWith_cons_cons,List.set_cons_succ];rw[By (qs:=qs) (by simpa using h)]
theorem Kb(hq:qs[y]?=some q)(hx:y < xss.length):(gh c p ds qs xss++T).set (1 + y) (some (c (.cel q ys)))=gh c p ds qs (xss.set y ys)++T:=by
 rw[Nat.add_comm];unfold gh;rw[List.cons_append,List.set_cons_succ,List.set_append_left _ _ (by
  rw[List.length_zipWith];have:=(gS0 hq).1;lia),<- By (f:=fun q xs=>some (c (.cel q xs))) hq]
 rfl
theorem zG(hc:c=Sl.ow\/c=Sl.ln)(hq:qs[y]?=some q)(hx:y < xss.length):mM (gh c p ds qs xss++T) (1 + y) ys=gh c p ds qs (xss.set y ys)++T:=by
 unfold mM;rw[xn hq (gE0 hx)];rcases hc with rfl | rfl <;> exact Kb hq hx
theorem t6:∀ {qs:La0} {xss:List (List D)} {T:G} {g:Nat},pre.length=L->iW (pre++T) (L + g) qs xss=pre++iW T g qs xss
 | [],_,_,_,_=>by unfold iW;rfl
 | _::_,[],_,_,_=>by unfold iW;rfl
 | q::qs,x::xss,T,g,h=>by
  unfold iW;rw[qB h,show L + g + 1=L + (g + 1) by lia,t6 h]
theorem wC:∀ {qs:La0} {xss:List (List D)} {m:Nat} {A:G},qs.length=xss.length->qs.length<=m->iW (A++(nn m++T)) A.length qs xss=A++(List.zipWith (fun q xs=>some (Sl.ow (.cel q xs))) qs xss++(nn (m - qs.length)++T))
 | [],[],m,A,_,_=>rfl
 | q::qs,x::xss,0,A,_,h=>by simp at h
 | q::qs,x::xss,m + 1,A,hl,h=>by
  unfold iW;have e:(A++(nn (m + 1)++T)).set A.length (some (Sl.ow (.cel q x)))=(A++[some (Sl.ow (.cel q x))])++(nn m++T):=by
   rw[List.set_append_right _ _ (Nat.le_refl _),Nat.sub_self];unfold nn;rw[List.replicate_succ];simp
  rw[e,show A.length + 1=(A++[some (Sl.ow (D.cel q x))]).length by simp,wC (by simpa using hl) (by simpa using h)];simp
theorem B8(h:pre.length=L)(hl:qs.length=xss.length)(hm:qs.length + 1<=m):iW (pre++tlG (nn m++T)) L (p::qs) (qs.map .adr::xss)=pre++tlG (gh .ow p (qs.map .adr) qs xss++(nn (m - (qs.length + 1))++T)):=by
 unfold tlG;have:=t6 (pre:=pre) (L:=L) (g:=0) (T:=nn m++T) (qs:=p::qs) (xss:=qs.map .adr::xss) h;rw[Nat.add_zero] at this;rw[this];have e:=wC (T:=T) (A:=[]) (qs:=p::qs) (xss:=qs.map .adr::xss) (m:=m) (by simp [hl]) (by simpa using hm);simp only[List.nil_append,List.length_nil] at e;rw[e];simp [gh]
theorem LU(h:k < m):(nn m++T)[k]?=some none:=by
 unfold nn;rw[List.getElem?_append_left (by simpa using h),List.getElem?_replicate,if_pos h]
theorem FJ(h:pre.length=L)(hm:n<=m):∀ k,k < n->(pre++tlG (nn m++T))[L + k]?=some none:=fun k hk=>by
 unfold tlG;rw[lI h];exact LU (Nat.lt_of_lt_of_le hk hm)
theorem tZ:∀ {n:Nat} {T:G} {g:Nat},pre.length=L->ka (pre++T) (L + g) n=pre++ka T g n
 | 0,_,_,_=>rfl
 | n + 1,T,g,h=>by
  unfold ka;rw[qB h,show L + g + 1=L + (g + 1) by lia,tZ h]
theorem wA:∀ {n:Nat} {A Z:G},Z.length=n->ka (A++(Z++T)) A.length n=A++(nn n++T)
 | 0,A,[],_=>rfl
 | n + 1,A,[],h=>by simp at h
 | 0,A,z::Z,h=>by simp at h
 | n + 1,A,z::Z,h=>by
  unfold ka;have e:(A++(z::Z++T)).set A.length none=(A++[none])++(Z++T):=by
   rw[List.set_append_right _ _ (Nat.le_refl _),Nat.sub_self];simp
  rw[e,show A.length + 1=(A++[none]).length by simp,wA (by simpa using h)];unfold nn;rw[List.replicate_succ];simp
theorem Jq{a b:Nat}:nn a++(nn b++T)=nn (a + b)++T:=by
 unfold nn;rw[<- List.append_assoc,List.replicate_append_replicate]
theorem Gn(h:pre.length=L)(hi:i < L)(hl:qs.length=xss.length):Bd (pre++tlG (gh .ow p ds qs xss++(nn m++T))) i L qs.length xss=pre.set i (some (.fz (.lst (xss.map .lst))))++tlG (nn (qs.length + 1 + m)++T):=by
 unfold Bd tlG;have e:=tZ (pre:=pre) (L:=L) (g:=0) (T:=gh .ow p ds qs xss++(nn m++T)) (n:=qs.length + 1) h;rw[Nat.add_zero] at e;rw[e];have e2:=wA (T:=nn m++T) (A:=[]) (Z:=gh .ow p ds qs xss) (n:=qs.length + 1) (Kc hl);simp only[List.nil_append,List.length_nil] at e2;rw[e2,Jq,List.set_append_left _ _ (by rw[h];exact hi)]
theorem Bw.of(h:pre.length=L)(hi:i < L)(hn:pre[i]?=some (some (Sl.fz (.adr p))))(hl:qs.length=xss.length):Bw (pre++tlG (gh .ow p (qs.map .adr) qs xss++T)) i L p qs xss where
 nm:=by rw[List.getElem?_append_left (by rw[h];exact hi)];exact hn
 lt:=hi
 at0:=by
  have:=lI (pre:=pre) (T:=tlG (gh .ow p (qs.map .adr) qs xss++T)) (j:=0) h;rw[Nat.add_zero] at this;rw[this];rfl
 len:=hl.symm
 ats:=fun k q xs hq hx=>by
  rw[Nat.add_assoc,lI h];exact xn hq hx
theorem Cg{R:LL0}:List.map D.lst (List.map (fun r=>List.map D.int r) R)=List.map (fun ns=>D.lst (ns.map D.int)) R:=by rw[List.map_map];rfl
theorem Ij:(tlG (gh c p ds qs xss++T))[0]?=some (some (c (.cel p ds))):=rfl
theorem Gj(hc:c=Sl.ow\/c=Sl.ln):Hld (gh c p ds qs xss++T) 0 (.cel p ds):=by
 rcases hc with rfl | rfl
 ·exact .inl rfl
 ·exact .inr rfl
theorem sj(hc:c=Sl.ow\/c=Sl.ln)(hq:qs[y]?=some q)(hx:xss[y]?=some xs):Hld (gh c p ds qs xss++T) (1 + y) (.cel q xs):=by
 rcases hc with rfl | rfl
 ·exact .inl (xn hq hx)
 ·exact .inr (xn hq hx)
section
variable {t:Tag QB}
theorem sR(h:Γ=pre++tlG (gh c p ds qs xss++T))(hp:pre.length=L)(hc:c=Sl.ow\/c=Sl.ln)(hQ:QB (.v L) Γ):GL p Γ QB t:=by
 subst h;exact Ep L (lH (j:=0) hp (Gj hc)) hQ
theorem sS(h:Γ=pre++tlG (gh c p ds qs xss++T))(hp:pre.length=L)(hc:c=Sl.ow\/c=Sl.ln)(hq:qs[y]?=some q)(hx:xss[y]?=some xs)(hQ:QB (.v (L + (1 + y))) Γ):GL q Γ QB t:=by
 subst h;exact Ep _ (lH hp (sj hc hq hx)) hQ
end
theorem Er{N:G->Prop}{t:Tag N}{d:D}{k:Int}(h:Γ=pre++tlG (gh c p ds qs xss++T))(hp:pre.length=L)(hc:c=Sl.ow\/c=Sl.ln)(hq:qs[y]?=some q)(hx:xss[y]?=some xs)(hk:ob=some (.int k))(hn:ixN xs.length k=some n)(hN:N (pre++tlG (gh c p ds qs (xss.set y (xs.set n d))++T))):MZ (L + (1 + y)) ob d Γ N t:=by
 subst h;refine⟨q,xs,k,n,lH hp (sj hc hq hx),hk,hn,?_⟩;rw[wQ hp,zG hc hq (gS0 hx).1];exact hN
theorem zF{t:Tag (u3,E1)}(h:Γ1=pre++tlG (nn m++T))(hp:pre.length=L)(hi:i < L)(hf:aW pre i)(hm:xss.length + 1<=m)(hq:∀ p qs,qs.length=xss.length->u3 E1 (pre.set i (some (.fz (.adr p)))++tlG (gh .ow p (qs.map .adr) qs xss++(nn (m - (qs.length + 1))++T)))):Lx L i xss Γ1 u3 E1 t:=by
 subst h;refine⟨?_,FJ hp hm,fun p qs hl=>?_⟩
 ·unfold aW at hf ⊢;rw[List.getElem?_append_left (by rw[hp];exact hi)];exact hf
 ·rw[List.set_append_left _ _ (by rw[hp];exact hi),B8 (by rw[List.length_set];exact hp) hl (by rw[hl];exact hm)];exact hq p qs hl
theorem wkR(hp:pre.length=L)(hi:i < L)(hn:pre[i]?=some (some (Sl.fz (.adr p))))(hl:qs.length=xss.length):Wk K (pre++tlG (gh .ow p (qs.map .adr) qs xss++(nn m++T))) (pre.set i (some (.fz (.lst (xss.map .lst))))++tlG (nn (qs.length + 1 + m)++T)):=by
 rw[<- Gn (p:=p) (ds:=qs.map .adr) hp hi hl];exact Ib (Bw.of hp hi hn hl)
end
end L3
namespace L2
open PySem PySem.Spec PyProof.Rows
theorem zd{a b:Int}{x y:Tok}{c v:Value}(l:Lv0)(h:TriplesOk l)(e:codeAmong pos (l++[.int a x,.int b y,c])=some v):codeAmong pos l=some v\/v=c:=by
 fun_induction TriplesOk l with
 | case1=>
  right
  simp only[List.nil_append,codeAmong] at e;split at e
  ·exact(Option.some.inj e).symm
  ·cases e
 | case2 i _ j _ d rest ih=>
  simp only[List.cons_append,codeAmong] at e ⊢;split
  ·rename_i q;rw[if_pos q] at e;exact .inl e
  ·rename_i q;rw[if_neg q] at e;exact ih h e
 | case3=>exact h.elim
noncomputable abbrev lV (q:Str) (params:Arguments) (body:Expr) (scope:Scope) (clos:List (Str×Addr)) (pm:Value) (c:Addr) (ct:Value):Obj:=PySem.W.kla_obj "<lambda>" q params body scope clos pm c ct
def Ir (q:Str) (params:Arguments) (body:Expr) (scope:Scope) (clos:List (Str×Addr)) (pm:Value):TE:=fun _ H Q=>
 ∀ f c oc ct H1,(H1=H\/(H c=none/\H1=upd H c (.frz oc (.ext fun _=>True))))->H1 f=none->qg H1 (.ref c) q->Q (.ref f) (upd H1 f (.frz (lV q params body scope clos pm c ct) (.cod c q)))
theorem IZ{c P:Addr}{params:Arguments}(hcode:X.env.code=.ref c)(hC:∀ h:Heap,X.K.In h->PySem.W.CodeHd h c P)(hT:k9 X.base P (X.env.qual++"<lambda>"))(hcl:closureFor scope X.env=pure clos)(hdef:autoParam (defaultsOf params X.env=([],[])) wE) :
  PE X (.Lambda params body scope pos) (Ir (X.env.qual++"<lambda>") params body scope clos ((X.mg "__name__").getD .none)):=by
 intro pins s σ H Q I h;refine PySem.W.kla_eval hdef ?_;obtain⟨ps,t,hP,tag⟩:=I.tb P _ hT;obtain⟨q',t',qs,tag',hPo,htr,hcods⟩:=I.hok P _ hP;obtain⟨rfl,rfl⟩:X.env.qual++"<lambda>"=q'/\t=t':=by
  rw[tag] at tag';simpa using tag'
 have hns:s.heap.Ns mainGlobals X.mg:=I.mod.glob.keeps I.bk;obtain⟨bm,ob,b1,b2,b3,b4,b5,b6⟩:=I.mod.bm;have hgP:mainGlobals≠P:=fun z=>by
  obtain⟨o,es,ep,e,hd,_⟩:=hns;rw[z,hPo] at e;cases e;cases hd
 have hbP:bm≠P:=fun z=>by
  have e:=I.bk _ _ b3;rw[z,hPo] at e;cases e;cases b4
 have hbG:bm≠mainGlobals:=fun z=>by
  obtain⟨o,es,ep,e,hd,_⟩:=hns;have e':=I.bk _ _ b3;rw[z,e] at e';cases e';rw[hd] at b6;cases b6
 have hB:s.heap.BuiltinsAt X.mg P:=⟨bm,ob,b1,b2,hbG,hbP,I.bk _ _ b3,b4,b5,b6⟩;cases hcd:codeAmong pos qs.toList with
 | none=>
  refine PySem.W.kla_makeFunction hcl I.ok.glob hns hcode (hC _ I.kIn) hPo htr hcd hgP hB fun c' ct h' tk hx hge hlt hrec htb=>?_;obtain⟨c₂,oc,vs,t2,e2,hoc,hd,hv⟩:=hrec;cases e2;have hc0:H c'=none:=I.hok.fresh hge;have hcs:s.heap.objs.size<=h'.objs.size:=Nat.le_of_lt (Nat.lt_of_le_of_lt hge hlt);have hf0:H h'.objs.size=none:=I.hok.fresh hcs;have hfc:h'.objs.size≠c':=Nat.ne_of_gt hlt
  let H1:=upd H c' (.frz oc (.ext fun _=>True))
  have hf1:H1 h'.objs.size=none:=by show upd H c' _ _=none;rw[ah hfc];exact hf0
  have hPc:P≠c':=aJ hP hc0;have hPf:P≠h'.objs.size:=aJ hP hf0;have cod:∀ H':Hp,H' c'=some (.frz oc (.ext fun _=>True))->qg H' (.ref c') (X.env.qual++"<lambda>"):=fun H' z=>⟨c',oc,vs,t2,_,rfl,z,hd,hv⟩;have q:=h h'.objs.size c' oc ct H1 (.inr ⟨hc0,rfl⟩) hf1 (cod H1 ar);have keepN:∀ b o,b≠P->s.heap.get? b=some o->(h'.push (lV (X.env.qual++"<lambda>") params body scope clos ((X.mg "__name__").getD .none) c' ct)).get? b=some o:=fun b o nb e=>Heap.get?_push_of_some _ (hx b o nb e);have nP:∀ b,H b=none->b≠P:=fun b n z=>by rw[z,hP] at n;cases n
  have old:∀ {b:Addr} {u:HO},H b=some u->upd H1 h'.objs.size (.frz (lV (X.env.qual++"<lambda>") params body scope clos ((X.mg "__name__").getD .none) c' ct) (.cod c' (X.env.qual++"<lambda>"))) b=some u:=fun {b u} e=>by
   rw[ah (aJ e hf0)];show upd H c' _ b=_;rw[ah (aJ e hc0)];exact e
  have cN:upd H1 h'.objs.size (.frz (lV (X.env.qual++"<lambda>") params body scope clos ((X.mg "__name__").getD .none) c' ct) (.cod c' (X.env.qual++"<lambda>"))) c'=some (.frz oc (.ext fun _=>True)):=by
   rw[ah (Ne.symm hfc)];exact ar
  refine⟨.ref h'.objs.size,_,I.un ⟨fun b o e n _ _=>keepN b o (nP b n) e,fun b o e n _ _=>⟨o.slots,keepN b o (nP b n) e⟩,fun b o e n _=>?_,fun b o e _=>?_,fun b xs e=>old e,fun b o u e=>old e,fun b ps e=>⟨#[],by rw[Array.append_empty];exact old e⟩⟩ (fun b u e=>?_),rfl,q⟩
  ·have lt:=Heap.lt_size e;rw[ah (Nat.ne_of_lt (Nat.lt_of_lt_of_le lt hcs))];show upd H c' _ b=_;rw[ah (Nat.ne_of_lt (Nat.lt_of_lt_of_le lt hge))];exact n
  ·by_cases z:b=P
   ·subst z;exact⟨_,Heap.get?_push_of_some _ htb⟩
   ·exact⟨o,keepN b o z e⟩
  ·by_cases zf:b=h'.objs.size
   ·subst zf;rw[ar] at e;cases e;exact⟨Heap.get?_push_size _ rfl,⟨_,Heap.get?_push_size _ rfl⟩,cod _ cN⟩
   ·rw[ah zf] at e;by_cases zc:b=c'
    ·subst zc;have e':upd H b (.frz oc (.ext fun _=>True)) b=some u:=e;rw[ar] at e';cases e';exact⟨Heap.get?_push_of_some _ hoc,trivial,⟨_,Heap.get?_push_of_some _ hoc⟩,fun _ _ _ _=>trivial⟩
    ·have e':upd H c' (.frz oc (.ext fun _=>True)) b=some u:=e;rw[ah zc] at e';by_cases zP:b=P
     ·subst zP;rw[hP] at e';cases e';refine⟨_,t,_,tag,Heap.get?_push_of_some _ htb,?_,fun pos' v r=>?_⟩
      ·rw[Array.toList_append];exact TriplesOk_snoc _ _ _ _ htr
      ·rw[Array.toList_append] at r;rcases zd _ htr r with r | rfl
       ·exact(hcods pos' v r).mono fun _ _ _ z=>old z
       ·exact cod _ cN
     ·refine(I.hok b u e').lK (fun d o hd g=>keepN d o (fun z=>?_) g) (fun _ z=>old z) (fun _ _ z=>old z) fun _ _ _ z=>old z;rcases hd with y | y
      ·exact zP (y.symm.trans z)
      ·rw[z,hP] at y;cases y
 | some v=>
  obtain⟨c',oc,vs,t2,φ,rfl,e1,e2,e3⟩:=hcods pos v hcd;refine PySem.W.kla_makeFunctionHit hcl I.ok.glob hns hcode (hC _ I.kIn) hPo htr hcd hB fun ct h' tk hk hsz=>?_;have hf0:H h'.objs.size=none:=I.hok.fresh hsz;have cod:qg H (.ref c') (X.env.qual++"<lambda>"):=⟨c',oc,vs,t2,φ,rfl,e1,e2,e3⟩;refine⟨.ref h'.objs.size,_,I.laid (a:=h'.objs.size) (o:=.frz (lV (X.env.qual++"<lambda>") params body scope clos ((X.mg "__name__").getD .none) c' ct) (.cod c' (X.env.qual++"<lambda>"))) (t':=tk) (fun b u e=>Heap.get?_push_of_some _ (hk b u e)) hsz
   ⟨Heap.get?_push_size _ rfl,⟨_,Heap.get?_push_size _ rfl⟩,cod.mono fun b o φ z=>by rw[ah (aJ z hf0)];exact z⟩,rfl,h h'.objs.size c' oc ct H (.inl rfl) hf0 cod⟩
noncomputable def el (n:Nat) (g:Addr->Option Obj) (m:Addr->Option Str):Heap:={ objs:=Array.ofFn (n:=n) fun i=>(g i.1).getD { cls:=(m i.1).elim .none fun q=>.str q 0,data:=.freed } }
section
variable {g:Addr->Option Obj}{m:Addr->Option Str}{b:Addr}{o:Obj}
theorem sr(e:h.get? b=some o):o.data≠.freed:=by
 unfold Heap.get? at e;cases q:h.objs[b]? with
 | none=>rw[q] at e;cases e
 | some x=>
  rw[q] at e;obtain⟨c,d,dt,sl⟩:=x;cases dt with
  | freed=>cases e
  | _=>cases e;intro y;cases y
theorem hV:(el n g m).objs.size=n:=by unfold el;exact Array.size_ofFn
theorem lE(hb:b < n):(el n g m).objs[b]?=some ((g b).getD { cls:=(m b).elim .none fun q=>.str q 0,data:=.freed }):=by
 unfold el;rw[Array.getElem?_eq_getElem (by rw[Array.size_ofFn];exact hb),Array.getElem_ofFn]
theorem rW(hb:b < n)(hg:g b=some o)(nf:o.data≠.freed):(el n g m).get? b=some o:=by
 unfold Heap.get?;rw[lE hb,hg];obtain⟨c,d,dt,sl⟩:=o;show (match some (Obj.mk c d dt sl) with | some ⟨_,_,.freed,_⟩=>none | o=>o)=_;split
 ·rename_i z;cases z;exact absurd rfl nf
 ·rfl
theorem oY(e:(el n g m).get? b=some o):b < n/\g b=some o:=by
 have hb:b < n:=by have:=Heap.lt_size e;rw[hV] at this;exact this
 refine⟨hb,?_⟩;have nf:=sr e;unfold Heap.get? at e;rw[lE hb] at e;cases q:g b with
 | none=>rw[q] at e;cases e
 | some o'=>
  rw[q] at e;split at e
  ·cases e
  ·cases e;rfl
theorem yz{q:Str}(hb:b < n)(hg:g b=none)(hm:m b=some q):k9 (el n g m) b q:=by
 unfold k9;rw[lE hb,hg,hm]
 rfl
theorem w_{q:Str}(nf:∀ o,g b=some o->o.data≠.freed)(e:k9 (el n g m) b q):g b=none/\m b=some q:=by
 unfold k9 at e;have hb:b < n:=by
  obtain⟨z,_⟩:=Array.getElem?_eq_some_iff.mp e;rw[hV] at z;exact z
 rw[lE hb] at e;cases hg:g b with
 | some o=>
  rw[hg] at e;have e':o={ cls:=.str q 0,data:=.freed }:=Option.some.inj e;exact absurd (by rw[e']) (nf o hg)
 | none=>
  refine⟨rfl,?_⟩;rw[hg] at e;have e':=Option.some.inj e;cases hm:m b with
  | none=>rw[hm] at e';have:=congrArg Obj.cls e';cases this
  | some q'=>
   rw[hm] at e';have:=congrArg Obj.cls e';have y:Value.str q' 0=Value.str q 0:=this;cases y
   rfl
end
noncomputable def pick (h:Heap) (p:Addr->Bool):Heap:=el h.objs.size (fun b=>if p b=true then h.get? b else none) fun _=>none
section
variable {p:Addr->Bool}{b:Addr}{o:Obj}
theorem AQ:(pick h p).objs.size=h.objs.size:=hV
theorem nC(e:h.get? b=some o)(hp:p b=true):(pick h p).get? b=some o:=rW (Heap.lt_size e) (by rw[if_pos hp];exact e) (sr e)
theorem qE(e:(pick h p).get? b=some o):h.get? b=some o/\p b=true:=by
 have z:=(oY e).2;split at z
 ·rename_i y;exact⟨z,y⟩
 ·cases z
theorem CC{q:Str}(e:k9 (pick h p) b q):False:=by
 have z:=(w_ (fun o e=>by
  split at e
  ·exact sr e
  ·cases e) e).2
 cases z
end
theorem pN {h base:Heap} {p:Addr->Bool}:∀ {l:List Env},h.FunFrames base l->(∀ b∈frs l,p b=false)->h.FunFrames (pick h p) l
 | [],_,_=>trivial
 | env::r,⟨k,⟨L,o,hf,hn,ho,hd⟩,hr⟩,q=>by
  have m:L∈frs (env::r):=by unfold frs;rw[List.filterMap_cons,hf];exact List.mem_cons_self
  refine⟨k,⟨L,o,hf,?_,ho,hd⟩,pN hr fun b hb=>q b ?_⟩
  ·cases z:(pick h p).get? L with
   | none=>rfl
   | some u=>
    have y:=q L m;rw[(qE z).2] at y;cases y
  ·unfold frs at hb ⊢;rw[List.filterMap_cons,hf];exact List.mem_cons_of_mem _ hb
section
variable {pins:Pn}
theorem Inv.MB{p:Addr->Bool}(I:Inv X pins σ H s)(hb:∀ b o,X.base.get? b=some o->p b=true)(hp:∀ b o,s.heap.get? b=some o->p b=true->Kpt H b o)(hf:∀ b∈frs X.stack,p b=false) :
  xM X.prog X.w X.K X.mg (pick s.heap p) X.A X.stack s H:=by
 have k:∀ b o,X.base.get? b=some o->(pick s.heap p).get? b=some o:=fun b o e=>nC (I.bk b o e) (hb b o e);refine⟨I.ok.frames,⟨I.mod.kin.keeps k,I.mod.glob.keeps k,let ⟨mb,h1,h2⟩:=I.mod.blt;⟨mb,h1.keeps k,h2⟩,I.mod.nolimit.keeps k,let ⟨bm,ob,h1,h2,h3,h4⟩:=I.mod.bm;⟨bm,ob,h1,h2,k _ _ h3,h4⟩⟩,fun b o e=>⟨(qE e).1,hp b o (qE e).1 (qE e).2⟩,Nat.le_of_eq AQ,pN I.stack hf,I.nk,I.hok,I.bare,fun P q z=>(CC z).elim⟩
end
def uT (base:Heap) (q:Str) (params:Arguments) (body:Expr) (scope:Scope) (nm:Str) (o:Obj) (f:Addr) (v:V):Prop:=
 ∃ c d pm ct u oc vs t,o=lV q params body scope [(nm,c)] pm d ct/\base.get? f=some o/\base.IsCell c (some u)/\RelV v u/\base.get? d=some oc/\oc.data=.fields vs/\vs[1]?=some (.str q t)
section
variable {g:Addr}{x:Str}{p:Pos}{q:Str}{params:Arguments}
def xZ (X:Cx) (q:Str) (params:Arguments) (body:Expr) (scope:Scope) (nm:Str) (i j:Nat) (sp:Obj->Addr->V->Sp) (t:TA):TE:=fun σ H Q=>t σ H fun vs H1=>
 ∃ f c d pm ct v,vs[j]?=some (.ref f)/\H1 f=some (.frz (lV q params body scope [(nm,c)] pm d ct) (.cod d q))/\X.env.cells.lookup nm=some c/\σ[i]?=some (some v)/\sp (lV q params body scope [(nm,c)] pm d ct) f v vs H1 Q E0
theorem CP{sp:Obj->Addr->V->Sp}(F:∀ (base:Heap) (o:Obj) (f:Addr) (v:V),uT base q params body scope nm o f v->aG X.prog X.w X.K X.mg base CX0 k g fd ps (sp o f v))(hr:bF k X.A)(hg:Gl X x)(hm:X.mg x=some (.ref g))(hk:PySem.W.keepIn X.K (.ref g)=true)(hb:Binds X.K fd ps [])(hN:X.N[i]?=some nm)(hv:X.env.scope.names.lookup nm=some .cell)(hfn:X.fn nm=true)(ha:PA X (e::es) t)(hdb:autoParam ((x == ("__debug__":Str))=false) wP)(he:autoParam (starEach (e::es) X.env=(false,eval e X.env)::starEach es X.env) wE)(hpl:autoParam ((backTo pos (starEach es X.env)).any (·.1)=false) wE) :
  PE X (.Call (.Name x p) (e::es) [] pos) (xZ X q params body scope nm i j sp t):=by
 intro pins s σ H Q I h;refine wpAny_Call_Name_kw (eY I hg hm ?_ hdb);refine PySem.W.callWith_K (h₀:=X.base) I.ok.mod.kin hk (thn (ha pos pins s σ H _ I h) fun us s1 ⟨vs,H1,I1,r,z⟩=>⟨I1.kIn,?_⟩) he hpl;obtain⟨f,c,d,pm,ct,v,_,hf,hc,hσ,hsp⟩:=z;obtain⟨m,hn,hl⟩:=I1.loc;obtain⟨u,rv,lk⟩:=hl i nm v hN hσ (.inr (.inl hv));have hcell:s1.heap.IsCell c (some u):=by
  rcases lk with ⟨k1,_⟩ | ⟨_,c2,e2,z⟩
  ·have k2:X.env.scope.names.lookup nm=some .local:=k1;rw[hv] at k2;cases k2
  ·rw[hc] at e2;cases e2;exact z
 obtain⟨of,_,y⟩:=I1.hok f _ hf;obtain⟨d',oc,ws,t2,φ,e1,hd,e3,e4⟩:=y;cases e1;obtain⟨od,_⟩:=I1.hok d _ hd
 let P:Addr->Bool:=fun b=>(X.base.get? b).isSome || (decide (b=f) || (decide (b=c) || decide (b=d)))
 have pf:P f=true:=by simp [P]
 have pc:P c=true:=by simp [P]
 have pd:P d=true:=by simp [P]
 have cab:=I1.ok.cab nm c hfn hc;have L:uT (pick s1.heap P) q params body scope nm (lV q params body scope [(nm,c)] pm d ct) f v:=by
  obtain⟨ocl,hcl,hcd⟩:=hcell;exact⟨c,d,pm,ct,u,oc,ws,t2,rfl,nC of pf,⟨ocl,nC hcl pc,hcd⟩,rv,nC od pd,e3,e4⟩
 have e0:=I1.MB (p:=P) (fun b o eb=>by simp [P,eb]) (fun b o eb hp=>?_) fun b hbm=>?_
 ·have Fn:=F _ _ _ _ L;have r2:Vals (vs++[]) (us++[]):=r.append .nil;rw[List.append_nil,List.append_nil] at r2;have hl2:(us++[]).length=ps.length:=by rw[List.append_nil,<- r2.length];exact Fn.len _ _ _ _ hsp
  have bt:=hb s1 us I1.kIn hl2;rw[List.append_nil] at bt;refine wpAny_call (codeAny_mono (Fn.run X.A X.stack s1 H1 ⟨us,[]⟩ us vs Q E0 hr e0 bt r2 hsp) fun r s' hq=>?_);cases r with
  | error e=>exact False.elim hq
  | ok fl=>
   cases fl with
   | ret u=>exact I1.after hq
   | next=>exact False.elim hq
   | brk=>exact False.elim hq
   | cont=>exact False.elim hq
 ·have hp':(X.base.get? b).isSome=true\/b=f\/b=c\/b=d:=by simpa [P] using hp
  rcases hp' with hp | rfl | rfl | rfl
  ·obtain⟨o',e'⟩:=Option.isSome_iff_exists.mp hp;obtain⟨a1,a2⟩:=I1.bs b o' e';rw[eb] at a1;cases a1;exact a2
  ·rw[of] at eb;cases eb;exact .inr ⟨⟨_,hf⟩,fun v z=>by cases z⟩
  ·exact .inl (I1.freeC nm b hc)
  ·rw[od] at eb;cases eb;exact .inr ⟨⟨_,hd⟩,fun v z=>by rw[e3] at z;cases z⟩
 ·have hnone:=I1.nk b hbm;have nb:X.base.get? b=none:=(I1.stack.mem hbm).1;have n1:b≠f:=fun z=>by rw[z,hf] at hnone;cases hnone
  have n2:b≠d:=fun z=>by rw[z,hd] at hnone;cases hnone
  have n3:b≠c:=fun z=>by
   rcases List.mem_cons.mp (I1.qU b hbm) with y | y
   ·exact I1.cne nm c hc (z.symm.trans y)
   ·obtain⟨_,o,ho,_⟩:=I1.ok.i6.mem y;have:=Heap.lt_size ho;rw[z] at this;exact absurd (Nat.lt_of_lt_of_le this cab) (Nat.lt_irrefl _)
  simp [P,nb,n1,n2,n3]
def xX (i:Nat) (f:Addr) (sp:Sp) (t:TA):TE:=fun σ H Q=>σ[i]?=some (some (.ref f))/\t σ H fun vs H1=>sp vs H1 Q E0
theorem CN{o:Obj}(hf:X.base.get? f=some o)(ho:o.data=.func fd)(F:aG X.prog X.w X.K X.mg X.base CX0 k f fd ps sp)(hr:bF k X.A)(hb:Binds X.K fd ps [])(hN:X.N[i]?=some x)(hv:Vis X.env.scope x)(ha:PA X (e::es) t)(hdb:autoParam ((x == ("__debug__":Str))=false) wP)(hcd:autoParam ((x == ("__classdict__":Str))=false) wP)(he:autoParam (starEach (e::es) X.env=(false,eval e X.env)::starEach es X.env) wE)(hpl:autoParam ((backTo pos (starEach es X.env)).any (·.1)=false) wE) :
  PE X (.Call (.Name x p) (e::es) [] pos) (xX i f sp t):=by
 intro pins s σ H Q I ⟨h1,h2⟩;have at':∀ {h:Heap},(∀ b o,X.base.get? b=some o->h.get? b=some o)->PySem.W.FnAt f h:=fun {h} k=>by
  have e:=k _ _ hf;obtain⟨oc,od,dt,sl⟩:=o;have ho':dt=.func fd:=ho;subst ho';exact⟨oc,od,fd,sl,e⟩
 refine wpAny_Call_Name_kw (thn (cT (i:=i) hN hv hdb hcd pins s σ H (fun v H'=>v=.ref f/\H'=H) I ⟨_,h1,rfl,rfl⟩) fun u s1 Z=>?_);obtain⟨v,H',I1,rv,e1,e2⟩:=Z;subst e1;subst e2;obtain rfl:u=.ref f:=rv;refine PySem.W.callWith_F (at' I1.bk) (thn (ha pos pins s1 σ _ _ I1 h2) fun us s2 ⟨vs,H2,I2,r,z⟩=>⟨at' I2.bk,?_⟩) he hpl;exact oU (dvs:=[]) (ds:=[]) F hr hb .nil kC I2 r (by rw[List.append_nil];exact z)
end
structure sW (ps:Ls0) (nm:Str) (sc:Scope):Prop where
 kind:sc.kind=.function
 co:sc.isCoroutine=false
 gen:sc.isGenerator=false
 nd:(ps++[nm]).Nodup
 par:∀ x∈ps,sc.names.lookup x=some .local
 fre:sc.names.lookup nm=some .free
 only:∀ y∈sc.names,y.2=.free->y.1=nm
 nocell:∀ y∈sc.names,y.2≠.cell
noncomputable def DT (P:Program) (w:World) (K:Fg0) (mg:SV) (base:Heap) (ps:Ls0) (q:Str) (scope:Scope) (nm:Str) (f c d:Addr) (A:Around) (outer:List Env) (s:Shared) (H:Hp):Cx where
 prog:=P
 w:=w
 K:=K
 mg:=mg
 base:=base
 A:=A.deeper (PySem.W.envX q scope s.heap.objs.size f (.ref d) [(nm,c)])
 N:=ps++[nm]
 s₀:=s
 H₀:=H
 env:=PySem.W.envX q scope s.heap.objs.size f (.ref d) [(nm,c)]
 outer:=outer
 stack:=PySem.W.envX q scope s.heap.objs.size f (.ref d) [(nm,c)]::outer
 ex:=[]
 calm:=true
 fn:=fun _=>false
 pn:=[]
 xe:=fun _ _=>False
theorem zU {β:Type} {x:Str} {v:β}:∀ {l:List (Str×β)},(l.map (·.1)).Nodup->(x,v)∈l->l.lookup x=some v
 | [],_,h=>by cases h
 | (y,u)::l,nd,h=>by
  rw[List.map_cons,List.nodup_cons] at nd;rw[List.lookup_cons];rcases List.mem_cons.mp h with e | h2
  ·cases e;rw[beq_self_eq_true]
  ·have ne:(x == y)=false:=by
    rw[beq_eq_false_iff_ne];rintro rfl;exact nd.1 (List.mem_map.mpr ⟨_,h2,rfl⟩)
   rw[ne];exact zU nd.2 h2
theorem zh {β:Type}:∀ (P:Ls0) (us:List β),((P.zip us).map (·.1)).Sublist P
 | [],_=>by simp
 | _::_,[]=>by simp
 | p::P,u::us=>by
  rw[List.zip_cons_cons,List.map_cons];exact(zh P us).cons₂ p
theorem A6{v:Value}{x:Str}:∀ {P:Ls0} {us:Lv0} {i:Nat},P.Nodup->P[i]?=some x->us[i]?=some v->(P.zip us).reverse.lookup x=some v:=by
 intro P us i nd h1 h2;have hm:(x,v)∈P.zip us:=List.mem_of_getElem? (i:=i) (by rw[List.getElem?_zip_eq_some];exact⟨h1,h2⟩);refine zU ?_ (List.mem_reverse.mpr hm);rw[List.map_reverse];refine List.pairwise_reverse.mpr (List.Pairwise.imp (fun z=>Ne.symm z) ?_);exact List.Nodup.sublist (zh _ _) nd
section
variable {q:Str}{params:Arguments}{o:Obj}
theorem JB(L:uT base q params body scope nm o f v)(S:sW ps nm scope)(len:∀ vs H Q E,sp vs H Q E->vs.length=ps.length + 1)(hbody:∀ (c d:Addr) (A:Around) (outer:List Env) (s:Shared) (H:Hp) (vs:List V) (Q:VK),bF k (A.deeper (PySem.W.envX q scope s.heap.objs.size f (.ref d) [(nm,c)]))->sp vs H Q E0->
   ∃ t,PE (DT P w K mg base ps q scope nm f c d A outer s H) body t/\t (vs.map some) H Q)(hbd:∀ (clos:List (Str×Addr)) (pm:Value) (d:Addr) (ct:Value) (us:Lv0),us.length=ps.length->bindArgs (PySem.W.kla_fn "<lambda>" q params body scope clos pm (.ref d) ct) ⟨us,[]⟩=pure (ps.zip us)) :
  ∃ fd,base.get? f=some o/\o.data=.func fd/\Binds K fd ps []/\aG P w K mg base CX0 (k + 1) f fd ps (fun vs H Q _=>sp (vs++[v]) H Q E0):=by
 obtain⟨c,d,pm,ct,u,oc,ws,t,rfl,hf,⟨ocl,hcl,hcd⟩,rv,hd,hdd,hv⟩:=L;refine⟨_,hf,rfl,.all (hbd _ _ _ _),fun vs H Q E h=>?_,fun A outer s H args us vs Q E hr e0 hb r hsp=>?_⟩
 ·have:=len _ _ _ _ h;rw[List.length_append] at this;simpa using this
 have hl:vs.length=ps.length:=by
  have:=len _ _ _ _ hsp;rw[List.length_append] at this;simpa using this
 have lim:s.heap.NoLimit:=e0.mod.nolimit.keeps fun b o e=>(e0.bs b o e).1;refine PySem.W.kla_callFunE hr.depth (e0.bs _ _ hf).1 rfl S.co S.gen rfl ⟨d,oc,ws,t,rfl,(e0.bs _ _ hd).1,hdd,hv⟩ (hb _ _ _ _ ?_);refine wpAny_newFunctionEnv S.nocell (fun y hy=>S.par y.1 (List.of_mem_zip (a:=y.1) (b:=y.2) hy).1) (fun h₁ hns hsb=>⟨lim.fresh _ hsb,?_⟩) S.kind;show codeAny _ _ (.expr body (PySem.W.envX q scope s.heap.objs.size f (.ref d) [(nm,c)])) _ _;have hk:∀ b o,s.heap.get? b=some o->h₁.get? b=some o:=fun b o e=>hsb.extBut b o (Nat.ne_of_lt (Heap.lt_size e)) (Heap.get?_push_of_some _ e);refine PySem.W.kla_codeExpr ?_;obtain⟨tt,ht,hq⟩:=hbody c d A outer s H (vs++[v]) Q (hr.deeper _) hsp;have hnm:∀ x c',[(nm,c)].lookup x=some c'->x=nm/\c'=c:=fun x c' e=>by
  rw[List.lookup_cons] at e;split at e
  ·rename_i z;cases e;exact⟨by simpa using z,rfl⟩
  ·cases e
 have hc0:H c=none:=by
  rcases(e0.bs _ _ hcl).2 with z | ⟨_,z⟩
  ·exact z
  ·exact absurd hcd (z _)
 have noA:∀ b:Addr,b∉([]:La0):=fun b z=>absurd z (by simp);have I:Inv (DT P w K mg base ps q scope nm f c d A outer s H) [] ((vs++[v]).map some) H { s with heap:=h₁,toks:=s.toks + (ps.zip us).length }:=by
  refine⟨⟨e0.mod,S.kind,rfl,rfl,Nat.le_refl _,fun y z c' h1 h2=>(hnm y c' h1).1.trans (hnm z c' h2).1.symm,fun y hy=>?_,fun y c' z _=>(by cases z),fun _=>hr.hd,Around.frames_deeper e0.frames,.inr ⟨rfl,rfl⟩,fun b z=>absurd z (noA b),e0.bs,e0.bsz,fun b _ _=>noA b,fun b z=>absurd z (noA b),e0.i6,e0.frf,e0.tb⟩,
   rfl,e0.bare,Un.kept hk,⟨_,hns,fun i y v' h1 h2 h3=>?_⟩,fun y c' h=>?_,e0.hok.fresh (Nat.le_refl _),fun y c' h=>?_,fun p hp=>absurd (show p∈([]:Pn) from hp) (by simp),e0.hok.kept hk,?_⟩
  ·have hy:scope.names.lookup y=some .cell\/scope.names.lookup y=some .free:=hy;rcases hy with hy | hy
   ·exact absurd rfl (S.nocell _ (PySem.mem_of_lookup hy))
   ·have e:=S.only _ (PySem.mem_of_lookup hy) rfl;subst e;exact⟨c,by show [(y,c)].lookup y=some c;rw[List.lookup_cons,beq_self_eq_true]⟩
  ·have h1:(ps++[nm])[i]?=some y:=h1;by_cases hi:i < ps.length
   ·rw[List.getElem?_append_left hi] at h1;rw[List.getElem?_map,List.getElem?_append_left (by rw[hl];exact hi)] at h2;cases hvi:vs[i]? with
    | none=>rw[hvi] at h2;cases h2
    | some a=>
     rw[hvi] at h2;cases h2;obtain⟨u',hu',ru⟩:=r.get hvi;exact⟨u',ru,.inl ⟨S.par y (List.mem_of_getElem? h1),A6 (List.Nodup.sublist (List.sublist_append_left _ _) S.nd) h1 hu'⟩⟩
   ·rw[List.getElem?_append_right (Nat.le_of_not_lt hi)] at h1;rw[List.getElem?_map,List.getElem?_append_right (by rw[hl];exact Nat.le_of_not_lt hi),hl] at h2;have hi0:i - ps.length=0:=by
     cases z:i - ps.length with
     | zero=>rfl
     | succ n=>rw[z] at h1;simp at h1
    rw[hi0] at h1 h2;cases h1;cases h2;exact⟨u,rv,.inr ⟨.inr S.fre,c,by show [(nm,c)].lookup nm=some c;rw[List.lookup_cons,beq_self_eq_true],⟨ocl,hk _ _ (e0.bs _ _ hcl).1,hcd⟩⟩⟩
  ·obtain⟨_,rfl⟩:=hnm y c' h;exact⟨_,ocl,hk _ _ (e0.bs _ _ hcl).1,hcd⟩
  ·obtain⟨_,rfl⟩:=hnm y c' h;exact hc0
  ·show ((vs++[v]).map some).length=(ps++[nm]).length;simp [hl]
 exact wpAny_mono (ht [] _ _ H _ I hq) (fun u' s' ⟨v',H',J,rv',z⟩=>⟨v',H',J.os,J.bare,J.base,J.hok,rv',z⟩) fun e s' hs=>False.elim hs
end
theorem nO {β:Type} {a:Addr} {v:β}:∀ {l:List (Addr×β)},l.lookup a=some v->(a,v)∈l
 | [],h=>by cases h
 | (b,u)::l,h=>by
  rw[List.lookup_cons] at h;cases q:a == b with
  | true=>
   rw[q] at h;cases h;have e:a=b:=by simpa using q
   rw[e];exact List.mem_cons_self
  | false=>rw[q] at h;exact List.mem_cons_of_mem _ (nO h)
def M5 (K:Fg0) (h:Heap) (P:Addr):Prop:=h.get? P=some { cls:=.none,data:=.fields #[] }/\K.lookup P=none/\∃ c oc vs,h.get? c=some oc/\oc.cls=.type "code"/\oc.data=.fields vs/\vs[11]?=some (.ref P)
theorem A7{mb:SV}{CX:CXT}{fa a:Addr}{x:Str}{s₁:Shared}{vs:Lv0}{ns:Li0}{tabs:List (Addr×Str)}(KX:K.In s₁.heap)(hns:s₁.heap.Ns mainGlobals mg)(hb:s₁.heap.Ns builtinsNs mb)(hbb:∀ x:Str,x≠"__name__"->mb x=bootBuiltins x)(hlim:s₁.heap.NoLimit)(hbm:∃ bm ob,mg "__builtins__"=some (.ref bm)/\bm≠builtinsNs/\s₁.heap.get? bm=some ob/\ob.cls=.type "module"/\ob.dict=some builtinsNs/\ob.data=.plain)(hg:s₁.gens=#[])(ha:s₁.heap.get? a=some { cls:=.type "list",data:=.seq vs.toArray })(hi:IntsAre vs ns)(hl:ns.length<=sizeLine)(hr:bF k callerA)(hT:∀ p∈tabs,M5 K s₁.heap p.1)(F:∀ base:Heap,K.In base->base.Ns mainGlobals mg->(∀ P q,tabs.lookup P=some q->k9 base P q)->aG P w K mg base CX k fa fd [x] sp)(hbind:∀ (s:Shared) (u:Value),BindsTo s fd ⟨[u],[]⟩ [(x,u)])(hsp:∀ H:Hp,KP H->SqL K H a (ns.map V.int)->sp [.ref a] H (fun v _=>v=.bl true) fun _ _ _=>False)(hCX:∀ H e s',CX [] H s₁ (fun _ _ _=>False) e s'->False) :
  codeAny (model P w) callerA (.call (.ref fa) ⟨[.ref a],[]⟩) (fun r s'=>r=.ok (.ret (.bool true))/\OldK s₁.heap s'.heap/\s'.os=s₁.os/\AllBare s'.gens) s₁:=by
 have rv:=tQ hi;have lenV:=hi.length;have tabO:∀ {b:Addr} {q:Str},tabs.lookup b=some q->s₁.heap.get? b=some { cls:=.none,data:=.fields #[] }:=fun {b q} e=>(hT _ (nO e)).1;have tabA:tabs.lookup a=none:=by
  cases q:tabs.lookup a with
  | none=>rfl
  | some y=>have z:=tabO q;rw[ha] at z;cases z
 have core:∀ H:Hp,KP H->SqL K H a (ns.map V.int)->HOk P w H s₁.heap->(∀ b u,H b=some u->b=a\/∃ q,tabs.lookup b=some q)->(H a≠none->K.lookup a=none)->(∀ b q,tabs.lookup b=some q->H b=some (.tbl #[.str q 0]))->
   codeAny (model P w) callerA (.call (.ref fa) ⟨[.ref a],[]⟩) (fun r s'=>r=.ok (.ret (.bool true))/\OldK s₁.heap s'.heap/\s'.os=s₁.os/\AllBare s'.gens) s₁:=by
  intro H hO hS hok hA hK hTb;have base_of:∀ {b:Addr} {o:Obj},s₁.heap.get? b=some o->H b=none->(el s₁.heap.objs.size (fun b=>if (H b).isNone then s₁.heap.get? b else none) fun b=>tabs.lookup b).get? b=some o:=fun e n=>rW (Heap.lt_size e) (by rw[n];exact e) (sr e);have noT:∀ {b:Addr} {o:Obj},s₁.heap.get? b=some o->o.cls≠.type "list"->o≠{ cls:=.none,data:=.fields #[] }->H b=none:=fun {b o} e d1 d2=>by
   cases q:H b with
   | none=>rfl
   | some u=>
    rcases hA b u q with z | ⟨y,z⟩
    ·subst z;rw[ha] at e;cases e;exact absurd rfl d1
    ·rw[tabO z] at e;cases e;exact absurd rfl d2
  have noA:∀ {b:Addr} {o:Obj} {es:Array DictEntry} {ep:Nat},s₁.heap.get? b=some o->o.data=.dict es ep->H b=none:=fun {b o es ep} e d=>by
   cases q:H b with
   | none=>rfl
   | some u=>
    rcases hA b u q with z | ⟨y,z⟩
    ·subst z;rw[ha] at e;cases e;cases d
    ·rw[tabO z] at e;cases e;cases d
  have nsK:∀ {b:Addr} {m:SV},s₁.heap.Ns b m->(el s₁.heap.objs.size (fun b=>if (H b).isNone then s₁.heap.get? b else none) fun b=>tabs.lookup b).Ns b m:=fun {b m} ⟨o,es,ep,e,d,r⟩=>⟨o,es,ep,base_of e (noA e d),d,r⟩;have hKb:K.In (el s₁.heap.objs.size (fun b=>if (H b).isNone then s₁.heap.get? b else none) fun b=>tabs.lookup b):=fun b o e=>by
   refine base_of (KX b o e) ?_;cases q:H b with
   | none=>rfl
   | some u=>
    rcases hA b u q with z | ⟨y,z⟩
    ·subst z;rw[hK (by rw[q];simp)] at e;cases e
    ·have z2:=(hT _ (nO z)).2.1;rw[z2] at e;cases e
  have off:∀ {b:Addr} {o:Obj},(if (H b).isNone then s₁.heap.get? b else none)=some o->s₁.heap.get? b=some o/\H b=none:=fun {b o} e=>by
   split at e
   ·rename_i z;exact⟨e,by simpa using z⟩
   ·cases e
  have hM:Mod K mg (el s₁.heap.objs.size (fun b=>if (H b).isNone then s₁.heap.get? b else none) fun b=>tabs.lookup b):=⟨hKb,nsK hns,⟨mb,nsK hb,hbb⟩,let ⟨mc,h1,h2⟩:=hlim;⟨mc,nsK h1,h2⟩,let ⟨bm,ob,h1,h2,h3,h4,h5⟩:=hbm;⟨bm,ob,h1,h2,base_of h3 (noT h3 (by rw[h4];decide) (by intro z;rw[z] at h4;cases h4)),h4,h5⟩⟩;have e0:xM P w K mg (el s₁.heap.objs.size (fun b=>if (H b).isNone then s₁.heap.get? b else none) fun b=>tabs.lookup b) callerA [] s₁ H:=⟨rfl,hM,fun b o e=>⟨(off (oY e).2).1,.inl (off (oY e).2).2⟩,Nat.le_of_eq hV,trivial,fun b hb=>absurd (show b∈([]:La0) from hb) (by simp),hok,.of_eq hg,
   fun P q z=>⟨_,0,hTb P q (w_ (fun o e=>sr (off e).1) z).2,rfl⟩⟩
  refine codeAny_mono ((F _ hKb (nsK hns) fun P q z=>yz (Heap.lt_size (tabO z)) (by rw[hTb P q z];rfl) z).run callerA [] s₁ H ⟨[.ref a],[]⟩ [.ref a] [.ref a] _ _ hr e0 (hbind s₁ (.ref a)) (.cons rfl .nil) (hsp H hO hS)) fun r s' h=>?_;cases r with
  | error e=>exact(hCX H e s' h).elim
  | ok fl=>
   cases fl with
   | next=>exact False.elim h
   | brk=>exact False.elim h
   | cont=>exact False.elim h
   | ret u=>
    obtain⟨v,H',os,bare,un,hok',r',q⟩:=h;have q':v=.bl true:=q;subst q';obtain rfl:u=Value.bool true:=r';refine⟨rfl,⟨fun b o e=>?_,fun b o e=>un.there b o e (by simp)⟩,os,bare⟩;cases q:H b with
    | none=>exact .inl (un.keep b o e q (by intro z;exact absurd (show b∈([]:La0) from z) (by simp)) (by simp))
    | some u=>
     rcases hO b with z | ⟨ob,xs,z⟩ | ⟨ps,z⟩
     ·rw[q] at z;cases z
     ·have z2:=un.i7 b ob _ z;obtain⟨e1,_⟩:=hok b _ z;obtain⟨e2,_⟩:=hok' b _ z2;rw[e] at e1;cases e1;exact .inl e2
     ·rcases hA b u q with y | ⟨y,hy⟩
      ·subst y;obtain⟨_,_,_,_,e1,_⟩:=hok b _ z;rw[ha] at e1;cases e1
      ·obtain⟨m,z2⟩:=un.tbls b ps z;obtain⟨_,_,qs,_,e2,_⟩:=hok' b _ z2;have e1:=tabO hy;rw[e] at e1;cases e1;obtain⟨c,oc,ws,c1,c2,c3,c4⟩:=(hT _ (nO hy)).2.2;exact .inr (.inl ⟨⟨c,oc,ws,c1,c2,c3,c4⟩,rfl,#[],qs,rfl,by rw[Array.empty_append];exact e2⟩)
 let Ht:Hp:=fun b=>(tabs.lookup b).map fun q=>.tbl #[.str q 0]
 have htOk:∀ {b:Addr} {u:HO} {H:Hp},Ht b=some u->b9 P w H s₁.heap b u:=fun {b u H} z=>by
  cases q:tabs.lookup b with
  | none=>have z':(tabs.lookup b).map (fun q=>HO.tbl #[.str q 0])=some u:=z;rw[q] at z';cases z'
  | some y=>
   have z':(tabs.lookup b).map (fun q=>HO.tbl #[.str q 0])=some u:=z;rw[q] at z';cases z';exact⟨y,0,#[],rfl,tabO q,trivial,fun _ _ r=>by simp [codeAmong] at r⟩
 have htSome:∀ {b:Addr} {u:HO},Ht b=some u->∃ q,tabs.lookup b=some q/\u=.tbl #[.str q 0]:=fun {b u} z=>by
  have z':(tabs.lookup b).map (fun q=>HO.tbl #[.str q 0])=some u:=z;cases q:tabs.lookup b with
  | none=>rw[q] at z';cases z'
  | some y=>rw[q] at z';cases z';exact⟨y,rfl,rfl⟩
 have htA:Ht a=none:=by show (tabs.lookup a).map _=none;rw[tabA];rfl
 have htOf:∀ b q,tabs.lookup b=some q->Ht b=some (.tbl #[.str q 0]):=fun b q z=>by show (tabs.lookup b).map _=_;rw[z];rfl
 cases hk:K.lookup a with
 | some o=>
  have e:=KX a o hk;rw[ha] at e;cases e;refine core Ht (fun b=>?_) (.inr ⟨_,vs.toArray,_,hk,rfl,rfl,rfl,by rw[List.size_toArray,lenV];exact hl,by simpa using rv⟩) (fun b u z=>htOk z) (fun b u z=>.inr (let ⟨q,h,_⟩:=htSome z;⟨q,h⟩)) (fun z=>absurd htA z) htOf;cases z:Ht b with
  | none=>exact .inl rfl
  | some u=>obtain⟨q,_,rfl⟩:=htSome z;exact .inr (.inr ⟨_,rfl⟩)
 | none=>
  refine core (upd Ht a (.frz { cls:=.type "list",data:=.seq vs.toArray } (.lst (ns.map V.int)))) (fun b=>?_) (.inl (.inr ⟨{ cls:=.type "list",data:=.seq vs.toArray },ar⟩)) (fun b u z=>?_) (fun b u z=>?_) (fun _=>hk) fun b q z=>?_
  ·by_cases hb:b=a
   ·subst hb;exact .inr (.inl ⟨_,_,ar⟩)
   ·rw[ah hb];cases z:Ht b with
    | none=>exact .inl rfl
    | some u=>obtain⟨q,_,rfl⟩:=htSome z;exact .inr (.inr ⟨_,rfl⟩)
  ·by_cases hb:b=a
   ·subst hb;rw[ar] at z;cases z;exact⟨ha,by rw[lM0];exact hl,vs,_,rv,ha⟩
   ·rw[ah hb] at z;exact htOk z
  ·by_cases hb:b=a
   ·exact .inl hb
   ·rw[ah hb] at z;exact .inr (let ⟨q,h,_⟩:=htSome z;⟨q,h⟩)
  ·rw[ah (fun y=>by rw[y,tabA] at z;cases z)];exact htOf b q z
theorem BO{l:PySem.W.OpenLaw}{q:Program}{loose:Ls0}{XP:(SV)->Heap->Prop}{YP:World->Heap->Prop}{d:DefRec}{K:Params->Fg0}{CX:World->CXT}{sp:Fg0->Sp}{x:Str}{ts:La0}(hn:l.most=some n)(hn2:n<=sizeLine)(hdf:d.params.defaults=[])(hr:bF k callerA)(hY:∀ (w:World) (h:Heap),YP w h->(K w.params).In h/\∀ P∈ts,h.get? P=some (PySem.W.tabObj #[]))(F:∀ (w:World) (mg:SV) (fa:Addr) (h:Heap),(K w.params).In h->h.Ns mainGlobals mg->mg d.name=some (.ref fa)->
   ∃ (fd:FuncData) (tabs:List (Addr×Str)),(∀ (s:Shared) (u:Value),BindsTo s fd ⟨[u],[]⟩ [(x,u)])/\(∀ p∈tabs,p.1∈ts/\(K w.params).lookup p.1=none/\∃ c,PySem.W.CodeHd h c p.1)/\
    ∀ base:Heap,(K w.params).In base->base.Ns mainGlobals mg->(∀ P q,tabs.lookup P=some q->k9 base P q)->aG l.prog w (K w.params) mg base (CX w) k fa fd [x] (sp (K w.params)))(hsp:∀ (K:Fg0) (H:Hp) (a:Addr) (ns:Li0),ns.length<=n->KP H->SqL K H a (ns.map V.int)->sp K [.ref a] H (fun v _=>v=.bl true) fun _ _ _=>False)(hCX:∀ (w:World) (H:Hp) (s:Shared) (e:Value) (s':Shared),CX w [] H s (fun _ _ _=>False) e s'->False) :
  PySem.W.WalkO q loose XP YP l.row.toRowW d [] (fun f vs=>PySem.call f vs):=by
 refine Att.xK hn hdf fun w s₀ s₁ mg mb fa o pm cd doc a vs ns G Y ho hd hcd hmg hobj hints hlen hg=>?_;obtain⟨KX,hts⟩:=hY w _ Y;obtain⟨fd,tabs,hb,hT,hF⟩:=F w mg fa _ KX G.T.g hmg;refine A7 KX G.T.g G.T.b G.T.builtins G.T.nolimit G.T.bmain hg hobj hints (Nat.le_trans hlen hn2) hr (fun p hp=>?_) hF hb (fun H hO hS=>hsp _ H a ns hlen hO hS) fun H e s'=>hCX w H s₁ e s';obtain⟨h1,h2,c,o,vs,_,_,_,_,_,_,_,c1,c2,c3,c4,_⟩:=hT p hp;exact⟨hts _ h1,h2,c,o,vs,c1,c2,c3,c4⟩
end L2
namespace L3
open PySem L2 PySem.Spec PyProof.Rows
section
variable {q:Str}{params:Arguments}{pm:Value}
def JC (O:(Unit->Obj)->Prop) (Γ:G) (Q:RV->G->Prop):Prop:=∀ o f,O o->Q (.fz (.fn o f .non .non)) Γ
def GZ (q:Str) (params:Arguments) (body:Expr) (scope:Scope) (clos:List (Str×Addr)) (o:Unit->Obj):Prop:=∃ pm d ct,o ()=lV q params body scope clos pm d ct
theorem E2:Ref K (Ir q params body scope clos pm) (JC (GZ q params body scope clos)):=by
 intro B F σ H Γ Q QQ e h k f c oc ct H1 h1 hf hcod;have e1:En K B F σ H1 Γ:=by
  rcases h1 with rfl | ⟨hc,rfl⟩
  ·exact e
  ·exact e.alloc hc _
 have hF:F f=none:=e1.sub.free hf;have e2:=(e1.alloc hf (.frz (lV q params body scope clos pm c ct) (.cod c q))).freeze (l:=f) hF ar (e1.dom f hf) fun i d hd z=>by
  obtain⟨p,a,_,d'⟩:=e1.hl i d hd;rw[z] at a;cases a;obtain⟨u,hu⟩:=d'.some;rw[hf] at hu;cases hu
 exact k _ _ ⟨_,Γ,.fz (.fn (fun _=>lV q params body scope clos pm c ct) f .non .non),aQ hF,e2,⟨rfl,⟨c,q,ar,⟨_,rfl,rfl,rfl⟩⟩,rfl⟩,h (fun _=>lV q params body scope clos pm c ct) f ⟨pm,c,ct,rfl⟩⟩
theorem Jd{c P:Addr}(hcode:X.env.code=.ref c)(hC:∀ h:Heap,X.K.In h->PySem.W.CodeHd h c P)(hT:k9 X.base P (X.env.qual++"<lambda>"))(hcl:closureFor scope X.env=pure clos)(hdef:autoParam (defaultsOf params X.env=([],[])) wE) :
  P3 K X (.Lambda params body scope pos) (Ir (X.env.qual++"<lambda>") params body scope clos ((X.mg "__name__").getD .none)) (JC (GZ (X.env.qual++"<lambda>") params body scope clos)):=⟨IZ hcode hC hT hcl hdef,E2⟩
def y8 (O:(Unit->Obj)->Prop) (i j n:Nat) (S:(Unit->Obj)->Addr->V->S3) (t3:cV) (Γ:G) (Q:RV->G->Prop):Prop:=t3 Γ fun bs Γ1=>bs.length=n/\(bP bs).Nodup/\∃ o f r,bs[j]?=some (.d (.fn o f .non .non))/\O o/\Γ1[i]?=some (some (.fz r))/\
 ∀ v,S o f v (dU Γ1 ((bs.set j (.d (.fn o f v r))).map some)) fun x Γa=>Q x (bD (((bs.set j (.d (.fn o f v r))).map some).map bU) Γ1 Γa)
theorem o6:∀ {bs:List Bo} {j:Nat} {x y:D},bs[j]?=some (.d x)->bP (bs.set j (.d y))=bP bs
 | [],_,_,_,h=>by simp at h
 | .d _::_,0,_,_,_=>rfl
 | .v _::_,0,_,_,h=>by simp at h
 | .d _::bs,j + 1,x,y,h=>by
  rw[List.set_cons_succ];show bP (bs.set j _)=bP bs;exact o6 (by simpa using h)
 | .v i::bs,j + 1,x,y,h=>by
  rw[List.set_cons_succ];show i::bP (bs.set j _)=i::bP bs;rw[o6 (by simpa using h)]
theorem bj.set:∀ {bs:List Bo} {vs:List V} {j:Nat} {x:D} {v:V},bj K F σ bs vs->vs[j]?=some v->Rep K F x v->bj K F σ (bs.set j (.d x)) vs
 | [],_,_,_,_,h,e,_=>by cases h;simp at e
 | _::_,_,0,x,v,⟨u,ws,h1,h2,h3⟩,e,r=>by
  subst h1;simp at e;subst e;exact⟨_,ws,rfl,r,h3⟩
 | _::bs,_,j + 1,x,v,⟨u,ws,h1,h2,h3⟩,e,r=>by
  subst h1;rw[List.set_cons_succ];exact⟨u,ws,rfl,h2,bj.set h3 (by simpa using e) r⟩
theorem AM{c:Addr}{S:(Unit->Obj)->Addr->V->S3}(hc:X.env.cells.lookup nm=some c)(h:sU K t t3) :
  Ref K (xZ X q params body scope nm i j (fun o f v=>sp3 K n (S (fun _=>o) f v)) t) (y8 (GZ q params body scope [(nm,c)]) i j n S t3):=by
 intro B F σ H Γ Q QQ e qq k;refine h B F σ H Γ _ _ e qq fun vs H1 Z=>?_;obtain⟨F1,Γ1,bs,s1,e1,r1,hn,nd,o,f,r,hj,⟨pm,d,ct,ho⟩,hi,q1⟩:=Z;obtain⟨x,hx,rx⟩:=r1.get hj;obtain⟨rfl,⟨c2,q2,hF,fd,z1,z2,z3⟩,_⟩:=rx;obtain⟨v,hv,rr⟩:=e1.fz i r hi;rw[ho] at z1;cases z1;cases z2;cases z3;have ho':o=fun _=>lV q params body scope [(nm,c)] pm d ct:=funext fun _=>ho;subst ho';have hl:(bs.set j (.d (.fn (fun _=>lV q params body scope [(nm,c)] pm d ct) f v r))).length=n:=by rw[List.length_set];exact hn
 have r2:bj K F1 σ (bs.set j (.d (.fn (fun _=>lV q params body scope [(nm,c)] pm d ct) f v r))) vs:=r1.set hx ⟨rfl,⟨d,q,hF,⟨_,rfl,rfl,rfl⟩⟩,rr⟩;refine⟨f,c,d,pm,ct,v,hx,e1.sub _ _ hF,hc,hv,?_⟩;refine⟨by rw[r2.length];exact hl,F1,_,_,_,e1.args r2 (by rw[o6 hj];exact nd),jG,q1 v,fun r Γa q v H' F' e2 rv=>?_⟩;obtain⟨a,b,c⟩:=e1.called e2 rv;exact k v H' ⟨F',_,r,s1.trans a,b,c,q⟩
theorem CY{x:Str}{c g:Addr}{S:(Unit->Obj)->Addr->V->S3}{p:Pos}(F:∀ (base:Heap) (o:Unit->Obj) (f:Addr) (v:V),uT base q params body scope nm (o ()) f v->aG X.prog X.w X.K X.mg base CX0 k g fd ps (sp3 K n (S o f v)))(hr:bF k X.A)(hg:Gl X x)(hm:X.mg x=some (.ref g))(hk:PySem.W.keepIn X.K (.ref g)=true)(hb:Binds X.K fd ps [])(hN:X.N[i]?=some nm)(hv:X.env.scope.names.lookup nm=some .cell)(hfn:X.fn nm=true)(hc:X.env.cells.lookup nm=some c)(ha:sV K X (e::es) t t3)(hdb:autoParam ((x == ("__debug__":Str))=false) wP)(he:autoParam (starEach (e::es) X.env=(false,eval e X.env)::starEach es X.env) wE)(hpl:autoParam ((backTo pos (starEach es X.env)).any (·.1)=false) wE) :
  P3 K X (.Call (.Name x p) (e::es) [] pos) (xZ X q params body scope nm i j (fun o f v=>sp3 K n (S (fun _=>o) f v)) t) (y8 (GZ q params body scope [(nm,c)]) i j n S t3):=
 ⟨CP (fun base o f v L=>F base (fun _=>o) f v L) hr hg hm hk hb hN hv hfn ha.pe hdb he hpl,AM hc ha.rf⟩
def D9 (i n:Nat) (o:Unit->Obj) (f:Addr) (v:V) (S:S3) (t3:cV) (Γ:G) (Q:RV->G->Prop):Prop:=∃ r,Γ[i]?=some (some (.fz (.fn o f v r)))/\t3 Γ fun bs Γ1=>bs.length=n/\(bP bs).Nodup/\Γ1[i]?=some (some (.fz (.fn o f v r)))/\
 S (dU Γ1 ((bs++[Bo.d r]).map some)) fun x Γa=>Q x (bD (((bs++[Bo.d r]).map some).map bU) Γ1 Γa)
theorem o7 {r:D}:∀ {bs:List Bo},bP (bs++[Bo.d r])=bP bs
 | []=>rfl
 | .d _::bs=>by show bP (bs++_)=_;exact o7
 | .v i::bs=>by show i::bP (bs++_)=i::bP bs;rw[o7]
theorem bj.app{r:D}(h:Rep K F r v):∀ {bs:List Bo} {vs:List V},bj K F σ bs vs->bj K F σ (bs++[Bo.d r]) (vs++[v])
 | [],_,e=>by cases e;exact⟨v,[],rfl,h,rfl⟩
 | _::bs,_,Z=>by obtain⟨u,ws,h1,h2,h3⟩:=Z;subst h1;exact⟨u,ws++[v],rfl,h2,bj.app h h3⟩
theorem AL{o:Unit->Obj}(h:sU K t t3):Ref K (xX i f (fun vs H Q _=>sp3 K (n + 1) S (vs++[v]) H Q E0) t) (D9 i n o f v S t3):=by
 intro B F σ H Γ Q QQ e ⟨r,hi,qq⟩ k;obtain⟨x,hx,rfl,_,_⟩:=e.fz i _ hi;refine⟨hx,h B F σ H Γ _ _ e qq fun vs H1 Z=>?_⟩;obtain⟨F1,Γ1,bs,s1,e1,r1,hn,nd,hi1,q1⟩:=Z;obtain⟨_,_,_,_,rr⟩:=e1.fz i _ hi1;have r2:=bj.app rr r1;refine⟨by rw[r2.length,List.length_append,hn];rfl,F1,_,_,_,e1.args r2 (by rw[o7];exact nd),jG,q1,fun r Γa q v H' F' e2 rv=>?_⟩;obtain⟨a,b,c⟩:=e1.called e2 rv;exact k v H' ⟨F',_,r,s1.trans a,b,c,q⟩
theorem CW{x:Str}{o:Unit->Obj}{p:Pos}(hf:X.base.get? f=some (o ()))(ho:(o ()).data=.func fd)(F:aG X.prog X.w X.K X.mg X.base CX0 k f fd ps (fun vs H Q _=>sp3 K (n + 1) S (vs++[v]) H Q E0))(hr:bF k X.A)(hb:Binds X.K fd ps [])(hN:X.N[i]?=some x)(hv:Vis X.env.scope x)(ha:sV K X (e::es) t t3)(hdb:autoParam ((x == ("__debug__":Str))=false) wP)(hcd:autoParam ((x == ("__classdict__":Str))=false) wP)(he:autoParam (starEach (e::es) X.env=(false,eval e X.env)::starEach es X.env) wE)(hpl:autoParam ((backTo pos (starEach es X.env)).any (·.1)=false) wE) :
  P3 K X (.Call (.Name x p) (e::es) [] pos) (xX i f (fun vs H Q _=>sp3 K (n + 1) S (vs++[v]) H Q E0) t) (D9 i n o f v S t3):=⟨CN hf ho F hr hb hN hv ha.pe hdb hcd he hpl,AL ha.rf⟩
theorem okL{o:Unit->Obj}(L:uT base q params body scope nm (o ()) f v)(Sc:sW ps nm scope)(hbody:∀ (c d:Addr) (A:Around) (outer:List Env) (s:Shared) (H:Hp),bF k (A.deeper (PySem.W.envX q scope s.heap.objs.size f (.ref d) [(nm,c)]))->
   ∃ t t3,P3 K (DT P w K mg base ps q scope nm f c d A outer s H) body t t3/\∀ Γ Q,Γ.length=ps.length + 1->S Γ Q->t3 Γ Q)(hbd:∀ (clos:List (Str×Addr)) (pm:Value) (d:Addr) (ct:Value) (us:Lv0),us.length=ps.length->bindArgs (PySem.W.kla_fn "<lambda>" q params body scope clos pm (.ref d) ct) ⟨us,[]⟩=pure (ps.zip us)) :
  ∃ fd,base.get? f=some (o ())/\(o ()).data=.func fd/\Binds K fd ps []/\aG P w K mg base CX0 (k + 1) f fd ps (fun vs H Q _=>sp3 K (ps.length + 1) S (vs++[v]) H Q E0):=by
 refine JB L Sc (fun vs H Q E h=>h.1) (fun c d A outer s H vs Q hr hsp=>?_) hbd;obtain⟨t,t3,h,hS⟩:=hbody c d A outer s H hr;obtain⟨hl,F,own,Γa,Q3,e,_,hs,hQ⟩:=hsp;exact⟨t,h.pe,h.rf ⟨F,H,own⟩ F _ H Γa Q3 Q e (hS Γa Q3 (by rw[<- e.len,lM0];exact hl) hs) fun v H' ⟨F',Γ',r,_,e',rv,q⟩=>hQ r Γ' q v H' F' e' rv⟩
theorem okM{x:Str}(F:Fun K x qual st f fd)(Sc:au N ps (ag st))(hN:autoParam (ps.length<=N.length) wP)(hbody:∀ (cdv:Value) (A:Around) (outer:List Env) (s:Shared) (H:Hp) (E:XK),cdv=fd.code->bF k (A.deeper (envOfC qual (ag st) s.heap.objs.size f cdv))->
   ∃ t t3,j6 K (j1 CX0 P w K mg base N qual (ag st) f cdv A outer s H E).nox (cI st) t t3/\∀ Γa Q,S Γa Q->Γa.length=ps.length->t3 { nx:=fun Γ'=>Q (.fz .non) (gb Γa Γ'),rt:=fun r Γ'=>Q r (gb Γa Γ') } (cO N Γa)) :
  aG P w K mg base CX0 (k + 1) f fd ps (sp3 K ps.length S):=by
 obtain⟨oc,od,kV,doc,pm,an,cdv,ct,osl,rfl,lk,hcd⟩:=F.ex;refine DH lk hcd Sc (fun vs H Q E h=>h.1) fun A outer s H vs Q E hr h=>?_;obtain⟨hl,F0,own,Γa,Q3,e,hno,hS,hQ⟩:=h;obtain⟨t,t3,ht,rd⟩:=hbody cdv A outer s H E rfl hr;have hla:Γa.length=ps.length:=by rw[<- e.len,lM0];exact hl
 refine⟨t,ht.pe.nox,ht.rf ⟨F0,H,own⟩ F0 _ H _ _ { nx:=fun Γ'=>Q3 (.fz .non) (gb Γa Γ'),rt:=fun r Γ'=>Q3 r (gb Γa Γ') } (e.start (N:=N) (by rw[hla];exact hN)) ⟨?_,?_,fun _ _ _ _ _ _ z=>False.elim z,fun _ _ _ _ _ _ z=>False.elim z⟩ (rd Γa Q3 hS hla)⟩
 ·intro F' σ' H' Γ' s' e' q;obtain⟨a,b⟩:=e.out hno e' (v:=.non) (r:=.fz .non) rfl;exact hQ _ _ q _ _ _ a b
 ·intro F' σ' H' Γ' v r s' e' rv q;obtain⟨a,b⟩:=e.out hno e' rv;exact hQ _ _ q _ _ _ a b
end
abbrev NR:=LL0
structure Bv (F H:Hp) (p:Addr) (qs:La0) (xss:NR):Prop where
 sub:aE F H
 top:H p=some (.lst (qs.map V.ref))
 nd:(p::qs).Nodup
 len:qs.length=xss.length
 row:∀ (i:Nat) (q:Addr) (xs:Li0),qs[i]?=some q->xss[i]?=some xs->H q=some (.lst (xs.map V.int))
 no:∀ z,z∈p::qs->F z=none
structure Step (H0:Hp) (own:La0) (H:Hp) (qs:La0):Prop where
 keep:∀ b o,H0 b=some o->b∉own->H b=some o
 dom:∀ b,H b=none->H0 b=none
 new:∀ q,q∈qs->q∈own\/H0 q=none
abbrev E0n (K:Fg0) (F:Hp) (σ:L2.St) (H:Hp) (Γ:G):Prop:=En K ⟨F,H,[]⟩ F σ H Γ
section
variable {xss:NR}
theorem MC(sub:aE F H)(len:σ.length=Γ.length)(fz:∀ (k:Nat) (s:Sl),Γ[k]?=some (some s)->∃ d v,s=.fz d/\σ[k]?=some (some v)/\Rep K F d v):E0n K F σ H Γ where
 sub:=sub
 len:=len
 fz:=fun k d h=>by obtain⟨d',v,e,a,b⟩:=fz k _ h;cases e;exact⟨v,a,b⟩
 hl:=fun k d h=>by rcases h with h | h <;> (obtain⟨_,_,e,_⟩:=fz k _ h;cases e)
 ow:=fun k d q h=>by obtain⟨_,_,e,_⟩:=fz k _ h;cases e
 ln:=fun k d q h=>by obtain⟨_,_,e,_⟩:=fz k _ h;cases e
 dis:=fun k j d e q h=>by rcases h with h | h <;> (obtain⟨_,_,e,_⟩:=fz k _ h;cases e)
 par:=fun k q h=>nomatch h
 keep:=aE.refl F
 new:=fun b o h=>.inl h
 rest:=fun b o h _=>h
 dom:=fun b h=>h
structure NSt (K:Fg0) (H0:Hp) (own:La0) (i:Nat) (p:Addr) (F:Hp) (σ:L2.St) (H:Hp) (Γ:G) (xss:NR):Prop where
 e:E0n K F σ H Γ
 at_:Γ[i]?=some (some (.fz (.adr p)))
 n:∃ qs,Bv F H p qs xss/\Step H0 own H qs
 po:p∈own
abbrev TN:=(G->NR->Prop)->G->NR->Prop
def Oa (K:Fg0) (i:Nat) (t:TS) (n3:TN):Prop:=∀ (H0:Hp) (own:La0) (p:Addr) (F:Hp) (σ:L2.St) (H:Hp) (Γ:G) (xss:NR) (D:Ends) (k:G->NR->Prop),NSt K H0 own i p F σ H Γ xss->
 (∀ F' σ' H' Γ' yss,aE F F'->NSt K H0 own i p F' σ' H' Γ' yss->k Γ' yss->D.nx σ' H')->n3 k Γ xss->t D σ H
structure Oc (K:Fg0) (X:Cx) (i:Nat) (st:List Stmt) (t:TS) (n3:TN):Prop where
 pe:PSs X st t
 rf:Oa K i t n3
variable {rest:List Stmt}{t:TS}{n3 m3:TN}
theorem zY(h:k < n):ixN n (k:Int)=some k:=by
 unfold ixN;rw[if_pos (by lia),if_pos (by lia),Int.toNat_natCast]
end
def spN (K:Fg0) (n:Nat) (S:List D->NR->(NR->Prop)->Prop):Sp:=fun vs H Q _=>vs.length=n/\∃ F ds p qs xss k3,aA K F ds vs/\ds[1]?=some (.adr p)/\Bv F H p qs xss/\S ds xss k3/\
 ∀ yss,k3 yss->∀ H' qs',Bv F H' p qs' yss->Step H (p::qs) H' qs'->Q .non H'
section
variable {xss:NR}
variable {rest:List Stmt}{t:TS}{n3 m3:TN}
theorem Bv.less(s:aE F F')(n:Bv F' H p qs xss):Bv F H p qs xss:=⟨s.trans n.sub,n.top,n.nd,n.len,n.row,fun z hz=>by
 cases q:F z with
 | none=>rfl
 | some o=>have:=s _ _ q;rw[n.no z hz] at this;cases this⟩
end
noncomputable def qV (N:Ls0) (ds:List D):G:=(ds.map fun d=>some (Sl.fz d))++List.replicate (N.length - ds.length) none
theorem okN{x:Str}{S:List D->NR->(NR->Prop)->Prop}(F:Fun K x qual st f fd)(Sc:au N ps (ag st))(hn:autoParam (ps.length<=N.length) wP)(hbody:∀ (cdv:Value) (A:Around) (outer:List Env) (s:Shared) (H:Hp) (E:XK),bF k (A.deeper (envOfC qual (ag st) s.heap.objs.size f cdv))->
   ∃ t n3,Oc K (j1 CX0 P w K mg base N qual (ag st) f cdv A outer s H E).nox 1 (cI st) t n3/\∀ ds xss k3,S ds xss k3->ds.length=ps.length->n3 (fun _ yss=>k3 yss) (qV N ds) xss) :
  aG P w K mg base CX0 (k + 1) f fd ps (spN K ps.length S):=by
 refine F.ok Sc (fun vs H Q E h=>h.1) fun cdv A outer s H vs Q E hr h=>?_;obtain⟨hl,F0,ds,p,qs,xss,k3,rl,hp,ns,hS,hQ⟩:=h;obtain⟨t,n3,ht,rd⟩:=hbody cdv A outer s H E hr;have dl:ds.length=ps.length:=by rw[<- rl.length];exact hl
 refine⟨t,ht.pe,ht.rf H (p::qs) p F0 _ H (qV N ds) xss _ (fun _ yss=>k3 yss) ⟨MC ns.sub ?_ ?_,?_,⟨qs,ns,⟨fun b o h _=>h,fun b h=>h,fun q h=>.inl (.tail _ h)⟩⟩,.head _⟩ (fun F' σ' H' Γ' yss sF t' ky=>?_) (rd ds xss k3 hS dl)⟩
 ·unfold L2.start qV;rw[List.length_append,List.length_append,lM0,lM0,List.length_replicate,List.length_replicate,rl.length]
 ·intro m sl hm;unfold qV at hm;by_cases lt:m < ds.length
  ·rw[List.getElem?_append_left (by rw[lM0];exact lt),List.getElem?_map] at hm;cases q:ds[m]? with
   | none=>rw[q] at hm;cases hm
   | some d=>
    rw[q] at hm;cases hm;obtain⟨v,a,b⟩:=rl.get q;refine⟨d,v,rfl,?_,b⟩;unfold L2.start;rw[List.getElem?_append_left (by rw[lM0,rl.length];exact lt),List.getElem?_map,a];rfl
  ·rw[List.getElem?_append_right (by rw[lM0];lia)] at hm;have:=(List.mem_replicate.mp (List.mem_of_getElem? hm)).2;cases this
 ·unfold qV;have lt:1 < ds.length:=(gS0 hp).1;rw[List.getElem?_append_left (by rw[lM0];exact lt),List.getElem?_map,hp];rfl
 ·obtain⟨qs',n',st'⟩:=t'.n;exact hQ yss ky H' qs' (n'.less sF) st'
end L3
namespace L2
open PySem
structure FN (K:Fg0) (x q:Str) (st:Stmt) (f:Addr) (d:FuncData):Prop where
 n:PySem.W.nsIn K mainGlobals x=some (some (.ref f))
 F:Fun K x q st f d
structure FM (K:Fg0) (C:Addr) (x q:Str) (st:Stmt) (f:Addr) (d:FuncData):Prop where
 m:PySem.W.findIn K (.ref C) x=some (some (.ref f))
 i:PySem.W.isFn K (.ref f)=true
 F:Fun K x q st f d
structure FY (K:Fg0) (x q:Str) (st:Stmt) (f:Addr) (d:FuncData) (ps:Ls0):Prop where
 F:Fun K x q st f d
 b:Binds K d ps []
structure FX (K:Fg0) (mg:SV) (x q:Str) (st:Stmt) (f:Addr) (d:FuncData) (ps:Ls0):Prop where
 F:Fun K x q st f d
 b:Binds K d ps []
 m:mg x=some (.ref f)
section
variable {x q:Str}{d:FuncData}
theorem fx(X:K.In h)(G:h.Ns mainGlobals mg)(F:FN K x q st f d)(b:∀ (kV doc pm:Value) (an:Option Addr) (cdv ct:Value) (us:Lv0),us.length=ps.length->bindArgs (PySem.W.fnOf x q (gj st) (cI st) (ag st) .none kV doc pm an cdv ct) ⟨us,[]⟩=pure (ps.zip us)):FX K mg x q st f d ps:=⟨F.F,F.F.binds b,PySem.W.mg_of X G F.n⟩
theorem fy(F:FM K C x q st f d)(b:∀ (kV doc pm:Value) (an:Option Addr) (cdv ct:Value) (us:Lv0),us.length=ps.length->bindArgs (PySem.W.fnOf x q (gj st) (cI st) (ag st) .none kV doc pm an cdv ct) ⟨us,[]⟩=pure (ps.zip us)):FY K x q st f d ps:=⟨F.F,F.F.binds b⟩
theorem bF.dn(r:bF k A)(h:autoParam (j<=k) wP):bF j A:=r.mono h
theorem FM.me(F:FM K C x q st f d):Meth K C x f:=⟨F.m,F.i,F.F.kp⟩
end
open PySem PySem.Spec PyProof.Rows
end L2
namespace L3
open PySem L2 PySem.Spec PySem.SeqAt
theorem aA.flat:∀ {ns:Li0} {vs:List V},aA K F (ns.map D.int) vs->aA K F' (ns.map D.int) vs
 | [],_,h=>h
 | n::ns,_,⟨v,ws,h1,h2,h3⟩=>⟨v,ws,h1,h2,aA.flat h3⟩
open PySem L2 PySem.Spec PyProof.Rows
theorem Ia{body:List Stmt}{tb:TS}{b3:TS3}(hp:PassesOwn (model X.prog X.w) X.A X.env X.xe)(hc:X.calm=true)(hi:P3I K X tg iter wi i3)(hg:P3G K X tg g g3)(hb:jU K X B F0 body tb b3)(hs:autoParam (∀ x,foldedSetIterable iter X.env x=pure x) wT) :
  tO K X B F0 (.For tg iter body [] pos) (Iw wi g tb) (Gq i3 g3 b3):=⟨CA hp hc hi.pe hg.pe hb.pe hs,fun F σ H Γ D D3 w0 e k q=>by
 refine hi.rf B F σ H Γ _ _ e q fun J H1 F1 Γ1 xs s1 e1 R Z=>?_;obtain⟨Iv,i0,it,ie⟩:=Z;refine⟨fun i m σ H=>m=xs.length - i/\i<=xs.length/\∃ F' Γ',aE F1 F'/\En K B F' σ H Γ'/\Iv i Γ',⟨_,rfl,Nat.zero_le _,F1,Γ1,aE.refl _,e1,i0⟩,?_⟩;rintro i m σ2 H2 ⟨rfl,hi',F2,Γ2,s2,e2,iv⟩;by_cases lt:i < xs.length
 ·refine .inr ⟨R.go i H2 (s2.trans e2.sub) lt,fun σ' H'=>∃ F' Γ',aE F1 F'/\En K B F' σ' H' Γ'/\Iv (i + 1) Γ',fun σ' H' ⟨F',Γ',a,b,c⟩=>⟨xs.length - (i + 1),by lia,rfl,lt,F',Γ',a,b,c⟩,fun x H3 y=>?_⟩;have hd:xs[i]?=some xs[i]:=gE0 lt;obtain⟨F3,s3,e3,r3⟩:=R.turn s2 e2 hd y;refine hg.rf B F3 σ2 H3 Γ2 x _ _ _ e3 r3 (it i _ Γ2 hd iv) fun σ' Γ' e4 q4=>?_;have s4:=s2.trans s3;have s5:=s1.trans s4;refine hb.rf F3 σ' H3 Γ' _ { D3 with nx:=Iv (i + 1),ct:=Iv (i + 1),bk:=D3.nx } (w0.trans s5) e4 ⟨fun F' σ' H' Γ' s e q=>⟨F',Γ',s4.trans s,e,q⟩,fun F' σ' H' Γ' v r s e rv q=>k.rt F' σ' H' Γ' v r (s5.trans s) e rv q,fun F' σ' H' Γ' s e q=>k.nx F' σ' H' Γ' (s5.trans s) e q,fun F' σ' H' Γ' s e q=>⟨F',Γ',s4.trans s,e,q⟩⟩ q4
 ·have z:i=xs.length:=by lia
  subst z;exact .inl ⟨R.stop _ H2 (s2.trans e2.sub) rfl,k.nx F2 σ2 H2 Γ2 (s1.trans s2) e2 (ie Γ2 iv)⟩⟩
end L3
namespace L2
open PySem PySem.Spec PyProof.Rows
noncomputable def He:V->V->Hp->VK->Prop:=fun o i H Q=>∃ p xs k v,o=.ref p/\i=.int k/\0<=k/\H p=some (.lst xs)/\atI xs k=some v/\Q v H
theorem Bc:M7 X He:=by
 intro pins s σ H x y v u Q I rx ry h;obtain⟨p,xs,i,z,rfl,rfl,h0,hq,he,q⟩:=h;cases rx;obtain⟨t,rfl⟩:=ry;obtain⟨its,r,pl,hz⟩:=I.list (show SqL X.K H p xs from .inl (.inl hq));obtain⟨j,h1,h2,h3,h4,h5⟩:=qJ he;obtain⟨w,ew,rw'⟩:=r.get h2;have hl:=r.length;have hn:=mU;have fin:EP X pins σ Q w s:=⟨z,H,I,rw',q⟩;have hj:i.toNat=j:=by
  rw[seqIndex_of h0 h5] at h1;exact Option.some.inj h1
 exact wpAny_getItem_list pl.isList h0 (by lia) (by rw[hj];simpa using ew) fin
end L2
namespace L3
open PySem L2
section
variable {k:Expr}{to tk:TE}
def GG (j:Nat) (ob:Option D) (Γ:G) (N:Addr->Nat->Nat->Int->Prop) (_:Tag N):Prop:=∃ q xs k n x,Hld Γ j (.cel q xs)/\ob=some (.int k)/\0<=k/\ixN xs.length k=some n/\xs[n]?=some (.int x)/\N q xs.length n x
def HX (o3 k3:TB3) (e3:TE3) (D:E3) (Γ:G):Prop:=o3 Γ fun bo Γ1=>vB bo fun j=>k3 Γ1 fun b Γ2=>GG j (b.at Γ2) Γ2 (fun q l n x=>e3 Γ2 fun r Γ3=>∃ y xs,r=.fz (.int y)/\Hld Γ3 j (.cel q xs)/\xs.length=l/\D.nx (mM Γ3 j (xs.set n (.int (x + y))))) ⟨⟩
theorem EU(ho:P3B K X o to o3)(hk:P3B K X k tk k3)(he:P3 K X e te e3)(ha:∀ ov iv new,augStore k ov iv new=(do holding [new,ov,iv] (setItem ov iv new);release [new,ov,iv] [];pure .next):=by intros;rfl) :
  P3S K X (.AugAssign (.Subscript o k p2) .Add e pos) (G7 to tk te He (ipI fun i j=>i + j) ub) (HX o3 k3 e3):=⟨Fg ho.pe hk.pe Bc he.pe JP set_list ha,fun B F σ H Γ D D3 en kk q=>by
 refine ho.rf B F σ H Γ _ _ en q fun w H2 Z=>?_;obtain⟨F3,Γ3,bo,s3,e3,rb,q3⟩:=Z;cases bo with
 | d _=>exact q3.elim
 | v j=>
  refine hk.rf B F3 σ H2 Γ3 _ _ e3 q3 fun u H3 Z=>?_;obtain⟨F4,Γ4,b4,s4,e4,rb4,q0,xs,kk',n,x,hj,hb,h0,hn,hx,q4⟩:=Z;obtain⟨a1,a2,vs,a3,a4⟩:=e4.adr hj;have hw:σ[j]?=some (some w):=rb;rw[a1] at hw;cases hw;have hu:u=.int kk':=e4.bo rb4 hb;have hv:vs[n]?=some (.int x):=by
   obtain⟨v,hv,rv⟩:=a4.get hx;have:v=.int x:=rv;rw[hv,this]
  refine⟨q0,vs,kk',.int x,rfl,hu,h0,a3,by unfold L2.atI;rw[a4.length,hn];exact hv,?_⟩;refine he.rf B F4 σ H3 Γ4 _ _ e4 q4 fun v H5 Z=>?_;obtain⟨F5,Γ5,r,s5,e5,rv,y,xs5,hr,hj5,hl5,q5⟩:=Z;subst hr;have ev:v=.int y:=rv;subst ev;obtain⟨b1,b2,vs5,b3,b4⟩:=e5.adr hj5;refine⟨x,y,rfl,rfl,q0,vs5,kk',n,rfl,hu,b3,by rw[b4.length,hl5];exact hn,kk.nx F5 σ _ _ ((s3.trans s4).trans s5) (e5.Jt hj5 (aA.set (d:=.int (x + y)) rfl n b4)) q5⟩⟩
theorem Kx{N:Addr->Nat->Nat->Int->Prop}{t:Tag N}{k x:Int}(h:Hld Γ j (.cel q xs))(ho:ob=some (.int k))(h0:0<=k)(hn:ixN xs.length k=some n)(hx:xs[n]?=some (.int x))(hN:N q xs.length n x):GG j ob Γ N t:=⟨q,xs,k,n,x,h,ho,h0,hn,hx,hN⟩
end
theorem EC{x:Str}{rest:List Stmt}(L g i:Nat)(hL:L<=g)(hi:i < L)(P:Bu X L)(hs:P3S K X (.Assign [.Name x px] e pos) (j_ te (hX i)) x3)(he:P3 K X e te e3)(h2:jU K X B F0 rest u u3) :
  jU K X B F0 (.Assign [.Name x px] e pos::rest) (Av (j_ te (hX i)) (tGh L u)) (B9 g i e3 u3):=⟨eh hs.pe (yg P h2.pe),fun F σ H Γ D D3 w0 e k q=>he.rf B F σ H Γ _ _ e q fun v H' Z=>by
  obtain⟨F',Γ',r,s,e',rv,q'⟩:=Z;obtain⟨xss,rfl,hf,hfree,q'⟩:=vi q';obtain⟨p,qs,rfl,h1,h2',h3,h4⟩:=rv;have e1:=e'.set (r:=.fz (.adr p)) hf rfl;have il:=fu hf;have e2:=e1.yO (g:=g) (qs:=p::qs) (xss:=qs.map .adr::xss) ⟨_,_,_,rfl,h1,rB,h3⟩ h2' (fun z hz=>⟨(h4 z hz).1,(h4 z hz).2.1,fun j d hj=>by
   by_cases w:j=i
   ·subst w;rcases hj with hj | hj <;> rw[aC il] at hj <;> cases hj
   ·rw[az (Ne.symm w)];exact(h4 z hz).2.2 j d (by unfold Hld at hj ⊢;rw[az (Ne.symm w)] at hj;exact hj)⟩) fun k hk=>by
   rw[az (by lia)];exact hfree k (by rw[<- h3.length];exact hk)
  exact⟨_,wz hL,h2.rf F' _ H' _ D D3 (w0.trans s) e2 (k.mono s) (q' p qs h3.length)⟩⟩
section
variable {o3:TE3}{p:Pos}
def Df (C:Addr) (m:Str) (S:S3) (o3:TE3) (Γ:G) (Q:RV->G->Prop):Prop:=o3 Γ fun r Γ1=>(∃ ns xs,r.d=.ins C ns xs/\m∉ns)/\xk S [some (.fz r.d)] [none] Γ1 Q ⟨⟩
theorem Ao{pl:Sem Bool}(hK:X.K=K)(he:P3X K X B F0 o ta o3)(c:Cls X.K C)(hm:Meth X.K C m f)(F:aG X.prog X.w X.K X.mg X.base CX0 k f fd ps (sp3 K 1 S))(hr:bF k X.A)(hb:Binds X.K fd ps [])(ht:eval (.Call (.Attribute o m apos) [] [] pos) X.env=(do
   let ov <- eval o X.env
   standAt apos.atName
   let (f,first) <- holding [ov] (getMethod ov m pl)
   callWith pos f first (backTo pos (starEach [] X.env)) (backToKw pos (keywordEach [] X.env))):=by rfl) :
  P3X K X B F0 (.Call (.Attribute o m apos) [] [] pos) (tU C m (sp3 K 1 S) [] E0 ta qh) (Df C m S o3):=⟨wV he.pe c hm F hr hb .nil kC ht,fun F σ H Γ Q QQ w e q kk=>
 he.rf F σ H Γ _ _ w e q fun v H0 Z=>by
  obtain⟨F1,Γ1,r,s0,e0,rv,⟨ns,xs,hx,hm⟩,q0⟩:=Z;obtain⟨F2,s2,e2,r2⟩:=e0.frozen rv;have r3:=r2;rw[hx] at r3;obtain⟨p,dx,gs,rfl,h1,h2,h3⟩:=r3;refine⟨p,dx,gs,rfl,e2.sub _ _ h1,uo h2 hm,?_⟩;show sp3 K 1 S (V.ref p::([]++[])) H0 QQ E0;rw[List.append_nil];have rr:bj K F2 σ [.d r.d] [V.ref p]:=⟨_,_,rfl,r2,rfl⟩;refine⟨rfl,F2,_,_,_,e2.args rr (by simp [bP]),jG,q0,fun r Γa q v H' F' e3 rv=>?_⟩;obtain⟨a,b,c⟩:=e2.called e3 rv;exact kk v H' ⟨F',_,r,(s0.trans s2).trans a,b,c,q⟩⟩
def Hn (x:Str) (e3:TE3) (Γ:G) (Q:RV->G->Prop):Prop:=e3 Γ fun r Γ1=>AD r fun xss=>∃ xs xt,xss=xs::xt/\Q (.tol x xs (xt.map .lst)) Γ1
theorem ED{x:Str}(ha:PE X a (tC (.str x)))(he:P3X K X B F0 e te e3)(hs:autoParam (starEach [a,e] X.env=(false,eval a X.env)::starEach [e] X.env) wE)(hs2:autoParam (starEach [e] X.env=(false,eval e X.env)::starEach [] X.env) wE) :
  P3X K X B F0 (.List [a,e] pos) (Iq (nj (tC (.str x)) (nj te qh))) (Hn x e3):=⟨CJ (cv ha (cv he.pe jx hs2) hs),fun F σ H Γ Q QQ w en q kk=>
 he.rf F σ H Γ _ _ w en q fun v H1 Z=>by
  obtain⟨F1,Γ1,r,s1,e1,rv,q1⟩:=Z;obtain⟨xss,rfl,xs,xt,rfl,qq⟩:=vi q1;obtain⟨p,qs,rfl,h1,nd,rows,hn⟩:=rv;cases qs with
  | nil=>cases rows
  | cons q0 qt=>
   obtain⟨_,_,vs,ex,h2,h3,h4⟩:=rows;cases ex;obtain⟨n1,n2⟩:=List.nodup_cons.mp nd;obtain⟨n3,n4⟩:=List.nodup_cons.mp n2;rw[List.mem_cons,not_or] at n1;obtain⟨F2,s2,e2,r2,k2⟩:=e1.vV h4 n4 fun z hz=>hn z (.tail _ (.tail _ hz));obtain⟨p1,p2,p3⟩:=hn p (.head _);obtain⟨c1,c2,c3⟩:=hn q0 (.tail _ (.head _));have fp:F2 p=none:=(k2 p n1.2).trans p1;have s3:=aQ (o:=.lst (V.ref q0::qt.map V.ref)) fp;have e3:=e2.freeze fp h1 p2 p3;have fq:upd F2 p (.lst (V.ref q0::qt.map V.ref)) q0=none:=by rw[ah (Ne.symm n1.1)];exact(k2 q0 n3).trans c1
   refine⟨by show 2<=sizeLine;rw[sizeLine_eq];lia,fun l hl=>kk _ _ ⟨_,Γ1,.tol x xs (xt.map .lst),(s1.trans s2).trans s3,e3.alloc hl _,⟨l,q0,.ref p,vs,rfl,ar,⟨p,_,rfl,ar,_,_,rfl,rfl,r2.mono s3⟩,?_,(h3.mono s2).mono s3,Ne.symm (aJ h2 hl),fun z hz=>?_⟩,qq⟩⟩
   ·rw[ah (aJ h2 hl)];exact h2
   ·rcases hz with rfl | rfl
    ·exact⟨e3.nof hl,e3.dom _ hl,e3.nK hl⟩
    ·exact⟨fq,c2,c3⟩⟩
def Ly (g i:Nat) (r:RV) (Γ1:G) (u3:TS3) (E1:E3) (_:Tag (u3,E1)):Prop:=aW Γ1 i/\match r with
 | .tol x xs ys=>aW Γ1 g/\∀ q,u3 E1 ((Γ1.set i (some (.fz (.lst [.str x,.lst (.adr q::ys)])))).set g (some (.ow (.cel q xs))))
 | r=>u3 E1 (Γ1.set i (some (.fz r.d)))
def Ha (g i:Nat) (e3:TE3) (u3:TS3) (D:E3) (Γ:G):Prop:=e3 Γ fun r Γ1=>Ly g i r Γ1 u3 D ⟨⟩
theorem E9{x:Str}{rest:List Stmt}(L g i:Nat)(hL:L<=g)(hi:i < L)(P:Bu X L)(hs:P3S K X (.Assign [.Name x px] e pos) (j_ te (hX i)) x3)(he:P3 K X e te e3)(h2:j6 K X rest u u3) :
  j6 K X (.Assign [.Name x px] e pos::rest) (Av (j_ te (hX i)) (tGh L u)) (Ha g i e3 u3):=⟨eh hs.pe (yg P h2.pe),fun B F σ H Γ D D3 e k q=>he.rf B F σ H Γ _ _ e q fun v H' Z=>by
  obtain⟨F',Γ',r,s,e',rv,hf,q'⟩:=Z;have other:∀ {r:RV},jH K B F' σ H' Γ' v r->u3 D3 (Γ'.set i (some (.fz r.d)))->tGh L u D (σ.set i (some v)) H':=fun {r} rv q'=>by
   obtain⟨F2,s2,e2,r2⟩:=e'.frozen rv;exact⟨_,⟨rfl,fun _ _=>rfl⟩,h2.rf B F2 _ H' _ D D3 (e2.set (r:=.fz r.d) hf r2) (k.mono (s.trans s2)) q'⟩
  cases r with
  | fz d=>exact other (r:=.fz d) rv q'
  | fr d=>exact other (r:=.fr d) rv q'
  | two xs ys=>exact other (r:=.two xs ys) rv q'
  | rws xss=>exact other (r:=.rws xss) rv q'
  | tol y xs ys=>
   obtain⟨hg,q'⟩:=q';obtain⟨p,q0,w,vs,rfl,h1,h2',h3,h4,ne,hn⟩:=rv;obtain⟨p1,p2,p3⟩:=hn p (.inl rfl);obtain⟨c1,c2,c3⟩:=hn q0 (.inr rfl);have s1:=aQ (o:=.lst [.str y,w]) p1;have e1:=e'.freeze p1 h1 p2 p3;have e2:=e1.set (i:=i) (r:=.fz (.lst [.str y,.lst (.adr q0::ys)])) (v:=.ref p) hf ⟨p,_,rfl,ar,_,_,rfl,rfl,_,_,rfl,h2'.mono s1,rfl⟩;have il:=fu hf;have ig:i≠g:=by lia
   have hg':aW (Γ'.set i (some (.fz (.lst [.str y,.lst (.adr q0::ys)])))) g:=by unfold aW;rw[az ig];exact hg
   have e3:=e2.set (i:=g) (r:=.fr (.cel q0 xs)) (v:=.ref q0) hg' ⟨q0,rfl,by rw[ah (Ne.symm ne)];exact c1,⟨rfl,vs,h3,h4.mono s1⟩,c2,fun j d hj=>by
    by_cases w:j=i
    ·subst w;rcases hj with hj | hj <;> rw[show RV.sl (.fz (.lst [.str y,.lst (.adr q0::ys)]))=Sl.fz (.lst [.str y,.lst (.adr q0::ys)]) from rfl,aC il] at hj <;> cases hj
    ·rw[az (Ne.symm w)];exact c3 j d (by unfold Hld at hj ⊢;rw[az (Ne.symm w)] at hj;exact hj)⟩
   exact⟨_,⟨by rw[List.length_set],fun j hj=>az (by lia)⟩,h2.rf B _ _ H' _ D D3 e3 (k.mono (s.trans s1)) (q' q0)⟩⟩
theorem JX{g:Nat}{D:E3}:Ha g i e3 u3 D Γ=(e3 Γ fun r Γ1=>Ly g i r Γ1 u3 D ⟨⟩):=rfl
def tfQ (i g:Nat) (A3:TT3) (Γ:G) (Q:Bool->G->Prop):Prop:=(∃ x q ys,∃ ns:Li0,Γ[i]?=some (some (.fz (.lst [.str x,.lst (.adr q::ys)])))/\Γ[g]?=some (some (.ow (.cel q (ns.map D.int))))/\(∀ k d,Hld Γ k d->k=g)/\
 A3 ((Γ.set g (some (.fz (.cel q (ns.map D.int))))).set i (some (.fz (.lst [.str x,.lst (.lst (ns.map D.int)::ys)])))) fun b Γ2=>Γ2=(Γ.set g (some (.fz (.cel q (ns.map D.int))))).set i (some (.fz (.lst [.str x,.lst (.lst (ns.map D.int)::ys)])))/\Q b Γ)\/A3 Γ Q
theorem Fz(i g:Nat)(ig:i≠g)(h:P3T K X c tc A3):P3T K X c tc (tfQ i g A3):=⟨h.pe,by
 intro B F σ H Γ Q QQ e q kk;rcases q with ⟨x,q0,ys,ns,hi,hg,one,q⟩ | q
 ·obtain⟨F1,p,s1,hp,⟨hq,vs,rq,rv⟩,e1⟩:=e.give hg;cases hq;obtain⟨v,hv,p0,us,rfl,u1,w1,ws,rfl,w2,w3,ws2,rfl,w4,w5⟩:=e.fz i _ hi;have hi1:(Γ.set g (some (Sl.fz (.cel q0 (ns.map D.int)))))[i]?=some (some (Sl.fz (.lst [.str x,.lst (.adr q0::ys)]))):=by rw[az (Ne.symm ig)];exact hi
  have e2:=e1.Ll (d':=.lst [.str x,.lst (.lst (ns.map D.int)::ys)]) hi1 fun v' hv'=>by
   rw[hv] at hv';cases hv';exact⟨p0,_,rfl,s1 _ _ u1,_,_,rfl,w2,_,_,rfl,Aj s1 rq rv w4,w5⟩
  refine h.rf B F1 σ H _ _ _ e2 q fun b H2 ⟨F2,Γ2,s2,e3,hΓ,q2⟩=>kk b H2 ⟨F,Γ,aE.refl F,?_,q2⟩;subst hΓ;refine⟨(s1.trans s2).trans e3.sub,e.len,e.fz,fun k d hd=>?_,e.ow,e.ln,e.dis,e.par,e.keep,e.new,e3.rest,e3.dom⟩;obtain rfl:=one k d hd;obtain⟨r,hr,hF,ho⟩:=e.hl k _ hd;rw[hp] at hr;cases hr;have:d=.cel q0 (ns.map D.int):=by rcases hd with hd | hd <;> rw[hg] at hd <;> cases hd;rfl
  subst this;exact⟨_,hp,hF,rfl,vs,e3.sub _ _ (s2 _ _ rq),rv.flat⟩
 ·exact h.rf B F σ H Γ _ _ e q kk⟩
def HP (o3:TB3) (Γ:G) (Q:RV->G->Prop):Prop:=o3 Γ fun bo Γ1=>vB bo fun j=>∃ q xs,Hld Γ1 j (.cel q xs)/\Q (.fz .non) (mM Γ1 j [])
theorem FA{o3:TB3}(hK:X.K=K)(ho:P3B K X o ta o3)(hbase:autoParam (attributeBase o "clear" X.env (eval o X.env)=eval o X.env) wE)(hline:autoParam ((apos.endLine == cpos.line)=true) wE) :
  P3 K X (.Call (.Attribute o "clear" apos) [] [] cpos) (Lb K "list" Cu ta) (HP o3):=
 ⟨by subst hK;exact I_ PySem.F.plainAttrs_list PySem.F.slot_list_clear PySem.F.type_list_clear De ho.pe hbase hline,by
 intro B F σ H Γ Q QQ en q kk;refine ho.rf B F σ H Γ _ _ en q fun w H1 Z=>?_;obtain⟨F1,Γ1,bo,s1,e1,rb,q1⟩:=Z;cases bo with
 | d _=>exact q1.elim
 | v j=>
  obtain⟨q0,xs0,hj,q1⟩:=q1;obtain⟨a1,_,vs0,a3,_⟩:=e1.adr hj;have hw:σ[j]?=some (some w):=rb;rw[a1] at hw;cases hw;exact⟨zr a3,q0,vs0,rfl,rfl,a3,kk _ _ ⟨F1,_,.fz .non,s1,e1.Jt hj (ys:=[]) rfl,rfl,q1⟩⟩⟩
def M0 (e3:TE3) (Γ:G) (Q:RV->G->Prop):Prop:=e3 Γ fun r Γ1=>∃ C ns xs,r.d=.ins C ns xs/\∀ p,Q (.fz (.obj p (some C))) Γ1
theorem vD(h:P3 K X e te e3):P3 K X e te (M0 e3):=⟨h.pe,fun B F σ H Γ Q QQ en q k=>h.rf B F σ H Γ _ _ en q fun v H' Z=>by
 obtain⟨F',Γ',r,s,e',rv,C,ns,xs,hd,q'⟩:=Z;obtain⟨F2,s2,e2,rp⟩:=e'.frozen rv;rw[hd] at rp;obtain⟨p,dx,gs,rfl,h1,_⟩:=rp;exact k _ H' ⟨F2,Γ',.fz (.obj p (some C)),s.trans s2,e2,⟨rfl,dx,gs,h1⟩,q' p⟩⟩
end
end L3
namespace L2
open PySem PySem.Spec PySem.SeqAt
structure NeO (K:Fg0) (C:Addr):Prop where
 n:PySem.W.findIn K (.ref C) "__ne__"=some (some (.builtin "object.__ne__"))
 f:PySem.W.findIn K (.ref C) "__eq__"=some (some (.builtin "object.__eq__"))
 o:PySem.W.mroIn K C (.type "object")=some true
section
variable {x:Addr}{ox:Obj}{od:Option Obj}
theorem C7{Q:VS}(X:K.In s.heap)(I:PySem.W.InstAt s.heap x ox C od)(c:NeO K C)(h:Q (.bool true) s) :
  wpAny (model prog w) A (call (.builtin "object.__eq__") [.ref x,.ref x]) Q E s:=by
 refine wpAny_call (codeAny_call_builtin F.cmp_object.eq.plain F.cmpEntry_eq ?_);simp only[checkBuiltinCall,F.cmpKind_eq,F.cmpSplit_eq];refine wpAny_bind ?_;unfold isInstance;refine wpAny_bind (I.type.here ((PySem.W.looks_mroIn X c.o).here ?_));have ha:=F.cmpArgs_eq (.ref x) (.ref x);simp only[Bool.not_true,Bool.false_eq_true,if_false];cases hsig:Manifest.signature? "object.__eq__" with
 | none=>exact wpAny_pure (objEq_entry_same h)
 | some sig=>
  simp only[argsOk,hsig] at ha;have h2:Bind.checkArgs "object.__eq__" sig ⟨[.ref x,.ref x],[]⟩=pure ():=ha;show wpAny _ _ (Bind.checkArgs "object.__eq__" sig ⟨[.ref x,.ref x],[]⟩) _ _ _;rw[h2];exact wpAny_pure (objEq_entry_same h)
theorem pB{id:String}{Q:Option Value->Shared->Prop}(X:K.In s.heap)(I:PySem.W.InstAt s.heap x ox C od)(hf:PySem.W.findIn K (.ref C) m=some (some (.builtin id)))(e0:bindSpecial (.builtin id) (.ref x)=pure (.builtin id,[.ref x]))(h:∀ Y:Value->Shared->Prop,(∀ v,(v=.bool true\/v=.bool false)->Q (some v) s->Y v s)->wpAny (model prog w) A (call (.builtin id) [.ref x,.ref x]) Y E s):wpAny (model prog w) A (callSpecialIfBound? (.ref x) m [.ref x]) Q E s:=by
 simp only[callSpecialIfBound?,bindSpecialIfBound?];refine wpAny_holding (wpAny_bind (wpAny_bind (wpAny_bind (I.type.here ((PySem.W.looks_findIn X hf).here ?_)))));refine wpAny_bind (wpAny_askSetting (wpAny_ite ?_));have fin:∀ {Y:Option Value->Shared->Prop},(∀ v,Q (some v) s->Y (some v) s)->wpAny (model prog w) A (call (.builtin id) ([.ref x]++[.ref x]) >>= fun v=>pure (some v)) Y E s:=fun {Y} q=>wpAny_bind (h _ fun v _ z=>wpAny_pure (q v z));split
 ·rw[e0];exact wpAny_bind (wpAny_pure (wpAny_pure (fin fun v z=>z)))
 ·rw[e0];exact wpAny_tryCatch (wpAny_bind (wpAny_pure (wpAny_pure (fin fun v z=>z))))
theorem C6{Q:VS}(X:K.In s.heap)(I:PySem.W.InstAt s.heap x ox C od)(c:NeO K C)(hu:A.units + 1 < cLine)(h:Q (.bool false) s) :
  wpAny (model prog w) A (call (.builtin "object.__ne__") [.ref x,.ref x]) Q E s:=by
 refine wpAny_call (codeAny_call_builtin F.cmp_object.ne.plain F.cmpEntry_ne ?_);simp only[checkBuiltinCall,F.cmpKind_ne,F.cmpSplit_ne];refine wpAny_bind ?_;unfold isInstance;refine wpAny_bind (I.type.here ((PySem.W.looks_mroIn X c.o).here ?_));have ha:=F.cmpArgs_ne (.ref x) (.ref x);simp only[Bool.not_true,Bool.false_eq_true,if_false];have fin:∀ {P:Fin->Shared->Prop},P (.done (.ret (.bool false))) s->wpAny (model prog w) A.in1 (Builtin.«object.__ne__» ⟨[.ref x,.ref x],[]⟩) P E s:=fun {P} q=>by
  unfold Builtin.«object.__ne__»
  repeat (first | with_reducible refine wpAny_cRoomFor (show A.in1.units < cLine from hu) ?_ | with_reducible refine pB (Q:=_) X I c.f (F.cmp_object.eq.bind (.ref x)) (fun Y hY=>C7 X I c (hY (.bool true) (.inl rfl) ?_)) | wp_step)
  exact q
 cases hsig:Manifest.signature? "object.__ne__" with
 | none=>exact wpAny_pure (fin h)
 | some sig=>
  simp only[argsOk,hsig] at ha;have h2:Bind.checkArgs "object.__ne__" sig ⟨[.ref x,.ref x],[]⟩=pure ():=ha;show wpAny _ _ (Bind.checkArgs "object.__ne__" sig ⟨[.ref x,.ref x],[]⟩) _ _ _;rw[h2];exact wpAny_pure (fin h)
theorem AN(X:K.In s.heap)(I:PySem.W.InstAt s.heap x ox C od)(c:NeO K C)(hu:A.units + 1 < cLine):RcNeAt A s (.ref x) (.ref x) false:=fun prog w E Q h=>by
 have hu0:A.units < cLine:=Nat.lt_of_succ_lt hu;simp only[richCompare,cmpInfo_NotEq,oneThing_ref];refine wpAny_holding ?_;refine wpAny_bind (wpAny_cRoomFor hu0 ?_);refine wpAny_bind (I.type.here (wpAny_bind (I.type.here ?_)));rw[show (Value.ref C != Value.ref C)=false from by simp];simp only[Bool.false_eq_true,if_false];refine wpAny_bind (wpAny_pure ?_);simp only[Bool.false_eq_true,if_false];refine wpAny_bind (m:=tryCompare (.ref x) _ (.ref x)) ?_;unfold tryCompare;refine wpAny_bind (pB (Q:=_) X I c.n (F.cmp_object.ne.bind (.ref x)) fun Y hY=>C6 X I c hu (hY (.bool false) (.inr rfl) ?_));exact wpAny_pure (wpAny_pure h)
end
end L2
namespace L3
open PySem L2 PySem.Spec PySem.SeqAt
def SmO (Cs:La0) (d:D):Prop:=(∃ p C,d=.obj p (some C)/\C∈Cs)\/∃ p C,d=.lst [.obj p (some C)]\/d=.tup [.obj p (some C)]
def Lp (K:Fg0) (Cs:La0):R2:=fun x y H Q=>∃ F d,aE F H/\fL K F H d x/\fL K F H d y/\SmO Cs d/\Q (.bl false) H
theorem Jg(hK:X.K=K)(hC:∀ C∈Cs,NeO K C)(hu:X.A.units + 1 < cLine):OpR X (compareOp .NotEq) (Lp K Cs):=by
 intro pins s σ H x y v u Q I rx ry h;obtain⟨F,d,sm,r,r',so,q⟩:=h;have hu0:X.A.units < cLine:=Nat.lt_of_succ_lt hu;have fin:RcNeAt X.A s v u false:=by
  rcases so with ⟨p,C,rfl,hc⟩ | ⟨p,C,rfl | rfl⟩
  ·obtain⟨rfl,dx,gs,g⟩:=r;obtain⟨rfl,_⟩:=r';cases rx;cases ry;obtain⟨mA,O,_⟩:=nQ I.hok (sm _ _ g);obtain⟨od,io,_⟩:=O.look;subst hK;exact AN I.kIn io (hC _ hc) hu
  ·obtain⟨p1,vs,rfl,g1,v1,ws,rfl,⟨rfl,_⟩,rfl⟩:=r;obtain⟨p2,vs2,rfl,g2,v2,ws2,rfl,⟨rfl,_⟩,rfl⟩:=r';cases rx;cases ry;obtain⟨us,q1,l1⟩:=o9 I g1;obtain⟨zs,q2,l2⟩:=o9 I g2;obtain⟨a1,rfl,b1⟩:=Vals.one q1;obtain⟨a2,rfl,b2⟩:=Vals.one q2;cases b1;cases b2;exact RcNeAt.lists (e:=fun _=>true) l1 l2 rfl hu0 fun j h1 h2=>by
    have:j=0:=by simpa using h1
    subst this;exact EqAt.same _
  ·obtain⟨p1,vs,rfl,g1,v1,ws,rfl,⟨rfl,_⟩,rfl⟩:=r;obtain⟨p2,vs2,rfl,g2,v2,ws2,rfl,⟨rfl,_⟩,rfl⟩:=r';cases rx;cases ry;obtain⟨us,q1,l1⟩:=o8 I (sm _ _ g1);obtain⟨zs,q2,l2⟩:=o8 I (sm _ _ g2);obtain⟨a1,rfl,b1⟩:=Vals.one q1;obtain⟨a2,rfl,b2⟩:=Vals.one q2;cases b1;cases b2;exact RcNeAt.tuples (e:=fun _=>true) l1 l2 hu0 fun j h1 h2=>by
    have:j=0:=by simpa using h1
    subst this;exact EqAt.same _
 exact fin _ _ _ _ (yS I q rfl)
def Nt (Cs:La0) (x y:D) (Γ:G) (Q:RV->G->Prop):Prop:=x=y/\SmO Cs x/\Q (.fz (.bl false)) Γ
theorem Kv(hK:X.K=K)(hC:∀ C∈Cs,NeO K C)(hr:bF k X.A):C3 K X .NotEq (Lp K Cs) (Nt Cs):=⟨Jg hK hC (by have:=hr.un;lia),by
 intro B F σ H Γ x y dx dy Q QQ e rx ry q k;obtain⟨rfl,so,q⟩:=q;exact⟨F,dx,e.sub,rx,ry,so,k _ _ (kB e q)⟩⟩
structure KR (K:Fg0) (Cf C:Addr):Prop where
 cl:Cls K C
 ha:PySem.W.findIn K (.ref C) "__class__"=some (some (.builtin "object.__class__"))
 hn:PySem.W.specialIn K (.builtin "object.__class__") "__get__"=some (some (.builtin "getset_descriptor.__get__"))
 ht:PySem.W.takesIn K (.builtin "object.__class__")=some true
 hm:PySem.W.mroIn K C (.type "object")=some true
 k:PySem.W.kitOne K (.ref C) (.ref Cf)=some false
noncomputable def C1 (Cs:La0) (C:Addr):D->Option Bool
 | .obj _ (some C')=>if C'∈Cs then some false else none
 | d=>C4 C d
def Dv (Cs:La0) (C:Addr) (ds:List D) (Γ:G) (Q:RV->G->Prop):Prop:=match ds with
 | [d,.adr C']=>C'=C/\∃ b,C1 Cs C d=some b/\Q (.fz (.bl b)) Γ
 | _=>False
theorem Eb(hK:X.K=K)(c:Ex K C)(hC:∀ C'∈Cs,KR K C C'):B3 K X (.builtin "isinstance") (fun xs H Q=>∃ x c t b,xs=[x,c]/\k8 K H x t/\isC c=true/\PySem.W.kitOne K t (vv c)=some b/\Q (.bl b) H) (Dv Cs C):=⟨(HU hK c).op,by
 intro B F σ H Γ vs ds Q QQ e r q k;unfold Dv at q;split at q
 ·rename_i d C';obtain⟨rfl,b,hb,q⟩:=q;unfold C1 at hb;split at hb
  ·rename_i p C0;split at hb
   ·rename_i hm;cases hb;obtain⟨v,w,rfl,h1,h2⟩:=r.two;cases h2;obtain⟨rfl,dx,gs,g⟩:=h1;have i:=hC C0 hm;exact⟨_,_,_,false,rfl,.ins (e.sub _ _ g) i.cl i.ha i.hn i.ht i.hm,rfl,i.k,k _ _ (kB e q)⟩
   ·cases hb
  ·exact(HU hK c).rf B F σ H Γ vs _ Q QQ e r ⟨rfl,b,hb,q⟩ k
 ·exact q.elim⟩
theorem al2{p:Addr->Prop}{x y:Addr}(h1:p x)(h2:p y):∀ C∈[x,y],p C:=fun C hC=>by
 rcases List.mem_cons.mp hC with rfl | hC
 ·exact h1
 ·rcases List.mem_cons.mp hC with rfl | hC
  ·exact h2
  ·cases hC
section
variable {x:Str}{QB:Bool->G->Prop}{g:Nat}
def Ng (x:Str) (xss:List (List D)) (Γ:G) (Q:RV->G->Prop) (_:Tag Q):Prop:=∃ xs xt,xss=xs::xt/\Q (.tol x xs (xt.map .lst)) Γ
theorem J4:Hn x e3 Γ Q=(e3 Γ fun r Γ1=>AD r fun xss=>Ng x xss Γ1 Q ⟨⟩):=rfl
theorem Ge:Df C m S e3 Γ Q=(e3 Γ fun r Γ1=>(∃ ns xs,r.d=.ins C ns xs/\m∉ns)/\xk S [some (.fz r.d)] [none] Γ1 Q ⟨⟩):=rfl
def Nh (i g:Nat) (A3:TT3) (Γ:G) (Q:Bool->G->Prop) (_:Tag (A3,Q)):Prop:=tfQ i g A3 Γ Q
theorem Mi:tfQ i g A3 Γ QB=Nh i g A3 Γ QB ⟨⟩:=rfl
def N6 (j:Nat) (Γ:G) (Q:RV->G->Prop) (_:Tag Q):Prop:=∃ q xs,Hld Γ j (.cel q xs)/\Q (.fz .non) (mM Γ j [])
theorem J9:HP o3 Γ Q=(o3 Γ fun bo Γ1=>vB bo fun j=>N6 j Γ1 Q ⟨⟩):=rfl
def N7 (d:D) (Γ:G) (Q:RV->G->Prop) (_:Tag Q):Prop:=∃ C ns xs,d=.ins C ns xs/\∀ p,Q (.fz (.obj p (some C))) Γ
theorem Mr:M0 e3 Γ Q=(e3 Γ fun r Γ1=>N7 r.d Γ1 Q ⟨⟩):=rfl
end
end L3
namespace L2
open PySem PySem.Spec PyProof.Rows
def G5 (i j l:Nat) (ta:TA):TS:=fun D σ H=>ta σ H fun vs H1=>∃ v w z,vs=[v,w,z]/\D.nx (((σ.set l (some z)).set j (some w)).set i (some v)) H1
theorem Ff{l:Nat}{x:Str}{b:Expr}{ta:TA}{py pz pt:Pos}{kt k2 pt2}(hc:X.calm=true)(hN:X.N.Nodup)(hi:X.N[i]?=some x)(hj:X.N[j]?=some y)(hl:X.N[l]?=some z)(hx:X.env.scope.names.lookup x=some .local)(hy:X.env.scope.names.lookup y=some .local)(hz:X.env.scope.names.lookup z=some .local)(ha:PA X [a,b,c] ta)(hw:swappedStores [.Tuple [.Name x px,.Name y py,.Name z pz] kt pt] (.Tuple [a,b,c] k2 pt2) X.env=pure (some [x,y,z]))(hs:autoParam (swapsWithSole [.Tuple [.Name x px,.Name y py,.Name z pz] kt pt] (.Tuple [a,b,c] k2 pt2) pos.line X.env=pure false) wE) :
  PS X (.Assign [.Tuple [.Name x px,.Name y py,.Name z pz] kt pt] (.Tuple [a,b,c] k2 pt2) pos) (G5 i j l ta):=by
 intro pins s σ H D I h;rw[exec_Assign_arm];refine wpAny_bind (wpAny_standAt ?_);rw[hs];refine wpAny_bind (wpAny_pure ?_);rw[if_neg (by decide)];refine wpAny_bind (Tuple_ (thn (ha _ pins s σ H _ I h) fun us s1 Z=>?_));obtain⟨vs,H1,I1,r1,q1⟩:=Z;obtain⟨v,w,t,e1,q1⟩:=q1;subst e1;obtain⟨u1,u2,u3,rfl,rv,rw',rt⟩:∃ u1 u2 u3,us=[u1,u2,u3]/\RelV v u1/\RelV w u2/\RelV t u3:=by
  cases r1 with
  | cons p q=>
   cases q with
   | cons p' q'=>
    cases q' with
    | cons p3 q3=>
     cases q3;exact⟨_,_,_,rfl,p,p',p3⟩
 refine wpAny_newObj_type ?_ (by show 3<=sizeLine;decide);have I2:Inv X pins σ H1 { s1 with heap:=s1.heap.push { cls:=.type "tuple",data:=.seq [u1,u2,u3].toArray } }:=I1.kept (t':=s1.toks) fun b o e=>Heap.get?_push_of_some _ e;rw[hw];refine wpAny_bind (wpAny_pure ?_);show wpAny (model X.prog X.w) X.A (do rule "assign.swapped-stores";let items <- unpackItems (.ref s1.heap.objs.size) 3 none;assignInOrder [fun v=>bindName X.env z v,fun v=>bindName X.env y v,fun v=>bindName X.env x v] items.reverse;pure Flow.next) _ _ _;refine wpAny_bind (wpAny_rule (wpAny_bind (unpackItems_tuple (items:=#[u1,u2,u3]) (I.ok.hd hc) (IsTup.new s1.heap _) fun h' hx'=>?_)));have I3:=I2.kept (h':=h') (t':=s1.toks) fun b o e=>hx' b o (Nat.ne_of_lt (Heap.lt_size e)) e;show wpAny _ _ (assignInOrder [fun v=>bindName X.env z v,fun v=>bindName X.env y v,fun v=>bindName X.env x v] [u3,u2,u1] >>= fun _=>pure Flow.next) _ _ _;refine wpAny_bind (assignInOrder_cons (wpAny_bindName (fe I3 hN hl (.inl hz) rt (fun s2 I4=>?_) (.inr hz))));refine assignInOrder_cons (wpAny_bindName (fe I4 hN hj (.inl hy) rw' (fun s3 I5=>?_) (.inr hy)));refine assignInOrder_cons (wpAny_bindName (fe I5 hN hi (.inl hx) rv (fun s4 I6=>assignInOrder_nil (wpAny_pure ?_)) (.inr hx)));exact⟨_,H1,I6,q1⟩
end L2
namespace L3
open PySem L2
def Hh (i j l:Nat) (t3:TA3) (D:E3) (Γ:G):Prop:=t3 Γ fun ds Γ1=>∃ d d' d2,ds=[d,d',d2]/\aW Γ1 l/\aW (Γ1.set l (some (.fz d2))) j/\aW ((Γ1.set l (some (.fz d2))).set j (some (.fz d'))) i/\D.nx (((Γ1.set l (some (.fz d2))).set j (some (.fz d'))).set i (some (.fz d)))
theorem ET{l:Nat}{x:Str}{b:Expr}{ta:TA}{a3:TA3}{py pz pt:Pos}{kt k2 pt2}(hc:X.calm=true)(hN:X.N.Nodup)(hi:X.N[i]?=some x)(hj:X.N[j]?=some y)(hl:X.N[l]?=some z)(hx:X.env.scope.names.lookup x=some .local)(hy:X.env.scope.names.lookup y=some .local)(hz:X.env.scope.names.lookup z=some .local)(ha:P3A K X [a,b,c] ta a3)(hw:swappedStores [.Tuple [.Name x px,.Name y py,.Name z pz] kt pt] (.Tuple [a,b,c] k2 pt2) X.env=pure (some [x,y,z]))(hs:autoParam (swapsWithSole [.Tuple [.Name x px,.Name y py,.Name z pz] kt pt] (.Tuple [a,b,c] k2 pt2) pos.line X.env=pure false) wE) :
  P3S K X (.Assign [.Tuple [.Name x px,.Name y py,.Name z pz] kt pt] (.Tuple [a,b,c] k2 pt2) pos) (G5 i j l ta) (Hh i j l a3):=⟨Ff hc hN hi hj hl hx hy hz ha.pe hw hs,fun B F σ H Γ D D3 e k q=>
 ha.rf B F σ H Γ _ _ e q fun vs H' Z=>by
  obtain⟨F',Γ',ds,s,e',rv,d,d',d2,h1,h2,h3,h4,q'⟩:=Z;subst h1;obtain⟨v,ws,rfl,r1,w,ws',rfl,r2,t,ws2,rfl,r3,r4⟩:=rv;cases r4;exact⟨v,w,t,rfl,k.nx F' _ H' _ s (((e'.set (r:=.fz d2) h2 r3).set (r:=.fz d') h3 r2).set (r:=.fz d) h4 r1) q'⟩⟩
end L3
set_option maxHeartbeats 4000000
namespace K71
open PySem L2 L3
noncomputable def fw (b:Option D):Option Sl:=b.map Sl.ow
theorem Kg{s:Option D}:aW (fw s::Γ) 0=True:=by cases s <;> rfl
theorem MS{n:Option D}:jT n none=none:=rfl
theorem NZ{n:Option D}{d:D}:jT n (some (.fz d))=some (.fz d):=rfl
theorem N0{n:Option D}{d:D}:jT n (some (.ow d))=some (.ow (n.getD d)):=rfl
theorem MT{n:Option D}{d:D}:jT n (some (.ln d))=some (.ln (n.getD d)):=rfl
theorem N2{n:Option D}{s:Option D}:jT n (fo s)=fo s:=by cases s <;> rfl
theorem N1{n:Option D}{s:Option D}:jT n (fw s)=fw (s.map fun d=>n.getD d):=by cases s <;> rfl
def MU (j:Nat) (q:Addr) (l n:Nat) (x:Int) (r:RV) (Γ:G) (N:G->Prop) (_:Tag N):Prop:=∃ y xs,r=.fz (.int y)/\Hld Γ j (.cel q xs)/\xs.length=l/\N (mM Γ j (xs.set n (.int (x + y))))
theorem Ka:HX o3 k3 e3 D1 Γ=(o3 Γ fun bo Γ1=>vB bo fun j=>k3 Γ1 fun b Γ2=>GG j (b.at Γ2) Γ2 (fun q l n x=>e3 Γ2 fun r Γ3=>MU j q l n x r Γ3 D1.nx ⟨⟩) ⟨⟩):=rfl
theorem NI:in3 false (.str (Str.ofString "r")) (kt ["r","b"]) Γ Q=Q (.fz (.bl true)) Γ:=propext ⟨fun Z=>by obtain⟨xs,h1,_,_,q⟩:=Z;cases h1;exact q,fun q=>⟨_,rfl,rfl,rfl,q⟩⟩
theorem NJ:in3 false (.str (Str.ofString "r")) (kt ["p","b"]) Γ Q=Q (.fz (.bl false)) Γ:=propext ⟨fun Z=>by obtain⟨xs,h1,_,_,q⟩:=Z;cases h1;exact q,fun q=>⟨_,rfl,rfl,rfl,q⟩⟩
theorem Nw:(("corners":Str) == ("chosen":Str))=false:=by decide +kernel
theorem Nv:(("letters":Str) == ("chosen":Str))=false:=by decide +kernel
theorem Nu:(("letters":Str) == ("corners":Str))=false:=by decide +kernel
set_option bootstrap.genMatcherCode true in
def mkL(s:String):Lean.MacroM (Array (Lean.TSyntax [`Lean.Parser.Tactic.simpStar,`Lean.Parser.Tactic.simpErase,`Lean.Parser.Tactic.simpLemma])):=do
 let mut xs:=#[]
 for w in s.splitOn " " do
  let n:=(w.dropWhile (·=='↓')).toString.toName
  let i:=match (<-Lean.Macro.resolveGlobalName n) with
   |(c,[])::_=>Lean.mkCIdent c
   |_=>Lean.mkIdent n
  let t<-if w.startsWith "↓" then `(Lean.Parser.Tactic.simpLemma|↓$i:ident) else `(Lean.Parser.Tactic.simpLemma|$i:ident)
  xs:=xs.push ⟨t.raw⟩
 return xs
set_option bootstrap.genMatcherCode true in
local macro_rules | `(tactic| walk_at "q1")=>do `(tactic| try simp -dsimp only [$(<-mkL "cO List.length_cons List.length_nil Nat.reduceAdd Nat.reduceSub Nat.zero_add List.replicate List.cons_append List.nil_append List.append_nil ↓Ml ↓J2 ↓Mj ↓Hz ↓J7 ↓Mn ↓N3 ↓N4 ↓NX ↓NY LL ↓JV ↓B1 ↓Iz qA ↓HC ↓HD ↓GD ↓z8 ↓Dz ↓Hx ↓NU ↓NT ↓DA ↓HA ↓h_c iV EJ ↓Mh ↓Mq ↓NQ ↓Mm HY LM ↓HB ↓Hy Gat Bo.at ats RV.d RV.sl GV i2 i2' GA ↓Hs ↓L7 zR FQ FP FR Jy F_ mx3 Js Kh Kj Ke Kf Ki sl3 Le ↓J1 ↓JU Dn sf xT is3 knD dB dI dL dT ↓Mp beq_self_eq_true Ci DI List.zip_cons_cons List.lookup_cons List.lookup_nil ↓EO C8 sg ↓Jv Gm ↓Me FI dS IB RV.fz.injEq ↓EN c7 putD tgN tgT gives frees iL3 iR1 iZ3 iE3 lz3 KH ↓Ae ↓Gz ↓DY ↓Kk List.isEmpty_nil List.isEmpty_cons ↓J8 ↓Gg Km Ko ↓Mo ↓Ju dU tK je bP bU List.map_cons List.map_nil Option.bind_some Option.bind_none List.nodup_nil List.nodup_cons List.getElem?_cons_zero List.getElem?_cons_succ List.getElem?_nil List.set_cons_zero List.set_cons_succ exists_eq_left' exists_eq_left exists_eq' exists_eq exists_and_left exists_and_right Option.some.injEq D.int.injEq D.lst.injEq D.str.injEq D.tup.injEq D.bl.injEq D.ins.injEq D.ty.injEq List.cons.injEq and_true true_and and_false false_and true_or false_or or_false or_true and_assoc List.not_mem_nil not_false_eq_true zb DP Gv Mz HJ MA sJ Bool.false_xor Bool.not_true Bool.not_false Bool.true_xor gb List.mapIdx_cons List.mapIdx_nil GF Bq za Ej FW Dl Dk Nat.reduceLT decide_true Eg Eh Ei ite_self newD Option.getD_some Option.getD_none MY MX MW MV JM JL JK if_pos if_true if_false List.all_cons List.all_nil Option.isNone_none Bool.and_true Bool.true_and decide_eq_true_eq not_true not_false_iff reduceCtorEq eq_self Bool.false_eq_true reduceIte Int.reduceEq MS NZ N0 MT N2 N1 Kg K5 frL iT3 Nat.reduceEqDiff JO Dv ↓fz3 D.exc.injEq D.adr.injEq yc Cg Ij ↓Gy ↓Gf ↓JY KI IE Nf ↓J_ ↓JW ↓NP ↓GC ↓E6 BG JN dvv Ii E3.vS ↓L8 ↓Ka ↓J4 ↓Ge ↓JX ↓Mi ↓J9 ↓Mr Hh ↓NI ↓NJ Nw Nv Nu"),*])
noncomputable def top (i:Nat):Stmt:=PySem.Challenge.pw_halvedpictures_k71_two_fields_summed.main.body.getD i (.Pass ⟨0,0,0,0⟩)
noncomputable abbrev cu:Stmt:=inClass (top 2) 0
noncomputable abbrev dE:Stmt:=inClass (top 3) 0
noncomputable abbrev dZ:Stmt:=inClass (top 10) 0
noncomputable abbrev c8:Stmt:=inClass (top 11) 0
noncomputable abbrev mG:Stmt:=top 16
noncomputable abbrev kg:Stmt:=top 17
noncomputable abbrev nB:Stmt:=top 18
noncomputable abbrev oR:Stmt:=top 19
noncomputable abbrev dY:Stmt:=top 20
noncomputable abbrev gG:Stmt:=top 22
noncomputable abbrev cZ:Stmt:=inClass (top 23) 0
noncomputable abbrev gI:Stmt:=inClass (top 23) 1
noncomputable abbrev iD:Stmt:=inClass (top 23) 2
noncomputable abbrev fY:Stmt:=inClass (top 23) 3
noncomputable abbrev ec:Stmt:=inClass (top 23) 5
noncomputable abbrev eL:Stmt:=inClass (top 23) 6
noncomputable abbrev mK:Stmt:=inClass (top 23) 7
noncomputable abbrev oP:Stmt:=top 26
noncomputable abbrev iw:Stmt:=top 27
noncomputable abbrev jo:Stmt:=top 28
noncomputable abbrev gF:Stmt:=top 29
noncomputable abbrev fB:Stmt:=top 30
noncomputable abbrev mF:Stmt:=top 32
noncomputable abbrev lq:Stmt:=top 33
noncomputable abbrev kq:Stmt:=inClass (top 34) 0
noncomputable abbrev iz:Stmt:=inClass (top 34) 1
noncomputable abbrev iy:Stmt:=inClass (top 34) 3
noncomputable abbrev d_:Stmt:=inClass (top 34) 5
noncomputable abbrev iC:Stmt:=inClass (top 35) 0
noncomputable abbrev cQ:Stmt:=inClass (top 35) 1
noncomputable abbrev cR:Stmt:=inClass (top 35) 2
noncomputable abbrev kj:Stmt:=top 43
noncomputable abbrev oQ:Stmt:=top 44
noncomputable abbrev ki:Stmt:=top 48
noncomputable abbrev jn:Stmt:=top 49
noncomputable abbrev fE:Stmt:=inClass (top 51) 0
noncomputable abbrev iA:Stmt:=inClass (top 51) 1
noncomputable abbrev jr:Stmt:=inClass (top 51) 2
noncomputable abbrev kr:Stmt:=inClass (top 51) 3
noncomputable abbrev mJ:Stmt:=inClass (top 51) 4
noncomputable abbrev jt:Stmt:=inClass (top 51) 5
noncomputable abbrev iB:Stmt:=inClass (top 51) 6
noncomputable abbrev rz:Stmt:=top 53
noncomputable abbrev kh:Stmt:=top 54
noncomputable abbrev fX:Stmt:=top 55
noncomputable abbrev jm:Stmt:=top 56
noncomputable abbrev iu:Stmt:=top 57
noncomputable abbrev cP:Stmt:=top 58
noncomputable abbrev nz:Stmt:=top 60
noncomputable abbrev vg:Stmt:=top 61
noncomputable abbrev dD:Stmt:=inClass (top 63) 0
noncomputable abbrev ko:Stmt:=top 65
noncomputable abbrev mH:Stmt:=top 66
noncomputable abbrev km:Stmt:=top 67
noncomputable abbrev kn:Stmt:=top 68
noncomputable abbrev ix:Stmt:=top 69
noncomputable abbrev fi:Stmt:=top 70
noncomputable abbrev gH:Stmt:=top 71
noncomputable abbrev jq:Stmt:=top 72
noncomputable abbrev kl:Stmt:=top 73
noncomputable abbrev cY:Stmt:=top 74
noncomputable abbrev dC:Stmt:=top 75
noncomputable abbrev eK:Stmt:=top 76
noncomputable abbrev zB:Stmt:=top 77
theorem iX:au ["self","words"] ["self","words"] (ag cu):=⟨rfl,rfl,rfl,by decide +kernel,rfl,by decide +kernel,by decide +kernel⟩
theorem lM:au ["self","found"] ["self","found"] (ag dE):=⟨rfl,rfl,rfl,by decide +kernel,rfl,by decide +kernel,by decide +kernel⟩
theorem mE:au ["self","one","other"] ["self","one","other"] (ag dZ):=⟨rfl,rfl,rfl,by decide +kernel,rfl,by decide +kernel,by decide +kernel⟩
theorem ke:au ["self","place"] ["self","place"] (ag c8):=⟨rfl,rfl,rfl,by decide +kernel,rfl,by decide +kernel,by decide +kernel⟩
theorem wF:au ["thing","low","high"] ["thing","low","high"] (ag mG):=⟨rfl,rfl,rfl,by decide +kernel,rfl,by decide +kernel,by decide +kernel⟩
theorem va:au ["thing"] ["thing"] (ag kg):=⟨rfl,rfl,rfl,by decide +kernel,rfl,by decide +kernel,by decide +kernel⟩
theorem AB:au ["thing","least"] ["thing","least"] (ag nB):=⟨rfl,rfl,rfl,by decide +kernel,rfl,by decide +kernel,by decide +kernel⟩
noncomputable def qw:Scope:={ kind:=.function,names:=[(".0",.local),("number",.local),("is_number",.globalImplicit)],isGenerator:=false,isCoroutine:=false,more:=[] }
theorem oA:Blk ["thing","least"] (ag nB) qw ["number"] [none]:=⟨rfl,by decide +kernel,by decide +kernel,by decide +kernel,by decide +kernel,rfl,by decide +kernel⟩
theorem x_:au ["height","width"] ["height","width"] (ag oR):=⟨rfl,rfl,rfl,by decide +kernel,rfl,by decide +kernel,by decide +kernel⟩
theorem mD:au ["thing","height","width"] ["thing","height","width"] (ag dY):=⟨rfl,rfl,rfl,by decide +kernel,rfl,by decide +kernel,by decide +kernel⟩
theorem pC:au ["thing","width"] ["thing"] (ag gG):=⟨rfl,rfl,rfl,by decide +kernel,rfl,by decide +kernel,by decide +kernel⟩
noncomputable def oC:Scope:={ kind:=.function,names:=[(".0",.local),("row",.local),("len",.globalImplicit),("width",.free)],isGenerator:=false,isCoroutine:=false,more:=[] }
theorem kZ:Blk ["thing","width"] (ag gG) oC ["row","width"] [none,some 1]:=⟨rfl,by decide +kernel,by decide +kernel,by decide +kernel,by decide +kernel,rfl,by decide +kernel⟩
noncomputable def oB:Scope:={ kind:=.function,names:=[(".0",.local),("row",.local),("is_row",.globalImplicit)],isGenerator:=false,isCoroutine:=false,more:=[] }
theorem kY:Blk ["thing","width"] (ag gG) oB ["row"] [none]:=⟨rfl,by decide +kernel,by decide +kernel,by decide +kernel,by decide +kernel,rfl,by decide +kernel⟩
theorem ny:au ["self","rows"] ["self","rows"] (ag cZ):=⟨rfl,rfl,rfl,by decide +kernel,rfl,by decide +kernel,by decide +kernel⟩
noncomputable def jd:Scope:={ kind:=.function,names:=[(".0",.local),("row",.local),("tuple",.globalImplicit)],isGenerator:=false,isCoroutine:=false,more:=[] }
theorem fA:Blk ["self","rows"] (ag cZ) jd ["row"] [none]:=⟨rfl,by decide +kernel,by decide +kernel,by decide +kernel,by decide +kernel,rfl,by decide +kernel⟩
theorem qk:au ["self"] ["self"] (ag gI):=⟨rfl,rfl,rfl,by decide +kernel,rfl,by decide +kernel,by decide +kernel⟩
theorem rn:au ["self"] ["self"] (ag iD):=⟨rfl,rfl,rfl,by decide +kernel,rfl,by decide +kernel,by decide +kernel⟩
theorem l8:au ["self"] ["self"] (ag fY):=⟨rfl,rfl,rfl,by decide +kernel,rfl,by decide +kernel,by decide +kernel⟩
noncomputable def lT:Scope:={ kind:=.function,names:=[(".0",.local),("row",.local),("list",.globalImplicit)],isGenerator:=false,isCoroutine:=false,more:=[] }
theorem c6:Blk ["self"] (ag fY) lT ["row"] [none]:=⟨rfl,by decide +kernel,by decide +kernel,by decide +kernel,by decide +kernel,rfl,by decide +kernel⟩
theorem qj:au ["self"] ["self"] (ag ec):=⟨rfl,rfl,rfl,by decide +kernel,rfl,by decide +kernel,by decide +kernel⟩
noncomputable def j5:Scope:={ kind:=.function,names:=[(".0",.local),("y",.local),("x",.local),("range",.globalImplicit),("self",.free)],isGenerator:=false,isCoroutine:=false,more:=[] }
theorem dJ:Blk ["self"] (ag ec) j5 ["y","x","self"] [none,none,some 0]:=⟨rfl,by decide +kernel,by decide +kernel,by decide +kernel,by decide +kernel,rfl,by decide +kernel⟩
theorem nv:au ["self","thing"] ["self","thing"] (ag eL):=⟨rfl,rfl,rfl,by decide +kernel,rfl,by decide +kernel,by decide +kernel⟩
theorem kf:au ["self","place","y","x"] ["self","place"] (ag mK):=⟨rfl,rfl,rfl,by decide +kernel,rfl,by decide +kernel,by decide +kernel⟩
theorem x9:au ["thing"] ["thing"] (ag oP):=⟨rfl,rfl,rfl,by decide +kernel,rfl,by decide +kernel,by decide +kernel⟩
theorem kc:au ["thing"] ["thing"] (ag iw):=⟨rfl,rfl,rfl,by decide +kernel,rfl,by decide +kernel,by decide +kernel⟩
theorem l5:au ["plan","thing"] ["plan","thing"] (ag jo):=⟨rfl,rfl,rfl,by decide +kernel,rfl,by decide +kernel,by decide +kernel⟩
theorem jJ:au ["field","low","high","place"] ["field","low","high"] (ag gF):=⟨rfl,rfl,rfl,by decide +kernel,rfl,by decide +kernel,by decide +kernel⟩
theorem oN:au ["plan","thing"] ["plan","thing"] (ag fB):=⟨rfl,rfl,rfl,by decide +kernel,rfl,by decide +kernel,by decide +kernel⟩
theorem wD:au ["row"] ["row"] (ag mF):=⟨rfl,rfl,rfl,by decide +kernel,rfl,by decide +kernel,by decide +kernel⟩
theorem ya:au ["row"] ["row"] (ag lq):=⟨rfl,rfl,rfl,by decide +kernel,rfl,by decide +kernel,by decide +kernel⟩
noncomputable def pq:Scope:={ kind:=.function,names:=[(".0",.local),("first",.local),("second",.local)],isGenerator:=false,isCoroutine:=false,more:=[] }
theorem iQ:Blk ["row"] (ag lq) pq ["first","second"] [none,none]:=⟨rfl,by decide +kernel,by decide +kernel,by decide +kernel,by decide +kernel,rfl,by decide +kernel⟩
theorem ve:au ["self"] ["self"] (ag kq):=⟨rfl,rfl,rfl,by decide +kernel,rfl,by decide +kernel,by decide +kernel⟩
theorem q_:au ["self","row"] ["self","row"] (ag iz):=⟨rfl,rfl,rfl,by decide +kernel,rfl,by decide +kernel,by decide +kernel⟩
theorem q9:au ["self","row"] ["self","row"] (ag iy):=⟨rfl,rfl,rfl,by decide +kernel,rfl,by decide +kernel,by decide +kernel⟩
theorem jK:au ["self","row","sums"] ["self","row"] (ag d_):=⟨rfl,rfl,rfl,by decide +kernel,rfl,by decide +kernel,by decide +kernel⟩
noncomputable def j4:Scope:={ kind:=.function,names:=[(".0",.local),("first",.local),("second",.local),("self",.free)],isGenerator:=false,isCoroutine:=false,more:=[] }
theorem dH:Blk ["self","row","sums"] (ag d_) j4 ["first","second","self"] [none,none,some 0]:=⟨rfl,by decide +kernel,by decide +kernel,by decide +kernel,by decide +kernel,rfl,by decide +kernel⟩
theorem rm:au ["self"] ["self"] (ag iC):=⟨rfl,rfl,rfl,by decide +kernel,rfl,by decide +kernel,by decide +kernel⟩
theorem jW:au ["self","first","second"] ["self","first","second"] (ag cQ):=⟨rfl,rfl,rfl,by decide +kernel,rfl,by decide +kernel,by decide +kernel⟩
theorem wt:au ["self","number"] ["self","number"] (ag cR):=⟨rfl,rfl,rfl,by decide +kernel,rfl,by decide +kernel,by decide +kernel⟩
theorem vc:au [] [] (ag kj):=⟨rfl,rfl,rfl,by decide +kernel,rfl,by decide +kernel,by decide +kernel⟩
theorem q8:au ["word","rule"] ["word"] (ag oQ):=⟨rfl,rfl,rfl,by decide +kernel,rfl,by decide +kernel,by decide +kernel⟩
theorem vb:au ["letter","height","width"] ["letter","height","width"] (ag ki):=⟨rfl,rfl,rfl,by decide +kernel,rfl,by decide +kernel,by decide +kernel⟩
theorem df:au ["height","width","way","corners","letter"] ["height","width","way"] (ag jn):=⟨rfl,rfl,rfl,by decide +kernel,rfl,by decide +kernel,by decide +kernel⟩
theorem oO:au ["self","height","width","word","way"] ["self","height","width","word","way"] (ag fE):=⟨rfl,rfl,rfl,by decide +kernel,rfl,by decide +kernel,by decide +kernel⟩
theorem rg:au ["self"] ["self"] (ag iA):=⟨rfl,rfl,rfl,by decide +kernel,rfl,by decide +kernel,by decide +kernel⟩
theorem s_:au ["self"] ["self"] (ag jr):=⟨rfl,rfl,rfl,by decide +kernel,rfl,by decide +kernel,by decide +kernel⟩
theorem vf:au ["self"] ["self"] (ag kr):=⟨rfl,rfl,rfl,by decide +kernel,rfl,by decide +kernel,by decide +kernel⟩
theorem wH:au ["self"] ["self"] (ag mJ):=⟨rfl,rfl,rfl,by decide +kernel,rfl,by decide +kernel,by decide +kernel⟩
theorem tj:au ["self"] ["self"] (ag jt):=⟨rfl,rfl,rfl,by decide +kernel,rfl,by decide +kernel,by decide +kernel⟩
theorem rj:au ["self","step"] ["self","step"] (ag iB):=⟨rfl,rfl,rfl,by decide +kernel,rfl,by decide +kernel,by decide +kernel⟩
theorem KU:au ["rows"] ["rows"] (ag rz):=⟨rfl,rfl,rfl,by decide +kernel,rfl,by decide +kernel,by decide +kernel⟩
theorem jj:au ["part","row","many","sums","differences"] ["part","row","many"] (ag kh):=⟨rfl,rfl,rfl,by decide +kernel,rfl,by decide +kernel,by decide +kernel⟩
theorem sZ:au ["part","rows","height","width"] ["part","rows","height","width"] (ag fX):=⟨rfl,rfl,rfl,by decide +kernel,rfl,by decide +kernel,by decide +kernel⟩
noncomputable def lQ:Scope:={ kind:=.function,names:=[(".0",.local),("row",.local),("halve_row",.globalImplicit),("part",.free),("width",.free)],isGenerator:=false,isCoroutine:=false,more:=[] }
theorem ja:Blk ["part","rows","height","width"] (ag fX) lQ ["row","part","width"] [none,some 0,some 3]:=⟨rfl,by decide +kernel,by decide +kernel,by decide +kernel,by decide +kernel,rfl,by decide +kernel⟩
theorem cz:au ["plan","part","rows","step","height","width","letter"] ["plan","part","rows","step"] (ag jm):=⟨rfl,rfl,rfl,by decide +kernel,rfl,by decide +kernel,by decide +kernel⟩
theorem gE:au ["plan","part","rows","step"] ["plan","part","rows"] (ag iu):=⟨rfl,rfl,rfl,by decide +kernel,rfl,by decide +kernel,by decide +kernel⟩
theorem t7:au ["plan","picture","rule"] ["plan","picture"] (ag cP):=⟨rfl,rfl,rfl,by decide +kernel,rfl,by decide +kernel,by decide +kernel⟩
noncomputable abbrev oZ:Ls0:=(["one","other","most","rows","y","x"]:Ls0)++phs 65
theorem AS:wU oZ (ag nz) 6=true:=by decide +kernel
theorem Ay{x0 x1 x2:Option Sl}:cO oZ [x0,x1,x2]=x0::x1::x2::none::none::none::tlG (nn 65++tlE):=mB (N:=["one","other","most","rows","y","x"]) (Γa:=[x0,x1,x2]) (by decide:3<=6)
theorem lh:au oZ ["one","other","most"] (ag nz):=⟨rfl,rfl,rfl,by decide +kernel,rfl,by decide +kernel,by decide +kernel⟩
theorem Cc:au ["one","other"] ["one","other"] (ag vg):=⟨rfl,rfl,rfl,by decide +kernel,rfl,by decide +kernel,by decide +kernel⟩
theorem lL:au ["self","plan","field"] ["self","plan","field"] (ag dD):=⟨rfl,rfl,rfl,by decide +kernel,rfl,by decide +kernel,by decide +kernel⟩
theorem vd:au ["_law_script","_law_k"] ["_law_script","_law_k"] (ag ko):=⟨rfl,rfl,rfl,by decide +kernel,rfl,by decide +kernel,by decide +kernel⟩
theorem wG:au ["_law_cell_here"] ["_law_cell_here"] (ag mH):=⟨rfl,rfl,rfl,by decide +kernel,rfl,by decide +kernel,by decide +kernel⟩
theorem fW:au ["_law_box_here","_law_many","_law_digit","_law_number_here"] ["_law_box_here","_law_many"] (ag km):=⟨rfl,rfl,rfl,by decide +kernel,rfl,by decide +kernel,by decide +kernel⟩
theorem nq:au ["_law_box_here","_law_height"] ["_law_box_here"] (ag kn):=⟨rfl,rfl,rfl,by decide +kernel,rfl,by decide +kernel,by decide +kernel⟩
theorem kd:au ["_law_box_here","_law_way","_law_far"] ["_law_box_here","_law_way"] (ag ix):=⟨rfl,rfl,rfl,by decide +kernel,rfl,by decide +kernel,by decide +kernel⟩
noncomputable abbrev gf:Ls0:=(["_law_box_here","_law_size_here","_law_way","_law_rows_here"]:Ls0)++phs 65
theorem vy:wU gf (ag fi) 4=true:=by decide +kernel
theorem uZ{x0 x1:Option Sl}:cO gf [x0,x1]=x0::x1::none::none::tlG (nn 65++tlE):=mB (N:=["_law_box_here","_law_size_here","_law_way","_law_rows_here"]) (Γa:=[x0,x1]) (by decide:2<=4)
theorem jl:au gf ["_law_box_here","_law_size_here"] (ag fi):=⟨rfl,rfl,rfl,by decide +kernel,rfl,by decide +kernel,by decide +kernel⟩
noncomputable def m5:Scope:={ kind:=.function,names:=[(".0",.local),("_law_y",.local),("range",.globalImplicit),("_law_box_here",.free),("_law_size_here",.free),("_law_way",.free)],isGenerator:=false,isCoroutine:=false,more:=[] }
theorem dv:Blk gf (ag fi) m5 ["_law_y","_law_box_here","_law_size_here","_law_way"] [none,some 0,some 1,some 2]:=⟨rfl,by decide +kernel,by decide +kernel,by decide +kernel,by decide +kernel,rfl,by decide +kernel⟩
noncomputable def m4:Scope:={ kind:=.function,names:=[(".0",.local),("_law_y",.local),("range",.globalImplicit),("_law_box_here",.cell),("_law_size_here",.cell),("_law_way",.cell)],isGenerator:=false,isCoroutine:=false,more:=[] }
noncomputable def mZ:Scope:={ kind:=.function,names:=[(".0",.local),("_law_x",.local),("_law_number",.globalImplicit),("_law_box_here",.free),("_law_way",.free)],isGenerator:=false,isCoroutine:=false,more:=[] }
theorem du:Blk ["_law_y","_law_box_here","_law_size_here","_law_way"] (m4) mZ ["_law_x","_law_box_here","_law_way"] [none,some 1,some 3]:=⟨rfl,by decide +kernel,by decide +kernel,by decide +kernel,by decide +kernel,rfl,by decide +kernel⟩
theorem qi:au ["_law_rows_here"] ["_law_rows_here"] (ag gH):=⟨rfl,rfl,rfl,by decide +kernel,rfl,by decide +kernel,by decide +kernel⟩
theorem fh:au ["_law_rows_here","_law_others","_law_found","_law_y","_law_x","_law_number_here"] ["_law_rows_here","_law_others"] (ag jq):=⟨rfl,rfl,rfl,by decide +kernel,rfl,by decide +kernel,by decide +kernel⟩
noncomputable def oE:Scope:={ kind:=.function,names:=[(".0",.local),("_law_one",.local),("_law_other",.local)],isGenerator:=false,isCoroutine:=false,more:=[] }
theorem gU:Blk ["_law_rows_here","_law_others","_law_found","_law_y","_law_x","_law_number_here"] (ag jq) oE ["_law_one","_law_other"] [none,none]:=⟨rfl,by decide +kernel,by decide +kernel,by decide +kernel,by decide +kernel,rfl,by decide +kernel⟩
theorem jk:au ["_law_one","_law_other","_law_kinds","e"] ["_law_one","_law_other"] (ag kl):=⟨rfl,rfl,rfl,by decide +kernel,rfl,by decide +kernel,by decide +kernel⟩
noncomputable abbrev cA:Ls0:=(["_law_rows_here","_law_others","_law_one","_law_other","_law_due_here","_law_lap","_law_found"]:Ls0)++phs 1
theorem tm:wU cA (ag cY) 7=true:=by decide +kernel
theorem sX{x0 x1:Option Sl}:cO cA [x0,x1]=x0::x1::none::none::none::none::none::tlG (nn 1++tlE):=mB (N:=["_law_rows_here","_law_others","_law_one","_law_other","_law_due_here","_law_lap","_law_found"]) (Γa:=[x0,x1]) (by decide:2<=7)
theorem dg:au cA ["_law_rows_here","_law_others"] (ag cY):=⟨rfl,rfl,rfl,by decide +kernel,rfl,by decide +kernel,by decide +kernel⟩
noncomputable def lS:Scope:={ kind:=.function,names:=[(".0",.local),("_law_row",.local),("list",.globalImplicit)],isGenerator:=false,isCoroutine:=false,more:=[] }
theorem jc:Blk cA (ag cY) lS ["_law_row"] [none]:=⟨rfl,by decide +kernel,by decide +kernel,by decide +kernel,by decide +kernel,rfl,by decide +kernel⟩
noncomputable def lR:Scope:={ kind:=.function,names:=[(".0",.local),("_law_row",.local),("list",.globalImplicit)],isGenerator:=false,isCoroutine:=false,more:=[] }
theorem jb:Blk cA (ag cY) lR ["_law_row"] [none]:=⟨rfl,by decide +kernel,by decide +kernel,by decide +kernel,by decide +kernel,rfl,by decide +kernel⟩
theorem b_:au ["_law_rows_here","_law_others","_law_more","_law_one","_law_other","_law_third","_law_left","_law_right_here"] ["_law_rows_here","_law_others","_law_more"] (ag dC):=⟨rfl,rfl,rfl,by decide +kernel,rfl,by decide +kernel,by decide +kernel⟩
theorem aL:au ["_law_box_here","_law_rows_here","_law_field","_law_some","_law_odd","_law_other","_law_plan","_law_thing","_law_one","_law_more","_law_found","_law_pair","_law_due_here"] ["_law_box_here","_law_rows_here"] (ag eK):=⟨rfl,rfl,rfl,by decide +kernel,rfl,by decide +kernel,by decide +kernel⟩
theorem kb:au ["_law_script","_law_k","_law_box_here","_law_size_here","_law_unlike","_law_rows_here","_law_others"] ["_law_script"] (ag zB):=⟨rfl,rfl,rfl,by decide +kernel,rfl,by decide +kernel,by decide +kernel⟩
noncomputable def wk:Scope:={ kind:=.function,names:=[(".0",.local),("_law_row",.local)],isGenerator:=false,isCoroutine:=false,more:=[] }
theorem uM:Blk ["_law_script","_law_k","_law_box_here","_law_size_here","_law_unlike","_law_rows_here","_law_others"] (ag zB) wk ["_law_row"] [none]:=⟨rfl,by decide +kernel,by decide +kernel,by decide +kernel,by decide +kernel,rfl,by decide +kernel⟩
noncomputable def wj:Scope:={ kind:=.function,names:=[(".0",.local),("_law_row",.local)],isGenerator:=false,isCoroutine:=false,more:=[] }
noncomputable def wg:Scope:={ kind:=.function,names:=[(".0",.local),("_law_number_here",.local)],isGenerator:=false,isCoroutine:=false,more:=[] }
theorem uL:Blk ["_law_row"] (wj) wg ["_law_number_here"] [none]:=⟨rfl,by decide +kernel,by decide +kernel,by decide +kernel,by decide +kernel,rfl,by decide +kernel⟩
set_option genInjectivity false in
set_option genSizeOf false in
structure Ad where
 bp:Addr
 bM:Addr
 aD:Addr
 bc:Addr
 aS:Addr
 aT:Addr
 aH:Addr
 aM:Addr
 bV:Addr
 av:Addr
 bu:Addr
 aZ:Addr
 bH:Addr
 bN:Addr
 dQ:FuncData
 dG:Addr
 fQ:FuncData
 eC:Addr
 gP:FuncData
 c9:Addr
 fv:FuncData
 sD:Addr
 pQ:FuncData
 pW:Addr
 nV:FuncData
 xx:Addr
 uB:FuncData
 uE:Addr
 sy:FuncData
 ik:Addr
 gN:FuncData
 sE:Addr
 pR:FuncData
 eQ:Addr
 ij:FuncData
 gS:Addr
 jR:FuncData
 iO:Addr
 kP:FuncData
 gi:Addr
 iJ:FuncData
 gR:Addr
 jQ:FuncData
 eP:Addr
 h_:FuncData
 mY:Addr
 pV:FuncData
 uC:Addr
 sv:FuncData
 iK:Addr
 gO:FuncData
 jB:Addr
 iI:FuncData
 kQ:Addr
 jN:FuncData
 jS:Addr
 i8:FuncData
 sC:Addr
 pP:FuncData
 uF:Addr
 sA:FuncData
 kS:Addr
 oa:FuncData
 cE:Addr
 kL:FuncData
 eZ:Addr
 kK:FuncData
 ck:Addr
 jP:FuncData
 iN:Addr
 kO:FuncData
 bY:Addr
 eE:FuncData
 bZ:Addr
 eF:FuncData
 pZ:Addr
 nY:FuncData
 uD:Addr
 sx:FuncData
 pY:Addr
 nX:FuncData
 om:Addr
 mj:FuncData
 fJ:Addr
 i9:FuncData
 iL:Addr
 kM:FuncData
 jC:Addr
 mn:FuncData
 kT:Addr
 og:FuncData
 mX:Addr
 pU:FuncData
 jD:Addr
 mq:FuncData
 iM:Addr
 kN:FuncData
 xv:Addr
 uz:FuncData
 pX:Addr
 nW:FuncData
 oi:Addr
 mi:FuncData
 oh:Addr
 mh:FuncData
 mv:Addr
 kI:FuncData
 xy:Addr
 ph:FuncData
 xw:Addr
 uA:FuncData
 Aa:Addr
 xu:FuncData
 dF:Addr
 fP:FuncData
 p9:Addr
 n_:FuncData
 sH:Addr
 pT:FuncData
 p6:Addr
 n0:FuncData
 p7:Addr
 n6:FuncData
 mw:Addr
 kJ:FuncData
 p8:Addr
 n9:FuncData
 kR:Addr
 jO:FuncData
 sG:Addr
 pS:FuncData
 p5:Addr
 nZ:FuncData
 oo:Addr
 mm:FuncData
 gQ:Addr
 fN:FuncData
 i_:Addr
 hZ:FuncData
 DJ:Addr
 yT:FuncData
 ez:Addr
 cy:Addr
structure Txt (K:Fg0) (mg:SV) (a:Ad):Prop where
 aY:Cls K a.aD
 cj:mg "Field"=some (.ref a.aD)
 Kr:Cls K a.bc
 yH:mg "Guessed"=some (.ref a.bc)
 mk_Guessed:Mk0 K a.bc
 gx:Cls K a.aS
 A5:mg "Halves"=some (.ref a.aS)
 mk_Halves:Mk0 K a.aS
 Kq:Cls K a.aT
 yG:mg "Leaning"=some (.ref a.aT)
 mk_Leaning:Mk0 K a.aT
 sP:Cls K a.aH
 yF:mg "Picture"=some (.ref a.aH)
 cc:Cls K a.aM
 FU:mg "Plan"=some (.ref a.aM)
 GB:Cls K a.bV
 FT:mg "Sums"=some (.ref a.bV)
 mk_Sums:Mk0 K a.bV
 ey:mg "HalvedError"=some (.ref a.av)
 r9:mg "NoField"=some (.ref a.bu)
 pK:mg "TooGreat"=some (.ref a.aZ)
 um:mg "Unlike"=some (.ref a.bH)
 cB:bO K a.aD "grid"
 nL:bO K a.aH "halver"
 mT:bO K a.aH "moments"
 kF:bO K a.aM "chosen"
 dq:bO K a.aM "corners"
 fH:bO K a.aM "letters"
 dr:KQ K mg "ALONG_PILLARS" a.bp ["p","b"]
 gk:KQ K mg "ALONG_ROWS" a.bM ["r","b"]
 tys:TyS K
 aU:FY K "__init__" "HalvedError.__init__" cu a.bN a.dQ ["self","words"]
 gC:FY K "__init__" "NoField.__init__" dE a.dG a.fQ ["self","found"]
 g7:FY K "__init__" "Unlike.__init__" dZ a.eC a.gP ["self","one","other"]
 fM:FY K "__init__" "TooGreat.__init__" c8 a.c9 a.fv ["self","place"]
 aI:FX K mg "is_whole" "is_whole" mG a.sD a.pQ ["thing","low","high"]
 gY:FX K mg "is_number" "is_number" kg a.pW a.nV ["thing"]
 gA:FX K mg "is_row" "is_row" nB a.xx a.uB ["thing","least"]
 eI:FX K mg "is_size" "is_size" oR a.uE a.sy ["height","width"]
 cG:FX K mg "is_place_within" "is_place_within" dY a.ik a.gN ["thing","height","width"]
 jg:FX K mg "are_rows" "are_rows" gG a.sE a.pR ["thing"]
 aN:FY K "__init__" "Field.__init__" cZ a.eQ a.ij ["self","rows"]
 dX:FY K "height" "Field.height" gI a.gS a.jR ["self"]
 eW:FY K "width" "Field.width" iD a.iO a.kP ["self"]
 bX:FY K "rows" "Field.rows" fY a.gi a.iJ ["self"]
 gD:FY K "places" "Field.places" ec a.gR a.jQ ["self"]
 iU:FY K "is_place" "Field.is_place" eL a.eP a.h_ ["self","thing"]
 mz:FY K "at" "Field.at" mK a.mY a.pV ["self","place"]
 a8:FX K mg "size_of" "size_of" oP a.uC a.sv ["thing"]
 bg:FX K mg "check_field" "check_field" iw a.iK a.gO ["thing"]
 bW:FX K mg "check_size" "check_size" jo a.jB a.iI ["plan","thing"]
 dW:FX K mg "check_bounds" "check_bounds" gF a.kQ a.jN ["field","low","high"]
 dk:FX K mg "check_picture" "check_picture" fB a.jS a.i8 ["plan","thing"]
 dz:FX K mg "pairs_of" "pairs_of" mF a.sC a.pP ["row"]
 lg:FX K mg "gaps_of" "gaps_of" lq a.uF a.sA ["row"]
 pw:FY K "word" "Sums.word" kq a.kS a.oa ["self"]
 lX:FY K "halves" "Sums.halves" iz a.cE a.kL ["self","row"]
 lW:FY K "parted" "Sums.parted" iy a.eZ a.kK ["self","row"]
 j7:FY K "sums_of" "Sums.sums_of" d_ a.ck a.jP ["self","row"]
 l0:FY K "word" "Halves.word" iC a.iN a.kO ["self"]
 e_:FY K "sum_of_pair" "Halves.sum_of_pair" cQ a.bY a.eE ["self","first","second"]
 j8:FY K "sum_of_lone" "Halves.sum_of_lone" cR a.bZ a.eF ["self","number"]
 g5:FX K mg "all_rules" "all_rules" kj a.pZ a.nY []
 k_:FX K mg "rule_of" "rule_of" oQ a.uD a.sx ["word"]
 g4:FX K mg "can_halve" "can_halve" ki a.pY a.nX ["letter","height","width"]
 fV:FX K mg "corners_of" "corners_of" jn a.om a.mj ["height","width","way"]
 jI:FY K "__init__" "Plan.__init__" fE a.fJ a.i9 ["self","height","width","word","way"]
 lY:FY K "height" "Plan.height" iA a.iL a.kM ["self"]
 m9:FY K "width" "Plan.width" jr a.jC a.mn ["self"]
 pA:FY K "rule" "Plan.rule" kr a.kT a.og ["self"]
 qO:FY K "way" "Plan.way" mJ a.mX a.pU ["self"]
 ji:FY K "steps" "Plan.steps" jt a.jD a.mq ["self"]
 lZ:FY K "corner" "Plan.corner" iB a.iM a.kN ["self","step"]
 iT:FX K mg "turned" "turned" rz a.xv a.uz ["rows"]
 gZ:FX K mg "halve_row" "halve_row" kh a.pX a.nW ["part","row","many"]
 cn:FX K mg "halve_rows" "halve_rows" fX a.oi a.mi ["part","rows","height","width"]
 fU:FX K mg "step_forth" "step_forth" jm a.oh a.mh ["plan","part","rows","step"]
 eV:FX K mg "steps_forth" "steps_forth" iu a.mv a.kI ["plan","part","rows"]
 m8:FX K mg "halved" "halved" cP a.xy a.ph ["plan","picture"]
 Bl:a.ph.code=.ref a.ez
 Bb:PySem.W.codeHdIn K a.ez a.cy=true
 m7:FX K mg "summed" "summed" nz a.xw a.uA ["one","other","most"]
 qz:FX K mg "added" "added" vg a.Aa a.xu ["one","other"]
 gB:FY K "__init__" "Picture.__init__" dD a.dF a.fP ["self","plan","field"]
 g6:FX K mg "_law_cell" "_law_cell" ko a.p9 a.n_ ["_law_script","_law_k"]
 jh:FX K mg "_law_box" "_law_box" mH a.sH a.pT ["_law_cell_here"]
 af:FX K mg "_law_take" "_law_take" km a.p6 a.n0 ["_law_box_here","_law_many"]
 cL:FX K mg "_law_size" "_law_size" kn a.p7 a.n6 ["_law_box_here"]
 bz:FX K mg "_law_number" "_law_number" ix a.mw a.kJ ["_law_box_here","_law_way"]
 bq:FX K mg "_law_rows" "_law_rows" fi a.p8 a.n9 ["_law_box_here","_law_size_here"]
 aR:FX K mg "_law_size_of" "_law_size_of" gH a.kR a.jO ["_law_rows_here"]
 dA:FX K mg "_law_due" "_law_due" jq a.sG a.pS ["_law_rows_here","_law_others"]
 ax:FX K mg "_law_told" "_law_told" kl a.p5 a.nZ ["_law_one","_law_other"]
 cq:FX K mg "_law_right" "_law_right" cY a.oo a.mm ["_law_rows_here","_law_others"]
 cp:FX K mg "_law_three_right" "_law_three_right" dC a.gQ a.fN ["_law_rows_here","_law_others","_law_more"]
 cX:FX K mg "_law_odd_right" "_law_odd_right" eK a.i_ a.hZ ["_law_box_here","_law_rows_here"]
 K3:FX K mg "law" "law" zB a.DJ a.yT ["_law_script"]
 qN:Et K a.av
 BE:Es K a.av a.av a.bN []
 cK:Es K a.av a.bu a.dG ["found"]
 gq:Es K a.av a.bH a.eC ["one","other"]
 cJ:Es K a.av a.aZ a.c9 ["place"]
 xnd:Dd [a.av,a.bu,a.bH,a.aZ]=true
 z_ValueError:mg "ValueError"=none
 JZ:PySem.W.readsIn K a.av (.type "type")=true
 J5:PySem.W.specialIn K (.ref a.av) "__getattribute__"=some (some (.builtin "type.__getattribute__"))
 J6:PySem.W.findCls K (.ref a.av) (.type "type") "__init__"=some (.val (.ref a.bN))
 mk_Field:Mk K a.aD a.eQ
 mk_Picture:Mk K a.aH a.dF
 mk_Plan:Mk K a.aM a.fJ
 fI:Meth K a.aD "height" a.gS
 gL:Meth K a.aD "width" a.iO
 cC:Meth K a.aD "rows" a.gi
 jM:Meth K a.aD "places" a.gR
 nN:Meth K a.aD "is_place" a.eP
 pJ:Meth K a.aD "at" a.mY
 zQ:Meth K a.bc "halves" a.cE
 yB:Meth K a.bc "sums_of" a.ck
 r8:Meth K a.aS "word" a.iN
 jZ:Meth K a.aS "sum_of_pair" a.bY
 j0:Meth K a.aS "sum_of_lone" a.bZ
 o5:Meth K a.aS "halves" a.cE
 o4:Meth K a.aS "parted" a.eZ
 nM:Meth K a.aS "sums_of" a.ck
 vP:Meth K a.aT "sum_of_pair" a.bY
 vQ:Meth K a.aT "sum_of_lone" a.bZ
 zO:Meth K a.aT "halves" a.cE
 yA:Meth K a.aT "sums_of" a.ck
 rY:Meth K a.aM "height" a.iL
 tG:Meth K a.aM "width" a.jC
 vO:Meth K a.aM "rule" a.kT
 xb:Meth K a.aM "way" a.mX
 md:Meth K a.aM "steps" a.jD
 rZ:Meth K a.aM "corner" a.iM
 vN:Meth K a.bV "word" a.kS
 Dh:Meth K a.bV "halves" a.cE
 Dg:Meth K a.bV "parted" a.eZ
 Bx:Meth K a.bV "sums_of" a.ck
 iP:∃ t,mg "MOST_NUMBER"=some (.int 999999999999999 t)
 tJ:∃ t,mg "MOST_PLACES"=some (.int 512 t)
 kX:∃ t,mg "MOST_SIDE"=some (.int 64 t)
 oz:∃ t,mg "MOST_VALUE"=some (.int 100000 t)
 xj:Ex K a.aD
 se:KR K a.aD a.aH
 yy:NeO K a.aH
 zW:KR K a.aD a.aM
 FL:NeO K a.aM
 z_all:mg "all"=none
 z_bool:mg "bool"=none
 z_enumerate:mg "enumerate"=none
 z_int:mg "int"=none
 z_isinstance:mg "isinstance"=none
 z_len:mg "len"=none
 z_list:mg "list"=none
 z_max:mg "max"=none
 z_min:mg "min"=none
 z_range:mg "range"=none
 z_repr:mg "repr"=none
 z_str:mg "str"=none
 z_tuple:mg "tuple"=none
 z_zip:mg "zip"=none
 ty:gp K
noncomputable abbrev il (ns:Li0):D:=.lst (ns.map .int)
def Fig (ns:Li0):Prop:=∀ n∈ns,-1000000000000000 < n/\n < 1000000000000000
theorem snoc{f:Nat->D}{d:D}(h:d=f k):(List.range k).map f++[d]=(List.range (k + 1)).map f:=by
 rw[List.range_succ,List.map_append,h];rfl
theorem ints_get{ns:Li0}{d:D}(h:(ns.map D.int)[k]?=some d):k < ns.length/\d=.int (ns.getD k 0):=by
 have lt:k < ns.length:=by have:=(gS0 h).1;simpa using this
 rw[List.getElem?_map,gE0 lt] at h;cases h;exact⟨lt,by simp [List.getD,lt]⟩
theorem FO{f:Nat->D}{d:D}(h:((List.range n).map f)[k]?=some d):k < n/\d=f k:=by
 have lt:k < n:=by have:=(gS0 h).1;simpa using this
 rw[List.getElem?_map,List.getElem?_range lt] at h;cases h;exact⟨lt,rfl⟩
theorem Gs{ns:Li0}(f:Fig ns)(h:k < ns.length):-1000000000000000 < ns.getD k 0/\ns.getD k 0 < 1000000000000000:=by
 have:ns.getD k 0=ns[k]:=by simp [List.getD,h]
 rw[this];exact f _ (List.getElem_mem h)
theorem small(h:n<=1000):n < sizeLine:=by rw[sizeLine_eq];lia
theorem vj(i:Int)(n:Nat):(rng i n).length=n:=by unfold rng;simp
theorem sd{α:Type}{l:List α}{a:α}(h:l[k]?=some a):k < l.length:=(gS0 h).1
theorem vE{x d:D}(h:[x][k]?=some d):k=0/\d=x:=by
 have l:=sd h;simp only[List.length_cons,List.length_nil] at l;obtain rfl:k=0:=by lia
 cases h;exact⟨rfl,rfl⟩
theorem zj(xs ys:Li0):(my (xs.map D.int) (ys.map D.int)).length=min xs.length ys.length:=by unfold my;simp
theorem zip_get{xs ys:Li0}{d:D}(h:(my (xs.map D.int) (ys.map D.int))[k]?=some d):k < xs.length/\k < ys.length/\d=.tup [.int (xs.getD k 0),.int (ys.getD k 0)]:=by
 have lt:=(gS0 h).1;rw[zj] at lt;have l1:k < xs.length:=by lia
 have l2:k < ys.length:=by lia
 unfold my at h;have:((xs.map D.int).zip (ys.map D.int))[k]?=some (D.int (xs.getD k 0),D.int (ys.getD k 0)):=by
  rw[List.getElem?_zip_eq_some];exact⟨by rw[List.getElem?_map,gE0 l1];simp [List.getD,l1],by rw[List.getElem?_map,gE0 l2];simp [List.getD,l2]⟩
 rw[List.getElem?_map,this] at h;cases h;exact⟨l1,l2,rfl⟩
section
variable {a:Ad}
def at1 (Γ0:G) (r:RV):S3:=fun Γ Q=>Γ=Γ0/\Q r Γ
theorem never:aG P w K mg base CX0 k f fd ps (sp3 K n fun _ _=>False):=⟨fun vs H Q E h=>by
 obtain⟨_,_,_,_,_,_,_,h,_⟩:=h;exact h.elim,fun A outer s H args us vs Q E _ _ _ _ h=>by
 obtain⟨_,_,_,_,_,_,_,h,_⟩:=h;exact h.elim⟩
noncomputable def whD (d:D) (lo hi:Int):Bool:=match d with
 | .int i=>decide (lo<=i) && decide (i<=hi)
 | _=>false
def EE:S3:=fun Γ Q=>∃ (d:D) (lo hi:Int),Γ=[some (.fz d),some (.fz (.int lo)),some (.fz (.int hi))]/\knD d=true/\Q (.fz (.bl (whD d lo hi))) Γ
theorem cm(T:Txt K mg a):aG P w K mg base CX0 1 a.sD a.pQ ["thing","low","high"] (sp3 K 3 EE):=by
 refine ok3 T.aI.F wF (hbody:=fun cdv A outer s H E hr=>⟨_,_,(aq (aX (P3W.pt (kD (a9 (aB (MO T.ty) (by rfl) T.z_isinstance (by decide +kernel) (aa (bv 0) (aa (P3.opd (ud (n:="bool") (by rfl) T.z_bool (by decide +kernel))) ae)))) (g_ (bw (a9 (aB (MN T.ty) (by rfl) T.z_isinstance (by decide +kernel) (aa (bv 0) (aa (P3.opd (ud (n:="int") (by rfl) T.z_int (by decide +kernel))) ae)))))))) (aj (aw dO)) aK)
   (aj (aw (CV xH xH (bv 1) (bv 0) (bv 2))))),fun Γa Q h hl=>?_⟩)
 obtain⟨d,lo,hi,rfl,hk,q⟩:=h;cases d <;> (try cases hk) <;> walk_at "q1" <;> (try exact q)
 rename_i i;by_cases h:lo<=i
 ·simp only[vW,h,decide_true];simpa only[whD,h,decide_true,Bool.true_and] using q
 ·simp only[vW,h,decide_false];simpa only[whD,h,decide_false,Bool.false_and] using q
def C9:S3:=fun Γ Q=>∃ (d:D),Γ=[some (.fz d)]/\knD d=true/\Q (.fz (.bl (whD d (-999999999999999) 999999999999999))) Γ
theorem vF(T:Txt K mg a):aG P w K mg base CX0 2 a.pW a.nV ["thing"] (sp3 K 1 C9):=by
 refine ok3 T.gY.F va (hbody:=fun cdv A outer s H E hr=>⟨_,_,(aj (aw (ak (by rfl) (cm T) hr.dn (by rfl) T.aI.m T.aI.F.kp T.aI.b (aa (P3.opd (p3v 0)) (aa (P3.opd (rK (P3.opd (f_ (i:=999999999999999) (by rfl) T.iP)))) (aa (P3.opd (f_ (i:=999999999999999) (by rfl) T.iP)) ae)))))),fun Γa Q h hl=>?_⟩);obtain⟨d,rfl,hk,q⟩:=h;walk_at "q1";exact⟨d,_,_,rfl,hk,q⟩
theorem EF{n:Int}(h:-1000000000000000 < n/\n < 1000000000000000):whD (.int n) (-999999999999999) 999999999999999=true:=by
 simp only[whD,Bool.and_eq_true,decide_eq_true_eq];lia
def Li:S3:=fun Γ Q=>∃ (ns:Li0) (least:Int),Γ=[some (.fz (il ns)),some (.fz (.int least))]/\Fig ns/\ns.length<=64/\least<=(ns.length:Int)/\Q (.fz (.bl true)) Γ
theorem uh(T:Txt K mg a):aG P w K mg base CX0 3 a.xx a.uB ["thing","least"] (sp3 K 2 Li):=by
 refine ok3 T.gA.F AB (hbody:=fun cdv A outer s H E hr=>⟨_,_,(aq (aX (P3W.pt (kD (bw (a9 (aB (HV T.ty) (by rfl) T.z_isinstance (by decide +kernel) (aa (bv 0) (aa (P3.opd (ud (n:="list") (by rfl) T.z_list (by decide +kernel))) ae))))) (g_ (bw (uc xH xH (bv 1) (P3.opd (aB (fR (by rfl)) (by rfl) T.z_len (by decide +kernel) (aa (bv 0) ae))) (P3.opd (f_ (i:=64) (by rfl) T.kX))))))) (aj (aw dO)) aK)
   (aj (aw (aB (Ed (by rfl) rfl) (by rfl) T.z_all (by decide +kernel) (aa (P3.opd (cH rfl (cb (by rfl) (p3v 0)) oA (fun _ _ _ _ _=>(bx (i:=0) oA.nd rfl (Or.inl rfl))) (fun _ _ _ _ _=>(ak (by rfl) (vF T) hr.dn (by rfl) T.gY.m T.gY.F.kp T.gY.b (aa (P3.opd (p3v 0)) ae))))) ae))))),fun Γa Q h hl=>?_⟩)
 obtain⟨ns,least,rfl,hf,h1,h2,q⟩:=h;walk_at "q1";rw[lM0,show vW least (ns.length:Int)=true by simp only[vW,h2,decide_true],show vW (ns.length:Int) 64=true by simp only[vW,decide_eq_true_eq];lia];walk_at "q1";refine⟨small (by rw[lM0];lia),b8 (fun k ys Γc=>ys=(List.range k).map (fun _=>D.bl true)/\∃ s,Γc=[fo s]) ⟨rfl,none,rfl⟩ ?_ ?_⟩
 ·rintro k d ys Γc hd hk ⟨rfl,s,rfl⟩;obtain⟨lt,rfl⟩:=ints_get hd;walk_at "q1";refine⟨_,rfl,rfl,?_⟩;rw[EF (Gs hf lt)];walk_at "q1";exact⟨snoc rfl,some _,rfl⟩
 ·rintro ys Γc hk ⟨rfl,s,rfl⟩;walk_at "q1";refine⟨(List.range ns.length).map fun _=>true,by rw[lM0,List.map_map];rfl,?_⟩;have:((List.range ns.length).map fun _=>true).all id=true:=by simp
  rw[this];exact q
structure pv (h w:Int):Prop where
 h1:1<=h
 w1:1<=w
 h2:h<=64
 w2:w<=64
 m:h * w<=512
def IA:S3:=fun Γ Q=>∃ h w:Int,Γ=[some (.fz (.int h)),some (.fz (.int w))]/\pv h w/\Q (.fz (.bl true)) Γ
theorem rN(T:Txt K mg a):aG P w K mg base CX0 2 a.uE a.sy ["height","width"] (sp3 K 2 IA):=by
 refine ok3 T.eI.F x_ (hbody:=fun cdv A outer s H E hr=>⟨_,_,(aq (aX (P3W.pt (kD (bw (a9 (ak (by rfl) (cm T) hr.dn (by rfl) T.aI.m T.aI.F.kp T.aI.b (aa (P3.opd (p3v 0)) (aa (P3.opd ai) (aa (P3.opd (f_ (i:=64) (by rfl) T.kX)) ae)))))) (g_ (bw (a9 (ak (by rfl) (cm T) hr.dn (by rfl) T.aI.m T.aI.F.kp T.aI.b (aa (P3.opd (p3v 1)) (aa (P3.opd ai) (aa (P3.opd (f_ (i:=64) (by rfl) T.kX)) ae))))))))) (aj (aw dO)) aK)
   (aj (aw (iG xH (P3.opd (mQ (bv 0) (bv 1))) (P3.opd (f_ (i:=512) (by rfl) T.tJ)) (ba _))))),fun Γa Q h hl=>?_⟩)
 obtain⟨h,w,rfl,⟨a1,a2,a3,a4,a5⟩,q⟩:=h;walk_at "q1";refine⟨_,_,_,rfl,rfl,?_⟩;rw[show whD (.int h) 1 64=true by simp only[whD,Bool.and_eq_true,decide_eq_true_eq];lia];walk_at "q1";refine⟨_,_,_,rfl,rfl,?_⟩;rw[show whD (.int w) 1 64=true by simp only[whD,Bool.and_eq_true,decide_eq_true_eq];lia];walk_at "q1";refine⟨.inl ⟨by lia,by lia⟩,?_⟩;rw[show vW (h * w) 512=true by simp only[vW,decide_eq_true_eq];exact a5];exact q
noncomputable abbrev hO (a:Ad):D:=.ins a.aS [] []
theorem HI:Fig [1,2]:=fun n hn=>by
 simp only[List.mem_cons,List.not_mem_nil,or_false] at hn;rcases hn with rfl | rfl <;> decide
noncomputable abbrev r12:D:=.lst [.int 1,.int 2]
theorem jX(T:Txt K mg a):aG P w K mg base CX0 1 a.bY a.eE ["self","first","second"] (sp3 K 3 (at1 [some (.fz (hO a)),some (.fz (.int 1)),some (.fz (.int 2))] (.fz (.int 1)))):=by
 refine ok3 T.e_.F jW (hbody:=fun cdv A outer s H E hr=>⟨_,_,(aj (aw (jy (P3.opd (cF (bv 1) (bv 2))) (P3.opd ai)))),fun Γa Q h hl=>?_⟩);obtain⟨rfl,q⟩:=h;walk_at "q1";exact⟨⟨by decide,by decide⟩,q⟩
theorem jY(_:Txt K mg a):aG P w K mg base CX0 1 a.bZ a.eF ["self","number"] (sp3 K 2 fun _ _=>False):=never
theorem ug(_:Txt K mg a):aG P w K mg base CX0 1 a.xv a.uz ["rows"] (sp3 K 1 fun _ _=>False):=never
theorem pE(T:Txt K mg a):aG P w K mg base CX0 1 a.sC a.pP ["row"] (sp3 K 1 (at1 [some (.fz r12)] (.fr (.lst [.tup [.int 1,.int 2]])))):=by
 refine ok3 T.dz.F wD (hbody:=fun cdv A outer s H E hr=>⟨_,_,(aj (aw (yl rfl (by rfl) T.z_list (by rfl) T.z_zip (aa (P3.opd (ue (by rfl) (bv 0) (fj (P3.opd ai)) iZ (fj (P3.opd ai)))) (aa (P3.opd (ue (by rfl) (bv 0) (fj (P3.opd ai)) iZ (fj (P3.opd ai)))) ae))))),fun Γa Q h hl=>?_⟩);obtain⟨rfl,q⟩:=h;walk_at "q1";exact⟨by decide,by decide,small (by decide +kernel),q⟩
theorem yq(T:Txt K mg a):aG P w K mg base CX0 2 a.uF a.sA ["row"] (sp3 K 1 (at1 [some (.fz r12)] (.fr (.lst [.int (-1)])))):=by
 refine ok3 T.lg.F ya (hbody:=fun cdv A outer s H E hr=>⟨_,_,(aj (aw (cH rfl (cb (by rfl) (ak (by rfl) (pE T) hr.dn (by rfl) T.dz.m T.dz.F.kp T.dz.b (aa (P3.opd (p3v 0)) ae))) iQ (fun _ _ _ _ _=>(mW (is:=[0,1]) (by rfl) (br (bI (i:=0) iQ.nd rfl (Or.inl rfl)) (br (bI (i:=1) iQ.nd rfl (Or.inl rfl)) eX)) rfl)) (fun _ _ _ _ _=>(iF (bv 0) (bv 1)))))),fun Γa Q h hl=>?_⟩);obtain⟨rfl,q⟩:=h;walk_at "q1";refine⟨rfl,?_⟩;walk_at "q1";refine⟨small (by decide),b8 (fun k ys Γc=>ys=List.replicate k (D.int (-1))/\∃ s s',Γc=[fo s,fo s']) ⟨rfl,none,none,rfl⟩ ?_ ?_⟩
 ·rintro k d ys Γc hd hk ⟨rfl,s,s',rfl⟩;obtain⟨rfl,rfl⟩:=vE hd;walk_at "q1";exact⟨rfl,some _,some _,rfl⟩
 ·rintro ys Γc hk ⟨rfl,s,s',rfl⟩;walk_at "q1";exact q
theorem qo(T:Txt K mg a):aG P w K mg base CX0 2 a.ck a.jP ["self","row"] (sp3 K 2 (at1 [some (.fz (hO a)),some (.fz r12)] (.fr (.lst [.int 1])))):=by
 refine ok3 T.j7.F jK (hbody:=fun cdv A outer s H E hr=>⟨_,_,(aq (rA (i:=2) jK.nd rfl rfl rfl (cb (by rfl) (ak (by rfl) (pE T) hr.dn (by rfl) T.dz.m T.dz.F.kp T.dz.b (aa (P3.opd (p3v 1)) ae))) dH (fun _ _ _ _ _=>(mW (is:=[0,1]) (by rfl) (br (bI (i:=0) dH.nd rfl (Or.inl rfl)) (br (bI (i:=1) dH.nd rfl (Or.inl rfl)) eX)) rfl)) (fun _ _ _ _ _=>(fZ (by rfl) (bv 2) T.gx T.jZ (jX T) hr.dn T.e_.b (aa (P3.opd (p3v 0)) (aa (P3.opd (p3v 1)) ae)))))
   (aq (aX (aV HW (P3.opd (aB (fR (by rfl)) (by rfl) T.z_len (by decide +kernel) (aa (bv 1) ae))) (P3.opd (mQ (P3.opd ai) (P3.opd (aB (fR (by rfl)) (by rfl) T.z_len (by decide +kernel) (aa (bv 2) ae))))) (ba _)) (aj (eg (gv 2 (by rfl) (bv 2) (fZ (by rfl) (bv 0) T.gx T.j0 (jY T) hr.dn T.j8.b (aa (P3.opd (aO (by rfl) (bv 1) (P3.opd (rK (P3.opd ai))) (fun _ _=>rfl))) ae))))) aK)
   (aj (aw (AX 2))))),fun Γa Q h hl=>?_⟩)
 obtain⟨rfl,q⟩:=h;walk_at "q1";refine⟨rfl,?_⟩;walk_at "q1";refine⟨small (by decide),b8 (fun k ys Γc=>ys=List.replicate k (D.int 1)/\∃ s s',Γc=[fo s,fo s',some (.fz (hO a))]) ⟨rfl,none,none,rfl⟩ ?_ ?_⟩
 ·rintro k d ys Γc hd hk ⟨rfl,s,s',rfl⟩;obtain⟨rfl,rfl⟩:=vE hd;walk_at "q1";refine⟨rfl,?_⟩;walk_at "q1";exact⟨rfl,some _,some _,rfl⟩
 ·rintro ys Γc hk ⟨rfl,s,s',rfl⟩;walk_at "q1";refine⟨.inl ⟨by decide,by decide⟩,?_⟩;rw[show My ((2:Nat):Int) (2 * ((1:Nat):Int))=false from rfl];walk_at "q1";exact q
theorem rP(T:Txt K mg a):aG P w K mg base CX0 3 a.eZ a.kK ["self","row"] (sp3 K 2 (at1 [some (.fz (hO a)),some (.fz r12)] (.two [.int 1] [.int (-1)]))):=by
 refine ok3 T.lW.F q9 (hbody:=fun cdv A outer s H E hr=>⟨_,_,(aj (aw (Jb (fZ (by rfl) (bv 0) T.gx T.nM (qo T) hr.dn T.j7.b (aa (P3.opd (p3v 1)) ae)) (ak (by rfl) (yq T) hr.dn (by rfl) T.lg.m T.lg.F.kp T.lg.b (aa (P3.opd (p3v 1)) ae))))),fun Γa Q h hl=>?_⟩);obtain⟨rfl,q⟩:=h;walk_at "q1";refine⟨rfl,?_⟩;walk_at "q1";refine⟨rfl,?_⟩;walk_at "q1";exact q
theorem rQ(T:Txt K mg a):aG P w K mg base CX0 4 a.cE a.kL ["self","row"] (sp3 K 2 (at1 [some (.fz (hO a)),some (.fz r12)] (.two [.int 1] [.int (-1)]))):=by
 refine ok3 T.lX.F q_ (hbody:=fun cdv A outer s H E hr=>⟨_,_,(aq (aX (bw (a9 (ak (by rfl) (uh T) hr.dn (by rfl) T.gA.m T.gA.F.kp T.gA.b (aa (P3.opd (p3v 1)) (aa (P3.opd ai) ae))))) (aj cS) aK)
   (aj (aw (fZ (by rfl) (bv 0) T.gx T.o4 (rP T) hr.dn T.lW.b (aa (P3.opd (p3v 1)) ae))))),fun Γa Q h hl=>?_⟩)
 obtain⟨rfl,q⟩:=h;walk_at "q1";refine⟨[1,2],2,rfl,HI,by decide,by decide,?_⟩;walk_at "q1";exact⟨rfl,q⟩
def BL (x:Str):S3:=fun Γ Q=>∃ d,Γ=[some (.fz d)]/\Q (.fz (.str x)) Γ
theorem vK(T:Txt K mg a):aG P w K mg base CX0 1 a.kS a.oa ["self"] (sp3 K 1 (BL "sum")):=by
 refine ok3 T.pw.F ve (hbody:=fun cdv A outer s H E hr=>⟨_,_,(aj (aw cx)),fun Γa Q h hl=>?_⟩);obtain⟨d,rfl,q⟩:=h;walk_at "q1";exact q
theorem rT(T:Txt K mg a):aG P w K mg base CX0 1 a.iN a.kO ["self"] (sp3 K 1 (BL "half")):=by
 refine ok3 T.l0.F rm (hbody:=fun cdv A outer s H E hr=>⟨_,_,(aj (aw cx)),fun Γa Q h hl=>?_⟩);obtain⟨d,rfl,q⟩:=h;walk_at "q1";exact q
theorem vI(T:Txt K mg a):aG P w K mg base CX0 1 a.pZ a.nY [] (sp3 K 0 (at1 [] (.fr (.lst [.ins a.bV [] [],hO a,.ins a.bc [] [],.ins a.aT [] []])))):=by
 refine ok3 T.g5.F vc (hbody:=fun cdv A outer s H E hr=>⟨_,_,(aj (aw (bE (ab (lC T.mk_Sums (by rfl) T.FT) (ab (lC T.mk_Halves (by rfl) T.A5) (ab (lC T.mk_Guessed (by rfl) T.yH) (ab (lC T.mk_Leaning (by rfl) T.yG) ao))))))),fun Γa Q h hl=>?_⟩);obtain⟨rfl,q⟩:=h;walk_at "q1";exact⟨by rw[sizeLine_eq];lia,q⟩
theorem yp(T:Txt K mg a):aG P w K mg base CX0 2 a.uD a.sx ["word"] (sp3 K 1 (at1 [some (.fz (.str (Str.ofString "half")))] (.fz (hO a)))):=by
 refine ok3 T.k_.F q8 (hbody:=fun cdv A outer s H E hr=>⟨_,_,(aq (iE PassesOwn.never rfl (cb (by rfl) (CZ (by rfl) (vI T) hr.dn (by rfl) T.g5.m T.g5.F.kp T.g5.b)) (bx (i:=1) q8.nd rfl (Or.inl rfl))
   (aj (aX (aV (eS (by rfl) hr) (P3.opd (P3.or (bh (by rfl) (bv 1) T.GB T.vN (vK T) hr.dn T.pw.b) (bh (by rfl) (bv 1) T.gx T.r8 (rT T) hr.dn T.l0.b))) (bv 0) (ba _)) (aj (aw (AX 1))) aK)))
   (aj cS)),fun Γa Q h hl=>?_⟩)
 obtain⟨rfl,q⟩:=h;walk_at "q1";refine⟨rfl,?_⟩;walk_at "q1";refine cU (fun k Γ=>k < 2/\∃ s,Γ=[some (.fz (.str (Str.ofString "half"))),fo s]) ⟨by decide,none,rfl⟩ ?_ ?_
 ·rintro k d Γ hd ⟨hk,s,rfl⟩
  match k,hd with
  | 0,hd=>
   cases hd;walk_at "q1";refine .inl ⟨_,rfl,?_⟩;walk_at "q1";rw[show (Str.ofString "sum" == Str.ofString "half")=false from by decide +kernel];walk_at "q1";exact⟨by decide,some _,rfl⟩
  | 1,hd=>
   cases hd;walk_at "q1";refine .inr ⟨_,rfl,?_⟩;walk_at "q1";exact q
 ·rintro Γ ⟨hk,_⟩;exact absurd (show 4 < 2 from hk) (by decide)
theorem vH(T:Txt K mg a):aG P w K mg base CX0 1 a.pY a.nX ["letter","height","width"] (sp3 K 3 (at1 [some (.fz (.str (Str.ofString "r"))),some (.fz (.int 1)),some (.fz (.int 2))] (.fz (.bl true)))):=by
 refine ok3 T.g4.F vb (hbody:=fun cdv A outer s H E hr=>⟨_,_,(aq (aX (P3W.pt (zK (aV (p_ (by rfl)) (bv 0) (P3.opd (hU (p:=a.bM) (zs:=["r","b"]) (by rfl) T.gk)) (by with_unfolding_all rfl)) (wW (aV xG (bv 2) (P3.opd ai) (ba _))))) (aj (aw dO)) aK)
   (aq (aX (P3W.pt (zK (aV (p_ (by rfl)) (bv 0) (P3.opd (hU (p:=a.bp) (zs:=["p","b"]) (by rfl) T.dr)) (by with_unfolding_all rfl)) (wW (aV xG (bv 1) (P3.opd ai) (ba _))))) (aj (aw dO)) aK)
   (aj (aw (CT (iG (p_ (by rfl)) (bv 0) (P3.opd (hU (p:=a.bM) (zs:=["r","b"]) (by rfl) T.gk)) (by with_unfolding_all rfl)) (rJ (iG (p_ (by rfl)) (bv 0) (P3.opd (hU (p:=a.bp) (zs:=["p","b"]) (by rfl) T.dr)) (by with_unfolding_all rfl)))))))),fun Γa Q h hl=>?_⟩)
 obtain⟨rfl,q⟩:=h;walk_at "q1";rw[show Bh 2 2=false from rfl];walk_at "q1";exact q
noncomputable abbrev c12:D:=.tup [.tup [.int 1,.int 2],.tup [.int 1,.int 1]]
noncomputable abbrev pO (a:Ad):D:=.ins a.aM ["chosen","corners","letters"] [hO a,c12,.str (Str.ofString "r")]
theorem Lg:signs (Str.ofString "r")=[.str (Str.ofString "r")]:=rfl
theorem tw(T:Txt K mg a):aG P w K mg base CX0 2 a.om a.mj ["height","width","way"] (sp3 K 3 fun Γ Q=>Γ=[some (.fz (.int 1)),some (.fz (.int 2)),some (.fz (.str (Str.ofString "r")))]/\Q (.fz c12) Γ):=by
 refine ok3 T.fV.F df (hbody:=fun cdv A outer s H E hr=>⟨_,_,(aq (aX (bw (a9 (aB (MM T.tys) (by rfl) T.z_isinstance (by decide +kernel) (aa (bv 2) (aa (P3.opd (ud (n:="str") (by rfl) T.z_str (by decide +kernel))) ae))))) (aj cS) aK)
   (aq (a_ (i:=3) df.nd rfl (Or.inl rfl) (bE (ab (bB (ab (p3v 0) (ab (p3v 1) ao))) ao)))
   (aq (iE PassesOwn.never rfl (JT (p3v 2)) (bx (i:=4) df.nd rfl (Or.inl rfl))
   (aq (aX (bw (a9 (ak (by rfl) (vH T) hr.dn (by rfl) T.g4.m T.g4.F.kp T.g4.b (aa (P3.opd (p3v 4)) (aa (P3.opd (p3v 0)) (aa (P3.opd (p3v 1)) ae)))))) (aj cS) aK)
   (aq (aX (aV (p_ (by rfl)) (bv 4) (P3.opd (hU (p:=a.bM) (zs:=["r","b"]) (by rfl) T.gk)) (by with_unfolding_all rfl)) (aj (a_ (i:=1) df.nd rfl (Or.inl rfl) (jy (P3.opd (cF (bv 1) (P3.opd ai))) (P3.opd ai)))) aK)
   (aq (aX (aV (p_ (by rfl)) (bv 4) (P3.opd (hU (p:=a.bp) (zs:=["p","b"]) (by rfl) T.dr)) (by with_unfolding_all rfl)) (aj (a_ (i:=0) df.nd rfl (Or.inl rfl) (jy (P3.opd (cF (bv 0) (P3.opd ai))) (P3.opd ai)))) aK)
   (aj (eg (gv 3 (by rfl) (bv 3) (bB (ab (p3v 0) (ab (p3v 1) ao))))))))))
   (aj (aw (dN (qI (by rfl)) (by rfl) T.z_tuple (by decide +kernel) (aa (bv 3) ae))))))),fun Γa Q h hl=>?_⟩)
 obtain⟨rfl,q⟩:=h;walk_at "q1";refine⟨by rw[sizeLine_eq];lia,by rw[sizeLine_eq];lia,by decide +kernel,cU (fun k Γ=>(k=0/\Γ=[some (.fz (.int 1)),some (.fz (.int 2)),some (.fz (.str (Str.ofString "r"))),some (.ow (.lst [.tup [.int 1,.int 2]])),none])\/k=1/\∃ s,Γ=[some (.fz (.int 1)),some (.fz (.int 1)),some (.fz (.str (Str.ofString "r"))),some (.ow (.lst [.tup [.int 1,.int 2],.tup [.int 1,.int 1]])),fo s]) (.inl ⟨rfl,rfl⟩) ?_ ?_⟩
 ·rw[Lg];rintro k d Γ hd (⟨rfl,rfl⟩ | ⟨rfl,_⟩)
  ·cases hd;walk_at "q1";refine⟨rfl,?_⟩;walk_at "q1";exact⟨⟨by decide,by decide⟩,by rw[sizeLine_eq];lia,small (by decide),.inr ⟨rfl,some _,rfl⟩⟩
  ·cases hd
 ·rw[Lg];rintro Γ (⟨h,_⟩ | ⟨_,s,rfl⟩)
  ·cases h
  ·walk_at "q1";exact q
theorem oX(T:Txt K mg a):aG P w K mg base CX0 3 a.fJ a.i9 ["self","height","width","word","way"] (sp3 K 5 fun Γ Q=>Γ=[some (.ln (.ins a.aM [] [])),some (.fz (.int 1)),some (.fz (.int 2)),some (.fz (.str (Str.ofString "half"))),some (.fz (.str (Str.ofString "r")))]/\
  Q (.fz .non) [some (.ln (pO a)),some (.fz (.int 1)),some (.fz (.int 2)),some (.fz (.str (Str.ofString "half"))),some (.fz (.str (Str.ofString "r")))]):=by
 refine ok3 T.jI.F oO (hbody:=fun cdv A outer s H E hr=>⟨_,_,(aq (aX (bw (a9 (ak (by rfl) (rN T) hr.dn (by rfl) T.eI.m T.eI.F.kp T.eI.b (aa (P3.opd (p3v 1)) (aa (P3.opd (p3v 2)) ae))))) (aj cS) aK)
   (aq (lz (C0:=a.aM) 0 (by rfl) T.cc T.kF (bv 0) (ak (by rfl) (yp T) hr.dn (by rfl) T.k_.m T.k_.F.kp T.k_.b (aa (P3.opd (p3v 3)) ae)))
   (aq (lz (C0:=a.aM) 0 (by rfl) T.cc T.dq (bv 0) (ak (by rfl) (tw T) hr.dn (by rfl) T.fV.m T.fV.F.kp T.fV.b (aa (P3.opd (p3v 1)) (aa (P3.opd (p3v 2)) (aa (P3.opd (p3v 4)) ae)))))
   (aj (lz (C0:=a.aM) 0 (by rfl) T.cc T.fH (bv 0) (p3v 4)))))),fun Γa Q h hl=>?_⟩)
 obtain⟨rfl,q⟩:=h;walk_at "q1";refine⟨1,2,rfl,⟨by decide,by decide,by decide,by decide,by decide⟩,?_⟩;walk_at "q1";refine⟨rfl,?_⟩;walk_at "q1";refine⟨rfl,?_⟩;walk_at "q1";exact⟨by decide +kernel,by decide +kernel,q⟩
abbrev qZ (a:Ad) (d:D):S3:=at1 [some (.fz (pO a))] (.fz d)
theorem vL(T:Txt K mg a):aG P w K mg base CX0 1 a.kT a.og ["self"] (sp3 K 1 (qZ a (hO a))):=by
 refine ok3 T.pA.F vf (hbody:=fun cdv A outer s H E hr=>⟨_,_,(aj (aw (ej (f:="chosen") (by rfl) (bv 0) T.cc T.kF))),fun Γa Q h hl=>?_⟩);obtain⟨rfl,q⟩:=h;walk_at "q1";exact q
theorem w9(T:Txt K mg a):aG P w K mg base CX0 1 a.mX a.pU ["self"] (sp3 K 1 (qZ a (.str (Str.ofString "r")))):=by
 refine ok3 T.qO.F wH (hbody:=fun cdv A outer s H E hr=>⟨_,_,(aj (aw (ej (f:="letters") (by rfl) (bv 0) T.cc T.fH))),fun Γa Q h hl=>?_⟩);obtain⟨rfl,q⟩:=h;walk_at "q1";exact q
theorem rR(T:Txt K mg a):aG P w K mg base CX0 1 a.iL a.kM ["self"] (sp3 K 1 (qZ a (.int 1))):=by
 refine ok3 T.lY.F rg (hbody:=fun cdv A outer s H E hr=>⟨_,_,(aj (aw (aO (by rfl) (P3.opd (aO (by rfl) (P3.opd (ej (f:="corners") (by rfl) (bv 0) T.cc T.dq)) (P3.opd ai) (fun _ _=>rfl))) (P3.opd ai) (fun _ _=>rfl)))),fun Γa Q h hl=>?_⟩);obtain⟨rfl,q⟩:=h;walk_at "q1";exact q
theorem tF(T:Txt K mg a):aG P w K mg base CX0 1 a.jC a.mn ["self"] (sp3 K 1 (qZ a (.int 2))):=by
 refine ok3 T.m9.F s_ (hbody:=fun cdv A outer s H E hr=>⟨_,_,(aj (aw (aO (by rfl) (P3.opd (aO (by rfl) (P3.opd (ej (f:="corners") (by rfl) (bv 0) T.cc T.dq)) (P3.opd ai) (fun _ _=>rfl))) (P3.opd ai) (fun _ _=>rfl)))),fun Γa Q h hl=>?_⟩);obtain⟨rfl,q⟩:=h;walk_at "q1";exact q
theorem ma(T:Txt K mg a):aG P w K mg base CX0 1 a.jD a.mq ["self"] (sp3 K 1 (qZ a (.int 1))):=by
 refine ok3 T.ji.F tj (hbody:=fun cdv A outer s H E hr=>⟨_,_,(aj (aw (aB (fR (by rfl)) (by rfl) T.z_len (by decide +kernel) (aa (P3.opd (ej (f:="letters") (by rfl) (bv 0) T.cc T.fH)) ae)))),fun Γa Q h hl=>?_⟩);obtain⟨rfl,q⟩:=h;walk_at "q1";exact⟨by decide +kernel,q⟩
theorem rS(T:Txt K mg a):aG P w K mg base CX0 2 a.iM a.kN ["self","step"] (sp3 K 2 (at1 [some (.fz (pO a)),some (.fz (.int 0))] (.fz (.tup [.int 1,.int 2])))):=by
 refine ok3 T.lZ.F rj (hbody:=fun cdv A outer s H E hr=>⟨_,_,(aq (aX (bw (a9 (ak (by rfl) (cm T) hr.dn (by rfl) T.aI.m T.aI.F.kp T.aI.b (aa (P3.opd (p3v 1)) (aa (P3.opd ai) (aa (P3.opd (bh (by rfl) (bv 0) T.cc T.md (ma T) hr.dn T.ji.b)) ae)))))) (aj cS) aK)
   (aj (aw (aO (by rfl) (P3.opd (ej (f:="corners") (by rfl) (bv 0) T.cc T.dq)) (bv 1) (fun _ _=>rfl))))),fun Γa Q h hl=>?_⟩)
 obtain⟨rfl,q⟩:=h;walk_at "q1";refine⟨by decide +kernel,rfl,?_⟩;walk_at "q1";refine⟨_,_,_,rfl,rfl,?_⟩;rw[show whD (.int 0) 0 1=true from rfl];walk_at "q1";exact q
theorem iS{α:Type}{f:α->D}{l:List α}{d:D}(h:(l.map f)[k]?=some d):∃ x,l[k]?=some x/\d=f x:=by
 rw[List.getElem?_map] at h;cases q:l[k]? with
 | none=>rw[q] at h;cases h
 | some x=>rw[q] at h;cases h;exact⟨x,rfl,rfl⟩
theorem take_snoc{α:Type}{xs:List α}{x:α}(h:xs[k]?=some x):xs.take (k + 1)=xs.take k++[x]:=by rw[List.take_succ,h];rfl
theorem qW(h:n<=100000):n < sizeLine:=by rw[sizeLine_eq];lia
theorem iY{i:Int}{d:D}(h:(rng i n)[k]?=some d):k < n/\d=.int (i + k):=by
 unfold rng at h;obtain⟨x,hx,rfl⟩:=iS h;have lt:=sd hx;rw[List.length_range] at lt;rw[List.getElem?_range lt] at hx;cases hx;exact⟨lt,rfl⟩
theorem Of:(List.range n).map (fun _=>D.bl true)=((List.range n).map fun _=>true).map D.bl:=by rw[List.map_map];rfl
theorem all_true:((List.range n).map fun _=>true).all id=true:=by simp
structure GR (w:Nat) (R:LL0):Prop where
 h1:1<=R.length
 h2:R.length<=64
 w1:1<=w
 w2:w<=64
 all:R.length * w<=512
 len:∀ r∈R,r.length=w
 fig:∀ r∈R,Fig r
noncomputable abbrev rD (R:LL0):D:=.lst (R.map il)
noncomputable abbrev tD (r:Li0):D:=.tup (r.map .int)
noncomputable abbrev fD (a:Ad) (R:LL0):D:=.ins a.aD ["grid"] [.tup (R.map tD)]
def IF:S3:=fun Γ Q=>∃ (w:Nat) (R:LL0),Γ=[some (.fz (rD R))]/\GR w R/\Q (.fz (.bl true)) Γ
theorem GR.at0{w:Nat}{R:LL0}(g:GR w R):∃ r,R[0]?=some r/\r∈R/\r.length=w:=by
 have h:=g.h1;exact⟨R[0],gE0 (by lia),List.getElem_mem _,g.len _ (List.getElem_mem _)⟩
theorem wZ(T:Txt K mg a):aG P w K mg base CX0 4 a.sE a.pR ["thing"] (sp3 K 1 IF):=by
 refine ok3 T.jg.F pC (hbody:=fun cdv A outer s H E hr=>⟨_,_,(aq (aX (P3W.pt (kD (bw (a9 (aB (HV T.ty) (by rfl) T.z_isinstance (by decide +kernel) (aa (bv 0) (aa (P3.opd (ud (n:="list") (by rfl) T.z_list (by decide +kernel))) ae))))) (g_ (aV (eS (by rfl) hr) (P3.opd (aB (fR (by rfl)) (by rfl) T.z_len (by decide +kernel) (aa (bv 0) ae))) (P3.opd ai) (ba _))))) (aj (aw dO)) aK)
   (aq (aX (bw (a9 (aB (Ed (by rfl) rfl) (by rfl) T.z_all (by decide +kernel) (aa (P3.opd (cH rfl (cb (by rfl) (p3v 0)) kY (fun _ _ _ _ _=>(bx (i:=0) kY.nd rfl (Or.inl rfl))) (fun _ _ _ _ _=>(ak (by rfl) (uh T) hr.dn (by rfl) T.gA.m T.gA.F.kp T.gA.b (aa (P3.opd (p3v 0)) (aa (P3.opd ai) ae)))))) ae)))) (aj (aw dO)) aK)
   (aq (a_ (i:=1) pC.nd rfl (Or.inr rfl) (aB (fR (by rfl)) (by rfl) T.z_len (by decide +kernel) (aa (P3.opd (aO (by rfl) (bv 0) (P3.opd ai) (fun _ _=>rfl))) ae)))
   (aj (aw (ym (ak (by rfl) (rN T) hr.dn (by rfl) T.eI.m T.eI.F.kp T.eI.b (aa (P3.opd (aB (fR (by rfl)) (by rfl) T.z_len (by decide +kernel) (aa (bv 0) ae))) (aa (P3.opd (p3v 1)) ae))) (rJ (aB (Ed (by rfl) rfl) (by rfl) T.z_all (by decide +kernel) (aa (P3.opd (cH rfl (cb (by rfl) (p3v 0)) kZ (fun _ _ _ _ _=>(bx (i:=0) kZ.nd rfl (Or.inl rfl))) (fun _ _ _ _ _=>(iG (eS (by rfl) hr) (P3.opd (aB (fR (by rfl)) (by rfl) T.z_len (by decide +kernel) (aa (bv 0) ae))) (bv 1) (ba _))))) ae))))))))),fun Γa Q h hl=>?_⟩)
 obtain⟨w,R,rfl,g,q⟩:=h;have g1:=g.h1;have g2:=g.h2;obtain⟨r0,h0,hm0,hl0⟩:=g.at0;walk_at "q1";rw[lM0,show ((R.length:Int) == 0)=false by rw[beq_eq_false_iff_ne];lia];walk_at "q1";refine⟨small (by rw[lM0];lia),b8 (fun k ys Γc=>ys=(List.range k).map (fun _=>D.bl true)/\∃ s,Γc=[fo s]) ⟨rfl,none,rfl⟩ ?_ ?_⟩
 ·rintro k d ys Γc hd hk ⟨rfl,s,rfl⟩;obtain⟨r,hr,rfl⟩:=iS hd;have hm:=List.mem_of_getElem? hr;walk_at "q1";refine⟨r,1,rfl,g.fig r hm,by rw[g.len r hm];exact g.w2,by rw[g.len r hm];have:=g.w1;lia,?_⟩;walk_at "q1";exact⟨snoc rfl,some _,rfl⟩
 ·rintro ys Γc hk ⟨rfl,s,rfl⟩;walk_at "q1";refine⟨(List.range R.length).map fun _=>true,by rw[lM0,List.map_map];rfl,?_⟩;rw[all_true];walk_at "q1";refine dP.mpr ⟨il r0,bR (by decide) (by rw[List.getElem?_map,show (Int.toNat 0)=0 from rfl,h0];rfl),?_⟩;walk_at "q1";refine⟨_,_,rfl,⟨by rw[lM0];lia,by rw[lM0,hl0];have:=g.w1;lia,by rw[lM0];lia,by rw[lM0,hl0];have:=g.w2;lia,by rw[lM0,lM0,hl0];have:=g.all;exact_mod_cast this⟩,?_⟩;walk_at "q1";refine⟨small (by rw[lM0];lia),b8 (fun k ys Γc=>ys=(List.range k).map (fun _=>D.bl true)/\∃ s,Γc=[fo s,some (.fz (.int w))]) ⟨rfl,none,by rw[lM0,hl0];rfl⟩ ?_ ?_⟩
  ·rintro k d ys Γc hd hk ⟨rfl,s,rfl⟩;obtain⟨r,hr,rfl⟩:=iS hd;have hm:=List.mem_of_getElem? hr;walk_at "q1";rw[lM0,g.len r hm];walk_at "q1";exact⟨snoc rfl,some _,rfl⟩
  ·rintro ys Γc hk ⟨rfl,s,rfl⟩;walk_at "q1";refine⟨(List.range R.length).map fun _=>true,by rw[lM0,List.map_map];rfl,?_⟩;rw[all_true];exact q
def JQ (a:Ad):S3:=fun Γ Q=>∃ (w:Nat) (R:LL0),Γ=[some (.ln (.ins a.aD [] [])),some (.fz (rD R))]/\GR w R/\Q (.fz .non) [some (.ln (fD a R)),some (.fz (rD R))]
theorem aP(T:Txt K mg a):aG P w K mg base CX0 5 a.eQ a.ij ["self","rows"] (sp3 K 2 (JQ a)):=by
 refine ok3 T.aN.F ny (hbody:=fun cdv A outer s H E hr=>⟨_,_,(aq (aX (bw (a9 (ak (by rfl) (wZ T) hr.dn (by rfl) T.jg.m T.jg.F.kp T.jg.b (aa (P3.opd (p3v 1)) ae)))) (aj cS) aK)
   (aj (lz (C0:=a.aD) 0 (by rfl) T.aY T.cB (bv 0) (dN (qI (by rfl)) (by rfl) T.z_tuple (by decide +kernel) (aa (P3.opd (cH rfl (cb (by rfl) (p3v 1)) fA (fun _ _ _ _ _=>(bx (i:=0) fA.nd rfl (Or.inl rfl))) (fun _ _ _ _ _=>(dN (qI (by rfl)) (by rfl) T.z_tuple (by decide +kernel) (aa (bv 0) ae))))) ae))))),fun Γa Q h hl=>?_⟩)
 obtain⟨w,R,rfl,g,q⟩:=h;have g2:=g.h2;walk_at "q1";refine⟨w,R,rfl,g,?_⟩;walk_at "q1";refine⟨small (by rw[lM0];lia),b8 (fun k ys Γc=>ys=(R.take k).map tD/\∃ s,Γc=[fo s]) ⟨rfl,none,rfl⟩ ?_ ?_⟩
 ·rintro k d ys Γc hd hk ⟨rfl,s,rfl⟩;obtain⟨r,hr,rfl⟩:=iS hd;walk_at "q1";exact⟨by rw[take_snoc hr,List.map_append];rfl,some _,rfl⟩
 ·rintro ys Γc hk ⟨rfl,s,rfl⟩;walk_at "q1";rw[List.take_of_length_le (by rw[lM0];exact Nat.le_refl _)];exact q
theorem bK(h:n<=100000):n<=sizeLine:=Nat.le_of_lt (qW h)
def Gp (a:Ad):S3:=fun Γ Q=>∃ (w:Nat) (R:LL0),Γ=[some (.fz (fD a R))]/\GR w R/\Q (.fr (rD R)) Γ
theorem iH(T:Txt K mg a):aG P w K mg base CX0 1 a.gi a.iJ ["self"] (sp3 K 1 (Gp a)):=by
 refine ok3 T.bX.F l8 (hbody:=fun cdv A outer s H E hr=>⟨_,_,(aj (aw (cH rfl (Dw (by rfl) (ej (f:="grid") (by rfl) (bv 0) T.aY T.cB)) c6 (fun _ _ _ _ _=>(bx (i:=0) c6.nd rfl (Or.inl rfl))) (fun _ _ _ _ _=>(dN (we (by rfl)) (by rfl) T.z_list (by decide +kernel) (aa (bv 0) ae)))))),fun Γa Q h hl=>?_⟩);obtain⟨w,R,rfl,g,q⟩:=h;have g2:=g.h2;walk_at "q1";refine⟨qW (by rw[lM0];lia),b8 (fun k ys Γc=>ys=(R.take k).map il/\∃ s,Γc=[fo s]) ⟨rfl,none,rfl⟩ ?_ ?_⟩
 ·rintro k d ys Γc hd hk ⟨rfl,s,rfl⟩;obtain⟨r,hr,rfl⟩:=iS hd;walk_at "q1";exact⟨by rw[take_snoc hr,List.map_append];rfl,some _,rfl⟩
 ·rintro ys Γc hk ⟨rfl,s,rfl⟩;walk_at "q1";rw[List.take_of_length_le (by rw[lM0];exact Nat.le_refl _)];exact q
noncomputable abbrev iR (R:LL0):List (List D):=R.map fun r=>r.map D.int
def DG (a:Ad):S3:=fun Γ Q=>∃ (w:Nat) (R:LL0),Γ=[some (.fz (fD a R))]/\GR w R/\Q (.rws (iR R)) Γ
theorem fF(T:Txt K mg a):aG P w K mg base CX0 1 a.gi a.iJ ["self"] (sp3 K 1 (DG a)):=by
 refine ok3 T.bX.F l8 (hbody:=fun cdv A outer s H E hr=>⟨_,_,(aj (aw (wX rfl (Dw (by rfl) (ej (f:="grid") (by rfl) (bv 0) T.aY T.cB)) c6 (fun _ _ _ _ _=>(bx (i:=0) c6.nd rfl (Or.inl rfl))) (fun _ _ _ _ _=>(dN (we (by rfl)) (by rfl) T.z_list (by decide +kernel) (aa (bv 0) ae)))))),fun Γa Q h hl=>?_⟩);obtain⟨w,R,rfl,g,q⟩:=h;have g2:=g.h2;walk_at "q1";refine⟨qW (by rw[lM0];lia),uK (fun k ys Γc=>ys=iR (R.take k)/\∃ s,Γc=[fo s]) ⟨rfl,none,rfl⟩ ?_ ?_⟩
 ·rintro k d ys Γc hd hk ⟨rfl,s,rfl⟩;obtain⟨r,hr,rfl⟩:=iS hd;walk_at "q1";exact⟨by rw[take_snoc hr,show iR (R.take k++[r])=iR (R.take k)++iR [r] from List.map_append];rfl,some _,rfl⟩
 ·rintro ys Γc hk ⟨rfl,s,rfl⟩;walk_at "q1";rw[List.take_of_length_le (by rw[lM0];exact Nat.le_refl _)];exact q
def Bg (a:Ad):S3:=fun Γ Q=>∃ (w:Nat) (R:LL0),Γ=[some (.fz (fD a R))]/\GR w R/\Q (.fz (.int R.length)) Γ
theorem fG(T:Txt K mg a):aG P w K mg base CX0 1 a.gS a.jR ["self"] (sp3 K 1 (Bg a)):=by
 refine ok3 T.dX.F qk (hbody:=fun cdv A outer s H E hr=>⟨_,_,(aj (aw (aB (fR (by rfl)) (by rfl) T.z_len (by decide +kernel) (aa (P3.opd (ej (f:="grid") (by rfl) (bv 0) T.aY T.cB)) ae)))),fun Γa Q h hl=>?_⟩);obtain⟨w,R,rfl,g,q⟩:=h;walk_at "q1";rw[lM0];exact q
def DF (a:Ad):S3:=fun Γ Q=>∃ (w:Nat) (R:LL0),Γ=[some (.fz (fD a R))]/\GR w R/\Q (.fz (.int w)) Γ
theorem gK(T:Txt K mg a):aG P w K mg base CX0 1 a.iO a.kP ["self"] (sp3 K 1 (DF a)):=by
 refine ok3 T.eW.F rn (hbody:=fun cdv A outer s H E hr=>⟨_,_,(aj (aw (aB (fR (by rfl)) (by rfl) T.z_len (by decide +kernel) (aa (P3.opd (aO (by rfl) (P3.opd (ej (f:="grid") (by rfl) (bv 0) T.aY T.cB)) (P3.opd ai) (fun _ _=>rfl))) ae)))),fun Γa Q h hl=>?_⟩);obtain⟨w,R,rfl,g,q⟩:=h;obtain⟨r0,h0,hm0,hl0⟩:=g.at0;walk_at "q1";refine dP.mpr ⟨tD r0,bR (by decide) (by rw[List.getElem?_map,show (Int.toNat 0)=0 from rfl,h0];rfl),?_⟩;walk_at "q1";rw[lM0,hl0];exact q
theorem pb{α:Type}{f:Nat->List α}:((List.range k).map f).flatten++f k=((List.range (k + 1)).map f).flatten:=by
 rw[List.range_succ,List.map_append,List.flatten_append];simp
theorem xq {α:Type} {f:Nat->List α} {m:Nat} (hf:∀ k,(f k).length=m):∀ n,(((List.range n).map f).flatten).length=n * m
 | 0=>by simp
 | n + 1=>by rw[<- pb,List.length_append,xq hf n,hf,Nat.add_mul,Nat.one_mul]
theorem yR {w:Nat}:∀ {R:LL0},(∀ r∈R,r.length=w)->R.flatten.length=R.length * w
 | [],_=>by simp
 | r::R,h=>by
  rw[List.flatten_cons,List.length_append,yR fun x hx=>h x (.tail _ hx),h r (.head _),List.length_cons,Nat.add_mul,Nat.one_mul,Nat.add_comm]
theorem GR.take{w:Nat}{R:LL0}(g:GR w R)(k:Nat):((R.take k).flatten).length<=512:=by
 rw[yR fun r hr=>g.len r (List.mem_of_mem_take hr)];refine Nat.le_trans (Nat.mul_le_mul_right w ?_) g.all;rw[List.length_take];lia
noncomputable abbrev pD (h w:Int):D:=.tup [.int h,.int w]
noncomputable def vt (w:Nat) (y:Nat):List D:=(List.range w).map fun x:Nat=>pD (y:Int) (x:Int)
noncomputable def pls (h w:Nat):List D:=((List.range h).map (vt w)).flatten
theorem rE{w y:Nat}:(vt w y).length=w:=by simp [vt]
theorem jw{h w:Nat}:(pls h w).length=h * w:=xq (fun _=>rE) h
def Be (a:Ad):S3:=fun Γ Q=>∃ (w:Nat) (R:LL0),Γ=[some (.fz (fD a R))]/\GR w R/\Q (.fr (.lst (pls R.length w))) Γ
theorem jL(T:Txt K mg a):aG P w K mg base CX0 2 a.gR a.jQ ["self"] (sp3 K 1 (Be a)):=by
 refine ok3 T.gD.F qj (hbody:=fun cdv A outer s H E hr=>⟨_,_,(aj (aw (CU rfl (cD (by rfl) T.z_range (ab (bh (by rfl) (bv 0) T.aY T.fI (fG T) hr.dn T.dX.b) ao)) dJ (fun _ _ _ _ _=>(bx (i:=0) dJ.nd rfl (Or.inl rfl))) (fun _ _ _ _ _=>(cD (by rfl) T.z_range (ab (bh (by rfl) (bv 2) T.aY T.gL (gK T) hr.dn T.eW.b) ao))) (fun _ _ _ _ _=>(bx (i:=1) dJ.nd rfl (Or.inl rfl))) (fun _ _ _ _ _=>(bB (ab (p3v 0) (ab (p3v 1) ao))))))),fun Γa Q h hl=>?_⟩);obtain⟨w,R,rfl,g,q⟩:=h;have g2:=g.h2;have w2:=g.w2;walk_at "q1";refine⟨by decide +kernel,w,R,rfl,g,?_⟩;walk_at "q1";refine⟨by lia,by lia,Bj (fun k ys Γc=>ys=pls k w/\k<=R.length/\∃ s s',Γc=[fo s,fo s',some (.fz (fD a R))]) ⟨rfl,by lia,none,none,rfl⟩ ?_ ?_⟩
 ·rintro k d ys Γc hd ⟨rfl,hk,s,s',rfl⟩;obtain⟨lt,rfl⟩:=iY hd;have fb:k * w<=64 * 64:=Nat.mul_le_mul (by lia) (by lia);walk_at "q1";refine⟨by decide +kernel,w,R,rfl,g,?_⟩;walk_at "q1";refine⟨by lia,by lia,fun j ys Γc=>ys=pls k w++vt j k/\j<=w/\∃ s',Γc=[some (.fz (.int (0 + (k:Int)))),fo s',some (.fz (fD a R))],⟨by simp [vt],by lia,s',rfl⟩,?_,?_⟩
  ·rintro j d ys Γc hd ⟨rfl,hj,s',rfl⟩;obtain⟨lt2,rfl⟩:=iY hd;walk_at "q1";refine⟨qW (by rw[List.length_append,jw,rE];lia),bK (by decide),?_,by lia,some _,rfl⟩;rw[List.append_assoc];congr 1;unfold vt;rw[List.range_succ,List.map_append];simp
  ·rintro ys Γc ⟨rfl,hj,s',rfl⟩;refine⟨?_,by lia,some _,s',rfl⟩;rw[vj];exact pb
 ·rintro ys Γc ⟨rfl,hk,s,s',rfl⟩;have fb:R.length * w<=64 * 64:=Nat.mul_le_mul (by lia) (by lia);rw[vj,Int.toNat_natCast];refine⟨qW (by rw[jw];lia),?_⟩;walk_at "q1";exact q
noncomputable def plB (d:D) (h w:Int):Bool:=match d with
 | .tup [x,y]=>whD x 0 (h - 1) && whD y 0 (w - 1)
 | _=>false
def knT (d:D):Prop:=knD d=true/\∀ x y,d=.tup [x,y]->knD x=true/\knD y=true
def BN:S3:=fun Γ Q=>∃ (d:D) (h w:Int),Γ=[some (.fz d),some (.fz (.int h)),some (.fz (.int w))]/\knT d/\Q (.fz (.bl (plB d h w))) Γ
theorem mR(T:Txt K mg a):aG P w K mg base CX0 2 a.ik a.gN ["thing","height","width"] (sp3 K 3 BN):=by
 refine ok3 T.cG.F mD (hbody:=fun cdv A outer s H E hr=>⟨_,_,(aq (aX (P3W.pt (kD (bw (a9 (aB (ML T.ty) (by rfl) T.z_isinstance (by decide +kernel) (aa (bv 0) (aa (P3.opd (ud (n:="tuple") (by rfl) T.z_tuple (by decide +kernel))) ae))))) (g_ (aV (eR (by rfl) hr) (P3.opd (aB (fR (by rfl)) (by rfl) T.z_len (by decide +kernel) (aa (bv 0) ae))) (P3.opd ai) (ba _))))) (aj (aw dO)) aK)
   (aj (aw (ym (ak (by rfl) (cm T) hr.dn (by rfl) T.aI.m T.aI.F.kp T.aI.b (aa (P3.opd (aO (by rfl) (bv 0) (P3.opd ai) (fun _ _=>rfl))) (aa (P3.opd ai) (aa (P3.opd (iF (bv 1) (P3.opd ai))) ae)))) (rJ (ak (by rfl) (cm T) hr.dn (by rfl) T.aI.m T.aI.F.kp T.aI.b (aa (P3.opd (aO (by rfl) (bv 0) (P3.opd ai) (fun _ _=>rfl))) (aa (P3.opd ai) (aa (P3.opd (iF (bv 2) (P3.opd ai))) ae))))))))),fun Γa Q h hl=>?_⟩)
 obtain⟨d,h,w,rfl,⟨hk,hk2⟩,q⟩:=h;cases d <;> (try cases hk) <;> walk_at "q1" <;> (try exact q)
 rename_i xs;by_cases h2:xs.length=2
 ·obtain⟨x,y,rfl⟩:∃ x y,xs=[x,y]:=by
   match xs,h2 with
   | [x,y],_=>exact⟨x,y,rfl⟩
  obtain⟨k1,k2⟩:=hk2 x y rfl;rw[show ((([x,y]:List D).length:Int) == 2)=true from rfl];walk_at "q1";refine⟨_,_,_,rfl,k1,?_⟩;have e:plB (.tup [x,y]) h w=(whD x 0 (h - 1) && whD y 0 (w - 1)):=rfl;rw[e] at q;cases hx:whD x 0 (h - 1) with
  | false=>
   rw[hx] at q;walk_at "q1";exact q
  | true=>
   rw[hx] at q;walk_at "q1";exact⟨_,_,_,rfl,k2,q⟩
 ·rw[show ((xs.length:Int) == 2)=false by rw[beq_eq_false_iff_ne];lia];walk_at "q1";have e:plB (.tup xs) h w=false:=by
   unfold plB;split
   ·rename_i x y z;cases z;exact absurd rfl h2
   ·rfl
  rw[e] at q;exact q
def Kl (a:Ad):S3:=fun Γ Q=>∃ (w:Nat) (R:LL0) (d:D),Γ=[some (.fz (fD a R)),some (.fz d)]/\GR w R/\knT d/\Q (.fz (.bl (plB d R.length w))) Γ
theorem nJ(T:Txt K mg a):aG P w K mg base CX0 3 a.eP a.h_ ["self","thing"] (sp3 K 2 (Kl a)):=by
 refine ok3 T.iU.F nv (hbody:=fun cdv A outer s H E hr=>⟨_,_,(aj (aw (ak (by rfl) (mR T) hr.dn (by rfl) T.cG.m T.cG.F.kp T.cG.b (aa (P3.opd (p3v 1)) (aa (P3.opd (bh (by rfl) (bv 0) T.aY T.fI (fG T) hr.dn T.dX.b)) (aa (P3.opd (bh (by rfl) (bv 0) T.aY T.gL (gK T) hr.dn T.eW.b)) ae)))))),fun Γa Q h hl=>?_⟩);obtain⟨w,R,d,rfl,g,hk,q⟩:=h;walk_at "q1";refine⟨by decide +kernel,w,R,rfl,g,?_⟩;walk_at "q1";refine⟨by decide +kernel,w,R,rfl,g,?_⟩;walk_at "q1";exact⟨d,_,_,rfl,hk,q⟩
theorem Lz{y x h w:Nat}(hy:y < h)(hx:x < w):plB (pD y x) h w=true:=by
 simp only[plB,whD,Bool.and_eq_true,decide_eq_true_eq];lia
theorem L6{y x:Int}:knT (pD y x):=⟨rfl,fun a b e=>by cases e;exact⟨rfl,rfl⟩⟩
theorem GR.row{w:Nat}{R:LL0}(g:GR w R){y:Nat}(hy:y < R.length):∃ r,R[y]?=some r/\r.length=w/\Fig r:=
 ⟨R[y],gE0 hy,g.len _ (List.getElem_mem _),g.fig _ (List.getElem_mem _)⟩
def Mx (a:Ad):S3:=fun Γ Q=>∃ (w:Nat) (R:LL0) (y x:Nat) (r:Li0) (n:Int),Γ=[some (.fz (fD a R)),some (.fz (pD y x))]/\GR w R/\R[y]?=some r/\r[x]?=some n/\Q (.fz (.int n)) Γ
theorem pI(T:Txt K mg a):aG P w K mg base CX0 4 a.mY a.pV ["self","place"] (sp3 K 2 (Mx a)):=by
 refine ok3 T.mz.F kf (hbody:=fun cdv A outer s H E hr=>⟨_,_,(aq (aX (bw (a9 (fZ (by rfl) (bv 0) T.aY T.nN (nJ T) hr.dn T.iU.b (aa (P3.opd (p3v 1)) ae)))) (aj cS) aK)
   (aq (vh (is:=[2,3]) (by rfl) (p3v 1) (br (bI (i:=2) kf.nd rfl (Or.inl rfl)) (br (bI (i:=3) kf.nd rfl (Or.inl rfl)) eX)) rfl)
   (aj (aw (aO (by rfl) (P3.opd (aO (by rfl) (P3.opd (ej (f:="grid") (by rfl) (bv 0) T.aY T.cB)) (bv 2) (fun _ _=>rfl))) (bv 3) (fun _ _=>rfl)))))),fun Γa Q h hl=>?_⟩)
 obtain⟨w,R,y,x,r,n,rfl,g,hr',hn,q⟩:=h;have ly:=sd hr';have lx:=sd hn;have lr:=g.len r (List.mem_of_getElem? hr');walk_at "q1";refine⟨by decide +kernel,w,R,pD y x,rfl,g,L6,?_⟩;rw[Lz ly (by lia)];walk_at "q1";refine dP.mpr ⟨tD r,bR (by lia) (by rw[List.getElem?_map,Int.toNat_natCast,hr'];rfl),?_⟩;walk_at "q1";refine dP.mpr ⟨.int n,bR (by lia) (by rw[List.getElem?_map,Int.toNat_natCast,hn];rfl),?_⟩;walk_at "q1";exact q
def B5 (a:Ad):S3:=fun Γ Q=>∃ (h w:Int) (d:D),Γ=[some (.fz d)]/\((d=pO a/\h=1/\w=2)\/∃ (u:Nat) (G:LL0),d=fD a G/\GR u G/\h=G.length/\w=u)/\Q (.fz (.tup [.int h,.int w])) Γ
theorem eM(T:Txt K mg a):aG P w K mg base CX0 2 a.uC a.sv ["thing"] (sp3 K 1 (B5 a)):=by
 refine ok3 T.a8.F x9 (hbody:=fun cdv A outer s H E hr=>⟨_,_,(aj (aw (bB (ab (P3.or (bh (by rfl) (bv 0) T.cc T.rY (rR T) hr.dn T.lY.b) (bh (by rfl) (bv 0) T.aY T.fI (fG T) hr.dn T.dX.b)) (ab (P3.or (bh (by rfl) (bv 0) T.cc T.tG (tF T) hr.dn T.m9.b) (bh (by rfl) (bv 0) T.aY T.gL (gK T) hr.dn T.eW.b)) ao))))),fun Γa Q h hl=>?_⟩);obtain⟨h,w,d,rfl,hd,q⟩:=h;rcases hd with ⟨rfl,rfl,rfl⟩ | ⟨u,G,rfl,g,rfl,rfl⟩
 ·walk_at "q1";refine .inl ⟨by decide +kernel,rfl,?_⟩;walk_at "q1";refine .inl ⟨by decide +kernel,rfl,?_⟩;walk_at "q1";exact⟨by rw[sizeLine_eq];lia,q⟩
 ·walk_at "q1";refine .inr ⟨by decide +kernel,u,G,rfl,g,?_⟩;walk_at "q1";refine .inr ⟨by decide +kernel,u,G,rfl,g,?_⟩;walk_at "q1";exact⟨by rw[sizeLine_eq];lia,q⟩
def MI (a:Ad):S3:=fun Γ Q=>∃ (G:LL0),Γ=[some (.fz (fD a G))]/\Q (.fz .non) Γ
theorem rO(T:Txt K mg a):aG P w K mg base CX0 5 a.iK a.gO ["thing"] (sp3 K 1 (MI a)):=by
 refine ok3 T.bg.F kc (hbody:=fun cdv A outer s H E hr=>⟨_,_,(aj (aX (bw (a9 (aB (Eb (by rfl) T.xj (al2 T.se T.zW)) (by rfl) T.z_isinstance (by decide +kernel) (aa (bv 0) (aa (P3.opd (nE (by rfl) T.cj)) ae))))) (aj cS) aK)),fun Γa Q h hl=>?_⟩);obtain⟨G,rfl,q⟩:=h;walk_at "q1";refine⟨true,by simp [C1,C4],?_⟩;walk_at "q1";exact q
theorem Gi:GR 2 [[1,2]]:=⟨by decide,by decide,by decide,by decide,by decide,by decide,fun r hr=>by
 simp only[List.mem_cons,List.not_mem_nil,or_false] at hr;subst hr;exact HI⟩
def HQ (a:Ad):S3:=fun Γ Q=>Γ=[some (.fz (pO a)),some (.fz (fD a [[1,2]]))]/\Q (.fz .non) Γ
theorem tE(T:Txt K mg a):aG P w K mg base CX0 6 a.jB a.iI ["plan","thing"] (sp3 K 2 (HQ a)):=by
 refine ok3 T.bW.F l5 (hbody:=fun cdv A outer s H E hr=>⟨_,_,(aq (eg (ak (by rfl) (rO T) hr.dn (by rfl) T.bg.m T.bg.F.kp T.bg.b (aa (P3.opd (p3v 1)) ae)))
   (aj (aX (aV (eR (by rfl) hr) (P3.opd (ak (by rfl) (eM T) hr.dn (by rfl) T.a8.m T.a8.F.kp T.a8.b (aa (P3.opd (p3v 0)) ae))) (P3.opd (ak (by rfl) (eM T) hr.dn (by rfl) T.a8.m T.a8.F.kp T.a8.b (aa (P3.opd (p3v 1)) ae))) (ba _)) (aj cS) aK))),fun Γa Q h hl=>?_⟩)
 obtain⟨rfl,q⟩:=h;walk_at "q1";refine⟨[[1,2]],rfl,?_⟩;walk_at "q1";refine⟨_,_,_,rfl,.inl ⟨rfl,rfl,rfl⟩,?_⟩;walk_at "q1";refine⟨_,_,_,rfl,.inr ⟨2,[[1,2]],rfl,Gi,rfl,rfl⟩,?_⟩;walk_at "q1";refine⟨true,rfl,?_⟩;walk_at "q1";exact q
theorem Fm{h w:Nat}{d:D}(e:(pls h w)[k]?=some d):∃ y x:Nat,y < h/\x < w/\d=pD y x:=by
 have m:=List.mem_of_getElem? e;unfold pls at m;obtain⟨l,hl,hd⟩:=List.mem_flatten.mp m;obtain⟨y,hy,rfl⟩:=List.mem_map.mp hl;unfold vt at hd;obtain⟨x,hx,rfl⟩:=List.mem_map.mp hd;exact⟨y,x,List.mem_range.mp hy,List.mem_range.mp hx,rfl⟩
def MJ (a:Ad):S3:=fun Γ Q=>∃ (u:Nat) (G:LL0) (lo hi:Int),Γ=[some (.fz (fD a G)),some (.fz (.int lo)),some (.fz (.int hi))]/\GR u G/\(∀ r∈G,∀ n∈r,lo<=n/\n<=hi)/\Q (.fz .non) Γ
theorem qm(T:Txt K mg a):aG P w K mg base CX0 5 a.kQ a.jN ["field","low","high"] (sp3 K 3 (MJ a)):=by
 refine ok3 T.dW.F jJ (hbody:=fun cdv A outer s H E hr=>⟨_,_,(aj (iE PassesOwn.never rfl (cb (by rfl) (bh (by rfl) (bv 0) T.aY T.jM (jL T) hr.dn T.gD.b)) (bx (i:=3) jJ.nd rfl (Or.inl rfl))
   (aj (aX (bw (a9 (ak (by rfl) (cm T) hr.dn (by rfl) T.aI.m T.aI.F.kp T.aI.b (aa (P3.opd (fZ (by rfl) (bv 0) T.aY T.pJ (pI T) hr.dn T.mz.b (aa (P3.opd (p3v 3)) ae))) (aa (P3.opd (p3v 1)) (aa (P3.opd (p3v 2)) ae)))))) (aj cS) aK)))),fun Γa Q h hl=>?_⟩)
 obtain⟨u,G,lo,hi,rfl,g,hb,q⟩:=h;walk_at "q1";refine⟨by decide +kernel,u,G,rfl,g,?_⟩;walk_at "q1";refine cU (fun k Γ=>∃ s,Γ=[some (.fz (fD a G)),some (.fz (.int lo)),some (.fz (.int hi)),fo s]) ⟨none,rfl⟩ ?_ ?_
 ·rintro k d Γ hd ⟨s,rfl⟩;obtain⟨y,x,hy,hx,rfl⟩:=Fm hd;obtain⟨r,hr',lr,_⟩:=g.row hy;have hn:r[x]?=some r[x]:=gE0 (by lia);walk_at "q1";refine⟨by decide +kernel,u,G,y,x,r,r[x],rfl,g,hr',hn,?_⟩;walk_at "q1";refine⟨_,_,_,rfl,rfl,?_⟩;obtain⟨b1,b2⟩:=hb r (List.mem_of_getElem? hr') r[x] (List.mem_of_getElem? hn);rw[show whD (.int r[x]) lo hi=true by simp only[whD,Bool.and_eq_true,decide_eq_true_eq];exact⟨b1,b2⟩];walk_at "q1";exact⟨some _,rfl⟩
 ·rintro Γ ⟨s,rfl⟩;walk_at "q1";exact q
theorem oW(T:Txt K mg a):aG P w K mg base CX0 7 a.jS a.i8 ["plan","thing"] (sp3 K 2 (HQ a)):=by
 refine ok3 T.dk.F oN (hbody:=fun cdv A outer s H E hr=>⟨_,_,(aq (eg (ak (by rfl) (tE T) hr.dn (by rfl) T.bW.m T.bW.F.kp T.bW.b (aa (P3.opd (p3v 0)) (aa (P3.opd (p3v 1)) ae))))
   (aj (eg (ak (by rfl) (qm T) hr.dn (by rfl) T.dW.m T.dW.F.kp T.dW.b (aa (P3.opd (p3v 1)) (aa (P3.opd (rK (P3.opd (f_ (i:=100000) (by rfl) T.oz)))) (aa (P3.opd (f_ (i:=100000) (by rfl) T.oz)) ae))))))),fun Γa Q h hl=>?_⟩)
 obtain⟨rfl,q⟩:=h;walk_at "q1";refine⟨rfl,?_⟩;walk_at "q1";refine⟨2,[[1,2]],_,_,rfl,Gi,by decide,?_⟩;walk_at "q1";exact q
theorem Hi{a b c d:Nat}:eqN (20 + 1) (pD a b) (pD c d)=some (decide (a=c/\b=d)):=by
 have e:∀ x y:Nat,((x:Int) == (y:Int))=decide (x=y):=fun x y=>by rw[Bool.eq_iff_iff,beq_iff_eq,decide_eq_true_eq];lia
 simp [eqN,c_,eqS,e]
def Ks:S3:=fun Γ Q=>∃ (ns:Li0) (k:Int),Γ=[some (.fz (.scr ns)),some (.fz (.int k))]/\0<=k/\∀ r,Q (.fz (.int r)) Γ
theorem vJ(T:Txt K mg a):aG P w K mg base CX0 1 a.p9 a.n_ ["_law_script","_law_k"] (sp3 K 2 Ks):=by
 refine ok3 T.g6.F vd (hbody:=fun cdv A outer s H E hr=>⟨_,_,(aq (aX (aV xG (bv 1) (P3.opd (aB (fR (by rfl)) (by rfl) T.z_len (by decide +kernel) (aa (bv 0) ae))) (ba _)) (aj (aw (aO (by rfl) (bv 0) (bv 1) (fun _ _=>rfl)))) aK)
   (aj (aw (cF (P3.opd (mQ (P3.opd ai) (bv 1))) (P3.opd ai))))),fun Γa Q h hl=>?_⟩)
 obtain⟨ns,k,rfl,hk,q⟩:=h;walk_at "q1";refine qa (fun h=>?_) (fun h=>?_)
 ·walk_at "q1";exact⟨_,GH hk (of_decide_eq_true h),q _⟩
 ·walk_at "q1";exact⟨.inl ⟨by decide,by decide⟩,q _⟩
def Box (c:Int) (d:D):Prop:=∃ x m k:Int,d=.lst [.int x,.int m,.int k]/\0<=x/\0<=m/\m < 2147483647/\0<=k/\k<=c
def MP:S3:=fun Γ Q=>∃ (x:Int),Γ=[some (.fz (.int x))]/\∀ d,Box 0 d->Q (.fr d) Γ
theorem w6(T:Txt K mg a):aG P w K mg base CX0 1 a.sH a.pT ["_law_cell_here"] (sp3 K 1 MP):=by
 refine ok3 T.jh.F wG (hbody:=fun cdv A outer s H E hr=>⟨_,_,(aj (aw (bE (ab (aB (HS rfl) (by rfl) T.z_max (by decide +kernel) (aa (P3.opd ai) (aa (P3.opd (iF (bv 0) (P3.opd (mP (v:=1000000000000000000) (by decide +kernel) ⟨by decide,by decide,by decide⟩)))) ae))) (ab (rL (bv 0) (P3.opd ai)) (ab ai ao)))))),fun Γa Q h hl=>?_⟩);obtain⟨x,rfl,q⟩:=h;walk_at "q1";exact⟨by decide,by rw[sizeLine_eq];lia,q _ ⟨_,_,_,rfl,by unfold fmax;split <;> lia,Int.emod_nonneg _ (by decide),Int.emod_lt_of_pos _ (by decide),by decide,by decide⟩⟩
def BW:S3:=fun Γ Q=>∃ (d:D) (c n:Int),Γ=[some (.ln d),some (.fz (.int n))]/\Box c d/\c<=1000000/\0 < n/\n<=1000000000/\∀ r d',0<=r->r < n->Box (c + 1) d'->Q (.fz (.int r)) [some (.ln d'),some (.fz (.int n))]
theorem aF(T:Txt K mg a):aG P w K mg base CX0 1 a.p6 a.n0 ["_law_box_here","_law_many"] (sp3 K 2 BW):=by
 refine ok3 T.af.F fW (hbody:=fun cdv A outer s H E hr=>⟨_,_,(aq (aX (aV HW (P3.opd (aO (by rfl) (bv 0) (P3.opd ai) (fun _ _=>rfl))) (P3.opd ai) (ba _)) (aq (a_ (i:=2) fW.nd rfl (Or.inl rfl) (rL (P3.opd (aO (by rfl) (bv 0) (P3.opd ai) (fun _ _=>rfl))) (bv 1)))
   (aq (wI 0 (bv 0) (P3.opd ai) (jy (P3.opd (aO (by rfl) (bv 0) (P3.opd ai) (fun _ _=>rfl))) (bv 1)))
   (aj (aw (AX 2))))) aK)
   (aq (wI 0 (bv 0) (P3.opd ai) (cF (P3.opd (aO (by rfl) (bv 0) (P3.opd ai) (fun _ _=>rfl))) (P3.opd ai)))
   (aq (a_ (i:=3) fW.nd rfl (Or.inl rfl) (rL (P3.opd (zL (P3.opd (cF (P3.opd (cF (P3.opd (aO (by rfl) (bv 0) (P3.opd ai) (fun _ _=>rfl))) (P3.opd (mQ (P3.opd ai) (P3.opd (aO (by rfl) (bv 0) (P3.opd ai) (fun _ _=>rfl))))))) (P3.opd ai))) (P3.opd ai))) (P3.opd ai)))
   (aq (a_ (i:=3) fW.nd rfl (Or.inl rfl) (rL (P3.opd (zL (P3.opd (cF (bv 3) (P3.opd (mQ (P3.opd ai) (P3.opd (aO (by rfl) (bv 0) (P3.opd ai) (fun _ _=>rfl))))))) (P3.opd ai))) (P3.opd ai)))
   (aj (aw (rL (P3.opd (jy (bv 3) (P3.opd ai))) (bv 1)))))))),fun Γa Q h hl=>?_⟩)
 obtain⟨_,c,n,rfl,⟨x,m,k,rfl,hx,hm,hm2,hk,hk2⟩,hc,hn,hn2,q⟩:=h;walk_at "q1";refine qa (fun e=>?_) (fun e=>?_)
 ·walk_at "q1";exact⟨hn,⟨hn,by lia⟩,q _ _ (Int.emod_nonneg _ (by lia)) (Int.emod_lt_of_pos _ hn) ⟨_,_,_,rfl,Int.ediv_nonneg hx (by lia),hm,hm2,hk,by lia⟩⟩
 ·walk_at "q1";have hy1:(m + 7919 * (k + 1) + 17) ^ Int.toNat 5 % 2147483647 < 2147483647:=Int.emod_lt_of_pos _ (by decide);have hy0:0<=(m + 7919 * (k + 1) + 17) ^ Int.toNat 5 % 2147483647:=Int.emod_nonneg _ (by decide);generalize (m + 7919 * (k + 1) + 17) ^ Int.toNat 5 % 2147483647=y at hy0 hy1 ⊢;exact⟨.inl ⟨by decide,by decide⟩,⟨by decide,by decide,by lia⟩,by decide,.inl ⟨by decide,by decide⟩,⟨by decide,by decide,by lia⟩,by decide,⟨by decide,by decide⟩,hn,q _ _ (Int.emod_nonneg _ (by lia)) (Int.emod_lt_of_pos _ hn) ⟨_,_,_,rfl,hx,hm,hm2,by lia,by lia⟩⟩
theorem pick{p:D->Prop}{r:Int}{k:D->Prop}{t:Tag k}(h0:0<=r)(h1:r < (xs.length:Int))(hp:∀ x∈xs,p x)(q:∀ v,p v->k v):m1 (atI xs r) k t:=by
 obtain⟨d,h2,h3⟩:=GJ h0 h1;exact dP.mpr ⟨d,h2,q d (hp d h3)⟩
theorem Box.up{c c':Int}{d:D}(b:Box c d)(h:c<=c'):Box c' d:=by
 obtain⟨x,m,k,e,h1,h2,h3,h4,h5⟩:=b;exact⟨x,m,k,e,h1,h2,h3,h4,Int.le_trans h5 h⟩
def LR:S3:=fun Γ Q=>∃ (d:D) (c k:Int),Γ=[some (.ln d),some (.fz (.int k))]/\Box c d/\c<=900000/\∀ r d',-1000000000000000 < r->r < 1000000000000000->Box (c + 3) d'->Q (.fz (.int r)) [some (.ln d'),some (.fz (.int k))]
theorem gJ(T:Txt K mg a):aG P w K mg base CX0 2 a.mw a.kJ ["_law_box_here","_law_way"] (sp3 K 2 LR):=by
 refine ok3 T.bz.F kd (hbody:=fun cdv A outer s H E hr=>⟨_,_,(aq (aX (aV (eS (by rfl) hr) (bv 1) (P3.opd ai) (ba _)) (aj (aw (iF (P3.opd (ak (by rfl) (aF T) hr.dn (by rfl) T.af.m T.af.F.kp T.af.b (aa (bv 0) (aa (P3.opd ai) ae)))) (P3.opd ai)))) aK)
   (aq (aX (aV (eS (by rfl) hr) (bv 1) (P3.opd ai) (ba _)) (aj (aw (mQ (P3.opd (iF (P3.opd (iF (P3.opd (mP (v:=1000000000000000) (by decide +kernel) ⟨by decide,by decide,by decide⟩)) (P3.opd ai))) (P3.opd (ak (by rfl) (aF T) hr.dn (by rfl) T.af.m T.af.F.kp T.af.b (aa (bv 0) (aa (P3.opd ai) ae)))))) (P3.opd (aO (by rfl) (P3.opd (bE (ab ai (ab (rK (P3.opd ai)) ao)))) (P3.opd (ak (by rfl) (aF T) hr.dn (by rfl) T.af.m T.af.F.kp T.af.b (aa (bv 0) (aa (P3.opd ai) ae)))) (fun _ _=>rfl)))))) aK)
   (aq (a_ (i:=2) kd.nd rfl (Or.inl rfl) (cF (P3.opd (mQ (P3.opd (ak (by rfl) (aF T) hr.dn (by rfl) T.af.m T.af.F.kp T.af.b (aa (bv 0) (aa (P3.opd (mP (v:=10000000) (by decide +kernel) ⟨by decide,by decide,by decide⟩)) ae)))) (P3.opd (mP (v:=100000000) (by decide +kernel) ⟨by decide,by decide,by decide⟩)))) (P3.opd (ak (by rfl) (aF T) hr.dn (by rfl) T.af.m T.af.F.kp T.af.b (aa (bv 0) (aa (P3.opd (mP (v:=100000000) (by decide +kernel) ⟨by decide,by decide,by decide⟩)) ae))))))
   (aj (aw (aO (by rfl) (P3.opd (bE (ab (p3v 2) (ab (iF (P3.opd ai) (bv 2)) (ab (jy (bv 2) (P3.opd ai)) ao))))) (P3.opd (ak (by rfl) (aF T) hr.dn (by rfl) T.af.m T.af.F.kp T.af.b (aa (bv 0) (aa (P3.opd ai) ae)))) (fun _ _=>rfl))))))),fun Γa Q h hl=>?_⟩)
 obtain⟨d,c,k,rfl,b,hc,q⟩:=h;walk_at "q1";refine qa (fun e=>?_) (fun e=>?_)
 ·walk_at "q1";refine⟨d,c,_,rfl,b,by lia,by decide,by decide,fun r d2 h0 h1 b2=>?_⟩;walk_at "q1";exact q _ _ (by lia) (by lia) (b2.up (by lia))
 ·walk_at "q1";refine qa (fun e=>?_) (fun e=>?_)
  ·walk_at "q1";refine⟨d,c,_,rfl,b,by lia,by decide,by decide,fun r1 d1 h1 h2 b1=>?_⟩;walk_at "q1";refine⟨by rw[sizeLine_eq];lia,d1,c + 1,_,rfl,b1,by lia,by decide,by decide,fun r2 d2 h3 h4 b2=>?_⟩;walk_at "q1";refine pick (p:=fun d=>d=.int 1\/d=.int (-1)) h3 h4 (fun x hx=>?_) fun v hv=>?_
   ·simpa only[List.mem_cons,List.not_mem_nil,or_false] using hx
   ·rcases hv with rfl | rfl
    ·walk_at "q1";exact⟨.inr ⟨by decide,by decide⟩,q _ _ (by lia) (by lia) (b2.up (by lia))⟩
    ·walk_at "q1";exact⟨.inr ⟨by decide,by decide⟩,q _ _ (by lia) (by lia) (b2.up (by lia))⟩
  ·walk_at "q1";refine⟨d,c,_,rfl,b,by lia,by decide,by decide,fun r1 d1 h1 h2 b1=>?_⟩;walk_at "q1";refine⟨.inr ⟨by decide,by decide⟩,d1,c + 1,_,rfl,b1,by lia,by decide,by decide,fun r2 d2 h3 h4 b2=>?_⟩;walk_at "q1";refine⟨⟨by decide,by decide⟩,by rw[sizeLine_eq];lia,d2,c + 1 + 1,_,rfl,b2,by lia,by decide,by decide,fun r3 d3 h5 h6 b3=>?_⟩;walk_at "q1";refine pick (p:=fun d=>∃ n:Int,d=.int n/\-1000000000000000 < n/\n < 1000000000000000) h5 h6 (fun x hx=>?_) fun v hv=>?_
   ·simp only[List.mem_cons,List.not_mem_nil,or_false] at hx;rcases hx with rfl | rfl | rfl <;> exact⟨_,rfl,by lia,by lia⟩
   ·obtain⟨n,rfl,n1,n2⟩:=hv;walk_at "q1";exact q _ _ n1 n2 (b3.up (by lia))
theorem z2:2<=sizeLine:=by rw[sizeLine_eq];lia
theorem z5:5<=sizeLine:=by rw[sizeLine_eq];lia
def zy:S3:=fun Γ Q=>∃ (d:D) (c:Int),Γ=[some (.ln d)]/\Box c d/\c<=900000/\∀ h w d',pv h w->Box (c + 10) d'->Q (.fz (pD h w)) [some (.ln d')]
theorem NW{v:D}(h:v∈[D.tup [.int 64,.int 8],.tup [.int 8,.int 64],.tup [.int 1,.int 64],.tup [.int 64,.int 1],.tup [.int 22,.int 23]]):∃ h w,v=pD h w/\pv h w:=by
 simp only[List.mem_cons,List.not_mem_nil,or_false] at h;rcases h with rfl | rfl | rfl | rfl | rfl <;> exact⟨_,_,rfl,by decide,by decide,by decide,by decide,by decide⟩
theorem size_of{x y:Int}(h1:0<=x)(h2:x < 64)(h3:0<=y)(h4:y < fmin 64 (512 / (1 + x))):pv (1 + x) (1 + y):=by
 have e:fmin 64 (512 / (1 + x))<=64/\fmin 64 (512 / (1 + x))<=512 / (1 + x):=by unfold fmin;split <;> lia
 have e2:(1 + x) * (1 + y)<=(1 + x) * (512 / (1 + x)):=Int.mul_le_mul_of_nonneg_left (by lia) (by lia);have e3:(1 + x) * (512 / (1 + x))<=512:=Int.mul_ediv_self_le (by lia);exact⟨by lia,by lia,by lia,by lia,by lia⟩
theorem Lf{x y:Int}(h1:0<=x)(h2:x < 9)(h3:0<=y)(h4:y < 9):pv (1 + x) (1 + y):=by
 have e2:(1 + x) * (1 + y)<=9 * 9:=Int.mul_le_mul (by lia) (by lia) (by lia) (by lia);exact⟨by lia,by lia,by lia,by lia,by lia⟩
theorem nH(T:Txt K mg a):aG P w K mg base CX0 2 a.p7 a.n6 ["_law_box_here"] (sp3 K 1 zy):=by
 refine ok3 T.cL.F nq (hbody:=fun cdv A outer s H E hr=>⟨_,_,(aq (aX (aV (eS (by rfl) hr) (P3.opd (ak (by rfl) (aF T) hr.dn (by rfl) T.af.m T.af.F.kp T.af.b (aa (bv 0) (aa (P3.opd ai) ae)))) (P3.opd ai) (ba _)) (aj (aw (aO (by rfl) (P3.opd (bE (ab (bB (ab ai (ab ai ao))) (ab (bB (ab ai (ab ai ao))) (ab (bB (ab ai (ab ai ao))) (ab (bB (ab ai (ab ai ao))) (ab (bB (ab ai (ab ai ao))) ao))))))) (P3.opd (ak (by rfl) (aF T) hr.dn (by rfl) T.af.m T.af.F.kp T.af.b (aa (bv 0) (aa (P3.opd ai) ae)))) (fun _ _=>rfl)))) aK)
   (aq (aX (aV (eS (by rfl) hr) (P3.opd (ak (by rfl) (aF T) hr.dn (by rfl) T.af.m T.af.F.kp T.af.b (aa (bv 0) (aa (P3.opd ai) ae)))) (P3.opd ai) (ba _)) (aq (a_ (i:=1) nq.nd rfl (Or.inl rfl) (cF (P3.opd ai) (P3.opd (ak (by rfl) (aF T) hr.dn (by rfl) T.af.m T.af.F.kp T.af.b (aa (bv 0) (aa (P3.opd ai) ae))))))
   (aj (aw (bB (ab (p3v 1) (ab (cF (P3.opd ai) (P3.opd (ak (by rfl) (aF T) hr.dn (by rfl) T.af.m T.af.F.kp T.af.b (aa (bv 0) (aa (P3.opd (aB (HR rfl) (by rfl) T.z_min (by decide +kernel) (aa (P3.opd ai) (aa (P3.opd (jy (P3.opd ai) (bv 1))) ae)))) ae))))) ao)))))) aK)
   (aj (aw (bB (ab (cF (P3.opd ai) (P3.opd (ak (by rfl) (aF T) hr.dn (by rfl) T.af.m T.af.F.kp T.af.b (aa (bv 0) (aa (P3.opd ai) ae))))) (ab (cF (P3.opd ai) (P3.opd (ak (by rfl) (aF T) hr.dn (by rfl) T.af.m T.af.F.kp T.af.b (aa (bv 0) (aa (P3.opd ai) ae))))) ao))))))),fun Γa Q h hl=>?_⟩)
 obtain⟨d,c,rfl,hb,hc,q⟩:=h;walk_at "q1";refine⟨_,_,16,rfl,hb,by lia,by decide,by decide,fun r1 d1 l1 u1 b1=>?_⟩;walk_at "q1";refine qa (fun h=>?_) (fun h=>?_)
 ·simp -dsimp -implicitDefEqProofs only[↓Hz,↓B1,↓HD,↓HB,↓DA,↓Hy,↓h_c,↓HA,RV.d,List.length_cons,List.length_nil,Nat.zero_add,Nat.reduceAdd,↓Ae,↓z8,↓HC,Gat,↓Dz,List.map_cons,List.map_nil,bP,bU,List.nodup_cons,List.not_mem_nil,not_false_eq_true,List.nodup_nil,dU,tK,je,bD,newD,cO,Nat.reduceSub,List.replicate,List.cons_append,List.nil_append,List.mapIdx_cons,if_pos,MT,Option.getD_some,reduceCtorEq,if_false,MS,List.mapIdx_nil,RV.sl,List.set_cons_succ,List.set_cons_zero,List.getElem?_cons_succ,List.getElem?_cons_zero,Option.some.injEq,exists_eq',Bo.at,zR,↓Hs,true_and];refine⟨z2,z2,z2,z2,z2,z5,_,_,5,rfl,b1,by lia,by decide,by decide,fun r2 d2 l2 u2 b2=>?_⟩;walk_at "q1";refine pick l2 u2 (fun v hv=>NW hv) (fun v hv=>?_);obtain⟨h,w,rfl,sz⟩:=hv;walk_at "q1";exact q _ _ _ sz (b2.up (by lia))
 ·walk_at "q1";refine⟨_,_,12,rfl,b1,by lia,by decide,by decide,fun r2 d2 l2 u2 b2=>?_⟩;walk_at "q1";refine qa (fun h=>?_) (fun h=>?_)
  ·walk_at "q1";refine⟨_,_,64,rfl,b2,by lia,by decide,by decide,fun r3 d3 l3 u3 b3=>?_⟩;walk_at "q1";have p:1<=512 / (1 + r3):=Int.le_ediv_of_mul_le (by lia) (by lia);refine⟨⟨by lia,by lia⟩,_,_,_,rfl,b3,by lia,by unfold fmin;split <;> lia,by unfold fmin;split <;> lia,fun r4 d4 l4 u4 b4=>?_⟩;walk_at "q1";exact⟨z2,q _ _ _ (size_of l3 u3 l4 u4) (b4.up (by lia))⟩
  ·walk_at "q1";refine⟨_,_,9,rfl,b2,by lia,by decide,by decide,fun r3 d3 l3 u3 b3=>?_⟩;walk_at "q1";refine⟨_,_,9,rfl,b3,by lia,by decide,by decide,fun r4 d4 l4 u4 b4=>?_⟩;walk_at "q1";exact⟨z2,q _ _ _ (Lf l3 u3 l4 u4) (b4.up (by lia))⟩
noncomputable def zV:Arguments×Expr×Scope:=match (cI cP).getD 2 (.Pass ⟨0,0,0,0⟩) with
 | .Return (some (.Call _ [.Call _ [_,.Lambda ps b sc _,_] _ _] _ _)) _=>(ps,b,sc)
 | _=>(gj (.Pass ⟨0,0,0,0⟩),.Constant .none 0 ⟨0,0,0,0⟩,ag (.Pass ⟨0,0,0,0⟩))
noncomputable abbrev qL:Str:=Str.ofString "halved.<locals>.<lambda>"
abbrev LA (base:Heap) (o:Unit->Obj) (f:Addr) (v:V):Prop:=uT base qL zV.1 zV.2.1 zV.2.2 "rule" (o ()) f v
theorem IC:sW ["row"] "rule" zV.2.2:=⟨rfl,rfl,rfl,by decide +kernel,by decide +kernel,by decide +kernel,by decide +kernel,by decide +kernel⟩
abbrev L5 (a:Ad):S3:=at1 [some (.fz r12),some (.fz (hO a))] (.two [.int 1] [.int (-1)])
theorem Jp{o:Unit->Obj}(T:Txt K mg a)(L:LA base o f v):∃ fd,base.get? f=some (o ())/\(o ()).data=.func fd/\Binds K fd ["row"] []/\aG P w K mg base CX0 5 f fd ["row"] (fun vs H Q _=>sp3 K 2 (L5 a) (vs++[v]) H Q E0):=by
 refine okL (ps:=["row"]) L IC (fun c d A outer s H hr=>⟨_,_,(fZ (by rfl) (bv 1) T.gx T.o5 (rQ T) hr.dn T.lX.b (aa (P3.opd (p3v 0)) ae)),fun Γ Q hl h=>?_⟩) (fun _ _ _ _ us hl=>by obtain⟨_,rfl⟩:=ln1 hl;rfl);obtain⟨rfl,q⟩:=h;walk_at "q1";exact⟨rfl,q⟩
noncomputable abbrev fO (a:Ad) (o:Unit->Obj) (f:Addr) (v:V):D:=.fn o f v (hO a)
theorem vG{o:Unit->Obj}(T:Txt K mg a)(L:LA base o f v):aG P w K mg base CX0 6 a.pX a.nW ["part","row","many"] (sp3 K 3 (at1 [some (.fz (fO a o f v)),some (.fz r12),some (.fz (.int 2))] (.fr (.lst [.int 1,.int (-1)])))):=by
 obtain⟨fd,hf,ho,hb,Fl⟩:=Jp T L;refine ok3 T.gZ.F jj (hbody:=fun cdv A outer s H E hr=>⟨_,_,(aq (vh (is:=[3,4]) (by rfl) (CW hf ho Fl hr.dn hb (i:=0) (by rfl) (by first | exact Or.inl rfl | exact Or.inr (Or.inl rfl) | exact Or.inr (Or.inr rfl)) (aa (P3.opd (nD (by rfl) (bv 1) iZ (fj (bv 2)))) ae)) (br (bI (i:=3) jj.nd rfl (Or.inl rfl)) (br (bI (i:=4) jj.nd rfl (Or.inl rfl)) eX)) rfl)
   (aj (aw (cF (P3.opd (cF (bv 3) (bv 4))) (P3.opd (nD (by rfl) (bv 1) (fj (bv 2)) iZ)))))),fun Γa Q h hl=>?_⟩)
 obtain⟨rfl,q⟩:=h;walk_at "q1";refine⟨hO a,rfl,?_⟩;walk_at "q1";refine⟨rfl,?_⟩;walk_at "q1";exact⟨z2,z2,q⟩
theorem l9{o:Unit->Obj}(T:Txt K mg a)(L:LA base o f v):aG P w K mg base CX0 7 a.oi a.mi ["part","rows","height","width"] (sp3 K 4 (at1 [some (.fz (fO a o f v)),some (.fz (.lst [r12])),some (.fz (.int 1)),some (.fz (.int 2))] (.fr (.lst [.lst [.int 1,.int (-1)]])))):=by
 refine ok3 T.cn.F sZ (hbody:=fun cdv A outer s H E hr=>⟨_,_,(aj (aw (cF (P3.opd (cH rfl (cb (by rfl) (nD (by rfl) (bv 1) iZ (fj (bv 2)))) ja (fun _ _ _ _ _=>(bx (i:=0) ja.nd rfl (Or.inl rfl))) (fun _ _ _ _ _=>(ak (by rfl) (vG T L) hr.dn (by rfl) T.gZ.m T.gZ.F.kp T.gZ.b (aa (P3.opd (p3v 1)) (aa (P3.opd (p3v 0)) (aa (P3.opd (p3v 2)) ae))))))) (P3.opd (nD (by rfl) (bv 1) (fj (bv 2)) iZ))))),fun Γa Q h hl=>?_⟩);obtain⟨rfl,q⟩:=h;walk_at "q1";rw[show cut [r12] none (some 1)=[r12] from rfl];refine⟨small (by decide),b8 (fun k ys Γc=>ys=List.replicate k (D.lst [.int 1,.int (-1)])/\∃ s,Γc=[fo s,some (.fz (fO a o f v)),some (.fz (.int 2))]) ⟨rfl,none,rfl⟩ ?_ ?_⟩
 ·rintro k d ys Γc hd hk ⟨rfl,s,rfl⟩;obtain⟨rfl,rfl⟩:=vE hd;walk_at "q1";refine⟨rfl,?_⟩;walk_at "q1";exact⟨rfl,some _,rfl⟩
 ·rintro ys Γc hk ⟨rfl,s,rfl⟩;walk_at "q1";exact⟨bK (by decide),q⟩
theorem tu{o:Unit->Obj}(T:Txt K mg a)(L:LA base o f v):aG P w K mg base CX0 8 a.oh a.mh ["plan","part","rows","step"] (sp3 K 4 (at1 [some (.fz (pO a)),some (.fz (fO a o f v)),some (.fz (.lst [r12])),some (.fz (.int 0))] (.fr (.lst [.lst [.int 1,.int (-1)]])))):=by
 refine ok3 T.fU.F cz (hbody:=fun cdv A outer s H E hr=>⟨_,_,(aq (vh (is:=[4,5]) (by rfl) (fZ (by rfl) (bv 0) T.cc T.rZ (rS T) hr.dn T.lZ.b (aa (P3.opd (p3v 3)) ae)) (br (bI (i:=4) cz.nd rfl (Or.inl rfl)) (br (bI (i:=5) cz.nd rfl (Or.inl rfl)) eX)) rfl)
   (aq (a_ (i:=6) cz.nd rfl (Or.inl rfl) (aO (by rfl) (P3.opd (bh (by rfl) (bv 0) T.cc T.xb (w9 T) hr.dn T.qO.b)) (bv 3) (fun _ _=>rfl)))
   (aq (aX (aV (p_ (by rfl)) (bv 6) (P3.opd (hU (p:=a.bM) (zs:=["r","b"]) (by rfl) T.gk)) (by with_unfolding_all rfl)) (aj (a_ (i:=2) cz.nd rfl (Or.inl rfl) (ak (by rfl) (l9 T L) hr.dn (by rfl) T.cn.m T.cn.F.kp T.cn.b (aa (P3.opd (p3v 1)) (aa (P3.opd (p3v 2)) (aa (P3.opd (p3v 4)) (aa (P3.opd (p3v 5)) ae))))))) aK)
   (aq (aX (aV (p_ (by rfl)) (bv 6) (P3.opd (hU (p:=a.bp) (zs:=["p","b"]) (by rfl) T.dr)) (by with_unfolding_all rfl)) (aj (a_ (i:=2) cz.nd rfl (Or.inl rfl) (ak (by rfl) (ug T) hr.dn (by rfl) T.iT.m T.iT.F.kp T.iT.b (aa (P3.opd (ak (by rfl) (l9 T L) hr.dn (by rfl) T.cn.m T.cn.F.kp T.cn.b (aa (P3.opd (p3v 1)) (aa (P3.opd (ak (by rfl) (ug T) hr.dn (by rfl) T.iT.m T.iT.F.kp T.iT.b (aa (P3.opd (p3v 2)) ae))) (aa (P3.opd (p3v 5)) (aa (P3.opd (p3v 4)) ae)))))) ae)))) aK)
   (aj (aw (AX 2))))))),fun Γa Q h hl=>?_⟩)
 obtain⟨rfl,q⟩:=h;walk_at "q1";refine⟨by decide +kernel,rfl,?_⟩;walk_at "q1";refine⟨by decide +kernel,rfl,?_⟩;walk_at "q1";refine⟨by decide +kernel,114,rfl,?_⟩;dsimp only;rw[show (⟨#[114]⟩:Str)=Str.ofString "r" from by decide +kernel];walk_at "q1";refine⟨rfl,?_⟩;walk_at "q1";exact q
theorem rM{o:Unit->Obj}(T:Txt K mg a)(L:LA base o f v):aG P w K mg base CX0 9 a.mv a.kI ["plan","part","rows"] (sp3 K 3 (at1 [some (.fz (pO a)),some (.fz (fO a o f v)),some (.fz (.lst [r12]))] (.fz (.lst [.lst [.int 1,.int (-1)]])))):=by
 refine ok3 T.eV.F gE (hbody:=fun cdv A outer s H E hr=>⟨_,_,(aq (iE PassesOwn.never rfl (cD (by rfl) T.z_range (ab (bh (by rfl) (bv 0) T.cc T.md (ma T) hr.dn T.ji.b) ao)) (bx (i:=3) gE.nd rfl (Or.inl rfl))
   (aj (a_ (i:=2) gE.nd rfl (Or.inl rfl) (uf (ak (by rfl) (tu T L) hr.dn (by rfl) T.fU.m T.fU.F.kp T.fU.b (aa (P3.opd (p3v 0)) (aa (P3.opd (p3v 1)) (aa (P3.opd (p3v 2)) (aa (P3.opd (p3v 3)) ae)))))))))
   (aj (aw (AX 2)))),fun Γa Q h hl=>?_⟩)
 obtain⟨rfl,q⟩:=h;walk_at "q1";refine⟨by decide +kernel,rfl,?_⟩;walk_at "q1";refine⟨by decide,by decide,cU (fun k Γ=>(k=0/\Γ=[some (.fz (pO a)),some (.fz (fO a o f v)),some (.fz (.lst [r12])),none])\/k=1/\∃ s,Γ=[some (.fz (pO a)),some (.fz (fO a o f v)),some (.fz (.lst [.lst [.int 1,.int (-1)]])),fo s]) (.inl ⟨rfl,rfl⟩) ?_ ?_⟩
 ·rintro k d Γ hd (⟨rfl,rfl⟩ | ⟨rfl,_⟩)
  ·cases hd;walk_at "q1";refine⟨rfl,?_⟩;walk_at "q1";exact .inr ⟨rfl,some _,rfl⟩
  ·cases hd
 ·rintro Γ (⟨h,_⟩ | ⟨_,s,rfl⟩)
  ·cases h
  ·walk_at "q1";exact q
def Dy (a:Ad):S3:=fun Γ Q=>Γ=[some (.fz (pO a)),some (.fz (fD a [[1,2]]))]/\Q (.fr (fD a [[1,-1]])) Γ
theorem NV:GR 2 [[1,-1]]:=⟨by decide,by decide,by decide,by decide,by decide,by decide,fun r hr n hn=>by
 simp only[List.mem_cons,List.not_mem_nil,or_false] at hr;subst hr;simp only[List.mem_cons,List.not_mem_nil,or_false] at hn;rcases hn with rfl | rfl <;> decide⟩
theorem AZ(T:Txt K mg a)(M:k9 base a.cy qL):aG P w K mg base CX0 10 a.xy a.ph ["plan","picture"] (sp3 K 2 (Dy a)):=by
 refine okM T.m8.F t7 (hbody:=fun cdv A outer s H E hcv hr=>?_);have hcd:cdv=.ref a.ez:=hcv.trans T.Bl;refine⟨_,_,(aq (eg (ak (by rfl) (oW T) hr.dn (by rfl) T.dk.m T.dk.F.kp T.dk.b (aa (P3.opd (p3v 0)) (aa (P3.opd (p3v 1)) ae))))
   (aq (a_ (i:=2) t7.nd rfl (Or.inr rfl) (bh (by rfl) (bv 0) T.cc T.vO (vL T) hr.dn T.pA.b))
   (aj (aw (c5 T.mk_Field (aP T) hr.dn (by rfl) T.cj T.aN.b (ab (CY (i:=2) (j:=1) (nm:="rule") (fun base o f v L=>rM T L) hr.dn (by rfl) T.eV.m T.eV.F.kp T.eV.b (by rfl) (by rfl) (by rfl) rfl (aa (P3.opd (p3v 0)) (aa (P3.opd (Jd hcd (fun h X=>PySem.W.codeHd_of_K X T.Bb) M rfl)) (aa (P3.opd (bh (by rfl) (bv 1) T.aY T.cC (iH T) hr.dn T.bX.b)) ae)))) ao)))))),fun Γa Q h hl=>?_⟩
 obtain⟨rfl,q⟩:=h;walk_at "q1";refine⟨rfl,?_⟩;walk_at "q1";refine⟨by decide +kernel,rfl,?_⟩;unfold y8;walk_at "q1";unfold JC;intro o f ho;walk_at "q1";refine⟨by decide +kernel,2,[[1,2]],rfl,Gi,?_⟩;walk_at "q1";refine⟨o,f,rfl,ho,_,rfl,fun v=>?_⟩;refine⟨rfl,?_⟩;walk_at "q1";refine⟨2,[[1,-1]],rfl,NV,?_⟩;walk_at "q1";exact q
theorem L4{ys:List V}(h:ys.length=1):∃ y,ys=[y]:=by
 match ys,h with
 | [y],_=>exact⟨y,rfl⟩
theorem cf(T:Txt K mg a):aG P w K mg base CX0 1 a.bN a.dQ ["self","words"] (Ni K):=by
 refine T.aU.F.ok iX (fun vs H Q E h=>by obtain⟨e,C,dx,y,rfl,_⟩:=h;rfl) fun cdv A outer s H vs Q E hr h=>⟨_,lA (lB (CG (by rfl) T.z_ValueError (cv (cT (i:=0) rfl (.inl rfl)) (cv (cT (i:=1) rfl (.inl rfl)) jx)))),?_⟩;obtain⟨e,C,dx,y,rfl,mk,q,hQ⟩:=h;exact⟨.ref e,rfl,y,rfl,e,C,dx,y,rfl,mk,q,hQ⟩
theorem lP(T:Txt K mg a):aG P w K mg base CX0 2 a.dG a.fQ ["self","found"] (Az K a.bu ["found"]):=by
 refine T.gC.F.ok lM (fun vs H Q E h=>by obtain⟨e,ys,rfl,hl,_⟩:=h;simpa using hl) fun cdv A outer s H vs Q E hr h=>⟨_,eh (lB (vA (E:=E0) (ds:=[]) (dvs:=[]) T.JZ T.J5 T.J6 T.aU.F.kp (by rfl) T.ey (cf T) hr T.aU.b .nil kC (cv (cT (i:=0) rfl (.inl rfl)) (cv rG jx))))
  (lA (qC (cT (i:=0) rfl (.inl rfl)) (cT (i:=1) rfl (.inl rfl)) (by rfl))),?_⟩
 obtain⟨e,ys,rfl,hl,q,hQ⟩:=h;obtain⟨y,rfl⟩:=L4 hl;exact⟨.ref e,rfl,e,a.bu,none,_,rfl,T.cK.xm.makes,q,y,rfl,.ref e,rfl,e,a.bu,rfl,T.cK.cl,T.cK.tk _ (.head _),.inl ⟨q,fun d hd ne=>hQ d hd ne⟩⟩
theorem kE(T:Txt K mg a):aG P w K mg base CX0 2 a.c9 a.fv ["self","place"] (Az K a.aZ ["place"]):=by
 refine T.fM.F.ok ke (fun vs H Q E h=>by obtain⟨e,ys,rfl,hl,_⟩:=h;simpa using hl) fun cdv A outer s H vs Q E hr h=>⟨_,eh (lB (vA (E:=E0) (ds:=[]) (dvs:=[]) T.JZ T.J5 T.J6 T.aU.F.kp (by rfl) T.ey (cf T) hr T.aU.b .nil kC (cv (cT (i:=0) rfl (.inl rfl)) (cv rG jx))))
  (lA (qC (cT (i:=0) rfl (.inl rfl)) (cT (i:=1) rfl (.inl rfl)) (by rfl))),?_⟩
 obtain⟨e,ys,rfl,hl,q,hQ⟩:=h;obtain⟨y,rfl⟩:=L4 hl;exact⟨.ref e,rfl,e,a.aZ,none,_,rfl,T.cJ.xm.makes,q,y,rfl,.ref e,rfl,e,a.aZ,rfl,T.cJ.cl,T.cJ.tk _ (.head _),.inl ⟨q,fun d hd ne=>hQ d hd ne⟩⟩
theorem NC{ys:List V}(h:ys.length=2):∃ y z,ys=[y,z]:=by
 match ys,h with
 | [y,z],_=>exact⟨y,z,rfl⟩
theorem hpO{Q₁:VS}{E₁:VS}:PassesOwn M A env (fun e s'=>wpAny M A (leaving env e) (fun _ s''=>Q₁ e s'') E₁ s'):=PassesOwn.leaving
noncomputable def nfX (a:Ad) (d:D):XD:=⟨a.bu,["found"],[d]⟩
abbrev NF (a:Ad) (d:D):Prop:=C1 [a.aH,a.aM] a.aD d=some false
noncomputable def MK (a:Ad):S3X:=fun Γ Q W=>∃ (d:D),Γ=[some (.fz d)]/\((NF a d/\W (nfX a d) Γ)\/∃ G,d=fD a G/\Q (.fz .non) Γ)
theorem i4(T:Txt K mg a):aG P w K mg base (CX1 P w base) 5 a.iK a.gO ["thing"] (u9 K 1 (MK a)):=by
 refine FH T.bg.F kc (hbody:=fun cdv A outer s H E hr=>⟨_,_,(fun B F0 W xr=>(j9 (BK (bw (a9 (aB (Eb (by rfl) T.xj (al2 T.se T.zW)) (by rfl) T.z_isinstance (by decide +kernel) (aa (bv 0) (aa (P3.opd (nE (by rfl) T.cj)) ae))))) (j9 (qP (by rfl) xr T.cK.xm (lP T) hr.dn (by rfl) T.r9 T.gC.b vo (by decide) (ab (p3v 0) ao))) (aK).x))),fun Γa Q W3 h hl=>?_⟩);obtain⟨d,rfl,⟨hd,q⟩ | ⟨G,rfl,q⟩⟩:=h
 ·walk_at "q1";refine⟨false,hd,?_⟩;walk_at "q1";exact q
 ·walk_at "q1";refine⟨true,by simp [C1,C4],?_⟩;walk_at "q1";exact q
theorem EH{d e:Addr}{f g:Str}{y z:V}(ne:d≠e)(hp:gX g z [(f,y)]=[(f,y),(g,z)]):upd (upd (upd H d (XdO d [(f,y)])) e (dM e C (some d))) d (XdO d (gX g z [(f,y)]))=upd (upd H d (XdO d [(f,y),(g,z)])) e (dM e C (some d)):=by
 funext b
 by_cases h1:b=d
 ·subst h1;rw[ar,ah ne,ar,hp]
 ·rw[ah h1];by_cases h2:b=e
  ·subst h2;rw[ar,ar]
  ·rw[ah h2,ah h2,ah h1,ah h1]
theorem mS(T:Txt K mg a):aG P w K mg base CX0 2 a.eC a.gP ["self","one","other"] (Az K a.bH ["one","other"]):=by
 refine T.g7.F.ok mE (fun vs H Q E h=>by obtain⟨e,ys,rfl,hl,_⟩:=h;simpa using hl) fun cdv A outer s H vs Q E hr h=>⟨_,eh (lB (vA (E:=E0) (ds:=[]) (dvs:=[]) T.JZ T.J5 T.J6 T.aU.F.kp (by rfl) T.ey (cf T) hr T.aU.b .nil kC (cv (cT (i:=0) rfl (.inl rfl)) (cv rG jx))))
  (eh (qC (cT (i:=0) rfl (.inl rfl)) (cT (i:=1) rfl (.inl rfl)) (by rfl)) (lA (qC (cT (i:=0) rfl (.inl rfl)) (cT (i:=2) rfl (.inl rfl)) (by rfl)))),?_⟩
 obtain⟨e,ys,rfl,hl,q,hQ⟩:=h;obtain⟨y,z,rfl⟩:=NC hl;have x:=T.gq;refine⟨.ref e,rfl,e,a.bH,none,_,rfl,x.xm.makes,q,y,rfl,.ref e,rfl,e,a.bH,rfl,x.cl,x.tk _ (.head _),.inl ⟨q,fun d hd ne=>⟨z,rfl,.ref e,rfl,e,a.bH,rfl,x.cl,x.tk _ (.tail _ (.head _)),.inr ⟨d,[("one",y)],ar,?_,ne,(show 1 < 1000 by decide),?_⟩⟩⟩⟩
 ·rw[ah ne,ar]
 ·have:=hQ d hd ne;rw[EH ne rfl];exact this
noncomputable def unX (a:Ad) (d d':D):XD:=⟨a.bH,["one","other"],[d,d']⟩
noncomputable def MH (a:Ad):S3X:=fun Γ Q W=>∃ (w:Nat) (R:LL0) (d:D),Γ=[some (.fz (fD a R)),some (.fz d)]/\GR w R/\((NF a d/\W (nfX a d) Γ)\/∃ (u:Nat) (S:LL0),d=fD a S/\GR u S/\
 ((R.length≠S.length\/w≠u)->W (unX a (pD R.length w) (pD S.length u)) Γ)/\((R.length=S.length/\w=u)->Q (.fz .non) Γ))
theorem ql(T:Txt K mg a):aG P w K mg base (CX1 P w base) 6 a.jB a.iI ["plan","thing"] (u9 K 2 (MH a)):=by
 refine FH T.bW.F l5 (hbody:=fun cdv A outer s H E hr=>⟨_,_,(fun B F0 W xr=>(m_ (uX (nc (by rfl) xr (i4 T) (e9.of zJ) hr.dn (by rfl) T.bg.m T.bg.F.kp T.bg.b (aa (P3.opd (p3v 1)) ae)))
   (j9 (BK (aV (eR (by rfl) hr) (P3.opd (ak (by rfl) (eM T) hr.dn (by rfl) T.a8.m T.a8.F.kp T.a8.b (aa (P3.opd (p3v 0)) ae))) (P3.opd (ak (by rfl) (eM T) hr.dn (by rfl) T.a8.m T.a8.F.kp T.a8.b (aa (P3.opd (p3v 1)) ae))) (ba _)) (j9 (qP (by rfl) xr T.gq.xm (mS T) hr.dn (by rfl) T.um T.g7.b vo (by decide) (ab (ak (by rfl) (eM T) hr.dn (by rfl) T.a8.m T.a8.F.kp T.a8.b (aa (P3.opd (p3v 0)) ae)) (ab (ak (by rfl) (eM T) hr.dn (by rfl) T.a8.m T.a8.F.kp T.a8.b (aa (P3.opd (p3v 1)) ae)) ao)))) (aK).x)))),fun Γa Q W3 h hl=>?_⟩)
 obtain⟨w,R,d,rfl,g,⟨hd,q⟩ | ⟨u,S,rfl,gs,q1,q2⟩⟩:=h
 ·walk_at "q1";refine⟨d,rfl,.inl ⟨hd,?_⟩⟩;walk_at "q1";exact q
 ·walk_at "q1";refine⟨_,rfl,.inr ⟨S,rfl,?_⟩⟩;walk_at "q1";refine⟨_,_,_,rfl,.inr ⟨w,R,rfl,g,rfl,rfl⟩,?_⟩;walk_at "q1";refine⟨_,_,_,rfl,.inr ⟨u,S,rfl,gs,rfl,rfl⟩,?_⟩;walk_at "q1";refine⟨decide (R.length=S.length/\w=u),Hi,?_⟩;by_cases z:R.length=S.length/\w=u
  ·rw[decide_eq_true z];walk_at "q1";exact q2 z
  ·rw[decide_eq_false z];walk_at "q1";refine⟨_,_,_,rfl,.inr ⟨w,R,rfl,g,rfl,rfl⟩,?_⟩;walk_at "q1";refine⟨_,_,_,rfl,.inr ⟨u,S,rfl,gs,rfl,rfl⟩,?_⟩;walk_at "q1";exact q1 (by lia)
noncomputable def gat (R:LL0) (y x:Nat):Int:=(R.getD y []).getD x 0
noncomputable def jA (h w:Nat) (f:Nat->Nat->Int):LL0:=(List.range h).map fun y=>(List.range w).map (f y)
theorem dh{h w:Nat}{f:Nat->Nat->Int}:(jA h w f).length=h:=by simp [jA]
theorem fm{h w:Nat}{f:Nat->Nat->Int}{y:Nat}(hy:y < h):(jA h w f)[y]?=some ((List.range w).map (f y)):=by
 unfold jA;rw[List.getElem?_map,List.getElem?_range hy];rfl
theorem oV{w:Nat}{f:Nat->Int}{x:Nat}(hx:x < w):((List.range w).map f)[x]?=some (f x):=by
 rw[List.getElem?_map,List.getElem?_range hx];rfl
theorem GR.at'{w:Nat}{R:LL0}(g:GR w R){y x:Nat}(hy:y < R.length)(hx:x < w):∃ r,R[y]?=some r/\r[x]?=some (gat R y x):=by
 obtain⟨r,hr,lr,_⟩:=g.row hy;refine⟨r,hr,?_⟩;have e:R.getD y []=r:=by rw[List.getD_eq_getElem?_getD,hr];rfl
 unfold gat
 rw[e,List.getD_eq_getElem?_getD,gE0 (by lia)];rfl
theorem GR.jA{w:Nat}{R:LL0}(g:GR w R):R=K71.jA R.length w (gat R):=by
 refine List.ext_getElem? fun y=>?_;by_cases hy:y < R.length
 ·obtain⟨r,hr,lr,_⟩:=g.row hy;rw[fm hy,hr]
  congr 1
  refine List.ext_getElem? fun x=>?_;by_cases hx:x < w
  ·obtain⟨r',hr',h2⟩:=g.at' hy hx;rw[hr] at hr';cases hr';rw[oV hx,h2]
  ·rw[List.getElem?_eq_none (by lia),List.getElem?_eq_none (by simp;lia)]
 ·rw[List.getElem?_eq_none (by lia),List.getElem?_eq_none (by rw[dh];lia)]
theorem nR{h w:Nat}{f f':Nat->Nat->Int}(e:∀ y x,y < h->x < w->f y x=f' y x):jA h w f=jA h w f':=by
 unfold jA;refine List.map_congr_left fun y hy=>List.map_congr_left fun x hx=>e y x (by simpa using hy) (by simpa using hx)
theorem DC{h w:Nat}{f:Nat->Nat->Int}{y x:Nat}{v:Int}:(jA h w f).set y (((List.range w).map (f y)).set x v)=jA h w fun y' x'=>if y'=y/\x'=x then v else f y' x':=by
 refine List.ext_getElem? fun y'=>?_;by_cases hy:y' < h
 ·rw[fm hy];by_cases e:y=y'
  ·subst e;rw[List.getElem?_set_self (by rw[dh];exact hy)]
   congr 1
   refine List.ext_getElem? fun x'=>?_;by_cases hx:x' < w
   ·rw[oV hx];by_cases e2:x=x'
    ·subst e2;rw[List.getElem?_set_self (by simpa using hx),if_pos ⟨rfl,rfl⟩]
    ·rw[List.getElem?_set_ne e2,oV hx,if_neg (fun z=>e2 z.2.symm)]
   ·rw[List.getElem?_eq_none (by simp;lia),List.getElem?_eq_none (by simp;lia)]
  ·rw[List.getElem?_set_ne e,fm hy]
   congr 1
   refine List.map_congr_left fun x' _=>?_;rw[if_neg (fun z=>e z.1.symm)]
 ·rw[List.getElem?_eq_none (by rw[List.length_set,dh];lia),List.getElem?_eq_none (by rw[dh];lia)]
noncomputable def cur (R S:LL0) (w k:Nat):LL0:=jA R.length w fun y x=>if y * w + x < k then gat R y x + gat S y x else gat R y x
theorem KY{w y x y' x':Nat}(hx:x < w)(hx':x' < w)(z:y * w + x=y' * w + x'):y=y'/\x=x':=by
 have h1:y=y':=by
  have a:=congrArg (· / w) z;simpa [Nat.mul_comm _ w,Nat.mul_add_div (show 0 < w by lia),Nat.div_eq_of_lt hx',Nat.div_eq_of_lt hx] using a
 subst h1;exact⟨rfl,by lia⟩
theorem MG{w:Nat}{R S:LL0}(g:GR w R):cur R S w 0=R:=by
 conv=>rhs;rw[g.jA]
 exact nR fun y x _ _=>if_neg (by lia)
theorem MF{w:Nat}{R S:LL0}{y x:Nat}(hx:x < w)(hk:y * w + x=k):(cur R S w k).set y (((List.range w).map fun x=>if y * w + x < k then gat R y x + gat S y x else gat R y x).set x (gat R y x + gat S y x))=cur R S w (k + 1):=by
 unfold cur;rw[DC];refine nR fun y' x' _ hx'=>?_;by_cases e:y'=y/\x'=x
 ·obtain⟨rfl,rfl⟩:=e;rw[if_pos ⟨rfl,rfl⟩,if_pos (by lia)]
 ·rw[if_neg e];have ne:y' * w + x'≠k:=fun z=>by
   rw[<- hk] at z;have h1:y'=y:=by
    have a:=congrArg (· / w) z;simpa [Nat.mul_comm _ w,Nat.mul_add_div (show 0 < w by lia),Nat.div_eq_of_lt hx',Nat.div_eq_of_lt hx] using a
   subst h1;exact e ⟨rfl,by lia⟩
  by_cases l:y' * w + x' < k
  ·rw[if_pos l,if_pos (by lia)]
  ·rw[if_neg l,if_neg (by lia)]
theorem Gx{w:Nat}{R S:LL0}:cur R S w (R.length * w)=jA R.length w fun y x=>gat R y x + gat S y x:=by
 refine nR fun y x hy hx=>if_pos ?_;have:(y + 1) * w<=R.length * w:=Nat.mul_le_mul_right w hy;rw[Nat.add_mul,Nat.one_mul] at this;lia
theorem CB {w k:Nat} {d:D}:∀ {h:Nat},(pls h w)[k]?=some d->∃ y x:Nat,y < h/\x < w/\d=pD y x/\y * w + x=k
 | 0,e=>by simp [pls] at e
 | h + 1,e=>by
  rw[show pls (h + 1) w=pls h w++vt w h from pb.symm] at e;by_cases lt:k < h * w
  ·rw[List.getElem?_append_left (by rw[jw];exact lt)] at e;obtain⟨y,x,h1,h2,h3,h4⟩:=CB e;exact⟨y,x,by lia,h2,h3,h4⟩
  ·rw[List.getElem?_append_right (by rw[jw];lia),jw] at e;have hx:=sd e;rw[rE] at hx;unfold vt at e;rw[List.getElem?_map,List.getElem?_range hx] at e;cases e;exact⟨h,k - h * w,by lia,hx,rfl,by lia⟩
noncomputable def okN (n:Int):Bool:=whD (.int n) (-999999999999999) 999999999999999
noncomputable def tgX (a:Ad) (y x:Nat):XD:=⟨a.aZ,["place"],[pD y x]⟩
section
variable {c:D->Sl}{ds zs:List D}{pre T:G}{y:Nat}
theorem Eo{N:Addr->Nat->Nat->Int->Prop}{t:Tag N}{k v:Int}(h:Γ=pre++tlG (gh c p ds qs xss++T))(hp:pre.length=L)(hc:c=Sl.ow\/c=Sl.ln)(hq:qs[y]?=some q)(hx:xss[y]?=some xs)(hk:ob=some (.int k))(h0:0<=k)(hn:ixN xs.length k=some n)(hv:xs[n]?=some (.int v))(hN:N q xs.length n v):GG (L + (1 + y)) ob Γ N t:=by
 subst h;exact Kx (lH hp (sj hc hq hx)) hk h0 hn hv hN
theorem Em{N:G->Prop}{t:Tag N}{x v:Int}{l:Nat}(h:Γ=pre++tlG (gh c p ds qs xss++T))(hp:pre.length=L)(hc:c=Sl.ow\/c=Sl.ln)(hq:qs[y]?=some q)(hx:xss[y]?=some xs)(hl:xs.length=l)(hN:N (pre++tlG (gh c p ds qs (xss.set y (xs.set n (.int (x + v))))++T))):MU (L + (1 + y)) q l n x (.fz (.int v)) Γ N t:=by
 subst h;refine⟨v,xs,rfl,lH hp (sj hc hq hx),hl,?_⟩;rw[wQ hp,zG hc hq (gS0 hx).1];exact hN
end
theorem nU{w:Nat}{R:LL0}{f:Nat->Nat->Int}(g:GR w R)(hf:∀ y x,y < R.length->x < w->okN (f y x)=true):GR w (jA R.length w f):=by
 refine⟨by rw[dh];exact g.h1,by rw[dh];exact g.h2,g.w1,g.w2,by rw[dh];exact g.all,fun r hr=>?_,fun r hr n hn=>?_⟩
 ·obtain⟨y,hy,rfl⟩:=List.mem_map.mp hr;simp
 ·obtain⟨y,hy,rfl⟩:=List.mem_map.mp hr;obtain⟨x,hx,rfl⟩:=List.mem_map.mp hn;have:=hf y x (List.mem_range.mp hy) (List.mem_range.mp hx);simp only[okN,whD,Bool.and_eq_true,decide_eq_true_eq] at this;lia
noncomputable def Ld (a:Ad):S3X:=fun Γ Q W=>∃ (w:Nat) (R S:LL0),Γ=[some (.fz (fD a R)),some (.fz (fD a S)),some (.fz (.int 999999999999999))]/\GR w R/\GR w S/\S.length=R.length/\
 ((∀ y x,y < R.length->x < w->okN (gat R y x + gat S y x)=true)->Q (.fr (fD a (jA R.length w fun y x=>gat R y x + gat S y x))) Γ)/\
 ∀ y x,y < R.length->x < w->(∀ y' x',y' < R.length->x' < w->y' * w + x' < y * w + x->okN (gat R y' x' + gat S y' x')=true)->okN (gat R y x + gat S y x)=false->W (tgX a y x) Γ
theorem wY(T:Txt K mg a):aG P w K mg base (CX1 P w base) 7 a.xw a.uA ["one","other","most"] (u9 K 3 (Ld a)):=by
 refine FH T.m7.F lh (hbody:=fun cdv A outer s H E hr=>⟨_,_,(fun B F0 W xr=>(EC 6 6 3 (by decide) (by decide) (vw rfl AS) (a_ (i:=3) lh.nd rfl (Or.inl rfl) (bh (by rfl) (bv 0) T.aY T.cC (fF T) hr.dn T.bX.b)) (bh (by rfl) (bv 0) T.aY T.cC (fF T) hr.dn T.bX.b)
   (m_ (Ia hpO rfl (cb (by rfl) (bh (by rfl) (bv 0) T.aY T.jM (jL T) hr.dn T.gD.b)) (mW (is:=[4,5]) (by rfl) (br (bI (i:=4) lh.nd rfl (Or.inl rfl)) (br (bI (i:=5) lh.nd rfl (Or.inl rfl)) eX)) rfl)
   (m_ (P3S.x (EU (bA (aO (by rfl) (bA (p3v 3)) (bv 4) (fun _ _=>rfl))) (bv 5) (fZ (by rfl) (bv 1) T.aY T.pJ (pI T) hr.dn T.mz.b (aa (P3.opd (bB (ab (p3v 4) (ab (p3v 5) ao)))) ae))))
   (j9 (BK (bw (a9 (ak (by rfl) (cm T) hr.dn (by rfl) T.aI.m T.aI.F.kp T.aI.b (aa (P3.opd (aO (by rfl) (bA (aO (by rfl) (bA (p3v 3)) (bv 4) (fun _ _=>rfl))) (bv 5) (fun _ _=>rfl))) (aa (P3.opd (rK (bv 2))) (aa (P3.opd (p3v 2)) ae)))))) (j9 (qP (by rfl) xr T.cJ.xm (kE T) hr.dn (by rfl) T.pK T.fM.b vo (by decide) (ab (bB (ab (p3v 4) (ab (p3v 5) ao))) ao))) (aK).x))))
   (j6.x (Hf (aj (aw (c5 T.mk_Field (aP T) hr.dn (by rfl) T.cj T.aN.b (ab (p3v 3) ao))))))))),fun Γa Q W3 h hl=>?_⟩)
 obtain⟨w,R,S,rfl,g,gs,hl2,q,qx⟩:=h;have g2:=g.h2;rw[Ay];walk_at "q1";refine⟨by decide +kernel,w,R,rfl,g,?_⟩;walk_at "q1";refine zF (pre:=[_,_,_,_,_,_]) (T:=tlE) (m:=65) rfl rfl (by decide) trivial (by rw[lM0];lia) fun p qs hl=>?_;rw[lM0] at hl;walk_at "q1";refine⟨by decide +kernel,w,R,rfl,g,?_⟩;walk_at "q1";refine cU (fun k Γ=>(∀ y' x',y' < R.length->x' < w->y' * w + x' < k->okN (gat R y' x' + gat S y' x')=true)/\∃ s s',Γ=some (.fz (fD a R))::some (.fz (fD a S))::some (.fz (.int 999999999999999))::some (.fz (.adr p))::fo s::fo s'::tlG (gh .ow p (qs.map D.adr) qs (iR (cur R S w k))++(nn (65 - (qs.length + 1))++tlE))) ⟨fun _ _ _ _ z=>absurd z (Nat.not_lt_zero _),none,none,by rw[MG g];rfl⟩ ?_ ?_
 ·rintro k d Γ hd ⟨ok,s,s',rfl⟩;obtain⟨y,x,hy,hx,rfl,hk⟩:=CB hd;obtain⟨q0,hq0⟩:∃ q0,qs[y]?=some q0:=⟨_,gE0 (by rw[hl];exact hy)⟩;have hc:(iR (cur R S w k))[y]?=some (((List.range w).map fun x=>if y * w + x < k then gat R y x + gat S y x else gat R y x).map D.int):=by rw[List.getElem?_map,cur,fm hy];rfl
  obtain⟨rs,hs1,hs2⟩:=gs.at' (y:=y) (by lia) hx;walk_at "q1";refine sR (pre:=[_,_,_,_,_,_]) rfl rfl (.inl rfl) ?_;walk_at "q1";refine dP.mpr ⟨.adr q0,bR (by lia) (by rw[List.getElem?_map,Int.toNat_natCast,hq0];rfl),?_⟩;walk_at "q1";refine sS (pre:=[_,_,_,_,_,_]) rfl rfl (.inl rfl) hq0 hc ?_;walk_at "q1";have hv:(((List.range w).map fun x=>if y * w + x < k then gat R y x + gat S y x else gat R y x).map D.int)[x]?=some (.int (gat R y x)):=by
   rw[List.getElem?_map,oV hx,if_neg (by lia)];rfl
  refine Eo (pre:=[_,_,_,_,_,_]) rfl rfl (.inl rfl) hq0 hc rfl (by lia) (zY (by simpa using hx)) hv ?_;walk_at "q1";refine⟨by decide +kernel,by rw[sizeLine_eq];lia,w,S,y,x,rs,_,rfl,gs,hs1,hs2,?_⟩;walk_at "q1";refine Em (pre:=[_,_,_,_,_,_]) rfl rfl (.inl rfl) hq0 hc rfl ?_;rw[show (iR (cur R S w k)).set y ((((List.range w).map fun x=>if y * w + x < k then gat R y x + gat S y x else gat R y x).map D.int).set x (.int (gat R y x + gat S y x)))=iR (cur R S w (k + 1)) by rw[<- MF (R:=R) (S:=S) hx hk,iR,iR,List.map_set,List.map_set]];have hc2:(iR (cur R S w (k + 1)))[y]?=some (((List.range w).map fun x=>if y * w + x < k + 1 then gat R y x + gat S y x else gat R y x).map D.int):=by rw[List.getElem?_map,cur,fm hy];rfl
  have hv2:(((List.range w).map fun x=>if y * w + x < k + 1 then gat R y x + gat S y x else gat R y x).map D.int)[x]?=some (.int (gat R y x + gat S y x)):=by
   rw[List.getElem?_map,oV hx,if_pos (by lia)];rfl
  walk_at "q1";refine sR (pre:=[_,_,_,_,_,_]) rfl rfl (.inl rfl) ?_;walk_at "q1";refine dP.mpr ⟨.adr q0,bR (by lia) (by rw[List.getElem?_map,Int.toNat_natCast,hq0];rfl),?_⟩;walk_at "q1";refine sS (pre:=[_,_,_,_,_,_]) rfl rfl (.inl rfl) hq0 hc2 ?_;walk_at "q1";have hg:(some (Sl.fz (fD a R))::some (Sl.fz (fD a S))::some (Sl.fz (D.int 999999999999999))::some (Sl.fz (D.adr p))::some (Sl.fz (D.int (y:Int)))::some (Sl.fz (D.int (x:Int)))::tlG (gh Sl.ow p (qs.map D.adr) qs (iR (cur R S w (k + 1)))++(nn (65 - (qs.length + 1))++tlE)))[6 + (1 + y)]?=some (some (Sl.ow (.cel q0 (((List.range w).map fun x=>if y * w + x < k + 1 then gat R y x + gat S y x else gat R y x).map D.int)))):=
   (lI (pre:=[_,_,_,_,_,_]) (T:=tlG _) rfl).trans (xn hq0 hc2)
  refine dP.mpr ⟨_,by rw[hg],?_⟩;walk_at "q1";refine dP.mpr ⟨_,bR (by lia) (by rw[Int.toNat_natCast];exact hv2),?_⟩;walk_at "q1";refine⟨_,_,_,rfl,rfl,?_⟩;cases hb:whD (.int (gat R y x + gat S y x)) (-999999999999999) 999999999999999 with
  | true=>
   walk_at "q1";refine⟨fun y' x' h1 h2 h3=>?_,some _,some _,rfl⟩;by_cases e:y' * w + x' < k
   ·exact ok y' x' h1 h2 e
   ·have ek:y' * w + x'=y * w + x:=by lia
    have h4:y'=y:=by
     have z:=congrArg (· / w) ek;simpa [Nat.mul_comm _ w,Nat.mul_add_div (show 0 < w by lia),Nat.div_eq_of_lt h2,Nat.div_eq_of_lt hx] using z
    subst h4;have h5:x'=x:=by lia
    subst h5;exact hb
  | false=>
   walk_at "q1";exact⟨by rw[sizeLine_eq];lia,qx y x hy hx (fun y' x' h1 h2 h3=>ok y' x' h1 h2 (by lia)) hb⟩
 ·rintro Γ ⟨ok,s,s',rfl⟩;rw[jw] at ok;rw[jw,Gx];have okA:∀ y x,y < R.length->x < w->okN (gat R y x + gat S y x)=true:=fun y x hy hx=>ok y x hy hx (by
   have z:(y + 1) * w<=R.length * w:=Nat.mul_le_mul_right w hy;rw[Nat.add_mul,Nat.one_mul] at z;lia)
  walk_at "q1";refine BM (wkR (i:=3) (L:=6) (pre:=[_,_,_,_,_,_]) rfl (by decide) rfl (by rw[lM0,dh];exact hl)) ?_;walk_at "q1";refine⟨w,jA R.length w fun y x=>gat R y x + gat S y x,by simp [iR,rD,il],nU g okA,?_⟩;walk_at "q1";exact q okA
noncomputable abbrev cM (R S:LL0) (w:Nat):LL0:=jA R.length w fun y x=>gat R y x + gat S y x
noncomputable def ok2 (R S:LL0) (y x:Nat):Bool:=okN (gat R y x + gat S y x)
inductive oH (w u:Nat) (R S:LL0):RV->Prop where
 | unlike (h:R.length≠S.length\/w≠u):oH w u R S (.fz (.lst [.str "unlike",pD R.length w,pD S.length u]))
 | great (h:R.length=S.length/\w=u) (y x:Nat) (hy:y < R.length) (hx:x < w) (ok:∀ y' x',y' < R.length->x' < w->y' * w + x' < y * w + x->ok2 R S y' x'=true) (bad:ok2 R S y x=false):oH w u R S (.fz (.lst [.str "great",pD y x]))
 | told (h:R.length=S.length/\w=u) (ok:∀ y x,y < R.length->x < w->ok2 R S y x=true):oH w u R S (.tol "told" (((cM R S w).getD 0 []).map D.int) (((cM R S w).drop 1).map il))
theorem oH.one{w u:Nat}{R S:LL0}{r':RV}(h:oH w u R S r)(h':oH w u R S r'):r=r':=by
 cases h with
 | unlike h=>
  cases h' with
  | unlike _=>rfl
  | great h2=>lia
  | told h2=>lia
 | great h y x hy hx ok bad=>
  cases h' with
  | unlike h2=>lia
  | great h2 y' x' hy' hx' ok' bad'=>
   have e:y * w + x=y' * w + x':=by
    by_cases l:y * w + x < y' * w + x'
    ·rw[ok' y x hy hx l] at bad;cases bad
    ·by_cases l2:y' * w + x' < y * w + x
     ·rw[ok y' x' hy' hx' l2] at bad';cases bad'
     ·lia
   obtain⟨rfl,rfl⟩:=KY hx hx' e
   rfl
  | told h2 ok'=>rw[ok' y x hy hx] at bad;cases bad
 | told h ok=>
  cases h' with
  | unlike h2=>lia
  | great h2 y' x' hy' hx' ok' bad'=>rw[ok y' x' hy' hx'] at bad';cases bad'
  | told _ _=>rfl
theorem uY{R S:LL0}{w:Nat}:(cM R S w).length=R.length:=dh
theorem sum_rows{R S:LL0}{w:Nat}(h:1<=R.length):iR (cM R S w)=((cM R S w).getD 0 []).map D.int::iR ((cM R S w).drop 1):=by
 have l:(cM R S w).length=R.length:=uY;cases e:cM R S w with
 | nil=>rw[e] at l;simp at l;lia
 | cons r rs=>simp [iR]
theorem qR{R S:LL0}{w:Nat}(h:1<=R.length):RV.d (.tol "told" (((cM R S w).getD 0 []).map D.int) (((cM R S w).drop 1).map il))=.lst [.str "told",rD (cM R S w)]:=by
 have l:(cM R S w).length=R.length:=uY;cases e:cM R S w with
 | nil=>rw[e] at l;simp at l;lia
 | cons r rs=>rfl
noncomputable def KJ (a:Ad):S3X:=fun Γ Q W=>∃ (d d':D),Γ=[some (.fz d),some (.fz d')]/\((NF a d/\W (nfX a d) Γ)\/∃ (w:Nat) (R:LL0),d=fD a R/\GR w R/\((NF a d'/\W (nfX a d') Γ)\/∃ (u:Nat) (S:LL0),d'=fD a S/\GR u S/\
 ((R.length≠S.length\/w≠u)->W (unX a (pD R.length w) (pD S.length u)) Γ)/\((R.length=S.length/\w=u)->((∀ y x,y < R.length->x < w->ok2 R S y x=true)->Q (.fr (fD a (cM R S w))) Γ)/\
 ∀ y x,y < R.length->x < w->(∀ y' x',y' < R.length->x' < w->y' * w + x' < y * w + x->ok2 R S y' x'=true)->ok2 R S y x=false->W (tgX a y x) Γ)))
theorem yr(T:Txt K mg a):aG P w K mg base (CX1 P w base) 8 a.Aa a.xu ["one","other"] (u9 K 2 (KJ a)):=by
 refine FH T.qz.F Cc (hbody:=fun cdv A outer s H E hr=>⟨_,_,(fun B F0 W xr=>(m_ (uX (nc (by rfl) xr (i4 T) (e9.of zJ) hr.dn (by rfl) T.bg.m T.bg.F.kp T.bg.b (aa (P3.opd (p3v 0)) ae)))
   (m_ (uX (nc (by rfl) xr (ql T) (e9.of zJ) hr.dn (by rfl) T.bW.m T.bW.F.kp T.bW.b (aa (P3.opd (p3v 0)) (aa (P3.opd (p3v 1)) ae))))
   (j9 (BJ (nc (by rfl) xr (wY T) (e9.of zJ) hr.dn (by rfl) T.m7.m T.m7.F.kp T.m7.b (aa (P3.opd (p3v 0)) (aa (P3.opd (p3v 1)) (aa (P3.opd (f_ (i:=999999999999999) (by rfl) T.iP)) ae))))))))),fun Γa Q W3 h hl=>?_⟩)
 obtain⟨d,d',rfl,⟨hd,q⟩ | ⟨w,R,rfl,g,⟨hd,q⟩ | ⟨u,S,rfl,gs,q1,q2⟩⟩⟩:=h
 ·walk_at "q1";refine⟨d,rfl,.inl ⟨hd,?_⟩⟩;walk_at "q1";exact q
 ·walk_at "q1";refine⟨_,rfl,.inr ⟨R,rfl,?_⟩⟩;walk_at "q1";refine⟨w,R,d',rfl,g,.inl ⟨hd,?_⟩⟩;walk_at "q1";exact q
 ·walk_at "q1";refine⟨_,rfl,.inr ⟨R,rfl,?_⟩⟩;walk_at "q1";refine⟨w,R,_,rfl,g,.inr ⟨u,S,rfl,gs,fun z=>?_,fun z=>?_⟩⟩
  ·walk_at "q1";exact q1 z
  ·obtain⟨q3,q4⟩:=q2 z;obtain⟨z1,rfl⟩:=z;walk_at "q1";refine⟨w,R,S,rfl,g,gs,z1.symm,fun ok=>?_,fun y x hy hx ok bad=>?_⟩
   ·walk_at "q1";exact q3 ok
   ·walk_at "q1";exact q4 y x hy hx ok bad
theorem Ie(x:tL K U C):C=U\/PySem.W.mroIn K C (.ref U)=some true:=by
 obtain⟨cd,rest,h1,h2,h3,h4,_⟩:=x.mro;rcases h4 with rfl | h4
 ·exact .inl rfl
 ·refine .inr ?_;unfold PySem.W.mroIn;rw[h1,Option.bind_some,if_neg (by rw[h2];simp),h2]
  congr 1
  exact List.contains_iff_mem.mpr (List.mem_cons_of_mem _ h4)
structure Thr (K:Fg0) (a:Ad) (C:Addr) (i:Nat):Prop where
 is:XIs K C
 gt:tM K C
 mr:PySem.W.mroIn K C (.ref a.av)=some true
 n:PySem.W.kitOne K (.ref C) (.ref a.bu)=some (decide (0=i))
 p:PySem.W.kitOne K (.ref C) (.ref a.bH)=some (decide (1=i))
 r:PySem.W.kitOne K (.ref C) (.ref a.aZ)=some (decide (2=i))
theorem xU(T:Txt K mg a)(h:[a.bu,a.bH,a.aZ][i]?=some C):Thr K a C i:=by
 have nd:=Dc T.xnd;have hu:∀ C∈[a.bu,a.bH,a.aZ],tL K a.av C:=fun C hC=>by
  simp only[List.mem_cons,List.not_mem_nil,or_false] at hC;rcases hC with rfl | rfl | rfl
  ·exact T.cK.un
  ·exact T.gq.un
  ·exact T.cJ.un
 have hm:=List.mem_of_getElem? h;have is:XIs K C:=by
  simp only[List.mem_cons,List.not_mem_nil,or_false] at hm;rcases hm with rfl | rfl | rfl
  ·exact T.cK.is
  ·exact T.gq.is
  ·exact T.cJ.is
 exact⟨is,⟨is.ga,is.gh,is.hd,is.ex⟩,(Ie (hu C hm)).resolve_left fun z=>(List.nodup_cons.mp nd).1 (z ▸ hm),vR nd hu (i:=0) rfl h,vR nd hu (i:=1) rfl h,vR nd hu (i:=2) rfl h⟩
def BU (a:Ad):S3:=fun Γ Q=>∃ (d d':D),Γ=[some (.fz d),some (.fz d')]/\((NF a d/\Q (.fz (.lst [.str "field",d])) Γ)\/∃ (w:Nat) (R:LL0),d=fD a R/\GR w R/\((NF a d'/\Q (.fz (.lst [.str "field",d'])) Γ)\/∃ (u:Nat) (S:LL0),d'=fD a S/\GR u S/\∀ r,oH w u R S r->Q r Γ))
theorem bJ(T:Txt K mg a):aG P w K mg base CX0 9 a.p5 a.nZ ["_law_one","_law_other"] (sp3 K 2 (BU a)):=by
 refine ok3 T.ax.F jk (hbody:=fun cdv A outer s H E hr=>⟨_,_,(aq (a_ (i:=2) jk.nd rfl (Or.inl rfl) (bE ao))
   (aj (P3S.ofX fun B F0=>(H_ (i:=3) (by rfl) T.qN rfl rfl (by rfl) T.ey jk.nd rfl rfl (fun pins F1 E W xr=>(j9 (BJ (ED rG (Ao (by rfl) (nc (by rfl) xr (yr T) LJ hr.dn (by rfl) T.qz.m T.qz.F.kp T.qz.b (aa (P3.opd (p3v 0)) (aa (P3.opd (p3v 1)) ae))) T.aY T.cC (fF T) hr.dn T.bX.b))))) (fun pins e=>((aq (aX (a9 (aB (Ea (P:=fun C=>XIs K C) (by rfl) (fun _ h=>h)) (by rfl) T.z_isinstance (by decide +kernel) (aa (bv 3) (aa (P3.opd (nE (by rfl) T.r9)) ae)))) (aj (eg (gv 2 (by rfl) (bv 2) (bE (ab cx (ab (qD (P:=fun C=>tM K C/\bO K C "found") (f:="found") (by rfl) (bv 3) (fun _ h=>h) (by rfl)) ao)))))) aK)
   (aq (aX (a9 (aB (Ea (P:=fun C=>XIs K C) (by rfl) (fun _ h=>h)) (by rfl) T.z_isinstance (by decide +kernel) (aa (bv 3) (aa (P3.opd (nE (by rfl) T.um)) ae)))) (aj (eg (gv 2 (by rfl) (bv 2) (bE (ab cx (ab (qD (P:=fun C=>tM K C/\bO K C "one") (f:="one") (by rfl) (bv 3) (fun _ h=>h) (by rfl)) (ab (qD (P:=fun C=>tM K C/\bO K C "other") (f:="other") (by rfl) (bv 3) (fun _ h=>h) (by rfl)) ao))))))) aK)
   (aq (aX (a9 (aB (Ea (P:=fun C=>XIs K C) (by rfl) (fun _ h=>h)) (by rfl) T.z_isinstance (by decide +kernel) (aa (bv 3) (aa (P3.opd (nE (by rfl) T.pK)) ae)))) (aj (eg (gv 2 (by rfl) (bv 2) (bE (ab cx (ab (qD (P:=fun C=>tM K C/\bO K C "place") (f:="place") (by rfl) (bv 3) (fun _ h=>h) (by rfl)) ao)))))) aK)
   (aj (aw (aO (by rfl) (P3.opd (cF (bv 2) (P3.opd (bE (ab (bE (ab cx ao)) ao))))) (P3.opd ai) (fun _ _=>rfl)))))))).x))))),fun Γa Q h hl=>?_⟩)
 have t0:=xU T (C:=a.bu) (i:=0) rfl;have t1:=xU T (C:=a.bH) (i:=1) rfl;have t2:=xU T (C:=a.aZ) (i:=2) rfl;obtain⟨d,d',rfl,⟨hd,q⟩ | ⟨w,R,rfl,g,⟨hd,q⟩ | ⟨u,S,rfl,gs,q⟩⟩⟩:=h
 ·walk_at "q1";refine⟨Nat.zero_le _,d,d',rfl,.inl ⟨hd,t0.mr,?_⟩⟩;unfold nfX;walk_at "q1";refine⟨t0.is,true,t0.n,?_⟩;walk_at "q1";refine⟨t0.gt,T.cK.na _ (.head _),z2,small (by decide),t0.is,false,t0.p,?_⟩;walk_at "q1";refine⟨t0.is,false,t0.r,?_⟩;walk_at "q1";exact⟨bK (by decide),bK (by decide),bK (by decide),q⟩
 ·walk_at "q1";refine⟨Nat.zero_le _,_,d',rfl,.inr ⟨w,R,rfl,g,.inl ⟨hd,t0.mr,?_⟩⟩⟩;unfold nfX;walk_at "q1";refine⟨t0.is,true,t0.n,?_⟩;walk_at "q1";refine⟨t0.gt,T.cK.na _ (.head _),z2,small (by decide),t0.is,false,t0.p,?_⟩;walk_at "q1";refine⟨t0.is,false,t0.r,?_⟩;walk_at "q1";exact⟨bK (by decide),bK (by decide),bK (by decide),q⟩
 ·walk_at "q1";refine⟨Nat.zero_le _,_,_,rfl,.inr ⟨w,R,rfl,g,.inr ⟨u,S,rfl,gs,fun z=>⟨t1.mr,?_⟩,fun z=>⟨fun ok=>?_,fun y x hy hx ok bad=>⟨t2.mr,?_⟩⟩⟩⟩⟩
  ·unfold unX;walk_at "q1";refine⟨t1.is,false,t1.n,?_⟩;walk_at "q1";refine⟨t1.is,true,t1.p,?_⟩;walk_at "q1";rw[show (Str.ofString "other" == Str.ofString "one")=false from by decide +kernel];refine⟨t1.gt,T.gq.na _ (.head _),t1.gt,T.gq.na _ (.tail _ (.head _)),_,rfl,bK (by decide),small (by decide),t1.is,false,t1.r,?_⟩;walk_at "q1";exact⟨bK (by decide),bK (by decide),bK (by decide),q _ (.unlike z)⟩
  ·walk_at "q1";refine⟨by decide +kernel,w,cM R S w,rfl,nU g ok,?_⟩;walk_at "q1";refine⟨_,_,sum_rows g.h1,?_⟩;rw[Cg];exact q _ (.told z ok)
  ·unfold tgX;walk_at "q1";refine⟨t2.is,false,t2.n,?_⟩;walk_at "q1";refine⟨t2.is,false,t2.p,?_⟩;walk_at "q1";refine⟨t2.is,true,t2.r,?_⟩;walk_at "q1";exact⟨t2.gt,T.cJ.na _ (.head _),bK (by decide),small (by decide),bK (by decide),bK (by decide),bK (by decide),q _ (.great z y x hy hx ok bad)⟩
def LZ:S3:=fun Γ Q=>∃ (w:Nat) (R:LL0),Γ=[some (.fz (rD R))]/\GR w R/\Q (.fz (pD R.length w)) Γ
theorem dm(T:Txt K mg a):aG P w K mg base CX0 1 a.kR a.jO ["_law_rows_here"] (sp3 K 1 LZ):=by
 refine ok3 T.aR.F qi (hbody:=fun cdv A outer s H E hr=>⟨_,_,(aj (aw (bB (ab (aB (fR (by rfl)) (by rfl) T.z_len (by decide +kernel) (aa (bv 0) ae)) (ab (aB (fR (by rfl)) (by rfl) T.z_len (by decide +kernel) (aa (P3.opd (aO (by rfl) (bv 0) (P3.opd ai) (fun _ _=>rfl))) ae)) ao))))),fun Γa Q h hl=>?_⟩);obtain⟨w,R,rfl,g,q⟩:=h;obtain⟨r0,h0,hm0,hl0⟩:=g.at0;walk_at "q1";refine dP.mpr ⟨il r0,bR (by decide) (by rw[List.getElem?_map,show (Int.toNat 0)=0 from rfl,h0];rfl),?_⟩;walk_at "q1";rw[lM0,lM0,hl0];exact⟨z2,q⟩
def MD:S3:=fun Γ Q=>∃ (w u:Nat) (R S:LL0),Γ=[some (.fz (rD R)),some (.fz (rD S))]/\GR w R/\GR u S/\∀ r,oH w u R S r->Q (.fr r.d) Γ
theorem B2{R S:LL0}{w:Nat}(h:k < R.length):(cM R S w).take (k + 1)=(cM R S w).take k++[(List.range w).map fun x=>gat R k x + gat S k x]:=take_snoc (fm h)
theorem vT{R:LL0}{x:Nat}{r:Li0}(h:R[k]?=some r):gat R k x=r.getD x 0:=by
 unfold gat;rw[show R.getD k []=r by rw[List.getD_eq_getElem?_getD,h];rfl]
theorem pG(T:Txt K mg a):aG P w K mg base CX0 2 a.sG a.pS ["_law_rows_here","_law_others"] (sp3 K 2 MD):=by
 refine ok3 T.dA.F fh (hbody:=fun cdv A outer s H E hr=>⟨_,_,(aq (aX (aV (eR (by rfl) hr) (P3.opd (ak (by rfl) (dm T) hr.dn (by rfl) T.aR.m T.aR.F.kp T.aR.b (aa (P3.opd (p3v 0)) ae))) (P3.opd (ak (by rfl) (dm T) hr.dn (by rfl) T.aR.m T.aR.F.kp T.aR.b (aa (P3.opd (p3v 1)) ae))) (ba _)) (aj (aw (bE (ab cx (ab (ak (by rfl) (dm T) hr.dn (by rfl) T.aR.m T.aR.F.kp T.aR.b (aa (P3.opd (p3v 0)) ae)) (ab (ak (by rfl) (dm T) hr.dn (by rfl) T.aR.m T.aR.F.kp T.aR.b (aa (P3.opd (p3v 1)) ae)) ao)))))) aK)
   (aq (a_ (i:=2) fh.nd rfl (Or.inl rfl) (bE ao))
   (aq (iE PassesOwn.never rfl (cD (by rfl) T.z_range (ab (aB (fR (by rfl)) (by rfl) T.z_len (by decide +kernel) (aa (bv 0) ae)) ao)) (bx (i:=3) fh.nd rfl (Or.inl rfl))
   (aq (eg (gv 2 (by rfl) (bv 2) (cH rfl (JS (by rfl) T.z_zip (ab (aO (by rfl) (bv 0) (bv 3) (fun _ _=>rfl)) (ab (aO (by rfl) (bv 1) (bv 3) (fun _ _=>rfl)) ao))) gU (fun _ _ _ _ _=>(mW (is:=[0,1]) (by rfl) (br (bI (i:=0) gU.nd rfl (Or.inl rfl)) (br (bI (i:=1) gU.nd rfl (Or.inl rfl)) eX)) rfl)) (fun _ _ _ _ _=>(cF (bv 0) (bv 1))))))
   (aj (iE PassesOwn.never rfl (Gd (by rfl) T.z_enumerate (ab (aO (by rfl) (bv 2) (bv 3) (fun _ _=>rfl)) ao)) (mW (is:=[4,5]) (by rfl) (br (bI (i:=4) fh.nd rfl (Or.inl rfl)) (br (bI (i:=5) fh.nd rfl (Or.inl rfl)) eX)) rfl)
   (aj (aX (bw (uc xG xG (P3.opd (iF (P3.opd ai) (P3.opd (mP (v:=1000000000000000) (by decide +kernel) ⟨by decide,by decide,by decide⟩)))) (bv 5) (P3.opd (mP (v:=1000000000000000) (by decide +kernel) ⟨by decide,by decide,by decide⟩)))) (aj (aw (bE (ab cx (ab (bB (ab (p3v 3) (ab (p3v 4) ao))) ao))))) aK))))))
   (aj (aw (bE (ab cx (ab (p3v 2) ao)))))))),fun Γa Q h hl=>?_⟩)
 obtain⟨w,u,R,S,rfl,g,gs,q⟩:=h;walk_at "q1";refine⟨w,R,rfl,g,?_⟩;walk_at "q1";refine⟨u,S,rfl,gs,?_⟩;walk_at "q1";refine⟨_,Hi,?_⟩;by_cases z:R.length=S.length/\w=u
 ·have g2:=g.h2;have w2:=g.w2;rw[decide_eq_true z];walk_at "q1";rw[lM0];refine⟨Nat.zero_le _,by lia,by lia,cU (fun k Γ=>k<=R.length/\(∀ y x,y < k->x < w->ok2 R S y x=true)/\∃ s s' s'',Γ=[some (.fz (rD R)),some (.fz (rD S)),some (.ow (.lst (((cM R S w).take k).map il))),fo s,fo s',fo s'']) ⟨Nat.zero_le _,fun y x h=>absurd h (Nat.not_lt_zero _),none,none,none,rfl⟩ ?_ ?_⟩
  ·rintro k d Γ hd ⟨hk,ok,s,s',s'',rfl⟩;obtain⟨lk,rfl⟩:=iY hd;rw[Int.toNat_natCast] at lk;obtain⟨r,hr1,lr,fr⟩:=g.row lk;obtain⟨t,ht1,lt,ft⟩:=gs.row (y:=k) (by lia);have zl:(my (r.map D.int) (t.map D.int)).length=w:=by rw[zj];lia
   walk_at "q1";refine dP.mpr ⟨il r,bR (by lia) (by rw[List.getElem?_map,show (0 + (k:Int)).toNat=k by lia,hr1];rfl),?_⟩;walk_at "q1";refine dP.mpr ⟨il t,bR (by lia) (by rw[List.getElem?_map,show (0 + (k:Int)).toNat=k by lia,ht1];rfl),?_⟩;walk_at "q1";refine⟨small (by rw[zl];lia),b8 (fun j ys Γc=>ys=(List.range j).map (fun x=>D.int (gat R k x + gat S k x))/\∃ s s',Γc=[fo s,fo s']) ⟨rfl,none,none,rfl⟩ ?_ ?_⟩
   ·rintro j d ys Γc hd hj ⟨rfl,s,s',rfl⟩;obtain⟨l1,l2,rfl⟩:=zip_get hd;walk_at "q1";exact⟨snoc (by rw[vT hr1,vT ht1]),some _,some _,rfl⟩
   ·rintro ys Γc hj ⟨rfl,s,s',rfl⟩;rw[zl];walk_at "q1";have e1:(((cM R S w).take k).map il++[D.lst ((List.range w).map fun x=>D.int (gat R k x + gat S k x))])=((cM R S w).take (k + 1)).map il:=by
     rw[B2 lk,List.map_append];simp [il]
    rw[e1];refine⟨small (by rw[lM0,List.length_take];lia),?_⟩;walk_at "q1";have e2:(((cM R S w).take (k + 1)).map il)[k]?=some (.lst ((List.range w).map fun x=>D.int (gat R k x + gat S k x))):=by
     rw[List.getElem?_map,List.getElem?_take_of_lt (by lia),fm lk];simp [il]
    refine dP.mpr ⟨_,bR (by lia) (by rw[show (0 + (k:Int)).toNat=k by lia];exact e2),?_⟩;walk_at "q1";rw[e1];refine cU (fun j Γ=>(∀ x,x < j->x < w->ok2 R S k x=true)/\∃ s s',Γ=[some (.fz (rD R)),some (.fz (rD S)),some (.ow (.lst (((cM R S w).take (k + 1)).map il))),some (.fz (.int (0 + (k:Int)))),fo s,fo s']) ⟨fun x h=>absurd h (Nat.not_lt_zero _),_,_,rfl⟩ ?_ ?_
    ·rintro j d Γ hd ⟨okr,s,s',rfl⟩;obtain⟨v,hv,rfl⟩:=pj hd;obtain⟨lj,rfl⟩:=FO hv;walk_at "q1";have e3:(Bh (0 - 1000000000000000) (gat R k j + gat S k j) && Bh (gat R k j + gat S k j) 1000000000000000)=ok2 R S k j:=by
      unfold ok2 okN whD Bh;rw[Bool.eq_iff_iff];simp only[Bool.and_eq_true,decide_eq_true_eq];lia
     have bad:ok2 R S k j=false->Q (.fr (.lst [.str "great",pD (0 + (k:Int)) j])) [some (.fz (rD R)),some (.fz (rD S))]:=fun b=>by
      rw[Int.zero_add];refine q _ (.great z k j lk lj (fun y' x' hy' hx' l=>?_) b);by_cases e:y' < k
      ·exact ok y' x' e hx'
      ·have e':y'=k:=by
        by_cases e5:k + 1<=y'
        ·have:=Nat.mul_le_mul_right w e5;rw[Nat.add_mul,Nat.one_mul] at this;lia
        ·lia
       subst e';exact okr x' (by lia) hx'
     cases h1:Bh (0 - 1000000000000000) (gat R k j + gat S k j) with
     | false=>
      rw[h1,Bool.false_and] at e3;walk_at "q1";exact⟨z2,z2,bad e3.symm⟩
     | true=>
      rw[h1,Bool.true_and] at e3;rw[e3];cases hb:ok2 R S k j with
      | false=>
       walk_at "q1";exact⟨z2,z2,bad hb⟩
      | true=>
       walk_at "q1";refine⟨fun x hx hw=>?_,some _,some _,rfl⟩;by_cases e:x < j
       ·exact okr x e hw
       ·obtain rfl:x=j:=by lia
        exact hb
    ·rintro Γ ⟨okr,s,s',rfl⟩;have e4:(uJ (List.map (fun x=>D.int (gat R k x + gat S k x)) (List.range w))).length=w:=by unfold uJ;simp
     rw[e4] at okr;refine⟨by lia,fun y x hy hx=>?_,some _,_,_,rfl⟩;by_cases e:y < k
     ·exact ok y x e hx
     ·obtain rfl:y=k:=by lia
      exact okr x hx hx
  ·rintro Γ ⟨hk,ok,s,s',s'',rfl⟩;have e0:(rng 0 (R.length:Int).toNat).length=R.length:=by rw[vj,Int.toNat_natCast]
   rw[e0] at ok;rw[e0,List.take_of_length_le (by rw[uY];exact Nat.le_refl _)];walk_at "q1";have t0:=q _ (.told z fun y x hy hx=>ok y x hy hx);refine⟨z2,?_⟩;rw[show RV.d (.tol "told" (((cM R S w).getD 0 []).map D.int) (((cM R S w).drop 1).map il))=.lst [.str "told",.lst ((cM R S w).map il)] from qR g.h1] at t0;exact t0
 ·rw[decide_eq_false z];walk_at "q1";refine⟨w,R,rfl,g,?_⟩;walk_at "q1";refine⟨u,S,rfl,gs,?_⟩;walk_at "q1";exact⟨bK (by decide),q _ (.unlike (by lia))⟩
structure Made (w k:Nat) (R:LL0):Prop where
 len:R.length=k
 row:∀ r∈R,r.length=w/\Fig r
theorem Made.snoc{w:Nat}{R:LL0}{r:Li0}(m:Made w k R)(h:r.length=w)(f:Fig r):Made w (k + 1) (R++[r]):=⟨by rw[List.length_append,m.len];rfl,fun x hx=>by
 rcases List.mem_append.mp hx with hx | hx
 ·exact m.row x hx
 ·rw[List.mem_singleton] at hx;subst hx;exact⟨h,f⟩⟩
theorem Made.gr{h w:Int}{R:LL0}(m:Made w.toNat h.toNat R)(s:pv h w):GR w.toNat R:=by
 obtain⟨a1,a2,a3,a4,a5⟩:=s;have l:=m.len;refine⟨by lia,by lia,by lia,by lia,?_,fun r hr=>(m.row r hr).1,fun r hr=>(m.row r hr).2⟩;rw[l];have:((h.toNat * w.toNat:Nat):Int)<=512:=by rw[Int.natCast_mul,Int.toNat_of_nonneg (by lia),Int.toNat_of_nonneg (by lia)];exact a5
 exact_mod_cast this
theorem Gu{ns:Li0}{n:Int}(h:Fig ns)(h1:-1000000000000000 < n)(h2:n < 1000000000000000):Fig (ns++[n]):=fun x hx=>by
 rcases List.mem_append.mp hx with hx | hx
 ·exact h x hx
 ·rw[List.mem_singleton] at hx;subst hx;exact⟨h1,h2⟩
theorem Gr{ns:Li0}{n:Int}{x:Nat}(h:Fig ns)(h1:-1000000000000000 < n)(h2:n < 1000000000000000):Fig (ns.set x n):=fun y hy=>by
 rcases List.mem_or_eq_of_mem_set hy with hy | rfl
 ·exact h y hy
 ·exact⟨h1,h2⟩
theorem GR.set{w:Nat}{R:LL0}{r:Li0}{n:Int}{x y:Nat}(g:GR w R)(hr:R[y]?=some r)(h1:-1000000000000000 < n)(h2:n < 1000000000000000):GR w (R.set y (r.set x n)):=by
 have hm:=List.mem_of_getElem? hr;refine⟨by rw[List.length_set];exact g.h1,by rw[List.length_set];exact g.h2,g.w1,g.w2,by rw[List.length_set];exact g.all,fun t ht=>?_,fun t ht=>?_⟩
 ·rcases List.mem_or_eq_of_mem_set ht with ht | rfl
  ·exact g.len t ht
  ·rw[List.length_set];exact g.len r hm
 ·rcases List.mem_or_eq_of_mem_set ht with ht | rfl
  ·exact g.fig t ht
  ·exact Gr (g.fig r hm) h1 h2
theorem JR{R:LL0}{r:Li0}{y x:Nat}{n:Int}:(iR R).set y ((r.map D.int).set x (.int n))=iR (R.set y (r.set x n)):=by
 rw[iR,iR,List.map_set,List.map_set]
def vM:S3:=fun Γ Q=>∃ (d:D) (c h w:Int),Γ=[some (.ln d),some (.fz (pD h w))]/\Box c d/\c<=500000/\pv h w/\∀ R d',GR w.toNat R->R.length=h.toNat->Box (c + 20000) d'->Q (.fz (rD R)) [some (.ln d'),some (.fz (pD h w))]
theorem gc(T:Txt K mg a):aG P w K mg base CX0 3 a.p8 a.n9 ["_law_box_here","_law_size_here"] (sp3 K 2 vM):=by
 refine ok3 T.bq.F jl (hbody:=fun cdv A outer s H E hr=>⟨_,_,(aq (a_ (i:=2) jl.nd rfl (Or.inr rfl) (aO (by rfl) (P3.opd (bE (ab (ak (by rfl) (aF T) hr.dn (by rfl) T.af.m T.af.F.kp T.af.b (aa (bv 0) (aa (P3.opd ai) ae))) (ab ai ao)))) (P3.opd (ak (by rfl) (aF T) hr.dn (by rfl) T.af.m T.af.F.kp T.af.b (aa (bv 0) (aa (P3.opd ai) ae)))) (fun _ _=>rfl)))
   (E8 4 4 3 (by decide) (by decide) (vw rfl vy) (rA (i:=3) jl.nd rfl rfl rfl (cD (by rfl) T.z_range (ab (aO (by rfl) (bv 1) (P3.opd ai) (fun _ _=>rfl)) ao)) dv (fun _ _ _ _ _=>(bx (i:=0) dv.nd rfl (Or.inl rfl))) (fun _ _ _ _ _=>(cH rfl (cD (by rfl) T.z_range (ab (aO (by rfl) (bv 2) (P3.opd ai) (fun _ _=>rfl)) ao)) du (fun _ _ _ _ _=>(bx (i:=0) du.nd rfl (Or.inl rfl))) (fun _ _ _ _ _=>(ak (by rfl) (gJ T) hr.dn (by rfl) T.bz.m T.bz.F.kp T.bz.b (aa (bv 1) (aa (P3.opd (p3v 2)) ae))))))) (wX rfl (cD (by rfl) T.z_range (ab (aO (by rfl) (bv 1) (P3.opd ai) (fun _ _=>rfl)) ao)) dv (fun _ _ _ _ _=>(bx (i:=0) dv.nd rfl (Or.inl rfl))) (fun _ _ _ _ _=>(cH rfl (cD (by rfl) T.z_range (ab (aO (by rfl) (bv 2) (P3.opd ai) (fun _ _=>rfl)) ao)) du (fun _ _ _ _ _=>(bx (i:=0) du.nd rfl (Or.inl rfl))) (fun _ _ _ _ _=>(ak (by rfl) (gJ T) hr.dn (by rfl) T.bz.m T.bz.F.kp T.bz.b (aa (bv 1) (aa (P3.opd (p3v 2)) ae)))))))
   (aq (aX (aV (eS (by rfl) hr) (P3.opd (ak (by rfl) (aF T) hr.dn (by rfl) T.af.m T.af.F.kp T.af.b (aa (bv 0) (aa (P3.opd ai) ae)))) (P3.opd ai) (ba _)) (aj (ES (bA (aO (by rfl) (bA (p3v 3)) (P3.opd (ak (by rfl) (aF T) hr.dn (by rfl) T.af.m T.af.F.kp T.af.b (aa (bv 0) (aa (P3.opd (aO (by rfl) (bv 1) (P3.opd ai) (fun _ _=>rfl))) ae)))) (fun _ _=>rfl))) (P3.opd (ak (by rfl) (aF T) hr.dn (by rfl) T.af.m T.af.F.kp T.af.b (aa (bv 0) (aa (P3.opd (aO (by rfl) (bv 1) (P3.opd ai) (fun _ _=>rfl))) ae)))) (ak (by rfl) (gJ T) hr.dn (by rfl) T.bz.m T.bz.F.kp T.bz.b (aa (bv 0) (aa (P3.opd ai) ae))))) aK)
   (Hf (aj (aw (AX 3))))))),fun Γa Q h hl=>?_⟩)
 obtain⟨d,c,h,w,rfl,hb,hc,sz,q⟩:=h;obtain⟨a1,a2,a3,a4,a5⟩:=id sz;rw[uZ];walk_at "q1";refine⟨d,c,3,rfl,hb,by lia,by decide,by decide,fun r1 d1 l1 u1 b1=>?_⟩;walk_at "q1";refine⟨z2,d1,c + 1,2,rfl,b1,by lia,by decide,by decide,fun r2 d2 l2 u2 b2=>?_⟩;walk_at "q1";refine pick (p:=fun v=>∃ i:Int,v=.int i) l2 u2 (fun x hx=>?_) ?_
 ·simp only[List.mem_cons,List.not_mem_nil,or_false] at hx;rcases hx with rfl | rfl <;> exact⟨_,rfl⟩
 rintro _ ⟨wy,rfl⟩;walk_at "q1";have rh:(rng 0 h.toNat).length=h.toNat:=by unfold rng;simp
 have rw':(rng 0 w.toNat).length=w.toNat:=by unfold rng;simp
 refine⟨by lia,by lia,small (by rw[rh];lia),uK (fun k ys Γc=>∃ R d',Made w.toNat k R/\ys=iR R/\Box (c + 2 + 3 * ((k * w.toNat:Nat):Int)) d'/\∃ s,Γc=[fo s,some (.ln d'),some (.fz (pD h w)),some (.fz (.int wy))]) ⟨[],d2,⟨rfl,fun _ h=>nomatch h⟩,rfl,b2.up (by lia),none,rfl⟩ ?_ ?_⟩
 ·rintro k x ys Γc hd hk ⟨R,d',m,rfl,bd,s,rfl⟩;obtain⟨lk,rfl⟩:=iY hd;have kw:k * w.toNat<=64 * 64:=Nat.mul_le_mul (by lia) (by lia);walk_at "q1";refine⟨by lia,by lia,small (by rw[rw'];lia),b8 (fun j ys Γc=>∃ (r:Li0) (d':D),ys=r.map .int/\r.length=j/\Fig r/\Box (c + 2 + 3 * ((k * w.toNat + j:Nat):Int)) d'/\∃ s,Γc=[fo s,some (.ln d'),some (.fz (.int wy))]) ⟨[],d',rfl,rfl,(fun _ h=>nomatch h),bd.up (by lia),none,rfl⟩ ?_ ?_⟩
  ·rintro j y ys Γc hd2 hj ⟨r,d3,rfl,hl2,hf,b3,s,rfl⟩;obtain⟨lj,rfl⟩:=iY hd2;walk_at "q1";refine⟨_,_,_,rfl,b3,by lia,fun n d4 n1 n2 b4=>?_⟩;walk_at "q1";exact⟨r++[n],d4,by rw[List.map_append];rfl,by simp [hl2],Gu hf n1 n2,b4.up (by lia),some _,rfl⟩
  ·rintro ys Γc hj ⟨r,d3,rfl,hl2,hf,b3,s,rfl⟩;walk_at "q1";rw[rw'] at hl2 b3;refine⟨R++[r],d3,m.snoc hl2 hf,by rw[iR,iR,List.map_append];rfl,b3.up ?_,some _,rfl⟩;rw[Nat.add_mul,Nat.one_mul];lia
 ·rintro ys Γc hk ⟨R,d3,m,rfl,b3,s,rfl⟩;walk_at "q1";rw[rh] at m b3;have g:=m.gr sz;have kw:h.toNat * w.toNat<=64 * 64:=Nat.mul_le_mul (by lia) (by lia);have ml:=m.len;refine zF (pre:=[_,_,_,_]) (T:=tlE) (m:=65) rfl rfl (by decide) trivial (by rw[lM0];lia) fun p qs hl=>?_;rw[lM0] at hl;walk_at "q1";refine⟨_,_,3,rfl,b3,by lia,by decide,by decide,fun r4 d4 l4 u4 b4=>?_⟩;walk_at "q1";refine qa (fun e=>?_) (fun e=>?_)
  ·walk_at "q1";refine⟨_,_,_,rfl,b4,by lia,fun n d5 n1 n2 b5=>?_⟩;walk_at "q1";refine sR (pre:=[_,_,_,_]) rfl rfl (.inl rfl) ?_;walk_at "q1";refine⟨_,_,_,rfl,b5,by lia,by lia,by lia,fun r6 d6 l6 u6 b6=>?_⟩;have hy:r6.toNat < R.length:=by lia
   obtain⟨q0,hq0⟩:∃ q0,qs[r6.toNat]?=some q0:=⟨_,gE0 (by rw[hl];exact hy)⟩;obtain⟨r,hr',lr,fr⟩:=g.row hy;walk_at "q1";refine dP.mpr ⟨.adr q0,bR l6 (by rw[List.getElem?_map,hq0];rfl),?_⟩;walk_at "q1";have hy0:(iR R)[r6.toNat]?=some (r.map D.int):=by rw[List.getElem?_map,hr'];rfl
   refine sS (pre:=[_,_,_,_]) rfl rfl (.inl rfl) hq0 hy0 ?_;walk_at "q1";refine⟨_,_,_,rfl,b6,by lia,by lia,by lia,fun r7 d7 l7 u7 b7=>?_⟩;walk_at "q1";have e7:ixN (r.map D.int).length r7=some r7.toNat:=by
    have:=zY (n:=(r.map D.int).length) (k:=r7.toNat) (by rw[lM0];lia)
    rwa [Int.toNat_of_nonneg l7] at this
   refine Er (pre:=[_,_,_,_]) rfl rfl (.inl rfl) hq0 hy0 rfl e7 ?_;rw[JR];walk_at "q1";refine BM (wkR (i:=3) (L:=4) (pre:=[_,_,_,_]) rfl (by decide) rfl (by rw[lM0,List.length_set];exact hl)) ?_;walk_at "q1";exact q _ _ (g.set hr' n1 n2) (by rw[List.length_set];exact ml) (b7.up (by lia))
  ·walk_at "q1";refine BM (wkR (i:=3) (L:=4) (pre:=[_,_,_,_]) rfl (by decide) rfl (by rw[lM0];exact hl)) ?_;walk_at "q1";exact q R _ g ml (b4.up (by lia))
theorem B6{r:Li0}(h:Fig r)(hl:r.length<=64):Sh (64 * 102 + 3) 2 (il r):=.lst (fun x hx=>by
 obtain⟨n,hn,rfl⟩:=List.mem_map.mp hx;have:=h n hn;exact .int (by lia)) (by rw[lM0];exact hl)
theorem zz{w:Nat}{R:LL0}(g:GR w R):Sh 500000 3 (rD R):=.up (.lst (n:=64 * 102 + 3) (k:=2) (l:=64) (fun x hx=>by
 obtain⟨r,hr,rfl⟩:=List.mem_map.mp hx;exact B6 (g.fig r hr) (by rw[g.len r hr];exact g.w2)) (by rw[lM0];exact g.h2)) (by decide) (by decide)
theorem B7{y x:Nat}(hy:y<=64)(hx:x<=64):Sh 500000 3 (pD y x):=.up (.tup (n:=100) (k:=1) (l:=2) (fun z hz=>by
 simp only[List.mem_cons,List.not_mem_nil,or_false] at hz;rcases hz with rfl | rfl <;> exact .int (by lia)) (by simp)) (by decide) (by decide)
theorem qX(h:(reprText z).length<=1000):Sh 500000 3 (.str z):=.up (.str (n:=2000) (by simp only[PyData.shown];lia)) (by decide) (by decide)
theorem EL(h:∀ x∈xs,Sh 500000 3 x)(hl:xs.length<=3):okR (.lst xs):=.inl ⟨.inl rfl,.up (.lst (n:=500000) (k:=3) (l:=3) h hl) (by decide) (by decide)⟩
theorem DQ{w u:Nat}{R S:LL0}(g:GR w R)(gs:GR u S)(h:oH w u R S r):okR r.d:=by
 have a1:=g.h2;have a2:=g.w2;have a3:=gs.h2;have a4:=gs.w2;cases h with
 | unlike z=>
  refine EL (fun x hx=>?_) (by show 3<=3;decide);simp only[List.mem_cons,List.not_mem_nil,or_false] at hx;rcases hx with rfl | rfl | rfl
  ·exact qX (by decide +kernel)
  ·exact B7 a1 a2
  ·exact B7 a3 a4
 | great z y x hy hx ok bad=>
  refine EL (fun x hx=>?_) (by show 2<=3;decide);simp only[List.mem_cons,List.not_mem_nil,or_false] at hx;rcases hx with rfl | rfl
  ·exact qX (by decide +kernel)
  ·exact B7 (by lia) (by lia)
 | told z ok=>
  rw[qR g.h1];refine EL (fun x hx=>?_) (by show 2<=3;decide);simp only[List.mem_cons,List.not_mem_nil,or_false] at hx;rcases hx with rfl | rfl
  ·exact qX (by decide +kernel)
  ·exact zz (nU g ok)
theorem B4{w u:Nat}{R S:LL0}(z:R.length=S.length/\w=u):cM S R u=cM R S w:=by
 obtain⟨z1,rfl⟩:=z;unfold cM;rw[z1];exact nR fun y x _ _=>Int.add_comm _ _
theorem Au{w u:Nat}{R S:LL0}{r':RV}(z:R.length=S.length/\w=u)(ok:∀ y x,y < R.length->x < w->ok2 R S y x=true)(g:1<=R.length)(h:oH w u R S r)(h':oH u w S R r'):r'.d=r.d:=by
 rw[<- (oH.told z ok).one h,<- (oH.told (w:=u) (u:=w) (R:=S) (S:=R) ⟨z.1.symm,z.2.symm⟩ fun y x hy hx=>by
  have:=ok y x (by lia) (by lia);unfold ok2 at this ⊢;rw[Int.add_comm];exact this).one h',qR g,qR (by lia),B4 z]
theorem uH {n:Nat}:∀ (R S:LL0),c_ (n + 1) (R.map il) (S.map il)=some (decide (R=S))
 | [],[]=>by simp [c_]
 | r::R,[]=>by simp [c_]
 | [],s::S=>by simp [c_]
 | r::R,s::S=>by
  have e1:eqN (n + 1) (il r) (il s)=some (decide (r=s)):=sJ r s;have e2:=uH (n:=n) R S;show (match eqN (n + 1) (il r) (il s),c_ (n + 1) (R.map il) (S.map il) with
   | some a,some b=>some (a && b)
   | _,_=>none)=_
  rw[e1,e2];show some (decide (r=s) && decide (R=S))=_;rw[<- Bool.decide_and];simp
theorem sI{R S:LL0}:eqN (n + 2) (rD R) (rD S)=some (decide (R=S)):=by
 show c_ (n + 1) _ _=_;exact uH R S
def vm (a:Ad):S3:=fun Γ Q=>∃ (w u:Nat) (R S:LL0),Γ=[some (.fz (rD R)),some (.fz (rD S))]/\GR w R/\GR u S/\Q (.fz (.bl true)) Γ
theorem l_(T:Txt K mg a):aG P w K mg base CX0 10 a.oo a.mm ["_law_rows_here","_law_others"] (sp3 K 2 (vm a)):=by
 refine ok3 T.cq.F dg (hbody:=fun cdv A outer s H E hr=>⟨_,_,(aq (yb (i:=2) (j:=3) rfl dg.nd rfl rfl (by decide) (by rfl) (by rfl) (ab (c5 T.mk_Field (aP T) hr.dn (by rfl) T.cj T.aN.b (ab (cH rfl (cb (by rfl) (p3v 0)) jb (fun _ _ _ _ _=>(bx (i:=0) jb.nd rfl (Or.inl rfl))) (fun _ _ _ _ _=>(dN (we (by rfl)) (by rfl) T.z_list (by decide +kernel) (aa (bv 0) ae)))) ao)) (ab (c5 T.mk_Field (aP T) hr.dn (by rfl) T.cj T.aN.b (ab (cH rfl (cb (by rfl) (p3v 1)) jc (fun _ _ _ _ _=>(bx (i:=0) jc.nd rfl (Or.inl rfl))) (fun _ _ _ _ _=>(dN (we (by rfl)) (by rfl) T.z_list (by decide +kernel) (aa (bv 0) ae)))) ao)) ao)) (by rfl))
   (aq (a_ (i:=4) dg.nd rfl (Or.inl rfl) (uf (ak (by rfl) (pG T) hr.dn (by rfl) T.dA.m T.dA.F.kp T.dA.b (aa (P3.opd (p3v 0)) (aa (P3.opd (p3v 1)) ae)))))
   (aq (iE PassesOwn.never rfl (cD (by rfl) T.z_range (ab ai ao)) (bx (i:=5) dg.nd rfl (Or.inl rfl))
   (E9 7 7 6 (by decide) (by decide) (vw rfl tm) (a_ (i:=6) dg.nd rfl (Or.inl rfl) (ak (by rfl) (bJ T) hr.dn (by rfl) T.ax.m T.ax.F.kp T.ax.b (aa (P3.opd (p3v 2)) (aa (P3.opd (p3v 3)) ae)))) (ak (by rfl) (bJ T) hr.dn (by rfl) T.ax.m T.ax.F.kp T.ax.b (aa (P3.opd (p3v 2)) (aa (P3.opd (p3v 3)) ae)))
   (aq (aX (Fz 6 7 (by decide) (aV (eR (by rfl) hr) (P3.opd (aB (iq (by rfl) hr) (by rfl) T.z_repr (by decide +kernel) (aa (bv 6) ae))) (P3.opd (aB (iq (by rfl) hr) (by rfl) T.z_repr (by decide +kernel) (aa (bv 4) ae))) (ba _))) (aj (aw dO)) aK)
   (aj (aX (aV (eS (by rfl) hr) (P3.opd (aO (by rfl) (bv 6) (P3.opd ai) (fun _ _=>rfl))) (P3.opd cx) (ba _)) (aq (eg (FA (by rfl) (bA (aO (by rfl) (P3.opd (aO (by rfl) (bv 6) (P3.opd ai) (fun _ _=>rfl))) (P3.opd ai) (fun _ _=>rfl)))))
   (aj (aX (aV (eR (by rfl) hr) (P3.opd (aB (iq (by rfl) hr) (by rfl) T.z_repr (by decide +kernel) (aa (P3.opd (ak (by rfl) (bJ T) hr.dn (by rfl) T.ax.m T.ax.F.kp T.ax.b (aa (P3.opd (p3v 3)) (aa (P3.opd (p3v 2)) ae)))) ae))) (P3.opd (aB (iq (by rfl) hr) (by rfl) T.z_repr (by decide +kernel) (aa (bv 4) ae))) (ba _)) (aj (aw dO)) aK))) aK)))))
   (aq (aX (aV (eR (by rfl) hr) (P3.opd (aB (iq (by rfl) hr) (by rfl) T.z_repr (by decide +kernel) (aa (P3.opd (ak (by rfl) (bJ T) hr.dn (by rfl) T.ax.m T.ax.F.kp T.ax.b (aa (P3.opd (p3v 2)) (aa (P3.opd (p3v 2)) ae)))) ae))) (P3.opd (aB (iq (by rfl) hr) (by rfl) T.z_repr (by decide +kernel) (aa (P3.opd (ak (by rfl) (pG T) hr.dn (by rfl) T.dA.m T.dA.F.kp T.dA.b (aa (P3.opd (p3v 0)) (aa (P3.opd (p3v 0)) ae)))) ae))) (ba _)) (aj (aw dO)) aK)
   (aj (aw (ym (iG (eS (by rfl) hr) (P3.opd (bh (by rfl) (bv 2) T.aY T.cC (iH T) hr.dn T.bX.b)) (bv 0) (ba _)) (rJ (iG (eS (by rfl) hr) (P3.opd (bh (by rfl) (bv 3) T.aY T.cC (iH T) hr.dn T.bX.b)) (bv 1) (ba _)))))))))),fun Γa Q h hl=>?_⟩)
 obtain⟨w,u,R,S,rfl,g,gs,q⟩:=h;have g2:=g.h2;have s2:=gs.h2;rw[show cO cA [some (.fz (rD R)),some (.fz (rD S))]=[some (.fz (rD R)),some (.fz (rD S)),none,none,none,none,none,none] from sX];walk_at "q1";refine⟨small (by rw[lM0];lia),b8 (fun k ys Γc=>ys=(R.take k).map il/\∃ s,Γc=[fo s]) ⟨rfl,none,rfl⟩ ?_ ?_⟩
 ·rintro k d ys Γc hd hk ⟨rfl,s,rfl⟩;obtain⟨r,hr',rfl⟩:=iS hd;walk_at "q1";exact⟨by rw[take_snoc hr',List.map_append];rfl,some _,rfl⟩
 ·rintro ys Γc hk ⟨rfl,s,rfl⟩;rw[List.take_of_length_le (by rw[lM0];exact Nat.le_refl _)];walk_at "q1";refine⟨w,R,rfl,g,?_⟩;walk_at "q1";refine⟨small (by rw[lM0];lia),b8 (fun k ys Γc=>ys=(S.take k).map il/\∃ s,Γc=[fo s]) ⟨rfl,none,rfl⟩ ?_ ?_⟩
  ·rintro k d ys Γc hd hk ⟨rfl,s,rfl⟩;obtain⟨r,hr',rfl⟩:=iS hd;walk_at "q1";exact⟨by rw[take_snoc hr',List.map_append];rfl,some _,rfl⟩
  ·rintro ys Γc hk2 ⟨rfl,s,rfl⟩;rw[List.take_of_length_le (by rw[lM0];exact Nat.le_refl _)];walk_at "q1";refine⟨u,S,rfl,gs,?_⟩;walk_at "q1";refine⟨w,u,R,S,rfl,g,gs,fun r hr1=>?_⟩;have okr:=DQ g gs hr1;obtain⟨dd,hdd⟩:∃ dd,r.d=dd:=⟨_,rfl⟩;rw[hdd] at okr ⊢;walk_at "q1";refine⟨by decide,by decide,cU (fun k Γ=>∃ s s' gst,(gst=none\/∃ q xs,gst=some (Sl.ow (.cel q xs)))/\Γ=[some (.fz (rD R)),some (.fz (rD S)),some (.fz (fD a R)),some (.fz (fD a S)),some (.fz dd),fo s,fo s',gst]) ⟨none,none,none,.inl rfl,rfl⟩ ?_ ?_⟩
   ·rintro k d Γ hd ⟨s,s',gst,hg,rfl⟩;walk_at "q1";refine⟨_,_,rfl,.inr ⟨w,R,rfl,g,.inr ⟨u,S,rfl,gs,fun r' hr'=>?_⟩⟩⟩;obtain rfl:=hr1.one hr';have fr7:aW [some (Sl.fz (rD R)),some (.fz (rD S)),some (.fz (fD a R)),some (.fz (fD a S)),some (.fz dd),some (.fz d),fo s',gst] 7:=by
     rcases hg with rfl | ⟨_,_,rfl⟩ <;> trivial
    have fr6:aW [some (Sl.fz (rD R)),some (.fz (rD S)),some (.fz (fD a R)),some (.fz (fD a S)),some (.fz dd),some (.fz d),fo s',gst] 6:=by
     cases s' <;> trivial
    cases hr1 with
    | unlike z=>
     walk_at "q1";refine⟨fr6,?_⟩;cases hdd;walk_at "q1";refine .inr ?_;walk_at "q1";refine⟨okr,okr,?_⟩;walk_at "q1";rw[show (Str.ofString "unlike" == Str.ofString "told")=false from by decide +kernel];walk_at "q1";exact⟨some _,some _,gst,hg,rfl⟩
    | great z y x hy hx ok bad=>
     walk_at "q1";refine⟨fr6,?_⟩;cases hdd;walk_at "q1";refine .inr ?_;walk_at "q1";refine⟨okr,okr,?_⟩;walk_at "q1";rw[show (Str.ofString "great" == Str.ofString "told")=false from by decide +kernel];walk_at "q1";exact⟨some _,some _,gst,hg,rfl⟩
    | told z ok=>
     walk_at "q1";refine⟨fr6,fr7,fun q0=>?_⟩;walk_at "q1";refine .inl ⟨_,q0,_,(cM R S w).getD 0 [],rfl,rfl,fun k d hk=>?_,?_⟩
     ·rcases k with _ | _ | _ | _ | _ | _ | _ | _ | k
      iterate 7 (rcases hk with hk | hk <;> cases hk)
      ·rfl
      ·rcases hk with hk | hk <;> cases hk
     ·cases hdd;walk_at "q1";refine⟨okr,okr,?_⟩;walk_at "q1";refine⟨7,_,.inl rfl,q0,_,.inl rfl,?_⟩;simp only[mM,List.getElem?_cons_succ,List.getElem?_cons_zero,List.set_cons_succ,List.set_cons_zero];walk_at "q1";refine⟨_,_,rfl,.inr ⟨u,S,rfl,gs,.inr ⟨w,R,rfl,g,fun r2 hr2=>?_⟩⟩⟩;have e2:=Au z ok g.h1 hr' hr2;dsimp only;rw[e2];walk_at "q1";exact⟨okr,okr,some _,some _,_,.inr ⟨q0,[],rfl⟩,rfl⟩
   ·rintro Γ ⟨s,s',gst,hg,rfl⟩;walk_at "q1";refine⟨_,_,rfl,.inr ⟨w,R,rfl,g,.inr ⟨w,R,rfl,g,fun r3 hr3=>?_⟩⟩⟩;have ok3:=DQ g g hr3
    try dsimp only
    obtain⟨d3,e3⟩:∃ d,r3.d=d:=⟨_,rfl⟩;rw[e3] at ok3 ⊢;walk_at "q1";refine⟨ok3,?_⟩;walk_at "q1";refine⟨w,w,R,R,rfl,g,g,fun r4 hr4=>?_⟩;obtain rfl:=hr3.one hr4
    try dsimp only
    rw[e3];walk_at "q1";refine⟨ok3,?_⟩;walk_at "q1";refine⟨by decide +kernel,w,R,rfl,g,?_⟩;walk_at "q1";refine⟨_,sI,?_⟩;rw[decide_eq_true rfl];walk_at "q1";refine⟨by decide +kernel,u,S,rfl,gs,?_⟩;walk_at "q1";refine⟨_,sI,?_⟩;rw[decide_eq_true rfl];exact q
theorem lG{w u:Nat}{R S:LL0}(g:GR w R)(h:oH w u R S r):(∃ x ys,r.d=.lst (.str x::ys)/\(x == Str.ofString "told")=false)\/(r.d=.lst [.str "told",rD (cM R S w)]/\(R.length=S.length/\w=u)/\∀ y x,y < R.length->x < w->ok2 R S y x=true):=by
 cases h with
 | unlike z=>exact .inl ⟨_,_,rfl,by decide +kernel⟩
 | great z y x hy hx ok bad=>exact .inl ⟨_,_,rfl,by decide +kernel⟩
 | told z ok=>exact .inr ⟨qR g.h1,z,ok⟩
theorem xp{h w:Nat}{f:Nat->Nat->Int}{y x:Nat}(hy:y < h)(hx:x < w):gat (jA h w f) y x=f y x:=by
 rw[vT (fm hy),List.getD_eq_getElem?_getD,oV hx];rfl
theorem Ax{w:Nat}{R S U:LL0}(h1:R.length=S.length):cM (cM R S w) U w=cM R (cM S U w) w:=by
 unfold cM;rw[dh];refine nR fun y x hy hx=>?_;rw[xp hy hx,xp (by lia) hx];lia
theorem DN{x:Str}{R:LL0}:eqN (n + 3) (.lst [.str x,rD R]) (.lst [.str x,rD R])=some true:=by
 have h:eqN (n + 2) (rD R) (rD R)=some true:=by rw[sI,decide_eq_true rfl]
 have h0:eqN (n + 2) (.str x) (.str x)=some true:=by rw[HJ];simp
 show c_ (n + 2) [.str x,rD R] [.str x,rD R]=_;simp [c_,h,h0]
def zu (a:Ad):S3:=fun Γ Q=>∃ (w u v:Nat) (R S U:LL0),Γ=[some (.fz (rD R)),some (.fz (rD S)),some (.fz (rD U))]/\GR w R/\GR u S/\GR v U/\Q (.fz (.bl true)) Γ
theorem lN(T:Txt K mg a):aG P w K mg base CX0 10 a.gQ a.fN ["_law_rows_here","_law_others","_law_more"] (sp3 K 3 (zu a)):=by
 refine ok3 T.cp.F b_ (hbody:=fun cdv A outer s H E hr=>⟨_,_,(aq (ET (i:=3) (j:=4) (l:=5) rfl b_.nd rfl rfl rfl (by rfl) (by rfl) (by rfl) (ab (c5 T.mk_Field (aP T) hr.dn (by rfl) T.cj T.aN.b (ab (p3v 0) ao)) (ab (c5 T.mk_Field (aP T) hr.dn (by rfl) T.cj T.aN.b (ab (p3v 1) ao)) (ab (c5 T.mk_Field (aP T) hr.dn (by rfl) T.cj T.aN.b (ab (p3v 2) ao)) ao))) (by rfl))
   (aq (yb (i:=6) (j:=7) rfl b_.nd rfl rfl (by decide) (by rfl) (by rfl) (ab (ak (by rfl) (bJ T) hr.dn (by rfl) T.ax.m T.ax.F.kp T.ax.b (aa (P3.opd (p3v 3)) (aa (P3.opd (p3v 4)) ae))) (ab (ak (by rfl) (bJ T) hr.dn (by rfl) T.ax.m T.ax.F.kp T.ax.b (aa (P3.opd (p3v 4)) (aa (P3.opd (p3v 5)) ae))) ao)) (by rfl))
   (aq (aX (P3W.pt (kD (aV (eR (by rfl) hr) (P3.opd (aO (by rfl) (bv 6) (P3.opd ai) (fun _ _=>rfl))) (P3.opd cx) (ba _)) (g_ (aV (eR (by rfl) hr) (P3.opd (aO (by rfl) (bv 7) (P3.opd ai) (fun _ _=>rfl))) (P3.opd cx) (ba _))))) (aj (aw dO)) aK)
   (aq (yb (i:=6) (j:=7) rfl b_.nd rfl rfl (by decide) (by rfl) (by rfl) (ab (ak (by rfl) (bJ T) hr.dn (by rfl) T.ax.m T.ax.F.kp T.ax.b (aa (P3.opd (c5 T.mk_Field (aP T) hr.dn (by rfl) T.cj T.aN.b (ab (aO (by rfl) (bv 6) (P3.opd ai) (fun _ _=>rfl)) ao))) (aa (P3.opd (p3v 5)) ae))) (ab (ak (by rfl) (bJ T) hr.dn (by rfl) T.ax.m T.ax.F.kp T.ax.b (aa (P3.opd (p3v 3)) (aa (P3.opd (c5 T.mk_Field (aP T) hr.dn (by rfl) T.cj T.aN.b (ab (aO (by rfl) (bv 7) (P3.opd ai) (fun _ _=>rfl)) ao))) ae))) ao)) (by rfl))
   (aj (aw (CT (iG (eR (by rfl) hr) (P3.opd (aO (by rfl) (bv 6) (P3.opd ai) (fun _ _=>rfl))) (P3.opd cx) (ba _)) (CT (iG (eR (by rfl) hr) (P3.opd (aO (by rfl) (bv 7) (P3.opd ai) (fun _ _=>rfl))) (P3.opd cx) (ba _)) (rJ (iG (eS (by rfl) hr) (bv 6) (bv 7) (ba _))))))))))),fun Γa Q h hl=>?_⟩)
 obtain⟨w,u,v,R,S,U,rfl,g,gs,gu,q⟩:=h;walk_at "q1";refine⟨w,R,rfl,g,?_⟩;walk_at "q1";refine⟨u,S,rfl,gs,?_⟩;walk_at "q1";refine⟨v,U,rfl,gu,?_⟩;walk_at "q1";refine⟨_,_,rfl,.inr ⟨w,R,rfl,g,.inr ⟨u,S,rfl,gs,fun r1 h1=>?_⟩⟩⟩
 try dsimp only
 obtain⟨d1,e1⟩:∃ d,r1.d=d:=⟨_,rfl⟩;rw[e1];walk_at "q1";refine⟨_,_,rfl,.inr ⟨u,S,rfl,gs,.inr ⟨v,U,rfl,gu,fun r2 h2=>?_⟩⟩⟩
 try dsimp only
 obtain⟨d2,e2⟩:∃ d,r2.d=d:=⟨_,rfl⟩;rw[e2];walk_at "q1";rcases lG g h1 with ⟨x1,y1,f1,n1⟩ | ⟨f1,z1,ok1⟩
 ·rw[f1] at e1;subst e1;walk_at "q1";rw[n1];walk_at "q1";exact q
 rw[f1] at e1;subst e1;rcases lG gs h2 with ⟨x2,y2,f2,n2⟩ | ⟨f2,z2,ok2'⟩
 ·rw[f2] at e2;subst e2;walk_at "q1";rw[n2];walk_at "q1";exact q
 rw[f2] at e2;subst e2;obtain⟨z1,rfl⟩:=z1;obtain⟨z2,rfl⟩:=z2;have g1:=nU g ok1;have g2:=nU gs ok2';walk_at "q1";refine⟨w,_,rfl,g1,?_⟩;walk_at "q1";refine⟨_,_,rfl,.inr ⟨w,_,rfl,g1,.inr ⟨w,U,rfl,gu,fun r3 h3=>?_⟩⟩⟩
 try dsimp only
 obtain⟨d3,e3⟩:∃ d,r3.d=d:=⟨_,rfl⟩;rw[e3];walk_at "q1";refine⟨w,_,rfl,g2,?_⟩;walk_at "q1";refine⟨_,_,rfl,.inr ⟨w,R,rfl,g,.inr ⟨w,_,rfl,g2,fun r4 h4=>?_⟩⟩⟩
 try dsimp only
 obtain⟨d4,e4⟩:∃ d,r4.d=d:=⟨_,rfl⟩;rw[e4];walk_at "q1";rcases lG g1 h3 with ⟨x3,y3,f3,n3⟩ | ⟨f3,_,_⟩
 ·rw[f3] at e3;subst e3;walk_at "q1";rw[n3];walk_at "q1";exact q
 rw[f3] at e3;subst e3;rcases lG g h4 with ⟨x4,y4,f4,n4⟩ | ⟨f4,_,_⟩
 ·rw[f4] at e4;subst e4;walk_at "q1";rw[n4];walk_at "q1";exact q
 rw[f4] at e4;subst e4;walk_at "q1";rw[Ax z1];exact⟨true,DN,q⟩
noncomputable abbrev Np (a:Ad):D:=.ins a.aH ["halver","moments"] [pO a,.lst [.tup [fD a [[1,2]],fD a [[1,-1]]]]]
def LC (a:Ad):S3:=fun Γ Q=>Γ=[some (.ln (.ins a.aH [] [])),some (.fz (pO a)),some (.fz (fD a [[1,2]]))]/\Q (.fz .non) [some (.ln (Np a)),some (.fz (pO a)),some (.fz (fD a [[1,2]]))]
theorem lO(T:Txt K mg a)(M:k9 base a.cy qL):aG P w K mg base CX0 11 a.dF a.fP ["self","plan","field"] (sp3 K 3 (LC a)):=by
 refine ok3 T.gB.F lL (hbody:=fun cdv A outer s H E hr=>⟨_,_,(aq (lz (C0:=a.aH) 0 (by rfl) T.sP T.nL (bv 0) (p3v 1))
   (aj (lz (C0:=a.aH) 0 (by rfl) T.sP T.mT (bv 0) (bE (ab (bB (ab (p3v 2) (ab (ak (by rfl) (AZ T M) hr.dn (by rfl) T.m8.m T.m8.F.kp T.m8.b (aa (P3.opd (p3v 1)) (aa (P3.opd (p3v 2)) ae))) ao))) ao))))),fun Γa Q h hl=>?_⟩)
 obtain⟨rfl,q⟩:=h;walk_at "q1";refine⟨rfl,?_⟩;walk_at "q1";exact⟨z2,bK (by decide),by decide +kernel,q⟩
structure Od (a:Ad) (v:D):Prop where
 nf:NF a v
 ok:okR (.lst [.str "field",v])
structure Th (a:Ad) (v:D):Prop where
 nf:NF a v
 sm:SmO [a.aH,a.aM] v
theorem Hk{w:Nat}{R:LL0}(g:GR w R){v:D}(h:v∈[D.non,.int 5,.bl true,.str (Str.ofString "1 2"),rD R,.tup (R.map il),.dct,.lst []]):Od a v:=by
 have key:NF a v/\Sh 500000 3 v:=by
  simp only[List.mem_cons,List.not_mem_nil,or_false] at h;rcases h with rfl | rfl | rfl | rfl | rfl | rfl | rfl | rfl
  ·exact⟨rfl,.up .non (by decide) (by decide)⟩
  ·exact⟨rfl,.up (.int (by decide)) (by decide) (by decide)⟩
  ·exact⟨rfl,.up (.bl _) (by decide) (by decide)⟩
  ·exact⟨rfl,qX (by decide +kernel)⟩
  ·exact⟨rfl,zz g⟩
  ·exact⟨rfl,.up (.tup (n:=64 * 102 + 3) (k:=2) (l:=64) (fun x hx=>by
    obtain⟨r,hr,rfl⟩:=List.mem_map.mp hx;exact B6 (g.fig r hr) (by rw[g.len r hr];exact g.w2)) (by rw[lM0];exact g.h2)) (by decide) (by decide)⟩
  ·exact⟨rfl,.up .dct (by decide) (by decide)⟩
  ·exact⟨rfl,.up (.lst (n:=1) (k:=1) (l:=0) (fun x hx=>nomatch hx) (Nat.le_refl _)) (by decide) (by decide)⟩
 refine⟨key.1,EL (fun x hx=>?_) (by show 2<=3;decide)⟩;simp only[List.mem_cons,List.not_mem_nil,or_false] at hx;rcases hx with rfl | rfl
 ·exact qX (by decide +kernel)
 ·exact key.2
theorem K6{p1 p2 p3 p4:Addr}{v:D}(h:v∈[D.obj p1 (some a.aH),.obj p2 (some a.aM),.lst [.obj p3 (some a.aD)],.tup [.obj p4 (some a.aD)]]):Th a v:=by
 simp only[List.mem_cons,List.not_mem_nil,or_false] at h;rcases h with rfl | rfl | rfl | rfl
 ·exact⟨if_pos (.head _),.inl ⟨_,_,rfl,.head _⟩⟩
 ·exact⟨if_pos (.tail _ (.head _)),.inl ⟨_,_,rfl,.tail _ (.head _)⟩⟩
 ·exact⟨rfl,.inr ⟨_,_,.inl rfl⟩⟩
 ·exact⟨rfl,.inr ⟨_,_,.inr rfl⟩⟩
def Fd (a:Ad) (da db v:D):Prop:=(NF a da/\v=da)\/∃ w R,da=fD a R/\GR w R/\NF a db/\v=db
theorem zt{da db v:D}{t:Tag Q}(h:Fd a da db v)(q:Q (.fz (.lst [.str (Str.ofString "field"),v])) (bD ls Γ [some (.fz da),some (.fz db)])):xk (BU a) [some (.fz da),some (.fz db)] ls Γ Q t:=by
 rcases h with ⟨n,rfl⟩ | ⟨w,R,rfl,g,n,rfl⟩
 ·exact⟨_,_,rfl,.inl ⟨n,q⟩⟩
 ·exact⟨_,_,rfl,.inr ⟨w,R,rfl,g,.inl ⟨n,q⟩⟩⟩
def Hj (a:Ad):S3:=fun Γ Q=>∃ (d:D) (c:Int) (w:Nat) (R:LL0),Γ=[some (.ln d),some (.fz (rD R))]/\Box c d/\c<=900000/\GR w R/\∀ d',Box (c + 3) d'->Q (.fz (.bl true)) [some (.ln d'),some (.fz (rD R))]
theorem nI(T:Txt K mg a)(M:k9 base a.cy qL):aG P w K mg base CX0 13 a.i_ a.hZ ["_law_box_here","_law_rows_here"] (sp3 K 2 (Hj a)):=by
 refine ok3 T.cX.F aL (hbody:=fun cdv A outer s H E hr=>⟨_,_,(aq (a_ (i:=2) aL.nd rfl (Or.inl rfl) (uf (c5 T.mk_Field (aP T) hr.dn (by rfl) T.cj T.aN.b (ab (p3v 1) ao))))
   (aq (a_ (i:=3) aL.nd rfl (Or.inl rfl) (uf (bE (ab Jc (ab ai (ab dO (ab cx (ab (p3v 1) (ab (dN (qI (by rfl)) (by rfl) T.z_tuple (by decide +kernel) (aa (bv 1) ae)) (ab Je (ab (bE ao) ao)))))))))))
   (aq (a_ (i:=4) aL.nd rfl (Or.inl rfl) (aO (by rfl) (bv 3) (P3.opd (ak (by rfl) (aF T) hr.dn (by rfl) T.af.m T.af.F.kp T.af.b (aa (bv 0) (aa (P3.opd ai) ae)))) (fun _ _=>rfl)))
   (aq (a_ (i:=5) aL.nd rfl (Or.inl rfl) (aO (by rfl) (bv 3) (P3.opd (ak (by rfl) (aF T) hr.dn (by rfl) T.af.m T.af.F.kp T.af.b (aa (bv 0) (aa (P3.opd ai) ae)))) (fun _ _=>rfl)))
   (aq (a_ (i:=6) aL.nd rfl (Or.inl rfl) (uf (c5 T.mk_Plan (oX T) hr.dn (by rfl) T.FU T.jI.b (ab ai (ab ai (ab cx (ab cx ao)))))))
   (aq (a_ (i:=7) aL.nd rfl (Or.inl rfl) (aO (by rfl) (P3.opd (bE (ab (vD (c5 T.mk_Picture (lO T M) hr.dn (by rfl) T.yF T.gB.b (ab (p3v 6) (ab (c5 T.mk_Field (aP T) hr.dn (by rfl) T.cj T.aN.b (ab (bE (ab (bE (ab ai (ab ai ao))) ao)) ao)) ao)))) (ab (vD (p3v 6)) (ab (bE (ab (vD (p3v 2)) ao)) (ab (bB (ab (vD (p3v 2)) ao)) ao)))))) (P3.opd (ak (by rfl) (aF T) hr.dn (by rfl) T.af.m T.af.F.kp T.af.b (aa (bv 0) (aa (P3.opd ai) ae)))) (fun _ _=>rfl)))
   (aq (iE PassesOwn.never rfl (cb (by rfl) (bE (ab (bB (ab (p3v 7) (ab (p3v 2) ao))) (ab (bB (ab (p3v 2) (ab (p3v 7) ao))) (ab (bB (ab (p3v 7) (ab (p3v 4) ao))) ao))))) (mW (is:=[8,9]) (by rfl) (br (bI (i:=8) aL.nd rfl (Or.inl rfl)) (br (bI (i:=9) aL.nd rfl (Or.inl rfl)) eX)) rfl)
   (aq (a_ (i:=10) aL.nd rfl (Or.inl rfl) (uf (ak (by rfl) (bJ T) hr.dn (by rfl) T.ax.m T.ax.F.kp T.ax.b (aa (P3.opd (p3v 8)) (aa (P3.opd (p3v 9)) ae)))))
   (aj (aX (P3W.pt (kD (aV (eR (by rfl) hr) (P3.opd (aO (by rfl) (bv 10) (P3.opd ai) (fun _ _=>rfl))) (P3.opd cx) (ba _)) (g_ (aV (Kv (by rfl) (al2 T.yy T.FL) hr) (P3.opd (aO (by rfl) (bv 10) (P3.opd ai) (fun _ _=>rfl))) (bv 7) (ba _))))) (aj (aw dO)) aK))))
   (aq (iE PassesOwn.never rfl (cb (by rfl) (bE (ab (bB (ab (bB (ab (p3v 4) (ab (p3v 2) ao))) (ab (p3v 4) ao))) (ab (bB (ab (bB (ab (p3v 2) (ab (p3v 4) ao))) (ab (p3v 4) ao))) (ab (bB (ab (bB (ab (p3v 4) (ab (p3v 5) ao))) (ab (p3v 4) ao))) (ab (bB (ab (bB (ab (p3v 5) (ab (p3v 4) ao))) (ab (p3v 5) ao))) ao)))))) (mW (is:=[11,12]) (by rfl) (br (bI (i:=11) aL.nd rfl (Or.inl rfl)) (br (bI (i:=12) aL.nd rfl (Or.inl rfl)) eX)) rfl)
   (aj (aX (aV (eR (by rfl) hr) (P3.opd (aB (iq (by rfl) hr) (by rfl) T.z_repr (by decide +kernel) (aa (P3.opd (ak (by rfl) (bJ T) hr.dn (by rfl) T.ax.m T.ax.F.kp T.ax.b (aa (P3.opd (aO (by rfl) (bv 11) (P3.opd ai) (fun _ _=>rfl))) (aa (P3.opd (aO (by rfl) (bv 11) (P3.opd ai) (fun _ _=>rfl))) ae)))) ae))) (P3.opd (aB (iq (by rfl) hr) (by rfl) T.z_repr (by decide +kernel) (aa (P3.opd (bE (ab cx (ab (p3v 12) ao)))) ae))) (ba _)) (aj (aw dO)) aK)))
   (aj (aw dO)))))))))),fun Γa Q h hl=>?_⟩)
 obtain⟨d,c,w,R,rfl,hb,hc,g,q⟩:=h;have g2:=g.h2;walk_at "q1";refine⟨w,R,rfl,g,?_⟩;walk_at "q1";refine⟨Nat.zero_le _,bK (by decide),d,c,8,rfl,hb,by lia,by decide,by decide,fun r1 d1 l1 u1 b1=>?_⟩;walk_at "q1";refine pick (p:=Od a) l1 u1 (fun x hx=>Hk g hx) fun v1 o1=>?_;walk_at "q1";refine⟨d1,c + 1,8,rfl,b1,by lia,by decide,by decide,fun r2 d2 l2 u2 b2=>?_⟩;walk_at "q1";refine pick (p:=Od a) l2 u2 (fun x hx=>Hk g hx) fun v2 o2=>?_;walk_at "q1";refine⟨rfl,?_⟩;walk_at "q1";refine⟨z2,bK (by decide),2,[[1,2]],rfl,Gi,?_⟩;walk_at "q1";refine⟨rfl,?_⟩;walk_at "q1";refine⟨_,_,_,rfl,fun p1=>?_⟩;walk_at "q1";refine⟨_,_,_,rfl,fun p2=>?_⟩;walk_at "q1";refine⟨_,_,_,rfl,fun p3=>?_⟩;walk_at "q1";refine⟨bK (by decide),_,_,_,rfl,fun p4=>?_⟩;walk_at "q1";refine⟨bK (by decide),bK (by decide),d2,c + 1 + 1,4,rfl,b2,by lia,by decide,by decide,fun r3 d3 l3 u3 b3=>?_⟩;walk_at "q1";refine pick (p:=Th a) l3 u3 (fun x hx=>K6 hx) fun v3 o3=>?_;walk_at "q1";refine⟨z2,z2,z2,bK (by decide),cU (fun k Γ=>∃ s8 s9 s10,Γ=[some (.ln d3),some (.fz (rD R)),some (.fz (fD a R)),some (.fz (.lst [.non,.int 5,.bl true,.str (Str.ofString "1 2"),rD R,.tup (R.map il),.dct,.lst []])),some (.fz v1),some (.fz v2),some (.fz (pO a)),some (.fz v3),fo s8,fo s9,fo s10,none,none]) ⟨none,none,none,rfl⟩ ?_ ?_⟩
 ·rintro k x Γ hd ⟨s8,s9,s10,rfl⟩;have hm:=List.mem_of_getElem? hd;simp only[List.mem_cons,List.not_mem_nil,or_false] at hm;obtain⟨da,db,rfl,h⟩:∃ da db,x=.tup [da,db]/\Fd a da db v3:=by
   rcases hm with rfl | rfl | rfl
   ·exact⟨_,_,rfl,.inl ⟨o3.nf,rfl⟩⟩
   ·exact⟨_,_,rfl,.inr ⟨w,R,rfl,g,o3.nf,rfl⟩⟩
   ·exact⟨_,_,rfl,.inl ⟨o3.nf,rfl⟩⟩
  walk_at "q1";refine zt h ?_;walk_at "q1";refine⟨rfl,o3.sm,?_⟩;walk_at "q1";exact⟨some _,some _,some _,rfl⟩
 ·rintro Γ ⟨s8,s9,s10,rfl⟩;walk_at "q1";refine⟨z2,z2,z2,z2,z2,z2,z2,z2,bK (by decide),cU (fun k Γ=>∃ s11 s12,Γ=[some (.ln d3),some (.fz (rD R)),some (.fz (fD a R)),some (.fz (.lst [.non,.int 5,.bl true,.str (Str.ofString "1 2"),rD R,.tup (R.map il),.dct,.lst []])),some (.fz v1),some (.fz v2),some (.fz (pO a)),some (.fz v3),fo s8,fo s9,fo s10,fo s11,fo s12]) ⟨none,none,rfl⟩ ?_ ?_⟩
  ·rintro k x Γ hd ⟨s11,s12,rfl⟩;have hm:=List.mem_of_getElem? hd;simp only[List.mem_cons,List.not_mem_nil,or_false] at hm;obtain⟨da,db,v,rfl,h,o⟩:∃ da db v,x=.tup [.tup [da,db],v]/\Fd a da db v/\Od a v:=by
    rcases hm with rfl | rfl | rfl | rfl
    ·exact⟨_,_,_,rfl,.inl ⟨o1.nf,rfl⟩,o1⟩
    ·exact⟨_,_,_,rfl,.inr ⟨w,R,rfl,g,o1.nf,rfl⟩,o1⟩
    ·exact⟨_,_,_,rfl,.inl ⟨o1.nf,rfl⟩,o1⟩
    ·exact⟨_,_,_,rfl,.inl ⟨o2.nf,rfl⟩,o2⟩
   walk_at "q1";refine zt h ?_;walk_at "q1";exact⟨o.ok,z2,o.ok,some _,some _,rfl⟩
  ·rintro Γ ⟨s11,s12,rfl⟩;walk_at "q1";exact q _ (b3.up (by lia))
theorem pv.turn{h w:Int}(s:pv h w):pv w h:=⟨s.w1,s.h1,s.w2,s.h2,by rw[Int.mul_comm];exact s.m⟩
theorem JA{E:E3}{ns:Li0}{x1 x4 x5 x6 d:D}{c h w:Int}(b:Box c d)(hc:c<=100000)(sz:pv h w)(hN:∀ d' u S,Box 200000 d'->GR u S->E.nx [some (.fz (.scr ns)),some (.fz x1),some (.ow d'),some (.fz (pD h w)),some (.fz x4),some (.fz x5),some (.fz (rD S))]) :
  Ca 6 (fK 2 vM (eH (bor 2) (eH (bof (lJ ix3 (bof (Jx (ip (fK 1 zy (eH (bor 2) qp)) (ip (As (ip (lJ ix3 (bor 3) (bof (t3C (D.int 1)))) (ip (lJ ix3 (bor 3) (bof (t3C (D.int 0)))) yw))) yw)))) (bof (fK 2 BW (eH (bor 2) (eH (bof (t3C (D.int 2))) qp)))))) qp))) E [some (.fz (.scr ns)),some (.fz x1),some (.ow d),some (.fz (pD h w)),some (.fz x4),some (.fz x5),some (.fz x6)]:=by
 walk_at "q1";refine⟨d,c,rfl,b,by lia,fun h1 w1 d1 s1 b1=>?_⟩;walk_at "q1";refine⟨z2,z2,d1,c + 10,2,rfl,b1,by lia,by decide,by decide,fun r2 d2 l2 u2 b2=>?_⟩;walk_at "q1";refine pick (p:=fun v=>∃ h w:Int,v=pD h w/\pv h w) l2 u2 (fun x hx=>?_) ?_
 ·simp only[List.mem_cons,List.not_mem_nil,or_false] at hx;rcases hx with rfl | rfl
  ·exact⟨_,_,rfl,s1⟩
  ·exact⟨_,_,rfl,sz.turn⟩
 rintro _ ⟨h3,w3,rfl,s3⟩;walk_at "q1";refine⟨d2,c + 10 + 1,h3,w3,rfl,b2,by lia,s3,fun S d4 gs hl b4=>?_⟩;walk_at "q1";exact hN _ _ S (b4.up (by lia)) gs
noncomputable def yx (R:LL0):LL0:=R.map fun r=>r.map fun n=>0 - n
theorem Jr{w:Nat}{R:LL0}(g:GR w R):GR w (yx R):=by
 refine⟨by unfold yx;rw[lM0];exact g.h1,by unfold yx;rw[lM0];exact g.h2,g.w1,g.w2,by unfold yx;rw[lM0];exact g.all,fun r hr=>?_,fun r hr n hn=>?_⟩
 ·obtain⟨t,ht,rfl⟩:=List.mem_map.mp hr;rw[lM0];exact g.len t ht
 ·obtain⟨t,ht,rfl⟩:=List.mem_map.mp hr;obtain⟨m,hm,rfl⟩:=List.mem_map.mp hn;have:=g.fig t ht m hm;lia
theorem xh{E:E3}{ns:Li0}{x1 x4 d:D}{h w:Int}{u v:Nat}{R S:LL0}(b:Box 200000 d)(sz:pv h w)(g:GR v R)(gs:GR u S)(hN:∀ d',E.nx [some (.fz (.scr ns)),some (.fz x1),some (.ow d'),some (.fz (pD h w)),some (.fz x4),some (.fz (rD R)),some (.fz (rD S))]) :
  Cb (Ba (or3 (yu (tst (fK 2 (vm a) (eH (bof (iV 5)) (eH (bof (iV 6)) qp))))) (yu (tst (fK 2 (Hj a) (eH (bor 2) (eH (bof (iV 5)) qp)))))) (AG (t3C (D.bl false))) xa)
   (Cb (Ba (yu (tst (fK 2 (vm a) (eH (bof (iV 5)) (eH (bof (sO [none] (iL3 (iV 5)) (tgN 0) (sO [none] (iL3 (iV 0)) (tgN 0) (lJ (i2' fun i j=>D.int (i - j)) (bof (t3C (D.int 0))) (bor 0))))) qp))))) (AG (t3C (D.bl false))) xa)
    (Ba (yu (tst (fK 3 (zu a) (eH (bof (iV 5)) (eH (bof (iV 6)) (eH (bof (fK 2 vM (eH (bor 2) (eH (bof (iV 3)) qp)))) qp)))))) (AG (t3C (D.bl false))) xa)) E
   [some (.fz (.scr ns)),some (.fz x1),some (.ow d),some (.fz (pD h w)),some (.fz x4),some (.fz (rD R)),some (.fz (rD S))]:=by
 have g2:=g.h2;walk_at "q1";refine⟨v,u,R,S,rfl,g,gs,?_⟩;walk_at "q1";refine⟨d,200000,v,R,rfl,b,by decide,g,fun d1 b1=>?_⟩;walk_at "q1";refine⟨small (by rw[lM0];lia),b8 (fun k ys Γc=>ys=(R.take k).map (fun r=>il (r.map fun n=>0 - n))/\∃ s,Γc=[fo s]) ⟨rfl,none,rfl⟩ ?_ ?_⟩
 ·rintro k x ys Γc hd hk ⟨rfl,s,rfl⟩;obtain⟨r,hr',rfl⟩:=iS hd;have lr:=g.len r (List.mem_of_getElem? hr');have w2:=g.w2;walk_at "q1";refine⟨small (by rw[lM0];lia),b8 (fun j ys Γc=>ys=(r.take j).map (fun n=>D.int (0 - n))/\∃ s,Γc=[fo s]) ⟨rfl,none,rfl⟩ ?_ ?_⟩
  ·rintro j y ys Γc hd2 hj ⟨rfl,s,rfl⟩;obtain⟨n,hn,rfl⟩:=iS hd2;walk_at "q1";exact⟨by rw[take_snoc hn,List.map_append];rfl,some _,rfl⟩
  ·rintro ys Γc hj ⟨rfl,s,rfl⟩;walk_at "q1";refine⟨?_,some _,rfl⟩;rw[show r.take (r.map D.int).length=r from List.take_of_length_le (by rw[lM0];exact Nat.le_refl _),take_snoc hr',List.map_append,List.map_cons,List.map_nil,il,List.map_map]
   rfl
 ·rintro ys Γc hk ⟨rfl,s,rfl⟩;rw[List.take_of_length_le (by rw[lM0];exact Nat.le_refl _),show R.map (fun r=>il (r.map fun n=>0 - n))=(yx R).map il by unfold yx;rw[List.map_map];rfl];walk_at "q1";refine⟨v,v,R,yx R,rfl,g,Jr g,?_⟩;walk_at "q1";refine⟨d1,200003,h,w,rfl,b1,by decide,sz,fun U d2 gu hl b2=>?_⟩;walk_at "q1";refine⟨v,u,_,R,S,U,rfl,g,gs,gu,?_⟩;walk_at "q1";exact hN _
theorem FG(T:Txt K mg a)(M:k9 base a.cy qL):aG P w K mg base CX0 14 a.DJ a.yT ["_law_script"] (sp3 K 1 (Hr 63)):=by
 refine ok3 T.K3.F kb (hbody:=fun cdv A outer s H E hr=>⟨_,_,(aq (iE PassesOwn.never rfl (cD (by rfl) T.z_range (ab (aB (HS rfl) (by rfl) T.z_max (by decide +kernel) (aa (P3.opd ai) (aa (P3.opd (aB (HR rfl) (by rfl) T.z_min (by decide +kernel) (aa (P3.opd (aB (fR (by rfl)) (by rfl) T.z_len (by decide +kernel) (aa (bv 0) ae))) (aa (P3.opd ai) ae)))) ae))) ao)) (bx (i:=1) kb.nd rfl (Or.inl rfl))
   (aq (a_ (i:=2) kb.nd rfl (Or.inl rfl) (ak (by rfl) (w6 T) hr.dn (by rfl) T.jh.m T.jh.F.kp T.jh.b (aa (P3.opd (ak (by rfl) (vJ T) hr.dn (by rfl) T.g6.m T.g6.F.kp T.g6.b (aa (P3.opd (p3v 0)) (aa (P3.opd (p3v 1)) ae)))) ae)))
   (aq (a_ (i:=3) kb.nd rfl (Or.inl rfl) (ak (by rfl) (nH T) hr.dn (by rfl) T.cL.m T.cL.F.kp T.cL.b (aa (bv 2) ae)))
   (aq (a_ (i:=4) kb.nd rfl (Or.inl rfl) (iG (eS (by rfl) hr) (P3.opd (ak (by rfl) (aF T) hr.dn (by rfl) T.af.m T.af.F.kp T.af.b (aa (bv 2) (aa (P3.opd ai) ae)))) (P3.opd ai) (ba _)))
   (aq (a_ (i:=5) kb.nd rfl (Or.inl rfl) (ak (by rfl) (gc T) hr.dn (by rfl) T.bq.m T.bq.F.kp T.bq.b (aa (bv 2) (aa (P3.opd (p3v 3)) ae))))
   (aq (a_ (i:=6) kb.nd rfl (Or.inl rfl) (ak (by rfl) (gc T) hr.dn (by rfl) T.bq.m T.bq.F.kp T.bq.b (aa (bv 2) (aa (P3.opd (p3v 3)) ae))))
   (aq (aX (a9 (p3v 4)) (aj (a_ (i:=6) kb.nd rfl (Or.inl rfl) (ak (by rfl) (gc T) hr.dn (by rfl) T.bq.m T.bq.F.kp T.bq.b (aa (bv 2) (aa (P3.opd (aO (by rfl) (P3.opd (bE (ab (ak (by rfl) (nH T) hr.dn (by rfl) T.cL.m T.cL.F.kp T.cL.b (aa (bv 2) ae)) (ab (bB (ab (aO (by rfl) (bv 3) (P3.opd ai) (fun _ _=>rfl)) (ab (aO (by rfl) (bv 3) (P3.opd ai) (fun _ _=>rfl)) ao))) ao)))) (P3.opd (ak (by rfl) (aF T) hr.dn (by rfl) T.af.m T.af.F.kp T.af.b (aa (bv 2) (aa (P3.opd ai) ae)))) (fun _ _=>rfl))) ae))))) aK)
   (aq (aX (P3W.pt (kD (bw (a9 (ak (by rfl) (l_ T) hr.dn (by rfl) T.cq.m T.cq.F.kp T.cq.b (aa (P3.opd (p3v 5)) (aa (P3.opd (p3v 6)) ae))))) (g_ (bw (a9 (ak (by rfl) (nI T M) hr.dn (by rfl) T.cX.m T.cX.F.kp T.cX.b (aa (bv 2) (aa (P3.opd (p3v 5)) ae)))))))) (aj (aw dO)) aK)
   (aq (aX (bw (a9 (ak (by rfl) (l_ T) hr.dn (by rfl) T.cq.m T.cq.F.kp T.cq.b (aa (P3.opd (p3v 5)) (aa (P3.opd (cH rfl (cb (by rfl) (p3v 5)) uM (fun _ _ _ _ _=>(bx (i:=0) uM.nd rfl (Or.inl rfl))) (fun _ _ _ _ _=>(cH rfl (cb (by rfl) (p3v 0)) uL (fun _ _ _ _ _=>(bx (i:=0) uL.nd rfl (Or.inl rfl))) (fun _ _ _ _ _=>(iF (P3.opd ai) (bv 0))))))) ae))))) (aj (aw dO)) aK)
   (aj (aX (bw (a9 (ak (by rfl) (lN T) hr.dn (by rfl) T.cp.m T.cp.F.kp T.cp.b (aa (P3.opd (p3v 5)) (aa (P3.opd (p3v 6)) (aa (P3.opd (ak (by rfl) (gc T) hr.dn (by rfl) T.bq.m T.bq.F.kp T.bq.b (aa (bv 2) (aa (P3.opd (p3v 3)) ae)))) ae)))))) (aj (aw dO)) aK)))))))))))
   (aj (aw dO))),fun Γa Q h hl=>?_⟩)
 obtain⟨ns,rfl,hn,q⟩:=h;walk_at "q1";have n8:fmax 2 (fmin (ns.length:Int) 8)<=8:=by unfold fmax fmin;split <;> split <;> lia
 have n2:2<=fmax 2 (fmin (ns.length:Int) 8):=by unfold fmax fmin;split <;> split <;> lia
 refine⟨by lia,by lia,cU (fun k Γ=>∃ s1 s2 s3 s4 s5 s6,Γ=[some (.fz (.scr ns)),fo s1,fw s2,fo s3,fo s4,fo s5,fo s6]) ⟨none,none,none,none,none,none,rfl⟩ ?_ ?_⟩
 ·rintro k x Γ hd ⟨s1,s2,s3,s4,s5,s6,rfl⟩;obtain⟨lk,rfl⟩:=iY hd;walk_at "q1";refine⟨ns,_,rfl,by lia,fun r=>?_⟩;walk_at "q1";refine⟨r,rfl,fun d0 b0=>?_⟩;walk_at "q1";refine⟨d0,0,rfl,b0,by decide,fun h w d1 sz b1=>?_⟩;walk_at "q1";refine⟨d1,10,4,rfl,b1,by decide,by decide,by decide,fun r2 d2 l2 u2 b2=>?_⟩;walk_at "q1";refine⟨d2,11,h,w,rfl,b2,by decide,sz,fun R d3 g hl3 b3=>?_⟩;walk_at "q1";refine⟨d3,20011,h,w,rfl,b3,by decide,sz,fun S d4 gs hl4 b4=>?_⟩;walk_at "q1";refine qa (fun _=>?_) (fun _=>?_)
  ·exact JA b4 (by decide) sz fun d' u S' bd gs'=>xh bd sz g gs' fun d2=>⟨some _,some _,some _,some _,some _,some _,rfl⟩
  ·exact xh (b4.up (by decide)) sz g gs fun d2=>⟨some _,some _,some _,some _,some _,some _,rfl⟩
 ·rintro Γ ⟨s1,s2,s3,s4,s5,s6,rfl⟩;walk_at "q1";exact q _
theorem ln6{α:Type}{us:List α}(h:us.length=6):∃ a b c d e f,us=[a,b,c,d,e,f]:=by
 match us,h with
 | [a,b,c,d,e,f],_=>exact⟨a,b,c,d,e,f,rfl⟩
def u5 (K:Fg0):Sp:=fun vs H Q _=>∃ (p:Addr) (ns:Li0),vs=[.ref p]/\SqL K H p (ns.map V.int)/\ns.length<=63/\∀ H',Q (.bl true) H'
theorem Jo(T:Txt K mg a)(M:k9 base a.cy qL):aG P w K mg base CX0 14 a.DJ a.yT ["_law_script"] (u5 K):=Jz (FG T M)
set_option bootstrap.genMatcherCode true in
local macro_rules | `(tactic| walk_at "bn")=>`(tactic| (intro _ _ _ _ _ _ us hl;first | (have h:=ln0 hl;subst h;rfl) | (obtain⟨_,h⟩:=ln1 hl;subst h;rfl) | (obtain⟨_,_,h⟩:=ln2 hl;subst h;rfl) | (obtain⟨_,_,_,h⟩:=ln3 hl;subst h;rfl) | (obtain⟨_,_,_,_,h⟩:=ln4 hl;subst h;rfl) | (obtain⟨_,_,_,_,_,h⟩:=ln5 hl;subst h;rfl) | (obtain⟨_,_,_,_,_,_,h⟩:=ln6 hl;subst h;rfl)))
theorem all_mk{l:PySem.W.OpenLaw}{fa:Addr}(X:K.In h)(G:h.Ns mainGlobals mg)(hfa:mg "law"=some (.ref fa)){aD:Addr}{bc:Addr}{aS:Addr}{aT:Addr}{aH:Addr}{aM:Addr}{bV:Addr}{av:Addr}{bu:Addr}{aZ:Addr}{bH:Addr}{bp:Addr}{od_ALONG_PILLARS:Option Addr}{nn_ALONG_PILLARS:Nat}{sl_ALONG_PILLARS:Array (Option Value)}{tk_ALONG_PILLARS_0:Tok}{tk_ALONG_PILLARS_1:Tok}{bM:Addr}{od_ALONG_ROWS:Option Addr}{nn_ALONG_ROWS:Nat}{sl_ALONG_ROWS:Array (Option Value)}{tk_ALONG_ROWS_0:Tok}{tk_ALONG_ROWS_1:Tok}{f0 f1 f2 f3 f4 f5 f6 f7 f8 f9 f10 f11 f12 f13 f14 f15 f16 f17 f18 f19 f20 f21 f22 f23 f24 f25 f26 f27 f28 f29 f30 f31 f32 f33 f34 f35 f36 f37 f38 f39 f40 f41 f42 f43 f44 f45 f46 f47 f48 f49 f50 f51 f52 f53 f54 f55 f56 f57 f58 f59 f60 f61 f62 f63:Addr}{d0 d1 d2 d3 d4 d5 d6 d7 d8 d9 d10 d11 d12 d13 d14 d15 d16 d17 d18 d19 d20 d21 d22 d23 d24 d25 d26 d27 d28 d29 d30 d31 d32 d33 d34 d35 d36 d37 d38 d39 d40 d41 d42 d43 d44 d45 d46 d48 d49 d50 d51 d52 d53 d54 d55 d56 d57 d58 d59 d60 d61 d62 d63:FuncData}{od47 an47:Option Addr}{sl47:Array (Option Value)}{oc47 kV47 dc47 pm47 ct47:Value}{ez cy:Addr}{t_MOST_NUMBER:Tok}{t_MOST_PLACES:Tok}{t_MOST_SIDE:Tok}{t_MOST_VALUE:Tok}(aC_Field:PySem.W.nsIn K mainGlobals "Field"=some (some (.ref aD)))(pg_Field:PySem.W.plainGet K aD Str.empty=true)(hd_Field:PySem.W.hasDictIn K aD=true)(po_Field:PySem.W.plainOver K aD=true)(sa_Field:PySem.W.findIn K (.ref aD) "__setattr__"=some (some (.builtin "object.__setattr__")))(mk_Field:PySem.W.makesIn K aD=true)(kc_Field:PySem.W.keepIn K (.ref aD)=true)(aC_Guessed:PySem.W.nsIn K mainGlobals "Guessed"=some (some (.ref bc)))(pg_Guessed:PySem.W.plainGet K bc Str.empty=true)(hd_Guessed:PySem.W.hasDictIn K bc=true)(po_Guessed:PySem.W.plainOver K bc=true)(sa_Guessed:PySem.W.findIn K (.ref bc) "__setattr__"=some (some (.builtin "object.__setattr__")))(mk_Guessed:PySem.W.makesIn K bc=true)(kc_Guessed:PySem.W.keepIn K (.ref bc)=true)(in_Guessed:PySem.W.findIn K (.ref bc) "__init__"=some (some (.builtin "object.__init__")))(aC_Halves:PySem.W.nsIn K mainGlobals "Halves"=some (some (.ref aS)))(pg_Halves:PySem.W.plainGet K aS Str.empty=true)(hd_Halves:PySem.W.hasDictIn K aS=true)(po_Halves:PySem.W.plainOver K aS=true)(sa_Halves:PySem.W.findIn K (.ref aS) "__setattr__"=some (some (.builtin "object.__setattr__")))(mk_Halves:PySem.W.makesIn K aS=true)(kc_Halves:PySem.W.keepIn K (.ref aS)=true)(in_Halves:PySem.W.findIn K (.ref aS) "__init__"=some (some (.builtin "object.__init__")))(aC_Leaning:PySem.W.nsIn K mainGlobals "Leaning"=some (some (.ref aT)))(pg_Leaning:PySem.W.plainGet K aT Str.empty=true)(hd_Leaning:PySem.W.hasDictIn K aT=true)(po_Leaning:PySem.W.plainOver K aT=true)(sa_Leaning:PySem.W.findIn K (.ref aT) "__setattr__"=some (some (.builtin "object.__setattr__")))(mk_Leaning:PySem.W.makesIn K aT=true)(kc_Leaning:PySem.W.keepIn K (.ref aT)=true)(in_Leaning:PySem.W.findIn K (.ref aT) "__init__"=some (some (.builtin "object.__init__")))(aC_Picture:PySem.W.nsIn K mainGlobals "Picture"=some (some (.ref aH)))(pg_Picture:PySem.W.plainGet K aH Str.empty=true)(hd_Picture:PySem.W.hasDictIn K aH=true)(po_Picture:PySem.W.plainOver K aH=true)(sa_Picture:PySem.W.findIn K (.ref aH) "__setattr__"=some (some (.builtin "object.__setattr__")))(mk_Picture:PySem.W.makesIn K aH=true)(kc_Picture:PySem.W.keepIn K (.ref aH)=true)(aC_Plan:PySem.W.nsIn K mainGlobals "Plan"=some (some (.ref aM)))(pg_Plan:PySem.W.plainGet K aM Str.empty=true)(hd_Plan:PySem.W.hasDictIn K aM=true)(po_Plan:PySem.W.plainOver K aM=true)(sa_Plan:PySem.W.findIn K (.ref aM) "__setattr__"=some (some (.builtin "object.__setattr__")))(mk_Plan:PySem.W.makesIn K aM=true)(kc_Plan:PySem.W.keepIn K (.ref aM)=true)(aC_Sums:PySem.W.nsIn K mainGlobals "Sums"=some (some (.ref bV)))(pg_Sums:PySem.W.plainGet K bV Str.empty=true)(hd_Sums:PySem.W.hasDictIn K bV=true)(po_Sums:PySem.W.plainOver K bV=true)(sa_Sums:PySem.W.findIn K (.ref bV) "__setattr__"=some (some (.builtin "object.__setattr__")))(mk_Sums:PySem.W.makesIn K bV=true)(kc_Sums:PySem.W.keepIn K (.ref bV)=true)(in_Sums:PySem.W.findIn K (.ref bV) "__init__"=some (some (.builtin "object.__init__")))(aC_HalvedError:PySem.W.nsIn K mainGlobals "HalvedError"=some (some (.ref av)))(aC_NoField:PySem.W.nsIn K mainGlobals "NoField"=some (some (.ref bu)))(aC_TooGreat:PySem.W.nsIn K mainGlobals "TooGreat"=some (some (.ref aZ)))(aC_Unlike:PySem.W.nsIn K mainGlobals "Unlike"=some (some (.ref bH)))(n_Field_grid:PySem.W.findIn K (.ref aD) "grid"=some none)(n_Picture_halver:PySem.W.findIn K (.ref aH) "halver"=some none)(n_Picture_moments:PySem.W.findIn K (.ref aH) "moments"=some none)(n_Plan_chosen:PySem.W.findIn K (.ref aM) "chosen"=some none)(n_Plan_corners:PySem.W.findIn K (.ref aM) "corners"=some none)(n_Plan_letters:PySem.W.findIn K (.ref aM) "letters"=some none)(q_ALONG_PILLARS:PySem.W.nsIn K mainGlobals "ALONG_PILLARS"=some (some (.ref bp)))(lk_ALONG_PILLARS:K.lookup bp=some ⟨.type "tuple",od_ALONG_PILLARS,.seq #[.str (Str.ofString "p") tk_ALONG_PILLARS_0,.str (Str.ofString "b") tk_ALONG_PILLARS_1] nn_ALONG_PILLARS,sl_ALONG_PILLARS⟩)(q_ALONG_ROWS:PySem.W.nsIn K mainGlobals "ALONG_ROWS"=some (some (.ref bM)))(lk_ALONG_ROWS:K.lookup bM=some ⟨.type "tuple",od_ALONG_ROWS,.seq #[.str (Str.ofString "r") tk_ALONG_ROWS_0,.str (Str.ofString "b") tk_ALONG_ROWS_1] nn_ALONG_ROWS,sl_ALONG_ROWS⟩)(y_bs:PySem.W.kitOne K (.type "bool") (.type "str")=some false)(y_is:PySem.W.kitOne K (.type "int") (.type "str")=some false)(y_ns:PySem.W.kitOne K (.type "NoneType") (.type "str")=some false)(y_ss:PySem.W.kitOne K (.type "str") (.type "str")=some true)(y_ls:PySem.W.kitOne K (.type "list") (.type "str")=some false)(y_ts:PySem.W.kitOne K (.type "tuple") (.type "str")=some false)(y_ds:PySem.W.kitOne K (.type "dict") (.type "str")=some false)(F0:FM K av "__init__" "HalvedError.__init__" cu f0 d0)(F1:FM K bu "__init__" "NoField.__init__" dE f1 d1)(F2:FM K bH "__init__" "Unlike.__init__" dZ f2 d2)(F3:FM K aZ "__init__" "TooGreat.__init__" c8 f3 d3)(F4:FN K "is_whole" "is_whole" mG f4 d4)(F5:FN K "is_number" "is_number" kg f5 d5)(F6:FN K "is_row" "is_row" nB f6 d6)(F7:FN K "is_size" "is_size" oR f7 d7)(F8:FN K "is_place_within" "is_place_within" dY f8 d8)(F9:FN K "are_rows" "are_rows" gG f9 d9)(F10:FM K aD "__init__" "Field.__init__" cZ f10 d10)(F11:FM K aD "height" "Field.height" gI f11 d11)(F12:FM K aD "width" "Field.width" iD f12 d12)(F13:FM K aD "rows" "Field.rows" fY f13 d13)(F14:FM K aD "places" "Field.places" ec f14 d14)(F15:FM K aD "is_place" "Field.is_place" eL f15 d15)(F16:FM K aD "at" "Field.at" mK f16 d16)(F17:FN K "size_of" "size_of" oP f17 d17)(F18:FN K "check_field" "check_field" iw f18 d18)(F19:FN K "check_size" "check_size" jo f19 d19)(F20:FN K "check_bounds" "check_bounds" gF f20 d20)(F21:FN K "check_picture" "check_picture" fB f21 d21)(F22:FN K "pairs_of" "pairs_of" mF f22 d22)(F23:FN K "gaps_of" "gaps_of" lq f23 d23)(F24:FM K bV "word" "Sums.word" kq f24 d24)(F25:FM K bc "halves" "Sums.halves" iz f25 d25)(F26:FM K aS "parted" "Sums.parted" iy f26 d26)(F27:FM K bc "sums_of" "Sums.sums_of" d_ f27 d27)(F28:FM K aS "word" "Halves.word" iC f28 d28)(F29:FM K aS "sum_of_pair" "Halves.sum_of_pair" cQ f29 d29)(F30:FM K aS "sum_of_lone" "Halves.sum_of_lone" cR f30 d30)(F31:FN K "all_rules" "all_rules" kj f31 d31)(F32:FN K "rule_of" "rule_of" oQ f32 d32)(F33:FN K "can_halve" "can_halve" ki f33 d33)(F34:FN K "corners_of" "corners_of" jn f34 d34)(F35:FM K aM "__init__" "Plan.__init__" fE f35 d35)(F36:FM K aM "height" "Plan.height" iA f36 d36)(F37:FM K aM "width" "Plan.width" jr f37 d37)(F38:FM K aM "rule" "Plan.rule" kr f38 d38)(F39:FM K aM "way" "Plan.way" mJ f39 d39)(F40:FM K aM "steps" "Plan.steps" jt f40 d40)(F41:FM K aM "corner" "Plan.corner" iB f41 d41)(F42:FN K "turned" "turned" rz f42 d42)(F43:FN K "halve_row" "halve_row" kh f43 d43)(F44:FN K "halve_rows" "halve_rows" fX f44 d44)(F45:FN K "step_forth" "step_forth" jm f45 d45)(F46:FN K "steps_forth" "steps_forth" iu f46 d46)(a47:PySem.W.nsIn K mainGlobals "halved"=some (some (.ref f47)))(l47:K.lookup f47=some ⟨oc47,od47,.func (PySem.W.fnOf "halved" "halved" (gj cP) (cI cP) (ag cP) .none kV47 dc47 pm47 an47 (.ref ez) ct47),sl47⟩)(c47:PySem.W.codeIn K (.ref ez) "halved"=true)(k47:PySem.W.keepIn K (.ref f47)=true)(k_hd_halved:PySem.W.codeHdIn K ez cy=true)(k_kp_halved:K.lookup cy=none)(F48:FN K "summed" "summed" nz f48 d48)(F49:FN K "added" "added" vg f49 d49)(F50:FM K aH "__init__" "Picture.__init__" dD f50 d50)(F51:FN K "_law_cell" "_law_cell" ko f51 d51)(F52:FN K "_law_box" "_law_box" mH f52 d52)(F53:FN K "_law_take" "_law_take" km f53 d53)(F54:FN K "_law_size" "_law_size" kn f54 d54)(F55:FN K "_law_number" "_law_number" ix f55 d55)(F56:FN K "_law_rows" "_law_rows" fi f56 d56)(F57:FN K "_law_size_of" "_law_size_of" gH f57 d57)(F58:FN K "_law_due" "_law_due" jq f58 d58)(F59:FN K "_law_told" "_law_told" kl f59 d59)(F60:FN K "_law_right" "_law_right" cY f60 d60)(F61:FN K "_law_three_right" "_law_three_right" dC f61 d61)(F62:FN K "_law_odd_right" "_law_odd_right" eK f62 d62)(F63:FN K "law" "law" zB f63 d63)(k_xt_HalvedError:PySem.W.typeIn K (.ref av)=some (.type "type"))(k_xe_HalvedError:PySem.W.mroIn K av (.type "BaseException")=some true)(k_xo_HalvedError:xoB K av av f0 []=true)(k_xo_NoField:xoB K av bu f1 ["found"]=true)(k_xo_Unlike:xoB K av bH f2 ["one","other"]=true)(k_xo_TooGreat:xoB K av aZ f3 ["place"]=true)(k_xnd:Dd [av,bu,bH,aZ]=true)(z_ValueError:PySem.W.nsIn K mainGlobals "ValueError"=some none)(k_h_rd:PySem.W.readsIn K av (.type "type")=true)(k_h_ga:PySem.W.specialIn K (.ref av) "__getattribute__"=some (some (.builtin "type.__getattribute__")))(k_h_fc:PySem.W.findCls K (.ref av) (.type "type") "__init__"=some (.val (.ref f0)))(e_Halves_halves:PySem.W.findIn K (.ref aS) "halves"=some (some (.ref f25)))(e_Halves_sums_of:PySem.W.findIn K (.ref aS) "sums_of"=some (some (.ref f27)))(e_Leaning_sum_of_pair:PySem.W.findIn K (.ref aT) "sum_of_pair"=some (some (.ref f29)))(e_Leaning_sum_of_lone:PySem.W.findIn K (.ref aT) "sum_of_lone"=some (some (.ref f30)))(e_Leaning_halves:PySem.W.findIn K (.ref aT) "halves"=some (some (.ref f25)))(e_Leaning_sums_of:PySem.W.findIn K (.ref aT) "sums_of"=some (some (.ref f27)))(e_Sums_halves:PySem.W.findIn K (.ref bV) "halves"=some (some (.ref f25)))(e_Sums_parted:PySem.W.findIn K (.ref bV) "parted"=some (some (.ref f26)))(e_Sums_sums_of:PySem.W.findIn K (.ref bV) "sums_of"=some (some (.ref f27)))(q_MOST_NUMBER:PySem.W.nsIn K mainGlobals "MOST_NUMBER"=some (some (.int 999999999999999 t_MOST_NUMBER)))(q_MOST_PLACES:PySem.W.nsIn K mainGlobals "MOST_PLACES"=some (some (.int 512 t_MOST_PLACES)))(q_MOST_SIDE:PySem.W.nsIn K mainGlobals "MOST_SIDE"=some (some (.int 64 t_MOST_SIDE)))(q_MOST_VALUE:PySem.W.nsIn K mainGlobals "MOST_VALUE"=some (some (.int 100000 t_MOST_VALUE)))(oc_Field:PySem.W.findIn K (.ref aD) "__class__"=some (some (.builtin "object.__class__")))(og_Field:PySem.W.specialIn K (.builtin "object.__class__") "__get__"=some (some (.builtin "getset_descriptor.__get__")))(ot_Field:PySem.W.takesIn K (.builtin "object.__class__")=some true)(ob_Field:PySem.W.mroIn K aD (.type "object")=some true)(y_oo_Field:PySem.W.kitOne K (.ref aD) (.ref aD)=some true)(y_ob_Field:PySem.W.kitOne K (.type "bool") (.ref aD)=some false)(y_oi_Field:PySem.W.kitOne K (.type "int") (.ref aD)=some false)(y_on_Field:PySem.W.kitOne K (.type "NoneType") (.ref aD)=some false)(y_os_Field:PySem.W.kitOne K (.type "str") (.ref aD)=some false)(y_ol_Field:PySem.W.kitOne K (.type "list") (.ref aD)=some false)(y_ot_Field:PySem.W.kitOne K (.type "tuple") (.ref aD)=some false)(y_od_Field:PySem.W.kitOne K (.type "dict") (.ref aD)=some false)(oc_Picture:PySem.W.findIn K (.ref aH) "__class__"=some (some (.builtin "object.__class__")))(ob_Picture:PySem.W.mroIn K aH (.type "object")=some true)(y_ko_Picture:PySem.W.kitOne K (.ref aH) (.ref aD)=some false)(en_Picture:PySem.W.findIn K (.ref aH) "__ne__"=some (some (.builtin "object.__ne__")))(ef_Picture:PySem.W.findIn K (.ref aH) "__eq__"=some (some (.builtin "object.__eq__")))(oc_Plan:PySem.W.findIn K (.ref aM) "__class__"=some (some (.builtin "object.__class__")))(ob_Plan:PySem.W.mroIn K aM (.type "object")=some true)(y_ko_Plan:PySem.W.kitOne K (.ref aM) (.ref aD)=some false)(en_Plan:PySem.W.findIn K (.ref aM) "__ne__"=some (some (.builtin "object.__ne__")))(ef_Plan:PySem.W.findIn K (.ref aM) "__eq__"=some (some (.builtin "object.__eq__")))(z_all:PySem.W.nsIn K mainGlobals "all"=some none)(z_bool:PySem.W.nsIn K mainGlobals "bool"=some none)(z_enumerate:PySem.W.nsIn K mainGlobals "enumerate"=some none)(z_int:PySem.W.nsIn K mainGlobals "int"=some none)(z_isinstance:PySem.W.nsIn K mainGlobals "isinstance"=some none)(z_len:PySem.W.nsIn K mainGlobals "len"=some none)(z_list:PySem.W.nsIn K mainGlobals "list"=some none)(z_max:PySem.W.nsIn K mainGlobals "max"=some none)(z_min:PySem.W.nsIn K mainGlobals "min"=some none)(z_range:PySem.W.nsIn K mainGlobals "range"=some none)(z_repr:PySem.W.nsIn K mainGlobals "repr"=some none)(z_str:PySem.W.nsIn K mainGlobals "str"=some none)(z_tuple:PySem.W.nsIn K mainGlobals "tuple"=some none)(z_zip:PySem.W.nsIn K mainGlobals "zip"=some none)(y_bb:PySem.W.kitOne K (.type "bool") (.type "bool")=some true)(y_bi:PySem.W.kitOne K (.type "bool") (.type "int")=some true)(y_bl:PySem.W.kitOne K (.type "bool") (.type "list")=some false)(y_bt:PySem.W.kitOne K (.type "bool") (.type "tuple")=some false)(y_ib:PySem.W.kitOne K (.type "int") (.type "bool")=some false)(y_ii:PySem.W.kitOne K (.type "int") (.type "int")=some true)(y_il:PySem.W.kitOne K (.type "int") (.type "list")=some false)(y_it:PySem.W.kitOne K (.type "int") (.type "tuple")=some false)(y_nb:PySem.W.kitOne K (.type "NoneType") (.type "bool")=some false)(y_ni:PySem.W.kitOne K (.type "NoneType") (.type "int")=some false)(y_nl:PySem.W.kitOne K (.type "NoneType") (.type "list")=some false)(y_nt:PySem.W.kitOne K (.type "NoneType") (.type "tuple")=some false)(y_sb:PySem.W.kitOne K (.type "str") (.type "bool")=some false)(y_si:PySem.W.kitOne K (.type "str") (.type "int")=some false)(y_sl:PySem.W.kitOne K (.type "str") (.type "list")=some false)(y_st:PySem.W.kitOne K (.type "str") (.type "tuple")=some false)(y_lb:PySem.W.kitOne K (.type "list") (.type "bool")=some false)(y_li:PySem.W.kitOne K (.type "list") (.type "int")=some false)(y_ll:PySem.W.kitOne K (.type "list") (.type "list")=some true)(y_lt:PySem.W.kitOne K (.type "list") (.type "tuple")=some false)(y_tb:PySem.W.kitOne K (.type "tuple") (.type "bool")=some false)(y_ti:PySem.W.kitOne K (.type "tuple") (.type "int")=some false)(y_tl:PySem.W.kitOne K (.type "tuple") (.type "list")=some false)(y_tt:PySem.W.kitOne K (.type "tuple") (.type "tuple")=some true)(y_db:PySem.W.kitOne K (.type "dict") (.type "bool")=some false)(y_di:PySem.W.kitOne K (.type "dict") (.type "int")=some false)(y_dl:PySem.W.kitOne K (.type "dict") (.type "list")=some false)(y_dt:PySem.W.kitOne K (.type "dict") (.type "tuple")=some false) :
  ∃ (fd:FuncData) (tabs:List (Addr×Str)),(∀ (s:Shared) (v:Value),BindsTo s fd ⟨[v],[]⟩ [("_law_script",v)])/\(∀ p∈tabs,p.1∈([cy]:La0)/\K.lookup p.1=none/\∃ c,PySem.W.CodeHd h c p.1)/\∀ base:Heap,K.In base->base.Ns mainGlobals mg->(∀ P q,tabs.lookup P=some q->k9 base P q)->aG l.prog w K mg base CX0 14 fa fd ["_law_script"] (u5 K):=by
 have e:=hfa.symm.trans (PySem.W.mg_of X G F63.n);cases e;obtain⟨oc,od,kV,dc,pm,an,cd,ct,sl,rfl,lk,hc⟩:=F63.F.ex;have T:Txt K mg ⟨bp,bM,aD,bc,aS,aT,aH,aM,bV,av,bu,aZ,bH,f0,d0,f1,d1,f2,d2,f3,d3,f4,d4,f5,d5,f6,d6,f7,d7,f8,d8,f9,d9,f10,d10,f11,d11,f12,d12,f13,d13,f14,d14,f15,d15,f16,d16,f17,d17,f18,d18,f19,d19,f20,d20,f21,d21,f22,d22,f23,d23,f24,d24,f25,d25,f26,d26,f27,d27,f28,d28,f29,d29,f30,d30,f31,d31,f32,d32,f33,d33,f34,d34,f35,d35,f36,d36,f37,d37,f38,d38,f39,d39,f40,d40,f41,d41,f42,d42,f43,d43,f44,d44,f45,d45,f46,d46,f47,PySem.W.fnOf "halved" "halved" (gj cP) (cI cP) (ag cP) .none kV47 dc47 pm47 an47 (.ref ez) ct47,f48,d48,f49,d49,f50,d50,f51,d51,f52,d52,f53,d53,f54,d54,f55,d55,f56,d56,f57,d57,f58,d58,f59,d59,f60,d60,f61,d61,f62,d62,fa,_,ez,cy⟩:=⟨⟨pg_Field,hd_Field,po_Field,sa_Field⟩,
  PySem.W.mg_of X G aC_Field,
  ⟨pg_Guessed,hd_Guessed,po_Guessed,sa_Guessed⟩,
  PySem.W.mg_of X G aC_Guessed,
  ⟨mk_Guessed,in_Guessed,kc_Guessed⟩,
  ⟨pg_Halves,hd_Halves,po_Halves,sa_Halves⟩,
  PySem.W.mg_of X G aC_Halves,
  ⟨mk_Halves,in_Halves,kc_Halves⟩,
  ⟨pg_Leaning,hd_Leaning,po_Leaning,sa_Leaning⟩,
  PySem.W.mg_of X G aC_Leaning,
  ⟨mk_Leaning,in_Leaning,kc_Leaning⟩,
  ⟨pg_Picture,hd_Picture,po_Picture,sa_Picture⟩,
  PySem.W.mg_of X G aC_Picture,
  ⟨pg_Plan,hd_Plan,po_Plan,sa_Plan⟩,
  PySem.W.mg_of X G aC_Plan,
  ⟨pg_Sums,hd_Sums,po_Sums,sa_Sums⟩,
  PySem.W.mg_of X G aC_Sums,
  ⟨mk_Sums,in_Sums,kc_Sums⟩,
  PySem.W.mg_of X G aC_HalvedError,
  PySem.W.mg_of X G aC_NoField,
  PySem.W.mg_of X G aC_TooGreat,
  PySem.W.mg_of X G aC_Unlike,
  n_Field_grid,
  n_Picture_halver,
  n_Picture_moments,
  n_Plan_chosen,
  n_Plan_corners,
  n_Plan_letters,
  ⟨PySem.W.mg_of X G q_ALONG_PILLARS,fun F=>.inr ⟨_,_,_,lk_ALONG_PILLARS,rfl,rfl,z2,.cons ⟨_,rfl⟩ (.cons ⟨_,rfl⟩ (.nil))⟩⟩,
  ⟨PySem.W.mg_of X G q_ALONG_ROWS,fun F=>.inr ⟨_,_,_,lk_ALONG_ROWS,rfl,rfl,z2,.cons ⟨_,rfl⟩ (.cons ⟨_,rfl⟩ (.nil))⟩⟩,
  ⟨y_bs,y_is,y_ns,y_ss,y_ls,y_ts,y_ds⟩,
  fy F0 (by walk_at "bn"),
  fy F1 (by walk_at "bn"),
  fy F2 (by walk_at "bn"),
  fy F3 (by walk_at "bn"),
  fx X G F4 (by walk_at "bn"),
  fx X G F5 (by walk_at "bn"),
  fx X G F6 (by walk_at "bn"),
  fx X G F7 (by walk_at "bn"),
  fx X G F8 (by walk_at "bn"),
  fx X G F9 (by walk_at "bn"),
  fy F10 (by walk_at "bn"),
  fy F11 (by walk_at "bn"),
  fy F12 (by walk_at "bn"),
  fy F13 (by walk_at "bn"),
  fy F14 (by walk_at "bn"),
  fy F15 (by walk_at "bn"),
  fy F16 (by walk_at "bn"),
  fx X G F17 (by walk_at "bn"),
  fx X G F18 (by walk_at "bn"),
  fx X G F19 (by walk_at "bn"),
  fx X G F20 (by walk_at "bn"),
  fx X G F21 (by walk_at "bn"),
  fx X G F22 (by walk_at "bn"),
  fx X G F23 (by walk_at "bn"),
  fy F24 (by walk_at "bn"),
  fy F25 (by walk_at "bn"),
  fy F26 (by walk_at "bn"),
  fy F27 (by walk_at "bn"),
  fy F28 (by walk_at "bn"),
  fy F29 (by walk_at "bn"),
  fy F30 (by walk_at "bn"),
  fx X G F31 (by walk_at "bn"),
  fx X G F32 (by walk_at "bn"),
  fx X G F33 (by walk_at "bn"),
  fx X G F34 (by walk_at "bn"),
  fy F35 (by walk_at "bn"),
  fy F36 (by walk_at "bn"),
  fy F37 (by walk_at "bn"),
  fy F38 (by walk_at "bn"),
  fy F39 (by walk_at "bn"),
  fy F40 (by walk_at "bn"),
  fy F41 (by walk_at "bn"),
  fx X G F42 (by walk_at "bn"),
  fx X G F43 (by walk_at "bn"),
  fx X G F44 (by walk_at "bn"),
  fx X G F45 (by walk_at "bn"),
  fx X G F46 (by walk_at "bn"),
  ⟨(vU (st:=cP) l47 c47 k47),(vU (st:=cP) l47 c47 k47).binds (by walk_at "bn"),PySem.W.mg_of X G a47⟩,
  rfl,
  k_hd_halved,
  fx X G F48 (by walk_at "bn"),
  fx X G F49 (by walk_at "bn"),
  fy F50 (by walk_at "bn"),
  fx X G F51 (by walk_at "bn"),
  fx X G F52 (by walk_at "bn"),
  fx X G F53 (by walk_at "bn"),
  fx X G F54 (by walk_at "bn"),
  fx X G F55 (by walk_at "bn"),
  fx X G F56 (by walk_at "bn"),
  fx X G F57 (by walk_at "bn"),
  fx X G F58 (by walk_at "bn"),
  fx X G F59 (by walk_at "bn"),
  fx X G F60 (by walk_at "bn"),
  fx X G F61 (by walk_at "bn"),
  fx X G F62 (by walk_at "bn"),
  fx X G F63 (by walk_at "bn"),
  ⟨k_xt_HalvedError,k_xe_HalvedError⟩,
  zm k_xo_HalvedError,
  zm k_xo_NoField,
  zm k_xo_Unlike,
  zm k_xo_TooGreat,
  k_xnd,
  PySem.W.mg_none_of X G z_ValueError,
  k_h_rd,
  k_h_ga,
  k_h_fc,
  ⟨mk_Field,F10.m,F10.i,kc_Field⟩,
  ⟨mk_Picture,F50.m,F50.i,kc_Picture⟩,
  ⟨mk_Plan,F35.m,F35.i,kc_Plan⟩,
  F11.me,
  F12.me,
  F13.me,
  F14.me,
  F15.me,
  F16.me,
  F25.me,
  F27.me,
  F28.me,
  F29.me,
  F30.me,
  ⟨e_Halves_halves,F25.i,F25.F.kp⟩,
  F26.me,
  ⟨e_Halves_sums_of,F27.i,F27.F.kp⟩,
  ⟨e_Leaning_sum_of_pair,F29.i,F29.F.kp⟩,
  ⟨e_Leaning_sum_of_lone,F30.i,F30.F.kp⟩,
  ⟨e_Leaning_halves,F25.i,F25.F.kp⟩,
  ⟨e_Leaning_sums_of,F27.i,F27.F.kp⟩,
  F36.me,
  F37.me,
  F38.me,
  F39.me,
  F40.me,
  F41.me,
  F24.me,
  ⟨e_Sums_halves,F25.i,F25.F.kp⟩,
  ⟨e_Sums_parted,F26.i,F26.F.kp⟩,
  ⟨e_Sums_sums_of,F27.i,F27.F.kp⟩,
  ⟨_,PySem.W.mg_of X G q_MOST_NUMBER⟩,
  ⟨_,PySem.W.mg_of X G q_MOST_PLACES⟩,
  ⟨_,PySem.W.mg_of X G q_MOST_SIDE⟩,
  ⟨_,PySem.W.mg_of X G q_MOST_VALUE⟩,
  ⟨⟨pg_Field,hd_Field,po_Field,sa_Field⟩,oc_Field,og_Field,ot_Field,ob_Field,y_oo_Field,y_ob_Field,y_oi_Field,y_on_Field,y_os_Field,y_ol_Field,y_ot_Field,y_od_Field⟩,
  ⟨⟨pg_Picture,hd_Picture,po_Picture,sa_Picture⟩,oc_Picture,og_Field,ot_Field,ob_Picture,y_ko_Picture⟩,
  ⟨en_Picture,ef_Picture,ob_Picture⟩,
  ⟨⟨pg_Plan,hd_Plan,po_Plan,sa_Plan⟩,oc_Plan,og_Field,ot_Field,ob_Plan,y_ko_Plan⟩,
  ⟨en_Plan,ef_Plan,ob_Plan⟩,
  PySem.W.mg_none_of X G z_all,
  PySem.W.mg_none_of X G z_bool,
  PySem.W.mg_none_of X G z_enumerate,
  PySem.W.mg_none_of X G z_int,
  PySem.W.mg_none_of X G z_isinstance,
  PySem.W.mg_none_of X G z_len,
  PySem.W.mg_none_of X G z_list,
  PySem.W.mg_none_of X G z_max,
  PySem.W.mg_none_of X G z_min,
  PySem.W.mg_none_of X G z_range,
  PySem.W.mg_none_of X G z_repr,
  PySem.W.mg_none_of X G z_str,
  PySem.W.mg_none_of X G z_tuple,
  PySem.W.mg_none_of X G z_zip,
  ⟨y_bb,y_bi,y_bl,y_bt,y_ib,y_ii,y_il,y_it,y_nb,y_ni,y_nl,y_nt,y_sb,y_si,y_sl,y_st,y_lb,y_li,y_ll,y_lt,y_tb,y_ti,y_tl,y_tt,y_db,y_di,y_dl,y_dt⟩⟩
 exact⟨_,[(cy,Str.ofString "halved.<locals>.<lambda>")],fun s v=>.of_eq rfl,fun p hp=>(by cases hp with | head=>exact⟨.head _,k_kp_halved,_,PySem.W.codeHd_of_K X k_hd_halved⟩ | tail _ z=>nomatch z),fun base _ _ hM=>Jo T (hM _ _ (by rw[List.lookup_cons,beq_self_eq_true]))⟩
theorem walk{l:PySem.W.OpenLaw}{q:Program}{loose:Ls0}{XP:(SV)->Heap->Prop}{YP:World->Heap->Prop}{d:DefRec}{K:Params->Fg0}{ts:La0}(hn:l.most=some 63)(hdf:d.params.defaults=[])(hY:∀ (w:World) (h:Heap),YP w h->(K w.params).In h/\∀ P∈ts,h.get? P=some (PySem.W.tabObj #[]))(F:∀ (w:World) (mg:SV) (fa:Addr) (h:Heap),(K w.params).In h->h.Ns mainGlobals mg->mg d.name=some (.ref fa)->
   ∃ (fd:FuncData) (tabs:List (Addr×Str)),(∀ (s:Shared) (u:Value),BindsTo s fd ⟨[u],[]⟩ [("_law_script",u)])/\(∀ p∈tabs,p.1∈ts/\(K w.params).lookup p.1=none/\∃ c,PySem.W.CodeHd h c p.1)/\
    ∀ base:Heap,(K w.params).In base->base.Ns mainGlobals mg->(∀ P q,tabs.lookup P=some q->k9 base P q)->aG l.prog w (K w.params) mg base CX0 14 fa fd ["_law_script"] (u5 (K w.params))) :
  PySem.W.WalkO q loose XP YP l.row.toRowW d [] (fun f vs=>PySem.call f vs):=
 L2.BO (n:=63) (k:=14) (x:="_law_script") (CX:=fun _=>CX0) (sp:=u5) hn (by decide) hdf ⟨rfl,by decide,by decide,rfl⟩ hY F (fun _ _ a ns hl _ hS=>⟨a,ns,rfl,hS,hl,fun _=>rfl⟩) fun _ _ _ _ _ z=>z
end
end K71
set_option bootstrap.genMatcherCode true in
local macro_rules | `(tactic| walk_at "fk")=>`(tactic| first | (refine' L2.FN.mk ?k1 ?k2;(case k1=>k_is);(case k2=>refine' L2.vU ?k3 ?k4 ?k5;(case k3=>k_is);(case k4=>k_is);(case k5=>k_is))) | (refine' L2.FM.mk ?k1 ?k6 ?k2;(case k1=>k_is);(case k6=>k_is);(case k2=>refine' L2.vU ?k3 ?k4 ?k5;(case k3=>k_is);(case k4=>k_is);(case k5=>k_is))))
namespace PySem.W.Fast
abbrev T:=True
theorem G:T:=trivial
theorem tw6427738045445807782:T:=G
theorem tw18083033539360544802:T:=G
theorem tw4642566474755953085:T:=G
theorem tw12803618220431737163:T:=G
theorem tw1794079781452814160:T:=G
theorem tw17105573920660457465:T:=G
theorem tw8448831304646174639:T:=G
theorem tw489675591092173118:T:=G
theorem tw2460830899421795546:T:=G
theorem tw11001826138313284179:T:=G
theorem tw10811598666642883315:T:=G
theorem tw1428278204247504250:T:=G
theorem tw4068259036493097968:T:=G
theorem tw2557416045498731351:T:=G
theorem tw11010460333166911939:T:=G
theorem tw16697556653059899141:T:=G
theorem tw16414469845798648242:T:=G
theorem tw6975076133940535895:T:=G
theorem tw14028502943727052569:T:=G
theorem tw3068152031858960268:T:=G
theorem tw8032009456771887197:T:=G
theorem tw15223710850002613334:T:=G
theorem tw11039000744836458685:T:=G
theorem tw12193530549911693010:T:=G
theorem tw13670778063607947287:T:=G
theorem tw13196723005211736358:T:=G
theorem tw17453283932351033272:T:=G
theorem tw18240684275609758861:T:=G
theorem tw15012997559702116819:T:=G
theorem tw7785702424224894569:T:=G
theorem tw12310031665243331717:T:=G
theorem tw14730482738561038788:T:=G
theorem tw9600206580449460172:T:=G
theorem tw9082854984471780283:T:=G
theorem tw16046194602777643320:T:=G
theorem tw13437559565293318041:T:=G
theorem tw1076697525604478581:T:=G
theorem tw2807360273179992113:T:=G
theorem tw11938389845352917992:T:=G
theorem tw6227109359027900343:T:=G
theorem tw11923470705236509867:T:=G
theorem tw3935855266522957166:T:=G
theorem tw7451618638052105164:T:=G
theorem tw8611725624988274429:T:=G
theorem tw8864249475250859293:T:=G
theorem tw9394452576614400322:T:=G
theorem tw13574316710465605316:T:=G
theorem tw4499198841849551786:T:=G
theorem tw2567076416312102876:T:=G
theorem tw5744948347809714751:T:=G
theorem tw15849371503225180757:T:=G
theorem tw17514736491725629180:T:=G
theorem tw15106380771537258600:T:=G
theorem tw9549969543488951253:T:=G
theorem tw8693639926662115403:T:=G
theorem tw16518279926100341853:T:=G
theorem tw15097428568491383581:T:=G
theorem tw9422078904831538423:T:=G
theorem tw15051987246124496930:T:=G
theorem tw6890946506275361321:T:=G
theorem tw12550585806710923199:T:=G
theorem tw8681316567489781274:T:=G
theorem tw10030560935520972897:T:=G
theorem tw8592181255477402187:T:=G
theorem tw6968580474634686597:T:=G
theorem tw7409068233334340543:T:=G
theorem tw18245525219047392526:T:=G
theorem tw5454231491974443654:T:=G
theorem tw14853727678511916615:T:=G
theorem tw12680876147420038635:T:=G
theorem tw1580798257004279354:T:=G
theorem tw15506316459484038518:T:=G
theorem tw15565314579672606768:T:=G
theorem tw12752241424148841865:T:=G
theorem tw14770694087151930463:T:=G
theorem tw10618989848238524690:T:=G
theorem tw17458598501102903957:T:=G
theorem tw4877763649697781241:T:=G
theorem tw17887649367473061495:T:=G
theorem tw7087910351713077385:T:=G
theorem tw1952449903713283334:T:=G
theorem tw15252342062866810014:T:=G
theorem tw408248842616977101:T:=G
theorem tw6306743852939860252:T:=G
theorem tw3254802837866293434:T:=G
theorem tw6672484615694296926:T:=G
theorem tw12937865375394179069:T:=G
theorem tw12486212919928931347:T:=G
theorem tw16048446129737352478:T:=G
theorem tw5385559215855835:T:=G
theorem tw8310024317750334072:T:=G
theorem tw6308604988015831902:T:=G
theorem tw5391117567440426547:T:=G
theorem tw11916172588964960306:T:=G
theorem tw6266979870990636137:T:=G
theorem tw9079035300387813693:T:=G
theorem tw7819718388809254064:T:=G
theorem tw6828680446985303811:T:=G
theorem tw18132953991841461198:T:=G
theorem tw15807832269280466125:T:=G
theorem tw13311816859293303263:T:=G
theorem tw7171760057231095889:T:=G
theorem tw10199240451435732949:T:=G
theorem tw3843876913748305693:T:=G
theorem tw17339958118676481281:T:=G
theorem tw9418110542509365436:T:=G
theorem tw13083805684122122296:T:=G
theorem tw13385280945943348965:T:=G
theorem tw3895492917161867458:T:=G
theorem tw3351733229421008203:T:=G
theorem tw9464507037664396:T:=G
theorem tw17835766713590476693:T:=G
theorem tw3876141133449406675:T:=G
theorem tw12945130155137845539:T:=G
theorem tw708367420828134571:T:=G
theorem tw11037255743407419194:T:=G
theorem tw3060888996801976713:T:=G
theorem tw1283852434415207724:T:=G
theorem tw10027865624581263775:T:=G
theorem tw11722415042912218634:T:=G
theorem tw15876514334204339003:T:=G
theorem tw10664413625564992940:T:=G
theorem tw11462602521827590751:T:=G
theorem tw11086403983713484753:T:=G
theorem tw10367872388381841947:T:=G
theorem tw9618217894863707757:T:=G
theorem tw16980081491670549048:T:=G
theorem tw10796925341442588987:T:=G
theorem tw16902834387372272746:T:=G
theorem tw7205187576177494189:T:=G
theorem tw16274975078916210145:T:=G
theorem tw7014505151091148990:T:=G
theorem tw4528247162220617971:T:=G
theorem tw9589754788986138363:T:=G
theorem tw5336055382512175539:T:=G
theorem tw15284395405574881838:T:=G
theorem tw7905494344465878303:T:=G
theorem tw6309975986423500315:T:=G
theorem tw17932924839289039671:T:=G
theorem tw3513165710388769135:T:=G
theorem tw4026314961409133636:T:=G
theorem tw17580910584344348607:T:=G
theorem tw9679744751602825023:T:=G
theorem tw5353306159428401850:T:=G
theorem tw6422258167554029017:T:=G
theorem tw7443355275904970398:T:=G
theorem tw7019189582407271475:T:=G
theorem tw10326983923424221257:T:=G
theorem tw5054257740497177602:T:=G
theorem tw4530842239742924602:T:=G
theorem tw11706693179697489100:T:=G
theorem tw13121052293633819603:T:=G
theorem tw5202933051505376088:T:=G
theorem tw10244847549254289112:T:=G
theorem tw14526975506866984533:T:=G
theorem tw1417124539836583965:T:=G
theorem tw15152866702146512194:T:=G
theorem tw7965668229768061231:T:=G
theorem tw1553188956239272483:T:=G
theorem tw17593606223038825057:T:=G
theorem tw1010410454495660469:T:=G
theorem tw369421767128122044:T:=G
theorem tw16666637161706672729:T:=G
theorem tw11157654838387178140:T:=G
theorem tw5831539948891763644:T:=G
theorem tw4964350342119990883:T:=G
theorem tw16332971029907695634:T:=G
theorem tw9250899568514538810:T:=G
theorem tw8825075143182494986:T:=G
theorem tw17036450282794801535:T:=G
theorem tw800999548429386034:T:=G
theorem tw18430379835550529555:T:=G
theorem tw16751236210956995967:T:=G
theorem tw6502515150927762513:T:=G
theorem tw13022992749779464767:T:=G
theorem tw1763147290429434668:T:=G
theorem tw4689936231151557333:T:=G
theorem tw11781109745776774101:T:=G
theorem tw3977698872700806380:T:=G
theorem tw10709176294653354866:T:=G
theorem tw6436878402308807686:T:=G
theorem tw14708326710941602689:T:=G
theorem tw3427176153781597691:T:=G
theorem tw6334872846569461075:T:=G
theorem tw13616926478903570206:T:=G
theorem tw16616941470931282277:T:=G
theorem tw18366358130672072318:T:=G
theorem tw4767252449102455861:T:=G
theorem tw11089632774560875293:T:=G
theorem tw7741171768600501423:T:=G
theorem tw14137481202423945964:T:=G
theorem tw15627384190290158330:T:=G
theorem tw8541371612867678528:T:=G
theorem tw10531534795040231376:T:=G
theorem tw308887353856136895:T:=G
theorem tw6510555109101960088:T:=G
theorem tw18074507234857950948:T:=G
theorem tw13144810688814333374:T:=G
theorem tw129293295286945570:T:=G
theorem tw17592507569088915049:T:=G
theorem tw1260560630953792707:T:=G
theorem tw10607171639084647353:T:=G
theorem tw13394818883110963920:T:=G
theorem tw13882665706700175356:T:=G
theorem tw594715001338469532:T:=G
theorem tw10199958979214262804:T:=G
theorem tw16319408652954227259:T:=G
theorem tw18212951829704566363:T:=G
theorem tw15921804072697093290:T:=G
theorem tw5591609359380733893:T:=G
theorem tw9734213025603305463:T:=G
theorem tw7571180432348160164:T:=G
theorem tw9483634838587739663:T:=G
theorem tw16465816765201881034:T:=G
theorem tw12426387353786879327:T:=G
theorem tw15729126458593527603:T:=G
theorem tw7670792258119674889:T:=G
theorem tw11245138152885357523:T:=G
theorem tw349561456535818323:T:=G
theorem tw6670523455587333338:T:=G
theorem tw16374405486576323984:T:=G
theorem tw7015730906897870412:T:=G
theorem tw10585752629214601289:T:=G
theorem tw6987865778114240928:T:=G
theorem tw9432923268324397769:T:=G
theorem tw2016959198985090308:T:=G
theorem tw4597173402968854091:T:=G
theorem tw16179842339069208606:T:=G
theorem tw5493296468910545616:T:=G
theorem tw11346873596772887181:T:=G
theorem tw15811698714070704340:T:=G
theorem tw10836039179791597964:T:=G
theorem tw3340914759150795312:T:=G
theorem tw13250459281828169976:T:=G
theorem tw2586491316719197053:T:=G
theorem tw10591168847149183893:T:=G
theorem tw2021953231274832257:T:=G
theorem tw3580164858607053081:T:=G
theorem tw6100873662711201331:T:=G
theorem tw7593615663361851697:T:=G
theorem tw2890686214409014859:T:=G
theorem tw6205353127968510349:T:=G
theorem tw465674112887717736:T:=G
theorem tw6895739183476721014:T:=G
theorem tw15162759083834384195:T:=G
theorem tw1723300759037127699:T:=G
theorem tw7294722981686101849:T:=G
theorem tw5026336167936634142:T:=G
theorem tw15048243697153780834:T:=G
theorem tw11379817144492146634:T:=G
theorem tw10727354090573784797:T:=G
theorem tw2514331208040949193:T:=G
theorem tw335284499268731254:T:=G
theorem tw24192123742143073:T:=G
theorem tw4228455379320781958:T:=G
theorem tw7675891687971880710:T:=G
theorem tw7022438662986035529:T:=G
theorem tw13618762802567621244:T:=G
theorem tw10339269886576612524:T:=G
theorem tw13833798195544856341:T:=G
theorem tw17007453905349324444:T:=G
theorem tw7735559647928802005:T:=G
theorem tw1208761268441361211:T:=G
theorem tw2176695440119983805:T:=G
theorem tw8479586790704270064:T:=G
theorem tw12788210545865777957:T:=G
theorem tw13026169370057483215:T:=G
theorem tw10807131368493607052:T:=G
theorem tw13232180255546291318:T:=G
theorem tw9185000207603301191:T:=G
theorem tw16289408782033336696:T:=G
theorem tw2740090113925352124:T:=G
theorem tw8502715430389276245:T:=G
theorem tw291600822024918315:T:=G
theorem tw961410491503431634:T:=G
theorem tw6787113588574047355:T:=G
theorem tw4281594927746581967:T:=G
theorem tw1082437197108824981:T:=G
theorem tw11123322122583158172:T:=G
theorem tw9610533613534926696:T:=G
theorem tw15468432913311554384:T:=G
theorem tw3991277185941491038:T:=G
theorem tw6235799313664261762:T:=G
theorem tw1565631791185673667:T:=G
theorem tw17771002290344433252:T:=G
theorem tw16787952759319077348:T:=G
theorem tw12980049891185591379:T:=G
theorem tw11558817327553225031:T:=G
theorem tw5364221514734681158:T:=G
theorem tw11360513846253946239:T:=G
theorem tw9032929071366177883:T:=G
theorem tw7947403587016183720:T:=G
theorem tw1608333184169882623:T:=G
theorem tw16869124923194624353:T:=G
theorem tw2854806427975536084:T:=G
theorem tw3915589088475224743:T:=G
theorem tw9921408602348057944:T:=G
theorem tw6373554319387619238:T:=G
theorem tw411038044308330229:T:=G
theorem tw12244123736145590074:T:=G
theorem tw9384784963063234982:T:=G
theorem tw7653311475301448381:T:=G
theorem tw7435102542243075008:T:=G
theorem tw2358871334430863753:T:=G
theorem tw15182347249594813476:T:=G
theorem tw10114994146502570693:T:=G
theorem tw1303996718494250862:T:=G
theorem tw17562760036781271260:T:=G
theorem tw11689907140658039984:T:=G
theorem tw18183127240897417012:T:=G
theorem tw5056394326528092531:T:=G
theorem tw16495516057743502213:T:=G
theorem tw916472852758056136:T:=G
theorem tw9550018318654385564:T:=G
theorem tw12561136031765320695:T:=G
theorem tw11919620198064261033:T:=G
theorem tw14244914071552568951:T:=G
theorem tw18341751610716233606:T:=G
theorem tw12533727969528288390:T:=G
theorem tw8660737968869913547:T:=G
theorem tw5433945488627255218:T:=G
theorem tw18386808600517175127:T:=G
theorem tw16870468162010312402:T:=G
theorem tw6801446395675243307:T:=G
theorem tw12637939223723308023:T:=G
theorem tw6580665498746159730:T:=G
theorem tw3309767018902756747:T:=G
theorem tw18150671459694482203:T:=G
theorem tw9101990444123181136:T:=G
theorem tw12855391615697374466:T:=G
theorem tw18070866800056016258:T:=G
theorem tw18352100972071301966:T:=G
theorem tw9698771332038267935:T:=G
theorem tw16555024574307024096:T:=G
theorem tw542229150455475193:T:=G
theorem tw15109449556285256159:T:=G
theorem tw3041467439562321532:T:=G
theorem tw1159094387404611728:T:=G
theorem tw17612476001112267033:T:=G
theorem tw2415386320343210513:T:=G
theorem tw18178952014494861580:T:=G
theorem tw2928588995118655620:T:=G
theorem tw3189965682877319407:T:=G
theorem tw11409417141427037424:T:=G
theorem tw14381333484040096099:T:=G
theorem tw3622975798163878155:T:=G
theorem tw17032273753493760904:T:=G
theorem tw17068268698036364130:T:=G
theorem tw8316017356713801346:T:=G
theorem tw8935780753529852162:T:=G
theorem tw12453642734610390562:T:=G
theorem tw105538139419036185:T:=G
theorem tw750273774508826519:T:=G
theorem tw13186001729003657674:T:=G
theorem tw288193492584346466:T:=G
theorem tw10193357812911518282:T:=G
theorem tw17020954837080770238:T:=G
theorem tw1064074103003247105:T:=G
theorem tw9497838398919993960:T:=G
theorem tw9817924890370911918:T:=G
theorem tw16809072514851403530:T:=G
theorem tw2283069986501823028:T:=G
theorem tw12803396812309826564:T:=G
theorem tw12733434457428673496:T:=G
theorem tw17544817200205833856:T:=G
theorem tw17674357886327615436:T:=G
theorem tw9122073058557222871:T:=G
theorem tw15850283811500282920:T:=G
theorem tw10822573781044227243:T:=G
theorem tw12252129745374690300:T:=G
theorem tw16205300878178102078:T:=G
theorem tw18129255562961951701:T:=G
theorem tw272634713264218588:T:=G
theorem tw7274945858701208100:T:=G
theorem tw14939238533647044403:T:=G
theorem tw4730980503274151433:T:=G
theorem tw12459838058203453331:T:=G
theorem tw2296003470302477666:T:=G
theorem tw18127338780526971712:T:=G
theorem tw6250712189323767125:T:=G
theorem tw8428586702220580304:T:=G
theorem tw12857304181191382454:T:=G
theorem tw16637119159114787498:T:=G
theorem tw5097317526366714943:T:=G
theorem tw1309848785233775056:T:=G
theorem tw12400808659428896590:T:=G
theorem tw17813052355994348850:T:=G
theorem tw3070469441730781569:T:=G
theorem tw4073984313694999338:T:=G
theorem tw2735957357700819464:T:=G
theorem tw4328233025518531335:T:=G
theorem tw5227727698282209658:T:=G
theorem tw11776861199370479340:T:=G
theorem tw14313066045105332411:T:=G
theorem tw4245905076040369751:T:=G
theorem tw7857606011811463347:T:=G
theorem tw16910137901891818049:T:=G
theorem tw14346253873834057520:T:=G
theorem tw2368875900364950377:T:=G
theorem tw9863794448716063034:T:=G
theorem tw9400502866593212779:T:=G
theorem tw12219714103506780161:T:=G
theorem tw12936635501744134551:T:=G
theorem tw8778874870309456041:T:=G
theorem tw4631391188021923478:T:=G
theorem tw10576962546725477311:T:=G
theorem tw2125808977537387857:T:=G
theorem tw1071589548441293668:T:=G
theorem tw3950866454307787452:T:=G
theorem tw4160224564448192282:T:=G
theorem tw452946644007325147:T:=G
theorem tw8045461036423728534:T:=G
theorem tw2625199032739201890:T:=G
theorem tw15157873303044271992:T:=G
theorem tw14488621156933010875:T:=G
theorem tw10421458523889870390:T:=G
theorem tw14770309072488722531:T:=G
theorem tw818550329101315437:T:=G
theorem tw9491424889773130641:T:=G
theorem tw12264547486161308579:T:=G
theorem tw13371292597326984659:T:=G
theorem tw14363383609555719652:T:=G
theorem tw15341865203011294942:T:=G
theorem tw18058259998187963254:T:=G
theorem tw1678026341119464779:T:=G
theorem tw7348592000815016498:T:=G
theorem tw8225944160445011690:T:=G
theorem tw16011705679207188041:T:=G
theorem tw16025408186236017852:T:=G
theorem tw4479752837037813653:T:=G
theorem tw6790911790451618881:T:=G
theorem tw2838734296929037866:T:=G
theorem tw17620555550840644327:T:=G
theorem tw5129232688056312758:T:=G
theorem tw16688421081582198818:T:=G
theorem tw8658539844975420758:T:=G
theorem tw11178469092019091573:T:=G
theorem tw382678954107555831:T:=G
theorem tw15936772064161938446:T:=G
theorem tw10166133594127734322:T:=G
theorem tw13918972529986694766:T:=G
theorem tw4177234886709039739:T:=G
theorem tw12336651402637083187:T:=G
theorem tw10584814771531207782:T:=G
theorem tw5362174158545198601:T:=G
theorem tw3076906323902349663:T:=G
theorem tw6297975793255075878:T:=G
theorem tw8262248179443822064:T:=G
theorem tw6171406471540104792:T:=G
theorem tw3705985848279033367:T:=G
theorem tw7529469068150656164:T:=G
theorem tw5027342500486669714:T:=G
theorem tw8927103466728459095:T:=G
theorem tw15545447556179426724:T:=G
theorem tw3336511863277280637:T:=G
theorem tw4747886487585767230:T:=G
theorem tw6026307882777762485:T:=G
theorem tw11537212738155956903:T:=G
theorem tw14294684251748459028:T:=G
theorem tw1688146715625463233:T:=G
theorem tw5937777339770437543:T:=G
theorem tw2467497767822492724:T:=G
theorem tw11031767445266066182:T:=G
theorem tw13888305565371370727:T:=G
theorem tw16821013399503444563:T:=G
theorem tw10419832054563233304:T:=G
theorem tw2828802127891241409:T:=G
theorem tw13822737522029791530:T:=G
theorem tw1949949975683999220:T:=G
theorem tw750043807485351155:T:=G
theorem tw14169041298245294455:T:=G
theorem tw2611387917771690652:T:=G
theorem tw11530520345036757492:T:=G
theorem tw7947052079936113209:T:=G
theorem tw3839589023777633066:T:=G
theorem tw1487039880644610424:T:=G
theorem tw11345585410768339574:T:=G
theorem tw12712752557089021955:T:=G
theorem tw17028148433058573228:T:=G
theorem tw10815472415730761203:T:=G
end PySem.W.Fast
open PySem PySem.W PyProof.Rows
set_option maxRecDepth 100000 in
set_option maxHeartbeats 0 in
theorem PySem.Challenge.cw_halvedpictures_k71_two_fields_summed_holds : PySem.Challenge.rw_halvedpictures_k71_two_fields_summed.Holds := by
 w_on;o_law;k_head;(case hw=>w_witness2)
 k_fill
 refine K71.walk (l:=PySem.Challenge.rw_halvedpictures_k71_two_fields_summed) rfl rfl (fun w h Y=>⟨PySem.W.km_in_of Y,PySem.W.km_tabs_of Y⟩) ?F
 case F=>
  intro w mg fa h KX G hmg
  refine' K71.all_mk KX G hmg ?aC_Field ?pg_Field ?hd_Field ?po_Field ?sa_Field ?mk_Field ?kc_Field ?aC_Guessed ?pg_Guessed ?hd_Guessed ?po_Guessed ?sa_Guessed ?mk_Guessed ?kc_Guessed ?in_Guessed ?aC_Halves ?pg_Halves ?hd_Halves ?po_Halves ?sa_Halves ?mk_Halves ?kc_Halves ?in_Halves ?aC_Leaning ?pg_Leaning ?hd_Leaning ?po_Leaning ?sa_Leaning ?mk_Leaning ?kc_Leaning ?in_Leaning ?aC_Picture ?pg_Picture ?hd_Picture ?po_Picture ?sa_Picture ?mk_Picture ?kc_Picture ?aC_Plan ?pg_Plan ?hd_Plan ?po_Plan ?sa_Plan ?mk_Plan ?kc_Plan ?aC_Sums ?pg_Sums ?hd_Sums ?po_Sums ?sa_Sums ?mk_Sums ?kc_Sums ?in_Sums ?aC_HalvedError ?aC_NoField ?aC_TooGreat ?aC_Unlike ?n_Field_grid ?n_Picture_halver ?n_Picture_moments ?n_Plan_chosen ?n_Plan_corners ?n_Plan_letters ?q_ALONG_PILLARS ?lk_ALONG_PILLARS ?q_ALONG_ROWS ?lk_ALONG_ROWS ?y_bs ?y_is ?y_ns ?y_ss ?y_ls ?y_ts ?y_ds ?F0 ?F1 ?F2 ?F3 ?F4 ?F5 ?F6 ?F7 ?F8 ?F9 ?F10 ?F11 ?F12 ?F13 ?F14 ?F15 ?F16 ?F17 ?F18 ?F19 ?F20 ?F21 ?F22 ?F23 ?F24 ?F25 ?F26 ?F27 ?F28 ?F29 ?F30 ?F31 ?F32 ?F33 ?F34 ?F35 ?F36 ?F37 ?F38 ?F39 ?F40 ?F41 ?F42 ?F43 ?F44 ?F45 ?F46 ?a47 ?l47 ?c47 ?k47 ?k_hd_halved ?k_kp_halved ?F48 ?F49 ?F50 ?F51 ?F52 ?F53 ?F54 ?F55 ?F56 ?F57 ?F58 ?F59 ?F60 ?F61 ?F62 ?F63 ?k_xt_HalvedError ?k_xe_HalvedError ?k_xo_HalvedError ?k_xo_NoField ?k_xo_Unlike ?k_xo_TooGreat ?k_xnd ?z_ValueError ?k_h_rd ?k_h_ga ?k_h_fc ?e_Halves_halves ?e_Halves_sums_of ?e_Leaning_sum_of_pair ?e_Leaning_sum_of_lone ?e_Leaning_halves ?e_Leaning_sums_of ?e_Sums_halves ?e_Sums_parted ?e_Sums_sums_of ?q_MOST_NUMBER ?q_MOST_PLACES ?q_MOST_SIDE ?q_MOST_VALUE ?oc_Field ?og_Field ?ot_Field ?ob_Field ?y_oo_Field ?y_ob_Field ?y_oi_Field ?y_on_Field ?y_os_Field ?y_ol_Field ?y_ot_Field ?y_od_Field ?oc_Picture ?ob_Picture ?y_ko_Picture ?en_Picture ?ef_Picture ?oc_Plan ?ob_Plan ?y_ko_Plan ?en_Plan ?ef_Plan ?z_all ?z_bool ?z_enumerate ?z_int ?z_isinstance ?z_len ?z_list ?z_max ?z_min ?z_range ?z_repr ?z_str ?z_tuple ?z_zip ?y_bb ?y_bi ?y_bl ?y_bt ?y_ib ?y_ii ?y_il ?y_it ?y_nb ?y_ni ?y_nl ?y_nt ?y_sb ?y_si ?y_sl ?y_st ?y_lb ?y_li ?y_ll ?y_lt ?y_tb ?y_ti ?y_tl ?y_tt ?y_db ?y_di ?y_dl ?y_dt
  (case aC_Field | pg_Field | hd_Field | po_Field | sa_Field | mk_Field | kc_Field | aC_Guessed | pg_Guessed | hd_Guessed | po_Guessed | sa_Guessed=>k_is)
  (case mk_Guessed | kc_Guessed | in_Guessed | aC_Halves | pg_Halves | hd_Halves | po_Halves | sa_Halves | mk_Halves | kc_Halves | in_Halves | aC_Leaning=>k_is)
  (case pg_Leaning | hd_Leaning | po_Leaning | sa_Leaning | mk_Leaning | kc_Leaning | in_Leaning | aC_Picture | pg_Picture | hd_Picture | po_Picture | sa_Picture=>k_is)
  (case mk_Picture | kc_Picture | aC_Plan | pg_Plan | hd_Plan | po_Plan | sa_Plan | mk_Plan | kc_Plan | aC_Sums | pg_Sums | hd_Sums=>k_is)
  (case po_Sums | sa_Sums | mk_Sums | kc_Sums | in_Sums | aC_HalvedError | aC_NoField | aC_TooGreat | aC_Unlike | n_Field_grid | n_Picture_halver | n_Picture_moments=>k_is)
  (case n_Plan_chosen | n_Plan_corners | n_Plan_letters | q_ALONG_PILLARS | lk_ALONG_PILLARS | q_ALONG_ROWS | lk_ALONG_ROWS=>k_is)
  (case y_bs | y_is | y_ns | y_ss | y_ls | y_ts | y_ds=>kit_is)
  (case F0 | F1 | F2 | F3 | F4 | F5 | F6 | F7 | F8 | F9 | F10 | F11=>walk_at "fk")
  (case F12 | F13 | F14 | F15 | F16 | F17 | F18 | F19 | F20 | F21 | F22 | F23=>walk_at "fk")
  (case F24 | F25 | F26 | F27 | F28 | F29 | F30 | F31 | F32 | F33 | F34 | F35=>walk_at "fk")
  (case F36 | F37 | F38 | F39 | F40 | F41 | F42 | F43 | F44 | F45 | F46=>walk_at "fk")
  (case a47 | l47 | c47 | k47=>k_is)
  (case k_hd_halved | k_kp_halved=>first | k_is | kernel_rfl)
  (case F48 | F49 | F50 | F51 | F52 | F53 | F54 | F55 | F56 | F57 | F58 | F59=>walk_at "fk")
  (case F60 | F61 | F62 | F63=>walk_at "fk")
  (case k_xt_HalvedError | k_xe_HalvedError | k_xo_HalvedError | k_xo_NoField | k_xo_Unlike | k_xo_TooGreat | k_xnd=>first | k_is | kernel_rfl)
  (case z_ValueError=>k_is)
  (case k_h_rd | k_h_ga | k_h_fc=>first | k_is | kernel_rfl)
  (case e_Halves_halves | e_Halves_sums_of | e_Leaning_sum_of_pair | e_Leaning_sum_of_lone | e_Leaning_halves | e_Leaning_sums_of | e_Sums_halves | e_Sums_parted | e_Sums_sums_of | q_MOST_NUMBER | q_MOST_PLACES | q_MOST_SIDE=>k_is)
  (case q_MOST_VALUE | oc_Field | og_Field | ot_Field | ob_Field=>k_is)
  (case y_oo_Field | y_ob_Field | y_oi_Field | y_on_Field | y_os_Field | y_ol_Field | y_ot_Field | y_od_Field=>kit_is)
  (case oc_Picture | ob_Picture=>k_is)
  (case y_ko_Picture=>kit_is)
  (case en_Picture | ef_Picture | oc_Plan | ob_Plan=>k_is)
  (case y_ko_Plan=>kit_is)
  (case en_Plan | ef_Plan | z_all | z_bool | z_enumerate | z_int | z_isinstance | z_len | z_list | z_max | z_min | z_range=>k_is)
  (case z_repr | z_str | z_tuple | z_zip=>k_is)
  (case y_bb | y_bi | y_bl | y_bt | y_ib | y_ii | y_il | y_it | y_nb | y_ni | y_nl | y_nt=>kit_is)
  (case y_sb | y_si | y_sl | y_st | y_lb | y_li | y_ll | y_lt | y_tb | y_ti | y_tl | y_tt=>kit_is)
  (case y_db | y_di | y_dl | y_dt=>kit_is)
