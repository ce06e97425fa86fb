import PyProof.Rows.All
import Wide.All
import OpenK.AllK
import Wide.FinOn
import Lean
import KE.KRevIter
import KE.KPairComp
import KE.KIntText
import PyProof.NsDelKeeps
import PyProof.NeKinds
import KE.KNestM
import KE.KLam
import PyProof.EqAt
import PyProof.EqKinds
import PyProof.TupleCall
import PySem.Challenge.RW_halvedpictures_k74_inner_places
set_option Elab.async false
set_option linter.all false
set_option maxRecDepth 100000
abbrev Fg0:=PySem.W.Frag
abbrev Pn:=List (PySem.Addr×PySem.Obj)
abbrev VS:=PySem.Value->PySem.Shared->Prop
abbrev On:=List (Option Nat)
abbrev SV:=PySem.Str->Option PySem.Value
abbrev LL:=List (List Int)
abbrev Li:=List Int
abbrev La:=List PySem.Addr
abbrev Lv:=List PySem.Value
abbrev Ls:=List PySem.Str
theorem lM0{α β:Type}{as:List α}(f:α->β):(as.map f).length=as.length:=List.length_map f
theorem gE0{α:Type}{l:List α}{i:Nat}(h:i<l.length):l[i]?=some l[i]:=List.getElem?_eq_getElem h
theorem gS0{α:Type}{l:List α}{i:Nat}{a:α}(h:l[i]?=some a):∃h:i<l.length,l[i]=a:=List.getElem?_eq_some_iff.mp h
namespace L2
open PySem PySem.Spec PyProof.Rows
abbrev Key:=Sum Int Str
def AA:Key->Value->Bool
 | .inl k,v=>Value.isInt k v
 | .inr x,v=>Value.isStrOf x v
def Kj (w:World):Key->Int
 | .inl k=>hashInt k
 | .inr x=>hashStr w x
theorem bH:∀ {k:Key} {v:Value},AA k v=true->(∃ i t,k=Sum.inl i/\v=Value.int i t)\/(∃ x t,k=Sum.inr x/\v=Value.str x t)
 | .inl i,v,h=>by
  obtain⟨t,e⟩:=Value.isInt_shape (k:=i) (v:=v) h;exact .inl ⟨i,t,rfl,e⟩
 | .inr x,v,h=>by
  obtain⟨t,e⟩:=Value.isStrOf_shape (x:=x) (v:=v) h;exact .inr ⟨x,t,rfl,e⟩
theorem Ge (a b:Int):decide ((Sum.inl a:Key)=Sum.inl b)=(a == b):=by
 by_cases e:a=b
 ·subst e;simp
 ·have h:¬ (Sum.inl a:Key)=Sum.inl b:=fun q=>e (Sum.inl.inj q);rw[decide_eq_false h];exact(beq_eq_false_iff_ne.mpr e).symm
theorem Ga (a b:Str):decide ((Sum.inr a:Key)=Sum.inr b)=decide (a=b):=by
 by_cases e:a=b
 ·subst e;simp
 ·have h:¬ (Sum.inr a:Key)=Sum.inr b:=fun q=>e (Sum.inr.inj q);rw[decide_eq_false h,decide_eq_false e]
theorem Gd (a:Int) (b:Str):decide ((Sum.inl a:Key)=Sum.inr b)=false:=decide_eq_false (fun q=>nomatch q)
theorem Gb (a:Str) (b:Int):decide ((Sum.inr a:Key)=Sum.inl b)=false:=decide_eq_false (fun q=>nomatch q)
def oC (prog:Program) (w:World):PySem.KeyKind prog w Key where
 is:=AA
 hash:=Kj w
 inj:=fun v a b ha hb=>by
  rcases bH ha with ⟨i,t,rfl,rfl⟩ | ⟨x,t,rfl,rfl⟩
  ·rcases bH hb with ⟨j,u,rfl,e⟩ | ⟨y,u,rfl,e⟩
   ·injection e with e1 _;rw[e1]
   ·exact nomatch e
  ·rcases bH hb with ⟨j,u,rfl,e⟩ | ⟨y,u,rfl,e⟩
   ·exact nomatch e
   ·injection e with e1 _;rw[e1]
 byValue:=fun k v h=>by
  rcases bH h with ⟨i,t,rfl,rfl⟩ | ⟨x,t,rfl,rfl⟩ <;> rfl
 pyHash:=fun hv h=>by
  rcases bH hv with ⟨i,t,rfl,rfl⟩ | ⟨x,t,rfl,rfl⟩
  ·exact wpAny_pyHash_int h
  ·exact wpAny_pyHash_str h
 eqBool:=fun hu hv h=>by
  rcases bH hu with ⟨i,t,rfl,rfl⟩ | ⟨x,t,rfl,rfl⟩
  ·rcases bH hv with ⟨j,u,rfl,rfl⟩ | ⟨y,u,rfl,rfl⟩
   ·rw[Ge] at h;exact wpAny_eqBool_int h
   ·rw[Gd] at h;exact SeqAt.EqAt.int_str i t y u _ _ _ _ h
  ·rcases bH hv with ⟨j,u,rfl,rfl⟩ | ⟨y,u,rfl,rfl⟩
   ·rw[Gb] at h;exact SeqAt.EqAt.str_int x t j u _ _ _ _ h
   ·rw[Ga] at h;exact wpAny_eqBool_str h
 «strs»:=fun k x t v h=>by
  rcases bH h with ⟨i,u,rfl,e⟩ | ⟨y,u,rfl,e⟩
  ·exact nomatch e
  ·injection e with e1 _
   subst e1;cases v <;> rfl
inductive V where
 | non | bl (b:Bool) | int (i:Int) | str (x:Str) | byt (b:Array UInt8) | flt (b:UInt64) | ref (a:Addr) | ty (n:String)
 deriving DecidableEq
def RelV:V->Value->Prop
 | .non,u=>u=Value.none
 | .bl b,u=>u=Value.bool b
 | .int i,u=>∃ t,u=Value.int i t
 | .str x,u=>∃ t,u=Value.str x t
 | .byt b,u=>∃ t,u=Value.bytes b t
 | .flt b,u=>∃ t,u=Value.float b t
 | .ref a,u=>u=Value.ref a
 | .ty n,u=>u=Value.type n
abbrev Vals:List V->Lv->Prop:=Paired RelV
theorem Vals.length {xs:List V} {us:Lv} (r:Vals xs us):xs.length=us.length:=Paired.length r
theorem Vals.get:∀ {xs:List V} {us:Lv} {i:Nat} {x:V},Vals xs us->xs[i]?=some x->∃ u,us[i]?=some u/\RelV x u
 | _,_,_,_,.nil,e=>by simp at e
 | _,_,0,_,.cons r _,e=>by simp at e;subst e;exact⟨_,rfl,r⟩
 | _,_,i + 1,x,.cons _ t,e=>by
  obtain⟨u,h1,h2⟩:=Vals.get (i:=i) (x:=x) t (by simpa using e);exact⟨u,by simpa using h1,h2⟩
theorem Vals.set {x:V} {u:Value} (r:RelV x u):∀ {xs:List V} {us:Lv} (i:Nat),Vals xs us->Vals (xs.set i x) (us.set i u)
 | _,_,_,.nil=>.nil
 | _,_,0,.cons _ t=>.cons r t
 | _,_,i + 1,.cons q t=>.cons q (Vals.set r i t)
theorem Vals.append:∀ {xs ys:List V} {us ws:Lv},Vals xs us->Vals ys ws->Vals (xs++ys) (us++ws)
 | _,_,_,_,.nil,s=>s
 | _,_,_,_,.cons r t,s=>.cons r (Vals.append t s)
theorem Vals.take:∀ {xs:List V} {us:Lv} (n:Nat),Vals xs us->Vals (xs.take n) (us.take n)
 | _,_,0,_=>.nil
 | _,_,_ + 1,.nil=>.nil
 | _,_,n + 1,.cons r t=>.cons r (Vals.take n t)
theorem Vals.drop:∀ {xs:List V} {us:Lv} (n:Nat),Vals xs us->Vals (xs.drop n) (us.drop n)
 | _,_,0,r=>r
 | _,_,_ + 1,.nil=>.nil
 | _,_,n + 1,.cons _ t=>Vals.drop n t
theorem Vals.none_of:∀ {xs:List V} {us:Lv} {i:Nat},Vals xs us->xs[i]?=none->us[i]?=none:=fun {xs us i} r e=>by
 have h1:=r.length;have h2:xs.length<=i:=List.getElem?_eq_none_iff.mp e;exact List.getElem?_eq_none_iff.mpr (by omega)
def qv:Option V->Option Value->Prop
 | some v,some u=>RelV v u
 | none,none=>True
 | _,_=>False
def KV {κ:Type}:List (κ×V)->List (κ×Value)->Prop:=Paired fun (p:κ×V) (q:κ×Value)=>p.1=q.1/\RelV p.2 q.2
def kV:Key->V
 | .inl i=>.int i
 | .inr x=>.str x
inductive HO where
 | lst (xs:List V)
 | tup (xs:List V)
 | dK (kvs:List (Key×V)) | dT (kvs:List (List Key×V))
 | set (S:Int->Bool) (n:Nat)
 | ins (C dx:Addr) (fs:List (Str×V))
 | own (x:Addr)
 | xd (fs:List (Str×V))
 | met (f x:Addr)
 | rng (lo hi:Int)
 | frz (o:Obj) (u:HO)
 | tbl (ps:Array Value)
 | ext (φ:Heap->Prop)
 | cod (c:Addr) (q:Str)
abbrev Hp:=Addr->Option HO
def nU (H:Hp) (v:Value) (q:Str):Prop:=∃ c oc vs t φ,v=.ref c/\H c=some (.frz oc (.ext φ))/\oc.data=.fields vs/\vs[1]?=some (.str q t)
theorem nU.mono {H H':Hp} {v:Value} {q:Str} (x:nU H v q) (hf:∀ b o φ,H b=some (.frz o (.ext φ))->H' b=some (.frz o (.ext φ))):nU H' v q:=
 let ⟨c,oc,vs,t,φ,a,b,d⟩:=x;⟨c,oc,vs,t,φ,a,hf _ _ _ b,d⟩
def upd (H:Hp) (a:Addr) (o:HO):Hp:=fun b=>if b=a then some o else H b
theorem ao {H:Hp} {a:Addr} {o:HO}:upd H a o a=some o:=by unfold upd;rw[if_pos rfl]
theorem af {H:Hp} {a b:Addr} {o:HO} (h:b≠a):upd H a o b=H b:=by unfold upd;rw[if_neg h]
theorem aE {H:Hp} {a b:Addr} {o:HO} (h:H a=some o) (h':H b=none):a≠b:=by
 intro e;subst e;rw[h] at h';cases h'
section
variable (P:Program) (w:World)
def cI (H:Hp) (h:Heap) (a:Addr):HO->Prop
 | .lst xs=>xs.length<=sizeLine/\∃ (its:Lv) (n:Nat),Vals xs its/\h.get? a=some { cls:=.type "list",data:=.seq its.toArray n }
 | .tup xs=>xs.length<=sizeLine/\∃ its:Lv,Vals xs its/\IsTup h a its.toArray
 | .dK kvs=>kvs.length<=sizeLine/\(a == sysModules)=false/\∃ vs,KV kvs vs/\h.DictOf (oC P w) a vs
 | .dT kvs=>kvs.length<=sizeLine/\(a == sysModules)=false/\∃ xs:List (List Key×Addr×Value),
   Paired (fun (p:List Key×V) (q:List Key×Addr×Value)=>p.1=q.1/\H q.2.1=some (.tup (p.1.map kV))/\RelV p.2 q.2.2) kvs xs/\
   ∃ o es ep,h.get? a=some o/\o.ExactDict/\o.data=.dict es ep/\es.toList=xs.map (entryOfKey (tupleKind (oC P w)))/\(xs.map (·.1)).Nodup
 | .set S n=>h.SetOf (intKind P w) a S n
 | .ins C dx fs=>H dx=some (.own a)/\fs.length<=1000/\dx≠a/\h.get? a=some (PySem.W.instObj C dx)/\
   ∃ mA,h.Ns1 dx mA/\(∀ f,qv (fs.lookup f) (mA f))/\PySem.Within mA (fs.map (·.1))
 | .own _=>∃ o,h.get? a=some o
 | .xd fs=>∃ mA,h.Ns1 a mA/\∀ f,qv (fs.lookup f) (mA f)
 | .rng lo hi=>∃ t u v,h.get? a=some { cls:=.type "range",data:=.fields #[.int lo t,.int hi u,.int 1 v] }
 | .frz o u=>h.get? a=some o/\cI H h a u
 | .tbl ps=>∃ q t qs,ps[0]?=some (Value.str q t)/\h.get? a=some { cls:=.none,data:=.fields qs }/\TriplesOk qs.toList/\∀ pos v,codeAmong pos qs.toList=some v->nU H v q
 | .cod c q=>(∃ o,h.get? a=some o)/\nU H (.ref c) q
 | .met f x=>h.get? a=some (PySem.W.methodObj (.ref f) (.ref x))
 | .ext φ=>φ h/\(∃ o,h.get? a=some o)/\∀ h1 h2:Heap,φ h1->(∀ o,h1.get? a=some o->h2.get? a=some o)->φ h2
def HOk (H:Hp) (h:Heap):Prop:=∀ a o,H a=some o->cI P w H h a o
end
section
variable {P:Program} {w:World} {H H':Hp} {h h':Heap} {a:Addr} {o:HO}
theorem cI.lt (x:cI P w H h a o):a < h.objs.size:=by
 cases o with
 | lst xs=>obtain⟨_,_,_,_,e⟩:=x;exact Heap.lt_size e
 | tup xs=>obtain⟨_,_,_,p⟩:=x;exact p.lt
 | dK kvs=>obtain⟨_,_,_,_,o,_,_,e,_⟩:=x;exact Heap.lt_size e
 | dT kvs=>obtain⟨_,_,_,_,o,_,_,e,_⟩:=x;exact Heap.lt_size e
 | set S n=>obtain⟨o,_,_,_,e,_⟩:=x;exact Heap.lt_size e
 | ins C dx fs=>obtain⟨_,_,_,e,_⟩:=x;exact Heap.lt_size e
 | own y=>obtain⟨_,e⟩:=x;exact Heap.lt_size e
 | xd fs=>obtain⟨_,⟨_,_,_,e,_⟩,_⟩:=x;exact Heap.lt_size e
 | rng lo hi=>obtain⟨_,_,_,e⟩:=x;exact Heap.lt_size e
 | frz ob u=>obtain⟨e,_⟩:=x;exact Heap.lt_size e
 | tbl ps=>obtain⟨_,_,_,_,e,_⟩:=x;exact Heap.lt_size e
 | cod c q=>obtain⟨⟨_,e⟩,_⟩:=x;exact Heap.lt_size e
 | met f y=>exact Heap.lt_size (show h.get? a=some _ from x)
 | ext φ=>obtain⟨_,⟨_,e⟩,_⟩:=x;exact Heap.lt_size e
theorem Paired.Ir {α β:Type} {F G:α->β->Prop}:∀ {l₁:List α} {l₂:List β},Paired F l₁ l₂->(∀ a b,F a b->G a b)->Paired G l₁ l₂
 | _,_,.nil,_=>.nil
 | _,_,.cons r t,f=>.cons (f _ _ r) (Paired.Ir t f)
theorem cI.nY (x:cI P w H h a o) (k:∀ b u,(b=a\/H b=some (.own a))->h.get? b=some u->h'.get? b=some u)
  (ho:∀ b,H b=some (.own a)->H' b=some (.own a)) (ht:∀ b xs,H b=some (.tup xs)->H' b=some (.tup xs)) (hf:∀ b o φ,H b=some (.frz o (.ext φ))->H' b=some (.frz o (.ext φ)):=by first | exact fun _ _ _ q=>q | (intro c o u q;rw[_root_.L2.af (_root_.L2.aE q (by assumption))];exact q)):cI P w H' h' a o:=by
 induction o with
 | lst xs=>obtain⟨z,its,n,r,e⟩:=x;exact⟨z,its,n,r,k _ _ (.inl rfl) e⟩
 | tup xs=>obtain⟨z,its,r,ob,e,c⟩:=x;exact⟨z,its,r,ob,k _ _ (.inl rfl) e,c⟩
 | dK kvs=>obtain⟨z,y,vs,r,ob,es,ep,e,c⟩:=x;exact⟨z,y,vs,r,ob,es,ep,k _ _ (.inl rfl) e,c⟩
 | dT kvs=>
  obtain⟨z,y,xs,r,ob,es,ep,e,c⟩:=x;exact⟨z,y,xs,Paired.Ir r fun p q z=>⟨z.1,ht _ _ z.2.1,z.2.2⟩,ob,es,ep,k _ _ (.inl rfl) e,c⟩
 | set S n=>obtain⟨ob,es,ep,t,e,c⟩:=x;exact⟨ob,es,ep,t,k _ _ (.inl rfl) e,c⟩
 | ins C dx fs=>
  obtain⟨d,z,ne,e,mA,⟨od,es,ep,e2,c⟩,r⟩:=x;exact⟨ho _ d,z,ne,k _ _ (.inl rfl) e,mA,⟨od,es,ep,k _ _ (.inr d) e2,c⟩,r⟩
 | own y=>obtain⟨ob,e⟩:=x;exact⟨ob,k _ _ (.inl rfl) e⟩
 | xd fs=>obtain⟨mA,⟨od,es,ep,e,c⟩,r⟩:=x;exact⟨mA,⟨od,es,ep,k _ _ (.inl rfl) e,c⟩,r⟩
 | rng lo hi=>obtain⟨t,u,v,e⟩:=x;exact⟨t,u,v,k _ _ (.inl rfl) e⟩
 | frz ob u ih=>obtain⟨e,q⟩:=x;exact⟨k _ _ (.inl rfl) e,ih q⟩
 | tbl ps=>obtain⟨q,t,qs,e1,e2,e3,e4⟩:=x;exact⟨q,t,qs,e1,k a _ (.inl rfl) e2,e3,fun p v r=>(e4 p v r).mono hf⟩
 | cod c q=>obtain⟨⟨u,e⟩,y⟩:=x;exact⟨⟨u,k a _ (.inl rfl) e⟩,y.mono hf⟩
 | met f y=>
  have e:h.get? a=some (PySem.W.methodObj (.ref f) (.ref y)):=x;show h'.get? a=some (PySem.W.methodObj (.ref f) (.ref y));exact k a _ (.inl rfl) e
 | ext φ=>obtain⟨p,⟨o,e⟩,st⟩:=x;exact⟨st _ _ p fun o q=>k _ _ (.inl rfl) q,⟨o,k _ _ (.inl rfl) e⟩,st⟩
theorem HOk.lt (x:HOk P w H h) (e:H a=some o):a < h.objs.size:=(x a o e).lt
theorem HOk.fresh (x:HOk P w H h) (e:h.objs.size<=a):H a=none:=by
 cases q:H a with
 | none=>rfl
 | some u=>exact absurd (Nat.lt_of_lt_of_le (x.lt q) e) (Nat.lt_irrefl _)
theorem HOk.kept (x:HOk P w H h) (k:∀ b u,h.get? b=some u->h'.get? b=some u):HOk P w H h':=fun a o e=>
 (x a o e).nY (fun b u _ q=>k b u q) (fun _ q=>q) fun _ _ q=>q
theorem HOk.laid (x:HOk P w H h) (k:∀ b u,h.get? b=some u->h'.get? b=some u) (hp:h.objs.size<=a) (new:cI P w (upd H a o) h' a o):HOk P w (upd H a o) h':=fun b u e=>by
 have hn:=x.fresh hp;by_cases hb:b=a
 ·subst hb;rw[ao] at e;cases e;exact new
 ·rw[af hb] at e;exact(x b u e).nY (fun c v _ q=>k c v q) (fun c q=>by rw[af (aE q hn)];exact q) fun c xs q=>by rw[af (aE q hn)];exact q
end
def Rd (H:Hp) (a:Addr) (u:HO):Prop:=H a=some u\/∃ o,H a=some (.frz o u)
theorem Rd.ok {P:Program} {w:World} {H:Hp} {h:Heap} {a:Addr} {u:HO} (r:Rd H a u) (x:HOk P w H h):cI P w H h a u:=by
 rcases r with r | ⟨o,r⟩
 ·exact x a u r
 ·obtain⟨_,q⟩:=x a _ r;exact q
def Mut:Option HO->Prop
 | some (.lst _)=>True
 | some (.dK _)=>True
 | some (.dT _)=>True
 | some (.set _ _)=>True
 | some (.ins _ _ _)=>True
 | some (.ext _)=>True
 | _=>False
section
variable {P:Program} {w:World} {H:Hp} {h h':Heap} {x e:Addr} {o':HO}
theorem HOk.write (ok:HOk P w H h) (mu:Mut (H x)) (he:e=x\/H e=some (.own x)) (k:∀ b u,b≠e->h.get? b=some u->h'.get? b=some u) (heo:∃ u,h'.get? e=some u)
  (new:cI P w (upd H x o') h' x o'):HOk P w (upd H x o') h':=fun b u q=>by
 have nown:∀ c y,H c=some (.own y)->c≠x:=fun c y r z=>by subst z;rw[r] at mu;exact mu
 have ntup:∀ c xs,H c=some (.tup xs)->c≠x:=fun c xs r z=>by subst z;rw[r] at mu;exact mu
 by_cases hb:b=x
 ·subst hb;rw[ao] at q;cases q;exact new
 ·rw[af hb] at q;by_cases hbe:b=e
  ·have q':H b=some (.own x):=by
    rcases he with z | z
    ·exact absurd (hbe.trans z) hb
    ·rw[hbe];exact z
   rw[q] at q';cases q';obtain⟨v,hv⟩:=heo;exact⟨v,by rw[hbe];exact hv⟩
  ·refine(ok b u q).nY (fun c v hc r=>k c v ?_ r) (fun c r=>by rw[af (nown c b r)];exact r) (fun c xs r=>by rw[af (ntup c xs r)];exact r) fun c o φ r=>by rw[af (fun z=>by subst z;rw[r] at mu;exact mu)];exact r
   rcases hc with rfl | hc
   ·exact hbe
   ·rintro rfl;rcases he with z | z
    ·exact nown c b hc z
    ·rw[hc] at z;cases z;exact hb rfl
end
structure Un (fs ex:La) (H H':Hp) (h h':Heap):Prop where
 keep:∀ b o,h.get? b=some o->H b=none->b∉fs->b∉ex->h'.get? b=some o
 slot:∀ b o,h.get? b=some o->H b=none->b∈fs->b∉ex->∃ sl,h'.get? b=some { o with slots:=sl }
 free:∀ b o,h.get? b=some o->H b=none->b∉ex->H' b=none
 there:∀ b o,h.get? b=some o->b∉ex->∃ o',h'.get? b=some o'
 tups:∀ b xs,H b=some (.tup xs)->H' b=some (.tup xs)
 frzs:∀ b o u,H b=some (.frz o u)->H' b=some (.frz o u)
 tbls:∀ b ps,H b=some (.tbl ps)->∃ more,H' b=some (.tbl (ps++more))
section
variable {fs fs' ex ex':La} {H H1 H2:Hp} {h h1 h2 h':Heap} {a x e:Addr} {o:HO}
theorem Un.any (u:Un fs ex H H1 h h1) {b:Addr} {ob:Obj} (q:h.get? b=some ob) (n:H b=none) (hx:b∉ex):∃ sl,h1.get? b=some { ob with slots:=sl }:=by
 by_cases hb:b∈fs
 ·exact u.slot b ob q n hb hx
 ·exact⟨ob.slots,u.keep b ob q n hb hx⟩
theorem Un.kept (k:∀ b u,h.get? b=some u->h'.get? b=some u):Un fs ex H H h h':=
 ⟨fun b ob q _ _ _=>k b ob q,fun b ob q _ _ _=>⟨ob.slots,k b ob q⟩,fun _ _ _ n _=>n,fun b ob q _=>⟨ob,k b ob q⟩,fun _ _ q=>q,fun _ _ _ q=>q,fun _ ps q=>⟨#[],by rw[q];simp⟩⟩
theorem Un.refl:Un fs ex H H h h:=Un.kept fun _ _ q=>q
theorem Un.laid (k:∀ b u,h.get? b=some u->h'.get? b=some u) (hp:h.objs.size<=a) (hn:H a=none):Un fs ex H (upd H a o) h h' where
 keep:=fun b u q _ _ _=>k b u q
 slot:=fun b u q _ _ _=>⟨u.slots,k b u q⟩
 free:=fun b u q n _=>by rw[af (Nat.ne_of_lt (Nat.lt_of_lt_of_le (Heap.lt_size q) hp))];exact n
 there:=fun b u q _=>⟨u,k b u q⟩
 tups:=fun b xs q=>by rw[af (aE q hn)];exact q
 frzs:=fun b u xs q=>by rw[af (aE q hn)];exact q
 tbls:=fun b ps q=>⟨#[],by rw[af (aE q hn),q];simp⟩
theorem Un.write (mu:Mut (H x)) (he:e=x\/H e=some (.own x)) (k:∀ b u,b≠e->h.get? b=some u->h'.get? b=some u) (heo:∃ u,h'.get? e=some u):Un fs ex H (upd H x o) h h':=by
 have hx:∀ b,H b=none->b≠x:=fun b n z=>by subst z;rw[n] at mu;exact mu
 have hb:∀ b,H b=none->b≠e:=fun b n z=>by
  subst z;rcases he with r | r
  ·exact hx b n r
  ·rw[n] at r;cases r
 have hm:∀ b u,H b=some u->¬ Mut (some u)->b≠x:=fun b u q nm z=>by subst z;rw[q] at mu;exact nm mu
 refine⟨fun b u q n _ _=>k b u (hb b n) q,fun b u q n _ _=>⟨u.slots,k b u (hb b n) q⟩,fun b u q n _=>by rw[af (hx b n)];exact n,fun b u q _=>?_,
  fun b xs q=>by rw[af (hm b _ q fun z=>z)];exact q,fun b u xs q=>by rw[af (hm b _ q fun z=>z)];exact q,fun b ps q=>⟨#[],by rw[af (hm b _ q fun z=>z),q];simp⟩⟩
 by_cases hbe:b=e
 ·subst hbe;exact heo
 ·exact⟨u,k b u hbe q⟩
end
structure Mod (K:Fg0) (mg:SV) (base:Heap):Prop where
 kin:K.In base
 glob:base.Ns mainGlobals mg
 blt:∃ mb,base.Ns builtinsNs mb/\∀ x:Str,x≠"__name__"->mb x=bootBuiltins x
 nolimit:base.NoLimit
 bm:∃ bm ob,mg "__builtins__"=some (.ref bm)/\bm≠builtinsNs/\base.get? bm=some ob/\ob.cls=.type "module"/\ob.dict=some builtinsNs/\ob.data=.plain
structure Cx where
 prog:Program
 w:World
 K:Fg0
 mg:Str->Option Value
 base:Heap
 A:Around
 N:Ls
 s₀:Shared
 H₀:Hp
 env:Env
 outer:List Env
 stack:List Env
 ex:La
 fn:Str->Bool
 calm:Bool
 pn:Pn
 xe:Value->Shared->Prop
def frs (l:List Env):La:=l.filterMap (·.frame)
abbrev Cx.fs (X:Cx):La:=frs X.outer
def Vis (sc:Scope) (x:Str):Prop:=sc.names.lookup x=some .local\/sc.names.lookup x=some .cell\/sc.names.lookup x=some .free
def Loc (sc:Scope) (x:Str):Prop:=sc.names.lookup x=some .local\/sc.names.lookup x=some .cell
def Look (env:Env) (h:Heap) (m:SV) (x:Str) (u:Value):Prop:=
 (env.kindOf x=some .local/\m x=some u)\/((env.kindOf x=some .cell\/env.kindOf x=some .free)/\∃ c,env.cells.lookup x=some c/\h.IsCell c (some u))
def Kpt (H:Hp) (b:Addr) (o:Obj):Prop:=H b=none\/((∃ u,H b=some (.frz o u))/\∀ v,o.data≠.cell v)
def kT (base:Heap) (P:Addr) (q:Str):Prop:=base.objs[P]?=some { cls:=.str q 0,data:=.freed }
def TabsAt (base:Heap) (H:Hp):Prop:=∀ P q,kT base P q->∃ ps t,H P=some (.tbl ps)/\ps[0]?=some (.str q t)
structure Cx.Ok (X:Cx):Prop where
 mod:Mod X.K X.mg X.base
 kind:X.env.scope.kind=.function
 glob:X.env.globals=mainGlobals
 blt:X.env.builtins=builtinsNs
 above:X.s₀.heap.objs.size<=X.env.locals
 inj:∀ x y c,X.env.cells.lookup x=some c->X.env.cells.lookup y=some c->x=y
 has:∀ x,(X.env.kindOf x=some .cell\/X.env.kindOf x=some .free)->∃ c,X.env.cells.lookup x=some c
 cab:∀ x c,X.fn x=true->X.env.cells.lookup x=some c->X.s₀.heap.objs.size<=c
 hd:X.calm=true->X.A.handled=none
 frames:X.A.frames=some X.stack
 stk:X.stack=X.outer\/(X.stack=X.env::X.outer/\X.env.frame=some X.env.locals)
 exf:∀ b∈X.ex,b≠X.env.locals/\∀ x c,X.env.cells.lookup x=some c->c≠b
 bs:∀ b o,X.base.get? b=some o->X.s₀.heap.get? b=some o/\Kpt X.H₀ b o
 bsz:X.base.objs.size<=X.s₀.heap.objs.size
 noex:∀ b o,X.base.get? b=some o->b∉X.ex
 exfs:∀ b∈X.ex,b∉X.fs
 kQ:X.s₀.heap.FunFrames X.base X.outer
 frf:∀ b∈X.fs,X.H₀ b=none
 tb:TabsAt X.base X.H₀
structure Inv (X:Cx) (pins:Pn) (σ:List (Option V)) (H:Hp) (s:Shared):Prop where
 ok:X.Ok
 os:s.os=X.s₀.os
 bare:AllBare s.gens
 base:Un X.fs X.ex X.H₀ H X.s₀.heap s.heap
 loc:∃ m,s.heap.Ns X.env.locals m/\∀ (i:Nat) (x:Str) (v:V),X.N[i]?=some x->σ[i]?=some (some v)->Vis X.env.scope x->∃ u,RelV v u/\Look X.env s.heap m x u
 cell:∀ x c,X.env.cells.lookup x=some c->∃ v,s.heap.IsCell c v
 free:H X.env.locals=none
 freeC:∀ x c,X.env.cells.lookup x=some c->H c=none
 pin:∀ p∈X.pn++pins,s.heap.get? p.1=some p.2/\H p.1=none/\p.1≠X.env.locals/\p.1∉X.fs/\∀ v,p.2.data≠.cell v
 hok:HOk X.prog X.w H s.heap
 len:σ.length=X.N.length
section
variable {X:Cx} {pins:Pn} {σ:List (Option V)} {H H':Hp} {s:Shared} {h':Heap}
theorem Cx.Ok.J9 (ok:X.Ok) {b:Addr} {o:Obj} (e:X.base.get? b=some o):b∉X.fs:=fun hb=>by
 have:=(ok.kQ.mem hb).1;rw[e] at this;cases this
theorem Inv.bs (I:Inv X pins σ H s):∀ b o,X.base.get? b=some o->s.heap.get? b=some o/\Kpt H b o:=fun b o e=>by
 obtain⟨h1,h2 | ⟨⟨u,h2⟩,h3⟩⟩:=I.ok.bs b o e
 ·exact⟨I.base.keep b o h1 h2 (I.ok.J9 e) (I.ok.noex b o e),.inl (I.base.free b o h1 h2 (I.ok.noex b o e))⟩
 ·have q:=I.base.frzs b o u h2;obtain⟨z,_⟩:=I.hok b _ q;exact⟨z,.inr ⟨⟨u,q⟩,h3⟩⟩
theorem TabsAt.un {base:Heap} {fs ex:La} {H H':Hp} {h h':Heap} (x:TabsAt base H) (u:Un fs ex H H' h h'):TabsAt base H':=fun P q r=>by
 obtain⟨ps,t,e1,e2⟩:=x P q r;obtain⟨m,e3⟩:=u.tbls P ps e1;exact⟨_,t,e3,by rw[Array.getElem?_append_left (by obtain⟨z,_⟩:=Array.getElem?_eq_some_iff.mp e2;exact z)];exact e2⟩
theorem Inv.tb (I:Inv X pins σ H s):TabsAt X.base H:=I.ok.tb.un I.base
theorem Inv.bk (I:Inv X pins σ H s):∀ b o,X.base.get? b=some o->s.heap.get? b=some o:=fun b o e=>(I.bs b o e).1
theorem Inv.mod (I:Inv X pins σ H s):Mod X.K X.mg X.base:=I.ok.mod
theorem Inv.kIn (I:Inv X pins σ H s):X.K.In s.heap:=I.ok.mod.kin.keeps I.bk
theorem Inv.lt (I:Inv X pins σ H s):X.env.locals < s.heap.objs.size:=let ⟨_,hn,_⟩:=I.loc;hn.lt
theorem Inv.sz (I:Inv X pins σ H s):X.s₀.heap.objs.size<=s.heap.objs.size:=Nat.le_trans I.ok.above (Nat.le_of_lt I.lt)
theorem Inv.J8 (I:Inv X pins σ H s) {a:Addr} (h:s.heap.objs.size<=a):a∉X.fs:=fun hb=>by
 obtain⟨_,o,ho,_⟩:=I.ok.kQ.mem hb;exact absurd (Nat.lt_of_lt_of_le (Heap.lt_size ho) (Nat.le_trans I.sz h)) (Nat.lt_irrefl _)
theorem Inv.cne (I:Inv X pins σ H s):∀ x c,X.env.cells.lookup x=some c->c≠X.env.locals:=fun x c e z=>by
 obtain⟨v,o,ho,hd⟩:=I.cell x c e;obtain⟨m,⟨o',es,ep,ho',hd',_⟩,_⟩:=I.loc;rw[z,ho'] at ho;cases ho;rw[hd'] at hd;cases hd
theorem Inv.kQ (I:Inv X pins σ H s):s.heap.FunFrames X.base X.outer:=by
 have all:∀ (l:List Env),(∀ b∈frs l,b∈X.fs)->X.s₀.heap.FunFrames X.base l->s.heap.FunFrames X.base l:=by
  intro l
  induction l with
  | nil=>intro _ _;trivial
  | cons env r ih=>
   intro hs hl;obtain⟨hk,⟨L,o,hf,hn,ho,hd⟩,hr⟩:=hl;have hL:L∈X.fs:=hs L (by unfold frs;rw[List.filterMap_cons,hf];exact List.mem_cons_self);obtain⟨sl,e⟩:=I.base.slot L o ho (I.ok.frf L hL) hL fun z=>I.ok.exfs L z hL;exact⟨hk,⟨L,_,hf,hn,e,hd⟩,ih (fun b hb=>hs b (by unfold frs;rw[List.filterMap_cons,hf];exact List.mem_cons_of_mem _ hb)) hr⟩
 exact all X.outer (fun _ hb=>hb) I.ok.kQ
theorem Inv.stack (I:Inv X pins σ H s):s.heap.FunFrames X.base X.stack:=by
 rcases I.ok.stk with e | ⟨e,hf⟩
 ·rw[e];exact I.kQ
 ·rw[e];obtain⟨m,hn,_⟩:=I.loc;refine .cons (by rw[I.ok.kind];decide) hf hn ?_ I.kQ;exact Heap.get?_none_of_le (Nat.le_trans I.ok.bsz I.ok.above)
theorem Inv.oW (I:Inv X pins σ H s):∀ b∈frs X.stack,b∈X.env.locals::X.fs:=fun b hb=>by
 rcases I.ok.stk with e | ⟨e,hf⟩
 ·rw[e] at hb;exact List.mem_cons_of_mem _ hb
 ·rw[e] at hb;unfold frs at hb;rw[List.filterMap_cons,hf] at hb;exact hb
theorem Inv.oq (I:Inv X pins σ H s):∀ b∈frs X.stack,H b=none:=fun b hb=>by
 rcases List.mem_cons.mp (I.oW b hb) with e | hb
 ·rw[e];exact I.free
 ·obtain⟨_,o,ho,_⟩:=I.ok.kQ.mem hb;exact I.base.free b o ho (I.ok.frf b hb) fun z=>I.ok.exfs b z hb
theorem Inv.step {g':Array GenState} {t':Nat} {d':Drawn} {ch:La} (I:Inv X pins σ H s)
  (hch:∀ b∈ch,(b∈X.ex\/X.s₀.heap.objs.size<=b)/\b≠X.env.locals/\(∀ x c,X.env.cells.lookup x=some c->c≠b)/\∀ p∈X.pn++pins,p.1≠b)
  (keep:∀ b o,b≠X.env.locals->b∉X.fs->b∉ch->s.heap.get? b=some o->H b=none->h'.get? b=some o)
  (slot:∀ b o,b≠X.env.locals->b∈X.fs->b∉ch->s.heap.get? b=some o->H b=none->∃ sl,h'.get? b=some { o with slots:=sl }) (free:∀ b o,b∉ch->s.heap.get? b=some o->H b=none->H' b=none)
  (there:∀ b o,b∉ch->s.heap.get? b=some o->∃ o',h'.get? b=some o')
  (tups:∀ b xs,H b=some (.tup xs)->H' b=some (.tup xs)) (frzs:∀ b o u,H b=some (.frz o u)->H' b=some (.frz o u)) (tbls:∀ b ps,H b=some (.tbl ps)->∃ more,H' b=some (.tbl (ps++more)))
  (ns:∀ m,s.heap.Ns X.env.locals m->h'.Ns X.env.locals m) (hok:HOk X.prog X.w H' h') (hg:AllBare g') :
  Inv X pins σ H' { s with heap:=h',gens:=g',drawn:=d',toks:=t' }:=by
 have neL:∀ b o,X.s₀.heap.get? b=some o->b≠X.env.locals:=fun b o e=>Nat.ne_of_lt (Nat.lt_of_lt_of_le (Heap.lt_size e) I.ok.above);have neC:∀ b o,X.s₀.heap.get? b=some o->b∉X.ex->b∉ch:=fun b o e hx hb=>by
  rcases(hch b hb).1 with z | z
  ·exact hx z
  ·exact absurd (Nat.lt_of_lt_of_le (Heap.lt_size e) z) (Nat.lt_irrefl _)
 have cellK:∀ x c,X.env.cells.lookup x=some c->∀ v,s.heap.IsCell c v->h'.IsCell c v:=fun x c e v ⟨o,ho,hd⟩=>by
  have nch:c∉ch:=fun z=>(hch c z).2.2.1 x c e rfl;by_cases hc:c∈X.fs
  ·obtain⟨sl,q⟩:=slot c o (I.cne x c e) hc nch ho (I.freeC x c e);exact⟨_,q,hd⟩
  ·exact⟨o,keep c o (I.cne x c e) hc nch ho (I.freeC x c e),hd⟩
 refine⟨I.ok,I.os,hg,⟨fun b o e n hb hx=>?_,fun b o e n hb hx=>?_,fun b o e n hx=>?_,fun b o e hx=>?_,fun b xs e=>tups b xs (I.base.tups b xs e),fun b o xs e=>frzs b o xs (I.base.frzs b o xs e),fun b ps e=>?_⟩,?_,fun x c e=>?_,?_,fun x c e=>?_,fun p hp=>?_,hok,I.len⟩
 ·exact keep b o (neL b o e) hb (neC b o e hx) (I.base.keep b o e n hb hx) (I.base.free b o e n hx)
 ·obtain⟨sl,e1⟩:=I.base.slot b o e n hb hx;obtain⟨sl',e2⟩:=slot b _ (neL b o e) hb (neC b o e hx) e1 (I.base.free b o e n hx);exact⟨sl',e2⟩
 ·obtain⟨o',e1⟩:=I.base.there b o e hx;exact free b o' (neC b o e hx) e1 (I.base.free b o e n hx)
 ·obtain⟨o',e1⟩:=I.base.there b o e hx;exact there b o' (neC b o e hx) e1
 ·obtain⟨m1,e1⟩:=I.base.tbls b ps e;obtain⟨m2,e2⟩:=tbls b _ e1;exact⟨m1++m2,by rw[e2,Array.append_assoc]⟩
 ·obtain⟨m,hn,hl⟩:=I.loc;refine⟨m,ns m hn,fun i x v e1 e2 e3=>?_⟩;obtain⟨u,r,l⟩:=hl i x v e1 e2 e3;refine⟨u,r,?_⟩;rcases l with l | ⟨k,c,e,z⟩
  ·exact .inl l
  ·exact .inr ⟨k,c,e,cellK x c e _ z⟩
 ·obtain⟨v,z⟩:=I.cell x c e;exact⟨v,cellK x c e v z⟩
 ·obtain⟨m,⟨o,_,_,ho,_⟩,_⟩:=I.loc;exact free _ o (fun z=>(hch _ z).2.1 rfl) ho I.free
 ·obtain⟨v,o,ho,hd⟩:=I.cell x c e;exact free c o (fun z=>(hch c z).2.2.1 x c e rfl) ho (I.freeC x c e)
 ·obtain⟨e,n,ne,nf,d⟩:=I.pin p hp;have nch:p.1∉ch:=fun z=>(hch p.1 z).2.2.2 p hp rfl;exact⟨keep p.1 p.2 ne nf nch e n,free p.1 p.2 nch e n,ne,nf,d⟩
theorem Inv.un {t':Nat} (I:Inv X pins σ H s) (u:Un X.fs [] H H' s.heap h') (hok:HOk X.prog X.w H' h'):Inv X pins σ H' { s with heap:=h',toks:=t' }:=by
 obtain⟨m,⟨o,es,ep,ho,r⟩,_⟩:=id I.loc;obtain⟨sl,hL⟩:=u.any ho I.free (by simp);exact I.step (g':=s.gens) (d':=s.drawn) (ch:=[]) (fun _ z=>nomatch z) (fun b o _ hb _ e n=>u.keep b o e n hb (by simp)) (fun b o _ hb _ e n=>u.slot b o e n hb (by simp)) (fun b o _ e n=>u.free b o e n (by simp)) (fun b o _ e=>u.there b o e (by simp)) u.tups u.frzs u.tbls (fun m' hm=>by
  obtain⟨o',es',ep',ho',r'⟩:=hm;rw[ho] at ho';cases ho';exact⟨_,es',ep',hL,r'⟩) hok I.bare
theorem Inv.call {g':Array GenState} {t':Nat} {d':Drawn} {ch:La} (I:Inv X pins σ H s) (u:Un (frs X.stack) ch H H' s.heap h') (hok:HOk X.prog X.w H' h') (hg:AllBare g')
  (hch:∀ b∈ch,(b∈X.ex\/X.s₀.heap.objs.size<=b)/\b≠X.env.locals/\(∀ x c,X.env.cells.lookup x=some c->c≠b)/\∀ p∈X.pn++pins,p.1≠b) :
  Inv X pins σ H' { s with heap:=h',gens:=g',drawn:=d',toks:=t' }:=by
 obtain⟨m,⟨o,es,ep,ho,r⟩,_⟩:=id I.loc;obtain⟨sl,hL⟩:=u.any ho I.free fun z=>(hch _ z).2.1 rfl;exact I.step (ch:=ch) hch (fun b o hL hb hc e n=>u.keep b o e n (fun z=>(List.mem_cons.mp (I.oW b z)).elim hL hb) hc) (fun b o _ _ hc e n=>u.any e n hc) (fun b o hc e n=>u.free b o e n hc) (fun b o hc e=>u.there b o e hc) u.tups u.frzs u.tbls (fun m' hm=>by
  obtain⟨o',es',ep',ho',r'⟩:=hm;rw[ho] at ho';cases ho';exact⟨_,es',ep',hL,r'⟩) hok hg
theorem Inv.turned {t':Nat} {it:Addr} (I:Inv X pins σ H s) (k:∀ b o,b≠it->s.heap.get? b=some o->h'.get? b=some o) (hn:H it=none) (hL:it≠X.env.locals)
  (h1:it∈X.ex\/X.s₀.heap.objs.size<=it) (h2:∀ x c,X.env.cells.lookup x=some c->c≠it) (h3:∀ p∈X.pn++pins,p.1≠it):Inv X pins σ H { s with heap:=h',toks:=t' }:=by
 have nit:∀ b u,H b=some u->b≠it:=fun b u e z=>by rw[z,hn] at e;cases e
 refine I.step (g':=s.gens) (d':=s.drawn) (ch:=[it]) (fun b hb=>?_) (fun b o _ _ hc e _=>k b o (fun z=>hc (by simp [z])) e) (fun b o _ _ hc e _=>⟨o.slots,k b o (fun z=>hc (by simp [z])) e⟩) (fun _ _ _ _ n=>n)
  (fun b o hc e=>⟨o,k b o (fun z=>hc (by simp [z])) e⟩) (fun _ _ e=>e) (fun _ _ _ e=>e) (fun b ps e=>⟨#[],by rw[e];simp⟩) (fun m hm=>?_) (fun b u e=>?_) I.bare
 ·have e:b=it:=by simpa using hb
  subst e;exact⟨h1,hL,h2,h3⟩
 ·obtain⟨o,es,ep,ho,r⟩:=hm;exact⟨o,es,ep,k _ o (Ne.symm hL) ho,r⟩
 ·refine(I.hok b u e).nY (fun c v hc q=>k c v ?_ q) (fun _ q=>q) fun _ _ q=>q;rcases hc with z | z
  ·rw[z];exact nit b u e
  ·exact nit c _ z
theorem Inv.tok (I:Inv X pins σ H s) (t:Nat):Inv X pins σ H { s with toks:=t }:=I.un (h':=s.heap) (t':=t) Un.refl I.hok
theorem Inv.kept {t':Nat} (I:Inv X pins σ H s) (k:∀ b u,s.heap.get? b=some u->h'.get? b=some u):Inv X pins σ H { s with heap:=h',toks:=t' }:=I.un (Un.kept k) (I.hok.kept k)
theorem Inv.laid {a:Addr} {o:HO} {t':Nat} (I:Inv X pins σ H s) (k:∀ b u,s.heap.get? b=some u->h'.get? b=some u) (hp:s.heap.objs.size<=a) (new:cI X.prog X.w (upd H a o) h' a o) :
  Inv X pins σ (upd H a o) { s with heap:=h',toks:=t' }:=I.un (Un.laid k hp (I.hok.fresh hp)) (I.hok.laid k hp new)
theorem Inv.write {x e:Addr} {o:HO} {t':Nat} (I:Inv X pins σ H s) (mu:Mut (H x)) (he:e=x\/H e=some (.own x)) (k:∀ b u,b≠e->s.heap.get? b=some u->h'.get? b=some u) (heo:∃ u,h'.get? e=some u)
  (new:cI X.prog X.w (upd H x o) h' x o):Inv X pins σ (upd H x o) { s with heap:=h',toks:=t' }:=I.un (Un.write mu he k heo) (I.hok.write mu he k heo new)
theorem Inv.hU {pins':Pn} (I:Inv X pins σ H s) (h:∀ p∈pins',s.heap.get? p.1=some p.2/\H p.1=none/\p.1≠X.env.locals/\p.1∉X.fs/\∀ v,p.2.data≠.cell v):Inv X pins' σ H s:=
 ⟨I.ok,I.os,I.bare,I.base,I.loc,I.cell,I.free,I.freeC,fun p hp=>(List.mem_append.mp hp).elim (fun z=>I.pin p (List.mem_append_left _ z)) (h p),I.hok,I.len⟩
theorem uS {N:Ls} (hN:N.Nodup) {i j:Nat} {x:Str} (a:N[i]?=some x) (b:N[j]?=some x):i=j:=by
 obtain⟨h1,e1⟩:=gS0 a;obtain⟨h2,e2⟩:=gS0 b;exact(List.getElem_inj hN).mp (e1.trans e2.symm)
theorem rn {M:Model} {A:Around} {E:VS} {i:Nat} {x:Str} {v:V} {u:Value} {Q:Unit->Shared->Prop} (I:Inv X pins σ H s) (hN:X.N.Nodup) (hi:X.N[i]?=some x) (hx:Loc X.env.scope x) (r:RelV v u)
  (h:∀ s',Inv X pins (σ.set i (some v)) H s'->(∃ a,Heap.SameBut a s.heap s'.heap/\(a=X.env.locals\/X.env.cells.lookup x=some a))->Q () s') (hf:X.fn x=true\/X.env.scope.names.lookup x=some .local:=by first | exact .inl rfl | exact .inr rfl | assumption):wpAny M A (storeName X.env x u) Q E s:=by
 obtain⟨m,hn,hl⟩:=id I.loc;have hcls:(X.env.scope.kind == .class || (X.env.scope.kind == .module && X.env.locals != X.env.globals))=false:=by rw[I.ok.kind];rfl
 have hiσ:i < σ.length:=by rw[I.len];exact(gS0 hi).1
 have cne:=I.cne;have tracked:∀ {a:Addr} {h':Heap},(∃ o,s.heap.get? a=some o/\H a=none)->Heap.SameBut a s.heap h'->HOk X.prog X.w H h':=fun {a h'} ha hs b ob e=>by
  obtain⟨_,_,hfree⟩:=ha;refine(I.hok b ob e).nY (fun c w' hc q=>(hs.2 c ?_).trans q) (fun _ q=>q) fun _ _ q=>q;rintro rfl;rcases hc with rfl | hc
  ·rw[hfree] at e;cases e
  ·rw[hfree] at hc;cases hc
 rcases hx with hk | hk
 ·refine wpAny_storeName_local hk hn (fun h' hn' hs=>?_) hcls;obtain⟨oL,_,_,hoL,_⟩:=id hn;refine h _ ⟨I.ok,I.os,I.bare,⟨fun b o e n hb hx=>?_,fun b o e n hb hx=>?_,I.base.free,fun b o e hx=>?_,I.base.tups,I.base.frzs,I.base.tbls⟩,⟨_,hn',fun j y v' e1 e2 e3=>?_⟩,fun y c e=>?_,I.free,I.freeC,fun p hp=>?_,tracked ⟨oL,hoL,I.free⟩ hs,by simpa using I.len⟩ ⟨_,hs,.inl rfl⟩
  ·exact(hs.2 b (Nat.ne_of_lt (Nat.lt_of_lt_of_le (Heap.lt_size e) I.ok.above))).trans (I.base.keep b o e n hb hx)
  ·obtain⟨sl,e1⟩:=I.base.slot b o e n hb hx;exact⟨sl,(hs.2 b (Nat.ne_of_lt (Nat.lt_of_lt_of_le (Heap.lt_size e) I.ok.above))).trans e1⟩
  ·obtain⟨o',e1⟩:=I.base.there b o e hx;exact⟨o',(hs.2 b (Nat.ne_of_lt (Nat.lt_of_lt_of_le (Heap.lt_size e) I.ok.above))).trans e1⟩
  ·by_cases hj:j=i
   ·subst hj;rw[hi] at e1;cases e1;rw[List.getElem?_set_self hiσ] at e2;cases e2;exact⟨u,r,.inl ⟨hk,by simp⟩⟩
   ·rw[List.getElem?_set_ne (Ne.symm hj)] at e2;obtain⟨u',r',q⟩:=hl j y v' e1 e2 e3;refine⟨u',r',?_⟩;rcases q with ⟨k,e⟩ | ⟨k,c,e,z⟩
    ·refine .inl ⟨k,?_⟩;have:y≠x:=fun e=>hj (uS hN e1 (e ▸ hi));simp [this,e]
    ·exact .inr ⟨k,c,e,z.sameBut hs (cne y c e)⟩
  ·obtain⟨w',z⟩:=I.cell y c e;exact⟨w',z.sameBut hs (cne y c e)⟩
  ·obtain⟨e,n,ne,nf,d⟩:=I.pin p hp;exact⟨(hs.2 p.1 ne).trans e,n,ne,nf,d⟩
 ·have hfn:X.fn x=true:=by
   rcases hf with z | z
   ·exact z
   ·rw[z] at hk;cases hk
  obtain⟨c,hc⟩:=I.ok.has x (.inl hk);obtain⟨w',z⟩:=I.cell x c hc;refine wpAny_storeName_cell I.ok.kind hk hc z (fun h' hc' hs=>?_);obtain⟨oc,hoc,hocd⟩:=id z;refine h { s with heap:=h' } ⟨I.ok,I.os,I.bare,⟨fun b o e n hb hx=>?_,fun b o e n hb hx=>?_,I.base.free,fun b o e hx=>?_,I.base.tups,I.base.frzs,I.base.tbls⟩,⟨m,hn.sameBut hs (Ne.symm (cne x c hc)),fun j y v' e1 e2 e3=>?_⟩,fun y c' e=>?_,I.free,I.freeC,fun p hp=>?_,tracked ⟨oc,hoc,I.freeC x c hc⟩ hs,by simpa using I.len⟩ ⟨c,hs,.inr hc⟩
  ·exact(hs.2 b (Nat.ne_of_lt (Nat.lt_of_lt_of_le (Heap.lt_size e) (I.ok.cab x c hfn hc)))).trans (I.base.keep b o e n hb hx)
  ·obtain⟨sl,e1⟩:=I.base.slot b o e n hb hx;exact⟨sl,(hs.2 b (Nat.ne_of_lt (Nat.lt_of_lt_of_le (Heap.lt_size e) (I.ok.cab x c hfn hc)))).trans e1⟩
  ·obtain⟨o',e1⟩:=I.base.there b o e hx;exact⟨o',(hs.2 b (Nat.ne_of_lt (Nat.lt_of_lt_of_le (Heap.lt_size e) (I.ok.cab x c hfn hc)))).trans e1⟩
  ·by_cases hj:j=i
   ·subst hj;rw[hi] at e1;cases e1;rw[List.getElem?_set_self hiσ] at e2;cases e2;exact⟨u,r,.inr ⟨.inl hk,c,hc,hc'⟩⟩
   ·rw[List.getElem?_set_ne (Ne.symm hj)] at e2;obtain⟨u',r',q⟩:=hl j y v' e1 e2 e3;refine⟨u',r',?_⟩;rcases q with q | ⟨k,c',e,z'⟩
    ·exact .inl q
    ·refine .inr ⟨k,c',e,z'.sameBut hs ?_⟩;rintro rfl;exact hj (uS hN e1 (I.ok.inj _ _ _ e hc ▸ hi))
  ·by_cases hcc:c'=c
   ·subst hcc;exact⟨_,hc'⟩
   ·obtain⟨w2,z2⟩:=I.cell y c' e;exact⟨w2,z2.sameBut hs hcc⟩
  ·obtain⟨e,n,ne,nf,d⟩:=I.pin p hp;refine⟨(hs.2 p.1 ?_).trans e,n,ne,nf,d⟩;intro q;rw[q,hoc] at e;have q':oc=p.2:=Option.some.inj e;exact d w' (by rw[<- q'];exact hocd)
theorem k_ {M:Model} {A:Around} {E:VS} {i:Nat} {x:Str} {v:V} {u:Value} {Q:Unit->Shared->Prop} (I:Inv X pins σ H s) (hN:X.N.Nodup) (hi:X.N[i]?=some x) (hx:Loc X.env.scope x) (r:RelV v u)
  (h:∀ s',Inv X pins (σ.set i (some v)) H s'->Q () s') (hf:X.fn x=true\/X.env.scope.names.lookup x=some .local:=by first | exact .inl rfl | exact .inr rfl | assumption):wpAny M A (storeName X.env x u) Q E s:=
 rn I hN hi hx r (fun s' I' _=>h s' I') hf
theorem Inv.Ei {s':Shared} {ch:La} (I:Inv X pins σ H s) (ho:s'.os=s.os) (u:Un (frs X.stack) ch H H' s.heap s'.heap) (hok:HOk X.prog X.w H' s'.heap) (hg:AllBare s'.gens)
  (hch:∀ b∈ch,(b∈X.ex\/X.s₀.heap.objs.size<=b)/\b≠X.env.locals/\(∀ x c,X.env.cells.lookup x=some c->c≠b)/\∀ p∈X.pn++pins,p.1≠b):Inv X pins σ H' s':=by
 obtain⟨h',g',d',t',o'⟩:=s';have e:o'=s.os:=ho;subst e;exact I.call (g':=g') (t':=t') (d':=d') u hok hg hch
end
abbrev XK:=Value->Option Addr->Hp->Prop
abbrev St:=List (Option V)
abbrev VK:=V->Hp->Prop
abbrev TE:=St->Hp->VK->Prop
abbrev TT:=St->Hp->(Bool->Hp->Prop)->Prop
abbrev TA:=St->Hp->(List V->Hp->Prop)->Prop
structure Ends where
 nx:St->Hp->Prop
 rt:VK
 bk:St->Hp->Prop:=fun _ _=>False
 ct:St->Hp->Prop:=fun _ _=>False
abbrev TS:=Ends->St->Hp->Prop
def EP (X:Cx) (pins:Pn) (σ:St) (Q:VK) (u:Value) (s':Shared):Prop:=∃ v H',Inv X pins σ H' s'/\RelV v u/\Q v H'
def TP (X:Cx) (pins:Pn) (σ:St) (Q:Bool->Hp->Prop) (b:Bool) (s':Shared):Prop:=∃ H',Inv X pins σ H' s'/\Q b H'
def AP (X:Cx) (pins:Pn) (σ:St) (Q:List V->Hp->Prop) (us:Lv) (s':Shared):Prop:=∃ vs H',Inv X pins σ H' s'/\Vals vs us/\Q vs H'
def SP (X:Cx) (pins:Pn) (D:Ends) (f:Flow) (s':Shared):Prop:=
 match f with
 | .next=>∃ σ' H',Inv X pins σ' H' s'/\D.nx σ' H'
 | .brk=>∃ σ' H',Inv X pins σ' H' s'/\D.bk σ' H'
 | .cont=>∃ σ' H',Inv X pins σ' H' s'/\D.ct σ' H'
 | .ret u=>∃ v σ' H',Inv X pins σ' H' s'/\RelV v u/\D.rt v H'
def PE (X:Cx) (e:Expr) (t:TE):Prop:=
 ∀ (pins:Pn) (s:Shared) (σ:St) (H:Hp) (Q:VK),Inv X pins σ H s->t σ H Q->wpAny (model X.prog X.w) X.A (eval e X.env) (EP X pins σ Q) X.xe s
def PT (X:Cx) (e:Expr) (t:TT):Prop:=
 ∀ (pins:Pn) (s:Shared) (σ:St) (H:Hp) (Q:Bool->Hp->Prop),Inv X pins σ H s->t σ H Q->wpAny (model X.prog X.w) X.A (isTrue e X.env (eval e X.env)) (TP X pins σ Q) X.xe s
def PW (X:Cx) (e:Expr) (t:TT):Prop:=
 ∀ (whole:Sem Value) (pins:Pn) (s:Shared) (σ:St) (H:Hp) (Q:Bool->Hp->Prop),Inv X pins σ H s->t σ H Q->wpAny (model X.prog X.w) X.A (isTrue e X.env whole) (TP X pins σ Q) X.xe s
theorem PW.pt {X:Cx} {e:Expr} {t:TT} (h:PW X e t):PT X e t:=h _
def PA (X:Cx) (es:List Expr) (t:TA):Prop:=
 ∀ (pos:Pos) (pins:Pn) (s:Shared) (σ:St) (H:Hp) (Q:List V->Hp->Prop),Inv X pins σ H s->t σ H Q->wpAny (model X.prog X.w) X.A (spliced (backTo pos (starEach es X.env))) (AP X pins σ Q) X.xe s
def PS (X:Cx) (st:Stmt) (t:TS):Prop:=
 ∀ (pins:Pn) (s:Shared) (σ:St) (H:Hp) (D:Ends),Inv X pins σ H s->t D σ H->wpAny (model X.prog X.w) X.A (exec st X.env) (SP X pins D) X.xe s
def PSs (X:Cx) (st:List Stmt) (t:TS):Prop:=
 ∀ (pins:Pn) (s:Shared) (σ:St) (H:Hp) (D:Ends),Inv X pins σ H s->t D σ H->wpAny (model X.prog X.w) X.A (execs st X.env) (SP X pins D) X.xe s
theorem thn {α:Type} {t:Sem α} {Q Q':α->Shared->Prop} {M:Model} {A:Around} {E:VS} {s:Shared} (h:wpAny M A t Q E s) (hQ:∀ a s,Q a s->Q' a s):wpAny M A t Q' E s:=wpAny_mono h hQ fun _ _ x=>x
section
variable {X:Cx}
theorem bin {a b:Expr} {ta tb:TE} (ha:PE X a ta) (hb:PE X b tb) {pins:Pn} {s:Shared} {σ:St} {H:Hp} {R:V->V->Hp->Prop} (I:Inv X pins σ H s) (h:ta σ H fun x H1=>tb σ H1 fun y H2=>R x y H2)
  {α:Type} {Q:α->Shared->Prop} {f:Value->Value->Sem α}
  (hf:∀ v u s2 x y H2,Inv X pins σ H2 s2->RelV x v->RelV y u->R x y H2->wpAny (model X.prog X.w) X.A (f v u) Q X.xe s2) :
  wpAny (model X.prog X.w) X.A (eval a X.env) (fun v s₁=>wpAny (model X.prog X.w) X.A (eval b X.env) (fun u s₂=>wpAny (model X.prog X.w) X.A (f v u) Q X.xe s₂) X.xe s₁) X.xe s:=by
 refine thn (ha pins s σ H _ I h) fun v s1 ⟨x,H1,I1,r1,q1⟩=>?_;refine thn (hb pins s1 σ H1 _ I1 q1) fun u s2 ⟨y,H2,I2,r2,q2⟩=>?_;exact hf v u s2 x y H2 I2 r1 r2 q2
def bX (i:Nat):TE:=fun σ H Q=>∃ v,σ[i]?=some (some v)/\Q v H
def tC (v:V):TE:=fun _ H Q=>Q v H
theorem pA {i:Nat} {x:Str} {pos:Pos} (hN:X.N[i]?=some x) (hv:Vis X.env.scope x) (hd:(x == ("__debug__":Str))=false:=by decide) (hcd:(x == ("__classdict__":Str))=false:=by decide):PE X (.Name x pos) (bX i):=by
 intro pins s σ H Q I h;obtain⟨v,e,h⟩:=h;obtain⟨m,hn,hl⟩:=I.loc;obtain⟨u,r,l⟩:=hl i x v hN e hv;have fin:EP X pins σ Q u s:=⟨v,H,I,r,h⟩;rcases l with ⟨hk,hm⟩ | ⟨hk,c,hc,hcell⟩
 ·exact wpAny_Name (wpAny_loadName_local I.ok.kind hk hn hm fin) hd
 ·rcases hk with hk | hk
  ·exact wpAny_Name (wpAny_loadName_cell I.ok.kind hk hc hcell fin) hd
  ·exact wpAny_Name (wpAny_loadName_free I.ok.kind hk hc hcell fin hcd) hd
theorem vO {i j pos}:PE X (.Constant (.int i) j pos) (tC (.int i)):=fun _ _ _ H _ I h=>wpAny_Constant_int ⟨.int i,H,I.tok _,⟨_,rfl⟩,h⟩
theorem HX {b j pos}:PE X (.Constant (.bool b) j pos) (tC (.bl b)):=fun _ _ _ H _ I h=>Constant_bool ⟨.bl b,H,I,rfl,h⟩
theorem Fi {x j pos}:PE X (.Constant (.str x) j pos) (tC (.str x)):=fun _ _ _ H _ I h=>Calls.Constant_str ⟨.str x,H,I.tok _,⟨_,rfl⟩,h⟩
def Gl (X:Cx) (x:Str):Prop:=X.env.kindOf x=some .globalImplicit
theorem jP {E:VS} {pins:Pn} {s:Shared} {σ:St} {H:Hp} {x:Str} {u:Value} {pos:Pos} {Q:VS} (I:Inv X pins σ H s) (hg:Gl X x) (hm:X.mg x=some u) (h:Q u s)
  (hd:(x == ("__debug__":Str))=false:=by decide):wpAny (model X.prog X.w) X.A (eval (.Name x pos) X.env) Q E s:=
 Calls.Name_function_global I.ok.kind hg (Calls.loadGlobal_global (by rw[I.ok.glob];exact I.mod.glob.keeps I.bk) hm h) hd
theorem dD {E:VS} {pins:Pn} {s:Shared} {σ:St} {H:Hp} {x:Str} {u:Value} {pos:Pos} {Q:VS} (I:Inv X pins σ H s) (hg:Gl X x) (hm:X.mg x=none) (hv:bootBuiltins x=some u) (h:Q u s)
  (hn:x≠"__name__":=by decide) (hd:(x == ("__debug__":Str))=false:=by decide):wpAny (model X.prog X.w) X.A (eval (.Name x pos) X.env) Q E s:=by
 obtain⟨mb,h1,h2⟩:=I.mod.blt;exact Calls.Name_function_global I.ok.kind hg (Calls.loadGlobal_builtin (by rw[I.ok.glob];exact I.mod.glob.keeps I.bk) hm (by rw[I.ok.blt];exact h1.keeps I.bk) ((h2 x hn).trans hv) h) hd
theorem s_ {x:Str} {v:V} {u:Value} {pos:Pos} (hg:Gl X x) (hm:X.mg x=some u) (r:RelV v u) (hd:(x == ("__debug__":Str))=false:=by decide):PE X (.Name x pos) (tC v):=
 fun _ _ _ H _ I h=>jP I hg hm ⟨v,H,I,r,h⟩ hd
theorem Cn {x:Str} {v:V} {u:Value} {pos:Pos} (hg:Gl X x) (hm:X.mg x=none) (hv:bootBuiltins x=some u) (r:RelV v u) (hn:x≠"__name__":=by decide) (hd:(x == ("__debug__":Str))=false:=by decide):PE X (.Name x pos) (tC v):=
 fun _ _ _ H _ I h=>dD I hg hm hv ⟨v,H,I,r,h⟩ hn hd
variable {a b:Expr} {ta tb:TE} {pos:Pos}
def PC (X:Cx) (op:CmpOp) (a b:Expr) (t:TE):Prop:=
 ∀ (pins:Pn) (s:Shared) (σ:St) (H:Hp) (Q:VK),Inv X pins σ H s->t σ H Q->
  wpAny (model X.prog X.w) X.A (eval a X.env) (fun v s₁=>wpAny (model X.prog X.w) X.A (eval b X.env) (fun u s₂=>wpAny (model X.prog X.w) X.A (compareOp op v u) (EP X pins σ Q) X.xe s₂) X.xe s₁) X.xe s
def tB (t:TE):TT:=fun σ H Q=>t σ H fun x H1=>∃ c,x=.bl c/\Q c H1
theorem J3 {op:CmpOp} {t:TE} (h:PC X op a b t) (h1:behindInMarks op b=false:=by first | exact nobehind _ (by decide) (by decide) | rfl):PT X (.Compare a [op] [b] pos) (tB t):=by
 intro pins s σ H Q I hw;refine wpAny_isTrue_Compare1 (thn (h pins s σ H _ I hw) fun v s1 h1=>thn h1 fun u s2 h2=>thn h2 fun c s3 ⟨x,H1,I1,r1,q1⟩=>?_) h1;obtain⟨d,rfl,q⟩:=q1;cases r1;exact wpAny_truthy_bool ⟨H1,I1,q⟩
theorem E7 {e:Expr} {t:TE} (h:PE X e t) (he:∀ whole,isTrue e X.env whole=(do let v <- whole;standAt e.pos;holding [v] (truthy v)):=by intro _;rfl):PT X e (tB t):=by
 intro pins s σ H Q I hw;refine isTrue_plain (thn (h pins s σ H _ I hw) fun v s1 ⟨x,H1,I1,r1,q1⟩=>?_) (he _);obtain⟨d,rfl,q⟩:=q1;cases r1;exact wpAny_truthy_bool ⟨H1,I1,q⟩
variable {tA tB':TT} {rest:List Expr}
def EI (t u:TT):TT:=fun σ H Q=>t σ H fun c H1=>if c=true then u σ H1 Q else Q false H1
def tOr (t u:TT):TT:=fun σ H Q=>t σ H fun c H1=>if c=true then Q true H1 else u σ H1 Q
def ED (t:TT):TT:=fun σ H Q=>t σ H fun c H1=>Q (!c) H1
theorem B5 (ha:PT X a tA):PW X (.BoolOp .And [a] pos) tA:=by
 intro wh pins s σ H Q I h;refine isTrue_and (thn (ha pins s σ H Q I h) fun c s1 e=>?_);cases c with
 | true=>exact isTrue_and_nil e
 | false=>exact e
theorem E5 (ha:PT X a tA):PW X (.BoolOp .Or [a] pos) tA:=by
 intro wh pins s σ H Q I h;refine isTrue_or (thn (ha pins s σ H Q I h) fun c s1 e=>?_);cases c with
 | false=>exact isTrue_or_nil e
 | true=>exact e
theorem E6 (ha:PT X a tA) (hb:PW X (.BoolOp .And (b::rest) pos) tB'):PW X (.BoolOp .And (a::b::rest) pos) (EI tA tB'):=by
 intro wh pins s σ H Q I h;refine isTrue_and (thn (ha pins s σ H _ I h) fun c s1 ⟨H1,I1,q1⟩=>?_);cases c with
 | true=>exact hb wh pins s1 σ H1 Q I1 q1
 | false=>exact⟨H1,I1,q1⟩
theorem HK (ha:PT X a tA) (hb:PW X (.BoolOp .Or (b::rest) pos) tB'):PW X (.BoolOp .Or (a::b::rest) pos) (tOr tA tB'):=by
 intro wh pins s σ H Q I h;refine isTrue_or (thn (ha pins s σ H _ I h) fun c s1 ⟨H1,I1,q1⟩=>?_);cases c with
 | true=>exact⟨H1,I1,q1⟩
 | false=>exact hb wh pins s1 σ H1 Q I1 q1
theorem E8 (ha:PT X a tA):PT X (.UnaryOp .Not a pos) (ED tA):=by
 intro pins s σ H Q I h;exact isTrue_not (ha pins s σ H (fun c H1=>Q (!c) H1) I h)
def Dx (ta tb:TE):TE:=fun σ H Q=>ta σ H fun x H1=>∃ c,x=.bl c/\if c=true then tb σ H1 Q else Q (.bl false) H1
def Hk (ta tb:TE):TE:=fun σ H Q=>ta σ H fun x H1=>∃ c,x=.bl c/\if c=true then Q (.bl true) H1 else tb σ H1 Q
theorem Fj {op} {t:TE} (h:PE X a t):PE X (.BoolOp op [a] pos) t:=fun pins s σ H Q I hw=>BoolOp_one (h pins s σ H Q I hw)
theorem Fs (ha:PE X a ta) (hb:PE X (.BoolOp .And (b::rest) pos) tb):PE X (.BoolOp .And (a::b::rest) pos) (Dx ta tb):=by
 intro pins s σ H Q I h;refine BoolOp_and (thn (ha pins s σ H _ I h) fun v s1 ⟨x,H1,I1,r1,q1⟩=>?_);obtain⟨c,rfl,q1⟩:=q1;cases r1;refine wpAny_truthy_bool ?_;cases c with
 | true=>exact hb pins s1 σ H1 Q I1 q1
 | false=>exact⟨.bl false,H1,I1,rfl,q1⟩
theorem HV (ha:PE X a ta) (hb:PE X (.BoolOp .Or (b::rest) pos) tb):PE X (.BoolOp .Or (a::b::rest) pos) (Hk ta tb):=by
 intro pins s σ H Q I h;refine BoolOp_or (thn (ha pins s σ H _ I h) fun v s1 ⟨x,H1,I1,r1,q1⟩=>?_);obtain⟨c,rfl,q1⟩:=q1;cases r1;refine wpAny_truthy_bool ?_;cases c with
 | false=>exact hb pins s1 σ H1 Q I1 q1
 | true=>exact⟨.bl true,H1,I1,rfl,q1⟩
def tIf (t:TT) (ta tb:TE):TE:=fun σ H Q=>t σ H fun c H1=>if c=true then ta σ H1 Q else tb σ H1 Q
theorem z7 {c:Expr} (hc:PT X c tA) (ha:PE X a ta) (hb:PE X b tb):PE X (.IfExp c a b pos) (tIf tA ta tb):=by
 intro pins s σ H Q I h;refine wpAny_IfExp (thn (hc pins s σ H _ I h) fun d s1 ⟨H1,I1,q1⟩=>?_);cases d with
 | true=>exact ha pins s1 σ H1 Q I1 q1
 | false=>exact hb pins s1 σ H1 Q I1 q1
end
def SqL (K:Fg0) (H:Hp) (a:Addr) (xs:List V):Prop:=
 Rd H a (.lst xs)\/
  ∃ (o:Obj) (its:Array Value) (n:Nat),K.lookup a=some o/\o.cls=.type "list"/\o.dict=none/\o.data=.seq its n/\its.size<=sizeLine/\Vals xs its.toList
def SqT (K:Fg0) (H:Hp) (a:Addr) (xs:List V):Prop:=
 Rd H a (.tup xs)\/
  ∃ (o:Obj) (its:Array Value) (n:Nat),K.lookup a=some o/\o.cls=.type "tuple"/\o.data=.seq its n/\its.size<=sizeLine/\Vals xs its.toList
def KL:Value->Option V
 | .none=>some .non
 | .bool b=>some (.bl b)
 | .int i _=>some (.int i)
 | .str x _=>some (.str x)
 | .bytes b _=>some (.byt b)
 | .float b _=>some (.flt b)
 | .ref a=>some (.ref a)
 | .type n=>some (.ty n)
 | _=>none
theorem RelV.abs {x:V} {u:Value} (r:RelV x u):KL u=some x:=by
 cases x with
 | non=>cases r;rfl
 | bl _=>cases r;rfl
 | int _=>obtain⟨t,rfl⟩:=r;rfl
 | str _=>obtain⟨t,rfl⟩:=r;rfl
 | byt _=>obtain⟨t,rfl⟩:=r;rfl
 | flt _=>obtain⟨t,rfl⟩:=r;rfl
 | ref _=>cases r;rfl
 | ty _=>cases r;rfl
theorem RelV.inj {x y:V} {u:Value} (r:RelV x u) (q:RelV y u):x=y:=Option.some.inj (r.abs.symm.trans q.abs)
theorem Vals.inj:∀ {xs ys:List V} {us:Lv},Vals xs us->Vals ys us->xs=ys
 | _,_,_,.nil,.nil=>rfl
 | _,_,_,.cons r t,.cons r' t'=>by rw[r.inj r',Vals.inj t t']
section
variable {X:Cx} {pins:Pn} {σ:St} {H:Hp} {s:Shared} {a:Addr} {xs ys:List V}
theorem SqL.of {K:Fg0} (h:H a=some (.lst xs)):SqL K H a xs:=.inl (.inl h)
theorem Inv.list (I:Inv X pins σ H s) (h:SqL X.K H a xs):∃ its:Lv,Vals xs its/\PlainL s.heap a its.toArray/\xs.length<=sizeLine:=by
 rcases h with h | ⟨o,its,n,hk,hc,hd,hs,hz,r⟩
 ·obtain⟨z,its,n,r,e⟩:=h.ok I.hok;exact⟨its,r,⟨_,n,e,rfl,rfl,rfl⟩,z⟩
 ·refine⟨its.toList,r,⟨o,n,I.kIn a o hk,hc,hd,by simpa using hs⟩,?_⟩;have e:=r.length;simp only[Array.length_toList] at e;omega
theorem Inv.tuple (I:Inv X pins σ H s) (h:SqT X.K H a xs):∃ its:Lv,Vals xs its/\IsTup s.heap a its.toArray/\xs.length<=sizeLine:=by
 rcases h with h | ⟨o,its,n,hk,hc,hs,hz,r⟩
 ·obtain⟨z,its,r,p⟩:=h.ok I.hok;exact⟨its,r,p,z⟩
 ·refine⟨its.toList,r,⟨o,I.kIn a o hk,hc,n,by simpa using hs⟩,?_⟩;have e:=r.length;simp only[Array.length_toList] at e;omega
theorem Inv.Ax (I:Inv X pins σ H s) (h:SqL X.K H a xs) (h':SqL X.K H a ys):xs=ys:=by
 obtain⟨its,r,⟨o,n,e,_,_,d⟩,_⟩:=I.list h;obtain⟨its',r',⟨o',n',e',_,_,d'⟩,_⟩:=I.list h';rw[e] at e';cases e';rw[d] at d';injection d' with d1 _
 have:its=its':=by simpa using congrArg Array.toList d1
 subst this;exact r.inj r'
end
abbrev Cx.qz (X:Cx) (E:VS):Cx:={ X with xe:=E }
abbrev Cx.nox (X:Cx):Cx:=X.qz fun _ _=>False
theorem Cx.Ok.qz {X:Cx} (ok:X.Ok) (E:VS):(X.qz E).Ok:=
 ⟨ok.mod,ok.kind,ok.glob,ok.blt,ok.above,ok.inj,ok.has,ok.cab,ok.hd,ok.frames,ok.stk,ok.exf,ok.bs,ok.bsz,ok.noex,ok.exfs,ok.kQ,ok.frf,ok.tb⟩
theorem Cx.Ok.iN {X:Cx} {E:VS} (ok:(X.qz E).Ok):X.Ok:=
 ⟨ok.mod,ok.kind,ok.glob,ok.blt,ok.above,ok.inj,ok.has,ok.cab,ok.hd,ok.frames,ok.stk,ok.exf,ok.bs,ok.bsz,ok.noex,ok.exfs,ok.kQ,ok.frf,ok.tb⟩
section
variable {X:Cx} {pins:Pn} {σ:St} {H:Hp} {s:Shared} {E:VS}
theorem Inv.qz (I:Inv X pins σ H s) (E:VS):Inv (X.qz E) pins σ H s:=⟨I.ok.qz E,I.os,I.bare,I.base,I.loc,I.cell,I.free,I.freeC,I.pin,I.hok,I.len⟩
theorem Inv.iN (I:Inv (X.qz E) pins σ H s):Inv X pins σ H s:=⟨I.ok.iN,I.os,I.bare,I.base,I.loc,I.cell,I.free,I.freeC,I.pin,I.hok,I.len⟩
theorem SP.iN {D:Ends} {f:Flow} {s':Shared} (h:SP (X.qz E) pins D f s'):SP X pins D f s':=by
 cases f with
 | next=>obtain⟨σ',H',I,q⟩:=h;exact⟨σ',H',I.iN,q⟩
 | brk=>obtain⟨σ',H',I,q⟩:=h;exact⟨σ',H',I.iN,q⟩
 | cont=>obtain⟨σ',H',I,q⟩:=h;exact⟨σ',H',I.iN,q⟩
 | ret u=>obtain⟨v,σ',H',I,r,q⟩:=h;exact⟨v,σ',H',I.iN,r,q⟩
theorem PSs.nox {st:List Stmt} {t:TS} (h:PSs X.nox st t):PSs X st t:=fun pins s σ H D I hw=>
 wpAny_mono (h pins s σ H D (I.qz _) hw) (fun _ _ q=>q.iN) fun _ _ z=>False.elim z
end
section
variable {X:Cx} {st:Stmt} {rest:List Stmt} {t u:TS} {e:Expr} {te:TE} {pos:Pos}
def zd:TS:=fun D σ H=>D.nx σ H
def zb (t u:TS):TS:=fun D σ H=>t { D with nx:=u D } σ H
theorem xc:PSs X [] zd:=fun _ _ σ H _ I h=>wpAny_execs_nil ⟨σ,H,I,h⟩
theorem lD (h1:PS X st t) (h2:PSs X rest u):PSs X (st::rest) (zb t u):=by
 intro pins s σ H D I h;refine wpAny_execs_cons (thn (h1 pins s σ H { D with nx:=u D } I h) fun f s1 q=>?_);cases f with
 | next=>
  obtain⟨σ',H',I',q⟩:=q;exact h2 pins s1 σ' H' D I' q
 | ret v=>exact q
 | brk=>exact q
 | cont=>exact q
theorem sU (h1:PS X st t):PSs X [st] t:=by
 intro pins s σ H D I h;refine wpAny_execs_cons (thn (h1 pins s σ H D I h) fun f s1 q=>?_);cases f with
 | next=>exact wpAny_execs_nil q
 | ret v=>exact q
 | brk=>exact q
 | cont=>exact q
theorem Inv.quiet {pins:Pn} {σ:St} {H:Hp} {s:Shared} (I:Inv X pins σ H s):interactive X.env=false:=by simp [interactive,I.ok.kind]
def Dw (te:TE):TS:=fun D σ H=>te σ H fun _ H1=>D.nx σ H1
theorem B_ (he:PE X e te) (hs:swapsWith e none pos.line X.env=pure false:=by rfl):PS X (.Expr e pos) (Dw te):=by
 intro pins s σ H D I h;exact wpAny_Expr_any (thn (he pins s σ H _ I h) fun v s1 ⟨x,H1,I1,r1,q1⟩=>⟨σ,H1,I1,q1⟩) I.quiet hs
def EC (te:TE):TS:=fun D σ H=>te σ H D.rt
theorem zK (he:PE X e te):PS X (.Return (some e) pos) (EC te):=by
 intro pins s σ H D I h;exact wpAny_Return_some (thn (he pins s σ H _ I h) fun v s1 ⟨x,H1,I1,r1,q1⟩=>⟨x,σ,H1,I1,r1,q1⟩)
def EF (c:TT) (t u:TS):TS:=fun D σ H=>c σ H fun b H1=>if b=true then t D σ H1 else u D σ H1
theorem DH {c:Expr} {a b:List Stmt} {tc:TT} (hc:PT X c tc) (ha:PSs X a t) (hb:PSs X b u):PS X (.If c a b pos) (EF tc t u):=by
 intro pins s σ H D I h;refine wpAny_If (thn (hc pins s σ H _ I h) fun d s1 ⟨H1,I1,q1⟩=>?_);cases d with
 | true=>exact ha pins s1 σ H1 D I1 q1
 | false=>exact hb pins s1 σ H1 D I1 q1
def ze:TS:=fun _ _ _=>False
theorem zL:PS X st ze:=fun _ _ _ _ _ _ h=>h.elim
end
abbrev TG:=V->St->Hp->(St->Hp->Prop)->Prop
abbrev TGs:=List V->St->Hp->(St->Hp->Prop)->Prop
def PG (X:Cx) (target:Expr) (t:TG):Prop:=
 ∀ (pins:Pn) (s:Shared) (σ:St) (H:Hp) (v:V) (u:Value) (Q:St->Hp->Prop),Inv X pins σ H s->RelV v u->t v σ H Q->
  wpAny (model X.prog X.w) X.A (assign target X.env u) (fun _ s'=>∃ σ' H',Inv X pins σ' H' s'/\Q σ' H') X.xe s
def PGs (X:Cx) (ts:List Expr) (t:TGs):Prop:=
 ∀ (pins:Pn) (s:Shared) (σ:St) (H:Hp) (vs:List V) (us:Lv) (Q:St->Hp->Prop),Inv X pins σ H s->Vals vs us->t vs σ H Q->
  wpAny (model X.prog X.w) X.A (assignInOrder ((assignEach ts X.env).map (·.2)) us) (fun _ s'=>∃ σ' H',Inv X pins σ' H' s'/\Q σ' H') X.xe s
abbrev G2:=V->V->V->Hp->(Hp->Prop)->Prop
def JP (X:Cx) (t:G2):Prop:=
 ∀ (pins:Pn) (s:Shared) (σ:St) (H:Hp) (o i v:V) (ov iv u:Value) (Q:Hp->Prop),Inv X pins σ H s->RelV o ov->RelV i iv->RelV v u->t o i v H Q->
  wpAny (model X.prog X.w) X.A (setItem ov iv u) (fun _ s'=>∃ H',Inv X pins σ H' s'/\Q H') X.xe s
section
variable {X:Cx} {pos:Pos}
def ka (i:Nat):TG:=fun v σ H Q=>Q (σ.set i (some v)) H
theorem aA {i:Nat} {x:Str} (hN:X.N.Nodup) (hi:X.N[i]?=some x) (hx:Loc X.env.scope x) (hf:X.fn x=true\/X.env.scope.names.lookup x=some .local:=by first | exact .inl rfl | exact .inr rfl | assumption):PG X (.Name x pos) (ka i):=by
 intro pins s σ H v u Q I r h;exact wpAny_assign_Name (k_ I hN hi hx r (fun s' I'=>⟨_,H,I',h⟩) hf)
def Jk:TGs:=fun vs σ H Q=>vs=[]/\Q σ H
def D7 (t:TG) (u:TGs):TGs:=fun vs σ H Q=>∃ v r,vs=v::r/\t v σ H fun σ' H'=>u r σ' H' Q
theorem br:PGs X [] Jk:=by
 intro pins s σ H vs us Q I r h;obtain⟨e,h⟩:=h;subst e;cases r;exact assignInOrder_nil ⟨σ,H,I,h⟩
theorem au {e:Expr} {es:List Expr} {t:TG} {u:TGs} (h1:PG X e t) (h2:PGs X es u)
  (hs:(assignEach (e::es) X.env).map (·.2)=assign e X.env::(assignEach es X.env).map (·.2):=by rfl):PGs X (e::es) (D7 t u):=by
 intro pins s σ H vs us Q I r h;obtain⟨v,vr,e1,h⟩:=h;subst e1;cases r with
 | cons r rr=>
  rw[hs];refine assignInOrder_cons (thn (h1 pins s σ H _ _ _ I r h) fun _ s1 ⟨σ1,H1,I1,q1⟩=>?_);exact h2 pins s1 σ1 H1 _ _ Q I1 rr q1
def wm (K:Fg0) (n:Nat) (t:TGs):TG:=fun v σ H Q=>∃ a xs,v=.ref a/\SqT K H a xs/\xs.length=n/\t xs σ H Q
theorem vM {es:List Expr} {k:Nat} {t:TGs} {n:Nat} (hc:X.calm=true) (h:PGs X es t)
  (hn:(assignEach es X.env).length=n:=by rfl) (hst:(assignEach es X.env).findIdx? (·.1)=none:=by rfl):PG X (.Tuple es k pos) (wm X.K n t):=by
 intro pins s σ H v u Q I r hw;obtain⟨a,xs,e1,hq,hl,hw⟩:=hw;subst e1;cases r;obtain⟨its,rv,ht,hz⟩:=I.tuple hq;refine assign_Tuple_tuple (I.ok.hd hc) ht (by simp [hn,<- hl,rv.length]) hst fun h' hx=>?_;have I1:Inv X pins σ H { s with heap:=h' }:=I.kept (t':=s.toks) fun b o e=>hx b o (Nat.ne_of_lt (Heap.lt_size e)) e;exact h pins _ σ H xs _ Q I1 (by simpa using rv) hw
def p7 (to ti:TE) (t:G2):TG:=fun v σ H Q=>to σ H fun o H1=>ti σ H1 fun i H2=>t o i v H2 fun H3=>Q σ H3
theorem zX {o i:Expr} {to ti:TE} {t:G2} (ho:PE X o to) (hi:PE X i ti) (hs:JP X t)
  (ha:∀ v,assign (.Subscript o i pos) X.env v=(do
   let ov <- holding [v] (eval o X.env)
   let iv <- holding [v,ov] (eval i X.env)
   standAt pos
   holding [v,ov,iv] (setItem ov iv v)
   release [v,ov,iv] []):=by intro _;rfl):PG X (.Subscript o i pos) (p7 to ti t):=by
 intro pins s σ H v u Q I r h;rw[ha];refine wpAny_bind (wpAny_holding (thn (ho pins s σ H _ I h) fun ov s1 ⟨x,H1,I1,r1,q1⟩=>?_));refine wpAny_bind (wpAny_holding (thn (hi pins s1 σ H1 _ I1 q1) fun iv s2 ⟨y,H2,I2,r2,q2⟩=>?_));refine wpAny_bind (wpAny_standAt (wpAny_bind (wpAny_holding (thn (hs pins s2 σ H2 x y v ov iv u _ I2 r1 r2 r q2) fun _ s3 ⟨H3,I3,q3⟩=>?_))));exact wpAny_release ⟨σ,H3,I3,q3⟩
def fm (te:TE) (g:TG):TS:=fun D σ H=>te σ H fun x H1=>g x σ H1 D.nx
theorem sV {tg e:Expr} {te:TE} {g:TG} (he:PE X e te) (hg:PG X tg g) (hs:swapsWithSole [tg] e pos.line X.env=pure false:=by rfl) (hw:swappedStores [tg] e X.env=pure none:=by rfl)
  (h1:(assignEach [tg] X.env).map (·.2)=[assign tg X.env]:=by rfl):PS X (.Assign [tg] e pos) (fm te g):=by
 intro pins s σ H D I h;refine wpAny_Assign_stores (thn (he pins s σ H _ I h) fun v s1 ⟨x,H1,I1,r1,q1⟩=>?_) hs hw;rw[h1];exact thn (hg pins s1 σ H1 x v _ I1 r1 q1) fun _ s2 q=>q
theorem E9 {i:Nat} {x:Str} {e:Expr} {te:TE} {pos':Pos} (hN:X.N.Nodup) (hi:X.N[i]?=some x) (hx:Loc X.env.scope x) (he:PE X e te) (hs:swapsWith e (some (.Name x pos')) pos.line X.env=pure false:=by rfl) (hf:X.fn x=true\/X.env.scope.names.lookup x=some .local:=by first | exact .inl rfl | exact .inr rfl | assumption) :
  PS X (.Assign [.Name x pos'] e pos) (fm te (ka i)):=by
 intro pins s σ H D I h;refine wpAny_Assign_Name (thn (he pins s σ H _ I h) fun v s1 ⟨y,H1,I1,r1,q1⟩=>?_) hs;exact k_ I1 hN hi hx r1 (fun s2 I2=>⟨_,H1,I2,q1⟩) hf
def Hj (i j:Nat) (ta:TA):TS:=fun D σ H=>ta σ H fun vs H1=>∃ v w,vs=[v,w]/\D.nx ((σ.set i (some v)).set j (some w)) H1
theorem E_ {i j:Nat} {x y:Str} {a b:Expr} {ta:TA} {px py pt:Pos} {kt k2 pt2} (hc:X.calm=true) (hN:X.N.Nodup) (hi:X.N[i]?=some x) (hj:X.N[j]?=some y) (hij:i≠j)
  (hx:X.env.scope.names.lookup x=some .local) (hy:X.env.scope.names.lookup y=some .local) (ha:PA X [a,b] ta)
  (hw:swappedStores [.Tuple [.Name x px,.Name y py] kt pt] (.Tuple [a,b] k2 pt2) X.env=pure (some [x,y]))
  (hs:swapsWithSole [.Tuple [.Name x px,.Name y py] kt pt] (.Tuple [a,b] k2 pt2) pos.line X.env=pure false:=by rfl) :
  PS X (.Assign [.Tuple [.Name x px,.Name y py] kt pt] (.Tuple [a,b] k2 pt2) pos) (Hj i j ta):=by
 intro pins s σ H D I h;rw[exec_Assign_arm];refine wpAny_bind (wpAny_standAt ?_);rw[hs];refine wpAny_bind (wpAny_pure ?_);rw[if_neg (by decide)];refine wpAny_bind (Tuple_ (thn (ha _ pins s σ H _ I h) fun us s1 ⟨vs,H1,I1,r1,q1⟩=>?_));obtain⟨v,w,e1,q1⟩:=q1;subst e1;obtain⟨u1,u2,rfl,rv,rw'⟩:∃ u1 u2,us=[u1,u2]/\RelV v u1/\RelV w u2:=by
  cases r1 with
  | cons p q=>
   cases q with
   | cons p' q'=>
    cases q';exact⟨_,_,rfl,p,p'⟩
 refine wpAny_newObj_type ?_ (by show 2<=sizeLine;decide);have I2:Inv X pins σ H1 { s1 with heap:=s1.heap.push { cls:=.type "tuple",data:=.seq [u1,u2].toArray } }:=I1.kept (t':=s1.toks) fun b o e=>Heap.get?_push_of_some _ e;rw[hw];refine wpAny_bind (wpAny_pure ?_);show wpAny (model X.prog X.w) X.A (do rule "assign.swapped-stores";let items <- unpackItems (.ref s1.heap.objs.size) 2 none;assignInOrder [fun v=>bindName X.env y v,fun v=>bindName X.env x v] items.reverse;pure Flow.next) _ _ _;refine wpAny_bind (wpAny_rule (wpAny_bind (unpackItems_tuple (items:=#[u1,u2]) (I.ok.hd hc) (IsTup.new s1.heap _) fun h' hx'=>?_)));have I3:=I2.kept (h':=h') (t':=s1.toks) fun b o e=>hx' b o (Nat.ne_of_lt (Heap.lt_size e)) e;show wpAny _ _ (assignInOrder [fun v=>bindName X.env y v,fun v=>bindName X.env x v] [u2,u1] >>= fun _=>pure Flow.next) _ _ _;refine wpAny_bind (assignInOrder_cons (wpAny_bindName (k_ I3 hN hj (.inl hy) rw' (fun s2 I4=>?_) (.inr hy))));refine assignInOrder_cons (wpAny_bindName (k_ I4 hN hi (.inl hx) rv (fun s3 I5=>assignInOrder_nil (wpAny_pure ?_)) (.inr hx)));rw[List.set_comm _ _ (Ne.symm hij)] at I5;exact⟨_,H1,I5,q1⟩
end
structure It where
 go:Nat->Hp->Prop
 yld:Nat->Hp->V->Hp->Prop
 stop:Nat->Hp->Prop
def c5 (X:Cx) (pins:Pn) (H:Hp) (b:Addr):Prop:=
 H b=none/\b≠X.env.locals/\b∉X.fs/\(b∈X.ex\/X.s₀.heap.objs.size<=b)/\(∀ x c,X.env.cells.lookup x=some c->c≠b)/\∀ p∈X.pn++pins,p.1≠b
theorem Inv.lR {X:Cx} {pins:Pn} {σ:St} {H H':Hp} {s:Shared} {b:Addr} (I:Inv X pins σ H s) (hb:s.heap.objs.size<=b) (hn:H' b=none):c5 X pins H' b:=by
 refine⟨hn,Nat.ne_of_gt (Nat.lt_of_lt_of_le I.lt hb),I.J8 hb,.inr (Nat.le_trans I.sz hb),fun x c e z=>?_,fun p hp z=>?_⟩
 ·obtain⟨v,q⟩:=I.cell x c e;exact absurd (Nat.lt_of_lt_of_le q.lt (by rw[z];exact hb)) (Nat.lt_irrefl _)
 ·exact absurd (Nat.lt_of_lt_of_le (Heap.lt_size (I.pin p hp).1) (by rw[z];exact hb)) (Nat.lt_irrefl _)
structure Turn (P:Program) (w:World) (K:Fg0) (tg:Expr) (J:It) (fp:La) (it:Addr) (tn:Nat->Heap->Prop):Prop where
 mem:it∈fp
 obj:∀ i h,tn i h->∀ b∈fp,∃ o,h.get? b=some o/\∀ v,o.data≠.cell v
 keep:∀ i h h',tn i h->(∀ b∈fp,∀ o,h.get? b=some o->h'.get? b=some o)->tn i h'
 item:∀ (X:Cx),X.prog=P->X.w=w->X.K=K->X.calm=true->∀ (i:Nat) (pins:Pn) (s:Shared) (σ:St) (H:Hp) (E:VS),Inv X pins σ H s->(∀ b∈fp,c5 X pins H b)->tn i s.heap->J.go i H->
  wpAny (model P w) X.A (pyNext (.ref it)) (fun r s1=>∃ u,r=some u/\
   wpAny (model P w) X.A (letOwnedTupleGo tg (.ref it) u) (fun _ s2=>∃ x H',Inv X pins σ H' s2/\RelV x u/\J.yld i H x H'/\tn (i + 1) s2.heap/\∀ b∈fp,H' b=none) E s1) E s
 done:∀ (X:Cx),X.prog=P->X.w=w->X.K=K->X.calm=true->∀ (i:Nat) (pins:Pn) (s:Shared) (σ:St) (H:Hp) (E:VS),Inv X pins σ H s->(∀ b∈fp,c5 X pins H b)->tn i s.heap->J.stop i H->
  wpAny (model P w) X.A (pyNext (.ref it)) (fun r s1=>r=none/\Inv X pins σ H s1) E s
 self:∀ (A:Around) (i:Nat) (s:Shared) (Q:VS) (E:VS),tn i s.heap->Q (.ref it) s->wpAny (model P w) A (pyIter (.ref it)) Q E s
abbrev TI:=St->Hp->(It->Hp->Prop)->Prop
def PIE (X:Cx) (pins:Pn) (σ:St) (tg:Expr) (R:It->Hp->Prop) (itv:Value) (s2:Shared):Prop:=
 ∃ (it:Addr) (fp:La) (tn:Nat->Heap->Prop) (J:It) (H':Hp),itv=.ref it/\Inv X pins σ H' s2/\Turn X.prog X.w X.K tg J fp it tn/\tn 0 s2.heap/\(∀ b∈fp,c5 X pins H' b)/\R J H'
def PI (X:Cx) (tg iter:Expr) (wi:TI):Prop:=
 ∀ (pins:Pn) (s:Shared) (σ:St) (H:Hp) (R:It->Hp->Prop),Inv X pins σ H s->wi σ H R->
  wpAny (model X.prog X.w) X.A (eval iter X.env) (fun v s1=>wpAny (model X.prog X.w) X.A (pyIter v) (PIE X pins σ tg R) X.xe s1) X.xe s
theorem xE {M:Model} {A:Around} {E:VS} {s:Shared} {tg:Expr} {it:Addr} {u:Value} {o:Obj} {n:String} {vs:Array Value} {Q:Unit->Shared->Prop} (ho:s.heap.get? it=some o) (hc:o.cls=.type n) (hd:o.data=.fields vs)
  (hn:["enumerate","zip","dict_itemiterator","dict_reverseitemiterator","odict_iterator","itertools.zip_longest","itertools.pairwise"].contains n=false) (hQ:Q () s):wpAny M A (letOwnedTupleGo tg (.ref it) u) Q E s:=by
 unfold letOwnedTupleGo;cases tg <;> first
  | exact wpAny_pure hQ
  | (cases u <;> first
    | exact wpAny_pure hQ
    | (refine wpAny_bind (wpAny_load ho ?_);rw[hc,hd];show wpAny M A (if (["enumerate","zip","dict_itemiterator","dict_reverseitemiterator","odict_iterator","itertools.zip_longest","itertools.pairwise"].contains n && vs[0]? == some (rawInt _))=true then _ else _) Q E s;rw[if_neg (by intro h;rw[hn,Bool.false_and] at h;cases h)];exact wpAny_pure hQ))
def Itl (K:Fg0) (a:Addr):It:=
 ⟨fun i H=>∃ xs x,SqL K H a xs/\xs[i]?=some x,fun i H x H'=>H'=H/\∀ xs,SqL K H a xs->xs[i]?=some x,fun i H=>∃ xs,SqL K H a xs/\xs.length<=i⟩
def Itr (lo:Int) (n:Nat):It:=⟨fun i _=>i < n,fun i H x H'=>H'=H/\x=.int (lo + i),fun i _=>n<=i⟩
theorem ya {P:Program} {w:World} {K:Fg0} {tg:Expr} (a it:Addr):Turn P w K tg (Itl K a) [it] it (fun i h=>h.IsListIter it a i) where
 mem:=by simp
 obj:=fun i h st b hb=>by
  have e:b=it:=by simpa using hb
  subst e;obtain⟨o,e,c,d⟩:=st;exact⟨o,e,fun v z=>by rw[d] at z;cases z⟩
 keep:=fun i h h' st k=>st.at fun o e=>k it (by simp) o e
 item:=by
  intro X hP hw hK hc i pins s σ H E I hf st hg;subst hP hw hK;obtain⟨xs,x,hq,hx⟩:=hg;obtain⟨its,rv,p,hz⟩:=I.list hq;obtain⟨u,hu,ru⟩:=rv.get hx;obtain⟨f0,f1,f2,f3,f4,f5⟩:=hf it (by simp);refine wpAny_pyNext_list_item st p.isList (x:=u) (by simpa using hu) fun h' st' sb=>?_;have I1:Inv X pins σ H { s with heap:=h' }:=I.turned (t':=s.toks) (fun b o hb e=>(sb.2 b hb).trans e) f0 f1 f3 f4 f5;obtain⟨o,e,c,d⟩:=id st';exact⟨u,rfl,xE (s:={ s with heap:=h' }) e c d (by decide) ⟨x,H,I1,ru,⟨rfl,fun ys hy=>by rw[I.Ax hy hq];exact hx⟩,st',fun b hb=>(hf b hb).1⟩⟩
 done:=by
  intro X hP hw hK hc i pins s σ H E I hf st hg;subst hP hw hK;obtain⟨xs,hq,hx⟩:=hg;obtain⟨its,rv,p,hz⟩:=I.list hq;obtain⟨f0,f1,f2,f3,f4,f5⟩:=hf it (by simp);have hl:=rv.length;exact wpAny_pyNext_list_end (I.ok.hd hc) st p.isList (by simp;omega) fun h' eb=>⟨rfl,I.turned (t':=s.toks) (fun b o hb e=>eb b o hb e) f0 f1 f3 f4 f5⟩
 self:=fun _ _ _ _ _ st h=>wpAny_pyIter_listiter st h
theorem vz {P:Program} {w:World} {K:Fg0} {tg:Expr} (it:Addr) (lo:Int) (n:Nat):Turn P w K tg (Itr lo n) [it] it (fun i h=>IsRangeIter h it (lo + (i:Nat) * 1) ((n:Int) - (i:Nat)) 1) where
 mem:=by simp
 obj:=fun i h st b hb=>by
  have e:b=it:=by simpa using hb
  subst e;exact⟨_,st,fun v z=>by
   have z':Data.fields _=Data.cell v:=z;cases z'⟩
 keep:=fun i h h' st k=>k it (by simp) _ st
 item:=by
  intro X hP hw hK hc i pins s σ H E I hf st hg;subst hP hw hK;obtain⟨f0,f1,f2,f3,f4,f5⟩:=hf it (by simp);have W:=Walks.range (prog:=X.prog) (w:=X.w) (I.ok.hd hc) it lo 1 n;refine W.item i s _ _ hg st fun v h' tk hv st' kk=>?_;obtain⟨t,rfl⟩:=hv;have I1:Inv X pins σ H { s with heap:=h',toks:=tk }:=I.turned (fun b o hb e=>kk b o (by simpa using hb) e) f0 f1 f3 f4 f5;refine⟨_,rfl,xE (s:={ s with heap:=h',toks:=tk }) (n:="range_iterator") st' rfl rfl (by decide) ⟨.int (lo + i),H,I1,⟨t,?_⟩,⟨rfl,rfl⟩,st',fun b hb=>(hf b hb).1⟩⟩;rw[Int.mul_one]
 done:=by
  intro X hP hw hK hc i pins s σ H E I hf st hg;subst hP hw hK;obtain⟨f0,f1,f2,f3,f4,f5⟩:=hf it (by simp);exact wpAny_pyNext_range_end (I.ok.hd hc) st (by have:n<=i:=hg;omega) fun h' eb=>⟨rfl,I.turned (t':=s.toks) (fun b o hb e=>eb b o hb e) f0 f1 f3 f4 f5⟩
 self:=fun _ _ _ _ _ st h=>wpAny_pyIter_rangeiter st h
section
variable {X:Cx} {tg:Expr}
def DT (K:Fg0) (tl:TE):TI:=fun σ H R=>tl σ H fun x H1=>∃ a,x=.ref a/\(∃ xs,SqL K H1 a xs)/\R (Itl K a) H1
theorem Ce {l:Expr} {tl:TE} (hl:PE X l tl):PI X tg l (DT X.K tl):=by
 intro pins s σ H R I h;refine thn (hl pins s σ H _ I h) fun v s1 ⟨x,H1,I1,r1,q1⟩=>?_;obtain⟨a,e,⟨xs,hq⟩,q⟩:=q1;subst e;cases r1;obtain⟨its,rv,p,hz⟩:=I1.list hq;refine wpAny_pyIter_list p.isList ?_;refine⟨s1.heap.objs.size,[s1.heap.objs.size],_,_,H1,rfl,I1.kept (t':=s1.toks) fun b o e=>Heap.get?_push_of_some _ e,ya a _,⟨_,Heap.get?_push_size _ rfl,rfl,rfl⟩,fun b hb=>?_,q⟩;have e:b=s1.heap.objs.size:=by simpa using hb
 subst e;exact I1.lR (Nat.le_refl _) (I1.hok.fresh (Nat.le_refl _))
theorem uz {pins:Pn} {σ:St} {H:Hp} {s:Shared} {R:It->Hp->Prop} {E:VS} {lo hi:Int} {t u v:Tok} {tk:Nat} (I:Inv X pins σ H s) (h1:-(2 ^ 62)<=lo) (h2:lo < 2 ^ 62) (h3:-(2 ^ 62)<=hi) (h4:hi < 2 ^ 62)
  (q:R (Itr lo (hi - lo).toNat) H):wpAny (model X.prog X.w) X.A (pyIter (.ref s.heap.objs.size)) (PIE X pins σ tg R) E { s with heap:=s.heap.push { cls:=.type "range",data:=.fields #[.int lo t,.int hi u,.int 1 v] },toks:=tk }:=by
 refine wpAny_pyIter_range (IsRange.new ..) (small_one h1 h2 h3 h4) ?_;have I1:Inv X pins σ H { s with heap:=s.heap.push { cls:=.type "range",data:=.fields #[.int lo t,.int hi u,.int 1 v] },toks:=tk }:=I.kept fun b o e=>Heap.get?_push_of_some _ e;refine⟨(s.heap.push { cls:=.type "range",data:=.fields #[.int lo t,.int hi u,.int 1 v] }).objs.size,[(s.heap.push { cls:=.type "range",data:=.fields #[.int lo t,.int hi u,.int 1 v] }).objs.size],_,_,H,rfl,
  I1.kept (t':=tk) fun b o e=>Heap.get?_push_of_some _ e,vz _ lo (hi - lo).toNat,?_,fun b hb=>?_,q⟩
 ·have e1:lo + ((0:Nat):Int) * 1=lo:=by simp
  have e2:(((hi - lo).toNat:Nat):Int) - ((0:Nat):Int)=Builtin.Range.rangeSize lo hi 1:=by rw[rangeSize_one];split <;> omega
  show IsRangeIter _ _ (lo + ((0:Nat):Int) * 1) ((((hi - lo).toNat:Nat):Int) - ((0:Nat):Int)) 1;rw[e1,e2];exact Heap.get?_push_size _ rfl
 ·have e:b=(s.heap.push { cls:=.type "range",data:=.fields #[.int lo t,.int hi u,.int 1 v] }).objs.size:=by simpa using hb
  subst e;exact I1.lR (Nat.le_refl _) (I1.hok.fresh (Nat.le_refl _))
def DS (ta:TA):TI:=fun σ H R=>ta σ H fun vs H1=>∃ j:Int,vs=[.int j]/\-(2 ^ 62)<=j/\j < 2 ^ 62/\R (Itr 0 j.toNat) H1
def DR (ta:TA):TI:=fun σ H R=>ta σ H fun vs H1=>∃ i j:Int,vs=[.int i,.int j]/\(-(2 ^ 62)<=i/\i < 2 ^ 62/\-(2 ^ 62)<=j/\j < 2 ^ 62)/\R (Itr i (j - i).toNat) H1
theorem yq {a:Expr} {ta:TA} {p pos:Pos} (hg:Gl X "range") (hm:X.mg "range"=none) (ha:PA X [a] ta) (hs:starEach [a] X.env=[(false,eval a X.env)]:=by rfl):PI X tg (.Call (.Name "range" p) [a] [] pos) (DS ta):=by
 intro pins s σ H R I h;refine Call_ (dD I hg hm boot_range (PyProof.Rows.callWith_type1 (thn (ha pos pins s σ H _ I h) fun us s1 ⟨vs,H1,I1,r1,q1⟩=>?_) hs rfl));obtain⟨j,e,q1,q2,q⟩:=q1;subst e;cases r1 with
 | cons r rr=>
  cases rr;obtain⟨t,rfl⟩:=r;exact call_range_1 (uz I1 (by omega) (by omega) q1 q2 (by simpa using q))
theorem yp {a b:Expr} {ta:TA} {p pos:Pos} (hg:Gl X "range") (hm:X.mg "range"=none) (ha:PA X [a,b] ta) (hs:starEach [a,b] X.env=[(false,eval a X.env),(false,eval b X.env)]:=by rfl) (hs2:starEach [b] X.env=[(false,eval b X.env)]:=by rfl) :
  PI X tg (.Call (.Name "range" p) [a,b] [] pos) (DR ta):=by
 intro pins s σ H R I h;refine Call_ (dD I hg hm boot_range (PyProof.Rows.callWith_type1 (thn (ha pos pins s σ H _ I h) fun us s1 ⟨vs,H1,I1,r1,q1⟩=>?_) (by rw[hs,hs2]) (by rw[hs2];rfl)));obtain⟨i,j,e,⟨q1,q2,q3,q4⟩,q⟩:=q1;subst e;cases r1 with
 | cons r rr=>
  cases rr with
  | cons r' rr=>
   cases rr;obtain⟨t,rfl⟩:=r;obtain⟨t',rfl⟩:=r';exact call_range_2 (uz I1 q1 q2 q3 q4 q)
def EG (wi:TI) (g:TG) (tb:TS):TS:=fun D σ H=>wi σ H fun J H1=>∃ W:Nat->Nat->St->Hp->Prop,(∃ m,W 0 m σ H1)/\∀ i m σ H,W i m σ H->
 (J.stop i H/\D.nx σ H)\/(J.go i H/\∃ N:St->Hp->Prop,(∀ σ' H',N σ' H'->∃ m',m' < m/\W (i + 1) m' σ' H')/\∀ x H',J.yld i H x H'->g x σ H' fun σ2 H2=>tb { D with nx:=N,ct:=N,bk:=D.nx } σ2 H2)
def pz (fp:La) (h:Heap):Pn:=fp.filterMap fun b=>(h.get? b).map fun o=>(b,o)
theorem dC {fp:La} {h:Heap} {b:Addr} {o:Obj} (hb:b∈fp) (e:h.get? b=some o):(b,o)∈pz fp h:=List.mem_filterMap.mpr ⟨b,hb,by rw[e];rfl⟩
theorem rJ {fp:La} {h:Heap} {p:Addr×Obj} (hp:p∈pz fp h):p.1∈fp/\h.get? p.1=some p.2:=by
 obtain⟨b,hb,e⟩:=List.mem_filterMap.mp hp;cases q:h.get? b with
 | none=>rw[q] at e;cases e
 | some o=>
  rw[q] at e;have e':(b,o)=p:=Option.some.inj e;subst e';exact⟨hb,q⟩
theorem Inv.pinned {pins:Pn} {σ:St} {H:Hp} {s:Shared} {fp:La} (I:Inv X pins σ H s) (hf:∀ b∈fp,c5 X pins H b) (ho:∀ b∈fp,∃ o,s.heap.get? b=some o/\∀ v,o.data≠.cell v):Inv X (pins++pz fp s.heap) σ H s:=
 I.hU fun p hp=>(List.mem_append.mp hp).elim (fun z=>I.pin p (List.mem_append_right _ z)) fun z=>by
  obtain⟨hb,e⟩:=rJ z;obtain⟨f0,f1,f2,_⟩:=hf p.1 hb;obtain⟨o,e',d⟩:=ho p.1 hb;rw[e] at e';cases e';exact⟨e,f0,f1,f2,d⟩
theorem Inv.oU {pins pl:Pn} {σ:St} {H:Hp} {s:Shared} (I:Inv X (pins++pl) σ H s):Inv X pins σ H s:=I.hU fun p hp=>I.pin p (List.mem_append_right _ (List.mem_append_left _ hp))
theorem zN {iter:Expr} {body:List Stmt} {wi:TI} {g:TG} {tb:TS} {pos:Pos} (hp:PassesOwn (model X.prog X.w) X.A X.env X.xe) (hc:X.calm=true) (hi:PI X tg iter wi) (hg:PG X tg g) (hb:PSs X body tb)
  (hs:∀ x,foldedSetIterable iter X.env x=pure x:=by intro _;rfl):PS X (.For tg iter body [] pos) (EG wi g tb):=by
 intro pins s σ H D I h;refine wpAny_For (thn (hi pins s σ H _ I h) fun v s1 h1=>thn h1 fun itv s2 h2=>?_) hs;obtain⟨it,fp,tn,J,H2,e,I2,T,st2,f2,W,⟨m0,w0⟩,turn⟩:=h2;subst e;have stat:∀ {H':Hp},(∀ b∈fp,H' b=none)->∀ b∈fp,c5 X pins H' b:=fun hn b hb=>⟨hn b hb,(f2 b hb).2⟩;refine codeAny_forLoop_any (fun n s'=>∃ i σ' H',Inv X pins σ' H' s'/\tn i s'.heap/\(∀ b∈fp,H' b=none)/\W i n σ' H') ?_ m0 ⟨0,σ,H2,I2,st2,fun b hb=>(f2 b hb).1,w0⟩;rintro n s3 ⟨i,σ3,H3,I3,st3,fr3,w3⟩;rcases turn i n σ3 H3 w3 with ⟨stop,qn⟩ | ⟨go,N,hN,step⟩
 ·refine wpAny_passesOwn hp (thn (T.done X rfl rfl rfl hc i pins s3 σ3 H3 X.xe I3 (stat fr3) st3 stop) fun r s4 ⟨hr,I4⟩=>?_);subst hr;exact wpAny_execs_nil ⟨σ3,H3,I4,qn⟩
 ·refine wpAny_passesOwn hp (thn (T.item X rfl rfl rfl hc i pins s3 σ3 H3 X.xe I3 (stat fr3) st3 go) fun r s4 ⟨u,hr,h4⟩=>?_);subst hr;refine wpAny_passesOwn hp (thn h4 fun _ s5 ⟨x,H5,I5,r5,y5,st5,fr5⟩=>?_);have I5':=I5.pinned (stat fr5) (T.obj _ _ st5);refine wpAny_passesOwn hp (thn (hg _ s5 σ3 H5 x u _ I5' r5 (step x H5 y5)) fun _ s6 ⟨σ6,H6,I6,q6⟩=>?_);refine wpAny_passesOwn hp (thn (hb _ s6 σ6 H6 _ I6 q6) fun f s7 q7=>?_);have again:∀ {σ7:St} {H7:Hp},Inv X (pins++pz fp s5.heap) σ7 H7 s7->N σ7 H7->∃ m,m < n/\∃ i σ' H',Inv X pins σ' H' s7/\tn i s7.heap/\(∀ b∈fp,H' b=none)/\W i m σ' H':=fun {σ7 H7} I7 n7=>by
   obtain⟨m',hm,w7⟩:=hN σ7 H7 n7;refine⟨m',hm,i + 1,σ7,H7,I7.oU,T.keep _ _ _ st5 fun b hb o e=>(I7.pin (b,o) (List.mem_append_right _ (List.mem_append_right _ (dC hb e)))).1,fun b hb=>?_,w7⟩;obtain⟨o,e,d⟩:=T.obj _ _ st5 b hb;exact(I7.pin (b,o) (List.mem_append_right _ (List.mem_append_right _ (dC hb e)))).2.1
  cases f with
  | next=>obtain⟨σ7,H7,I7,n7⟩:=q7;exact again I7 n7
  | cont=>obtain⟨σ7,H7,I7,n7⟩:=q7;exact again I7 n7
  | brk=>obtain⟨σ7,H7,I7,q7⟩:=q7;exact⟨σ7,H7,I7.oU,q7⟩
  | ret v=>obtain⟨x7,σ7,H7,I7,r7,q7⟩:=q7;exact⟨x7,σ7,H7,I7.oU,r7,q7⟩
end
abbrev R2:=V->V->Hp->VK->Prop
def OpR (X:Cx) (f:Value->Value->Sem Value) (r:R2):Prop:=
 ∀ (pins:Pn) (s:Shared) (σ:St) (H:Hp) (x y:V) (v u:Value) (Q:VK),Inv X pins σ H s->RelV x v->RelV y u->r x y H Q->
  wpAny (model X.prog X.w) X.A (f v u) (EP X pins σ Q) X.xe s
def UnR (X:Cx) (f:Value->Sem Value) (r:V->Hp->VK->Prop):Prop:=
 ∀ (pins:Pn) (s:Shared) (σ:St) (H:Hp) (x:V) (v:Value) (Q:VK),Inv X pins σ H s->RelV x v->r x H Q->
  wpAny (model X.prog X.w) X.A (f v) (EP X pins σ Q) X.xe s
def cj (X:Cx) (f:Value) (r:List V->Hp->VK->Prop):Prop:=
 ∀ (pins:Pn) (s:Shared) (σ:St) (H:Hp) (xs:List V) (us:Lv) (Q:VK),Inv X pins σ H s->Vals xs us->r xs H Q->
  wpAny (model X.prog X.w) X.A (call f us) (EP X pins σ Q) X.xe s
def tOp (r:R2) (ta tb:TE):TE:=fun σ H Q=>ta σ H fun x H1=>tb σ H1 fun y H2=>r x y H2 Q
def tUn (r:V->Hp->VK->Prop) (ta:TE):TE:=fun σ H Q=>ta σ H fun x H1=>r x H1 Q
def rI (C:Int->Int->Prop) (g:Int->Int->V):R2:=fun x y H Q=>∃ i j,x=.int i/\y=.int j/\C i j/\Q (g i j) H
def rI0 (g:Int->Int->V):R2:=fun x y H Q=>∃ i j,x=.int i/\y=.int j/\Q (g i j) H
def rU (g:Int->V):V->Hp->VK->Prop:=fun x H Q=>∃ i,x=.int i/\Q (g i) H
section
variable {X:Cx} {a b c:Expr} {ta tb tc:TE} {pos:Pos}
theorem GX (ha:PE X a ta) (hb:PE X b tb) {pins:Pn} {s:Shared} {σ:St} {H:Hp} {R:V->V->Hp->Prop} (I:Inv X pins σ H s)
  (h:ta σ H fun x H1=>tb σ H1 fun y H2=>R x y H2) {Q:VS} {f:Value->Value->Sem Value}
  (hf:∀ v u s2 x y H2,Inv X pins σ H2 s2->RelV x v->RelV y u->R x y H2->wpAny (model X.prog X.w) X.A (f v u) Q X.xe s2) :
  wpAny (model X.prog X.w) X.A (eval a X.env) (fun v s₁=>wpAny (model X.prog X.w) X.A (eval b X.env) (fun u s₂=>wpAny (model X.prog X.w) X.A (f v u) Q X.xe s₂) X.xe s₁) X.xe s:=by
 refine thn (ha pins s σ H _ I h) fun v s1 ⟨x,H1,I1,r1,q1⟩=>?_;refine thn (hb pins s1 σ H1 _ I1 q1) fun u s2 ⟨y,H2,I2,r2,q2⟩=>?_;exact hf v u s2 x y H2 I2 r1 r2 q2
theorem lF {op:Operator} {r:R2} (ho:OpR X (binaryOp op) r) (ha:PE X a ta) (hb:PE X b tb):PE X (.BinOp a op b pos) (tOp r ta tb):=by
 intro pins s σ H Q I h;exact wpAny_BinOp (GX ha hb I h fun v u s2 x y H2 I2 rx ry q=>ho pins s2 σ H2 x y v u Q I2 rx ry q)
theorem HU {op:UnaryOp} {r:V->Hp->VK->Prop} (ho:UnR X (unaryOp op) r) (ha:PE X a ta):PE X (.UnaryOp op a pos) (tUn r ta):=by
 intro pins s σ H Q I h;exact UnaryOp_ (thn (ha pins s σ H _ I h) fun v s1 ⟨x,H1,I1,r1,q1⟩=>ho pins s1 σ H1 x v Q I1 r1 q1)
theorem opI {f:Value->Value->Sem Value} {C:Int->Int->Prop} {g:Int->Int->Int}
  (rule:∀ (i j:Int) (t u:Tok) (s:Shared) (Q:VS) (E:VS),C i j->Q (.int (g i j) s.toks) { s with toks:=s.toks + 1 }->wpAny (model X.prog X.w) X.A (f (.int i t) (.int j u)) Q E s) :
  OpR X f (rI C fun i j=>.int (g i j)):=by
 intro pins s σ H x y v u Q I rx ry h;obtain⟨i,j,rfl,rfl,hc,q⟩:=h;obtain⟨t,rfl⟩:=rx;obtain⟨t',rfl⟩:=ry;exact rule i j t t' s _ _ hc ⟨.int (g i j),H,I.tok _,⟨_,rfl⟩,q⟩
theorem tD {f:Value->Value->Sem Value} {g:Int->Int->Int}
  (rule:∀ (i j:Int) (t u:Tok) (s:Shared) (Q:VS) (E:VS),Q (.int (g i j) s.toks) { s with toks:=s.toks + 1 }->wpAny (model X.prog X.w) X.A (f (.int i t) (.int j u)) Q E s) :
  OpR X f (rI0 fun i j=>.int (g i j)):=by
 intro pins s σ H x y v u Q I rx ry h;obtain⟨i,j,rfl,rfl,q⟩:=h;obtain⟨t,rfl⟩:=rx;obtain⟨t',rfl⟩:=ry;exact rule i j t t' s _ _ ⟨.int (g i j),H,I.tok _,⟨_,rfl⟩,q⟩
theorem FI {f:Value->Value->Sem Value} {g:Int->Int->Bool}
  (rule:∀ (i j:Int) (t u:Tok) (s:Shared) (Q:VS) (E:VS),Q (.bool (g i j)) s->wpAny (model X.prog X.w) X.A (f (.int i t) (.int j u)) Q E s) :
  OpR X f (rI0 fun i j=>.bl (g i j)):=by
 intro pins s σ H x y v u Q I rx ry h;obtain⟨i,j,rfl,rfl,q⟩:=h;obtain⟨t,rfl⟩:=rx;obtain⟨t',rfl⟩:=ry;exact rule i j t t' s _ _ ⟨.bl (g i j),H,I,rfl,q⟩
def BA (i j:Int):Prop:=0 < j/\j < 1073741824
def By (i j:Int):Prop:=0<=j/\j<=1000000/\i.natAbs < 2 ^ 64
def Bz (i j:Int):Prop:=(-(2 ^ 64) < i/\i < 2 ^ 64)\/(-(2 ^ 64) < j/\j < 2 ^ 64)
theorem Bz.ok {i j:Int} (h:Bz i j):IntMulOk i j:=by
 rcases h with ⟨h1,h2⟩ | ⟨h1,h2⟩
 ·exact .of_left (intBits_le_64 h1 h2)
 ·exact .of_right (intBits_le_64 h1 h2)
theorem FH:OpR X (binaryOp .Add) (rI0 fun i j=>.int (i + j)):=tD fun _ _ _ _ _ _ _ q=>add_int q
theorem Fy:OpR X (binaryOp .Sub) (rI0 fun i j=>.int (i - j)):=tD fun _ _ _ _ _ _ _ q=>sub_int q
theorem FC:OpR X (binaryOp .Mult) (rI Bz fun i j=>.int (i * j)):=opI fun _ _ _ _ _ _ _ hc q=>mul_int q hc.ok
theorem Cw:OpR X (binaryOp .FloorDiv) (rI BA fun i j=>.int (i / j)):=opI fun i j _ _ _ _ _ hc q=>by
 have h1:(0:Int) < j:=hc.1;have h2:j < 1073741824:=hc.2;exact floordiv_int (by omega) (by rw[Int.fdiv_eq_ediv_of_nonneg i (by omega)];exact q) (.inl (PyProof.noPylong_small (by omega)))
theorem FD:OpR X (binaryOp .Mod) (rI (fun _ j=>0 < j) fun i j=>.int (i % j)):=opI fun i j _ _ _ _ _ hc q=>by
 have h1:(0:Int) < j:=hc;exact mod_int' (by omega) (by rw[Int.fmod_eq_emod_of_nonneg i (by omega)];exact q)
theorem Am:OpR X (binaryOp .Pow) (rI By fun i j=>.int (i ^ j.toNat)):=opI fun _ _ _ _ _ _ _ hc q=>pow_int_small hc.1 hc.2.1 hc.2.2 q
theorem FG:OpR X (binaryOp .BitAnd) (rI0 fun i j=>.int (Builtin.bitAnd i j)):=tD fun _ _ _ _ _ _ _ q=>and_int q
theorem unI {f:Value->Sem Value} {g:Int->Int}
  (rule:∀ (i:Int) (t:Tok) (s:Shared) (Q:VS) (E:VS),Q (.int (g i) s.toks) { s with toks:=s.toks + 1 }->wpAny (model X.prog X.w) X.A (f (.int i t)) Q E s) :
  UnR X f (rU fun i=>.int (g i)):=by
 intro pins s σ H x v Q I rx h;obtain⟨i,rfl,q⟩:=h;obtain⟨t,rfl⟩:=rx;exact rule i t s _ _ ⟨.int (g i),H,I.tok _,⟨_,rfl⟩,q⟩
theorem Ew:UnR X (unaryOp .USub) (rU fun i=>.int (-i)):=unI fun _ _ _ _ _ q=>neg_int q
theorem AY {pins:Pn} {σ:St} {H:Hp} {s:Shared} {Q:VK} {k k':Bool} (I:Inv X pins σ H s) (q:Q (.bl k) H) (e:k=k'):EP X pins σ Q (.bool k') s:=by
 subst e;exact⟨.bl k,H,I,rfl,q⟩
theorem Ig:OpR X (compareOp .Lt) (rI0 fun i j=>.bl (decide (i < j))):=FI fun _ _ _ _ _ _ _ q=>lt_int q
theorem Ih:OpR X (compareOp .LtE) (rI0 fun i j=>.bl (decide (i<=j))):=FI fun _ _ _ _ _ _ _ q=>le_int q
theorem Ii:OpR X (compareOp .Gt) (rI0 fun i j=>.bl (decide (j < i))):=FI fun _ _ _ _ _ _ _ q=>gt_int q
theorem OpR.or {f:Value->Value->Sem Value} {r r':R2} (h:OpR X f r) (h':OpR X f r'):OpR X f (fun x y H Q=>r x y H Q\/r' x y H Q):=by
 intro pins s σ H x y v u Q I rx ry q;rcases q with q | q
 ·exact h pins s σ H x y v u Q I rx ry q
 ·exact h' pins s σ H x y v u Q I rx ry q
theorem bj (b:Expr) {op:CmpOp} (h:op≠.In:=by decide) (h2:op≠.NotIn:=by decide):behindInMarks op b=false:=by
 have e1:(op == CmpOp.In)=false:=by cases op <;> first | rfl | exact absurd rfl h
 have e2:(op == CmpOp.NotIn)=false:=by cases op <;> first | rfl | exact absurd rfl h2
 cases b <;> simp [behindInMarks,e1,e2]
theorem Ck {op:CmpOp} {r:R2} (ho:OpR X (compareOp op) r) (ha:PE X a ta) (hb:PE X b tb) (hm:behindInMarks op b=false):PE X (.Compare a [op] [b] pos) (tOp r ta tb):=by
 intro pins s σ H Q I h;exact wpAny_Compare1 (GX ha hb I h fun v u s2 x y H2 I2 rx ry q=>ho pins s2 σ H2 x y v u Q I2 rx ry q) hm
def Du (t:TE):TT:=fun σ H Q=>t σ H fun x H'=>∃ k,x=.bl k/\Q k H'
theorem B7 {op:CmpOp} {r:R2} (ho:OpR X (compareOp op) r) (ha:PE X a ta) (hb:PE X b tb) (hm:behindInMarks op b=false):PT X (.Compare a [op] [b] pos) (Du (tOp r ta tb)):=by
 intro pins s σ H Q I h;refine wpAny_isTrue_Compare1 (thn (ha pins s σ H _ I h) fun v s1 ⟨x,H1,I1,r1,q1⟩=>thn (hb pins s1 σ H1 _ I1 q1) fun u s2 ⟨y,H2,I2,r2,q2⟩=>
  thn (ho pins s2 σ H2 x y v u _ I2 r1 r2 q2) fun c s3 ⟨z,H3,I3,r3,k,e,q3⟩=>?_) hm
 subst e;cases r3;exact wpAny_truthy_bool ⟨H3,I3,q3⟩
def vC (r r':R2) (ta tb tc:TE):TE:=fun σ H Q=>ta σ H fun x H1=>tb σ H1 fun y H2=>r x y H2 fun z H3=>∃ k,z=.bl k/\
 (if k=true then tc σ H3 fun w' H4=>r' y w' H4 Q else Q (.bl false) H3)
theorem z8 {op op':CmpOp} {r r':R2} (ho:OpR X (compareOp op) r) (ho':OpR X (compareOp op') r') (ha:PE X a ta) (hb:PE X b tb) (hc:PE X c tc)
  (hm:lastMarks [op,op'] [b,c]=false:=by with_unfolding_all rfl):PE X (.Compare a [op,op'] [b,c] pos) (vC r r' ta tb tc):=by
 intro pins s σ H Q I h;refine Compare_chain (thn (ha pins s σ H _ I h) fun v s1 ⟨x,H1,I1,r1,q1⟩=>chain_link (thn (hb pins s1 σ H1 _ I1 q1) fun u s2 ⟨y,H2,I2,r2,q2⟩=>
  thn (ho pins s2 σ H2 x y v u _ I2 r1 r2 q2) fun d s3 ⟨z,H3,I3,r3,k,e,q3⟩=>?_)) hm
 subst e;cases r3;refine wpAny_truthy_bool ?_;cases k with
 | false=>exact ite_ff ⟨.bl false,H3,I3,rfl,q3⟩
 | true=>exact ite_tt (chain_last (thn (hc pins s3 σ H3 _ I3 q3) fun w' s4 ⟨z',H4,I4,r4,q4⟩=>ho' pins s4 σ H4 y z' u w' Q I4 r2 r4 q4))
theorem mQ:(sizeLine:Nat) < 2 ^ 63:=by rw[sizeLine_eq];decide
theorem vR:OpR X (binaryOp .Add) (fun x y H Q=>∃ i j,x=.str i/\y=.str j/\i.length + j.length<=sizeLine/\Q (.str (i++j)) H):=by
 intro pins s σ H x y v u Q I rx ry h;obtain⟨i,j,rfl,rfl,hz,q⟩:=h;obtain⟨t,rfl⟩:=rx;obtain⟨t',rfl⟩:=ry;exact add_str (fun t' tk=>⟨.str (i++j),H,I.tok _,⟨_,rfl⟩,q⟩) hz
theorem vals1 {x:V} {us:Lv} (r:Vals [x] us):∃ u,us=[u]/\RelV x u:=by
 cases r with
 | cons r1 r2=>cases r2;exact⟨_,rfl,r1⟩
theorem vals2 {x y:V} {us:Lv} (r:Vals [x,y] us):∃ u w',us=[u,w']/\RelV x u/\RelV y w':=by
 cases r with
 | cons r1 r2=>
  cases r2 with
  | cons r3 r4=>cases r4;exact⟨_,_,rfl,r1,r3⟩
theorem yT (hc:X.calm=true):cj X (.builtin "max") (fun xs H Q=>∃ i j,xs=[.int i,.int j]/\Q (.int (if j > i then j else i)) H):=by
 intro pins s σ H xs us Q I r h;obtain⟨i,j,rfl,q⟩:=h;obtain⟨u,w',rfl,⟨t,rfl⟩,⟨t',rfl⟩⟩:=vals2 r;refine max_two_ints (I.ok.hd hc) fun h' tk k=>⟨_,H,I.kept k,?_,q⟩;by_cases hj:j > i
 ·rw[if_pos hj,if_pos hj];exact⟨_,rfl⟩
 ·rw[if_neg hj,if_neg hj];exact⟨_,rfl⟩
theorem yS (hc:X.calm=true):cj X (.builtin "min") (fun xs H Q=>∃ i j,xs=[.int i,.int j]/\Q (.int (if j < i then j else i)) H):=by
 intro pins s σ H xs us Q I r h;obtain⟨i,j,rfl,q⟩:=h;obtain⟨u,w',rfl,⟨t,rfl⟩,⟨t',rfl⟩⟩:=vals2 r;refine min_two_ints (I.ok.hd hc) fun h' tk k=>⟨_,H,I.kept k,?_,q⟩;by_cases hj:j < i
 ·rw[if_pos hj,if_pos hj];exact⟨_,rfl⟩
 ·rw[if_neg hj,if_neg hj];exact⟨_,rfl⟩
theorem yU:cj X (.type "int") (fun xs H Q=>(∃ i,xs=[.int i]/\Q (.int i) H)\/∃ k,xs=[.bl k]/\Q (.int (if k then 1 else 0)) H):=by
 intro pins s σ H xs us Q I r h;rcases h with ⟨i,rfl,q⟩ | ⟨k,rfl,q⟩
 ·obtain⟨u,rfl,t,rfl⟩:=vals1 r;exact call_int_int ⟨.int i,H,I,⟨_,rfl⟩,q⟩
 ·obtain⟨u,rfl,r1⟩:=vals1 r;cases r1;exact call_int_bool ⟨.int (if k then 1 else 0),H,I.tok _,⟨_,rfl⟩,q⟩
end
structure wQ (h:Heap) (x dx C:Addr) (mA:SV):Prop where
 obj:h.get? x=some (PySem.W.instObj C dx)
 ns:h.Ns1 dx mA
 ne:dx≠x
theorem yI {h:Heap} {dx:Addr} {mA:SV} (n:h.Ns1 dx mA):∃ od,h.get? dx=some od/\∀ name,PySem.W.lookIn name od=some (mA name):=by
 obtain⟨o,es,ep,ho,hd,hk,_,hm⟩:=n;refine⟨o,ho,fun name=>?_⟩;have e:=hm name;unfold nsFind findBy at e;rw[<- Array.find?_toList] at e;unfold PySem.W.lookIn;rw[hd];dsimp only;split
 ·rename_i y q;rw[q] at e;exact congrArg some e
 ·rename_i q;rw[q] at e;have a:es.toList.any (·.refKey)=false:=by
   rw[List.any_eq_false];intro y hy;obtain⟨z,t,hkey⟩:=hk y (Array.mem_toList_iff.mp hy);simp [DictEntry.refKey,hkey]
  have a':¬ es.toList.any (·.refKey)=true:=by rw[a];exact Bool.false_ne_true
  rw[if_neg a'];exact congrArg some e
theorem wQ.look {h:Heap} {x dx C:Addr} {mA:SV} (I:wQ h x dx C mA):∃ od,PySem.W.InstAt h x (PySem.W.instObj C dx) C (some od)/\∀ name,PySem.W.lookIn name od=some (mA name):=
 let ⟨od,ho,hl⟩:=yI I.ns
 ⟨od,⟨I.obj,rfl,rfl,ho⟩,hl⟩
section
variable {prog:Program} {w:World} {A:Around} {E:VS} {s:Shared} {K:Fg0} {x dx C f:Addr} {mA:SV} {name:Str} {v:Value}
theorem get_map {expr:Bool} {Q:VS} (X:K.In s.heap) (I:wQ s.heap x dx C mA) (hg:PySem.W.plainGet K C name=true) (hh:PySem.W.hasDictIn K C=true)
  (ha:PySem.W.findIn K (.ref C) name=some none) (hv:mA name=some v) (hv':PySem.W.handedIn v=true) (h:Q v { s with toks:=s.toks + 1 }) :
  wpAny (model prog w) A (getAttr (.ref x) name expr) Q E s:=by
 obtain⟨od,J,hl⟩:=I.look;exact PySem.W.get_value X J (PySem.W.plainGet_of hg).1 (PySem.W.findObj_own hh ha rfl (by rw[hl,hv])) hv' h
theorem AO {pl:Sem Bool} {Q:Value×Lv->Shared->Prop} (X:K.In s.heap) (I:wQ s.heap x dx C mA) (hg:PySem.W.plainGet K C name=true)
  (hf:PySem.W.findIn K (.ref C) name=some (some (.ref f))) (ht:PySem.W.isFn K (.ref f)=true) (hv:mA name=none) (h:Q (.ref f,[.ref x]) s) :
  wpAny (model prog w) A (getMethod (.ref x) name pl) Q E s:=by
 obtain⟨od,J,hl⟩:=I.look;exact PySem.W.method_fn X J (PySem.W.plainGet_of hg).1 (PySem.W.plainGet_of hg).2 hf (beq_iff_eq.mp ht) (by show (PySem.W.lookIn name od).map (·.isSome)=some false;rw[hl,hv];rfl) h
theorem BN {ns:Ls} {Q:Unit->Shared->Prop} (X:K.In s.heap) (I:wQ s.heap x dx C mA)
  (hs:PySem.W.findIn K (.ref C) "__setattr__"=some (some (.builtin "object.__setattr__"))) (hp:PySem.W.plainOver K C=true) (ht:PySem.W.takerIn K C name=some none) (hh:PySem.W.hasDictIn K C=true)
  (hw:PySem.Within mA ns) (hsz:ns.length<=sizeLine)
  (h:∀ h',wQ h' x dx C (fun y=>if y=name then some v else mA y)->Heap.SameBut dx s.heap h'->Q () { s with heap:=h',toks:=s.toks + 2 }) :
  wpAny (model prog w) A (setAttr (.ref x) name v) Q E s:=by
 obtain⟨od,J,hl⟩:=I.look;refine PySem.W.set_plain X J hs (PySem.W.osa_open (s:={ s with toks:=s.toks + 1 }) (r:=none) X J hp ht fun b=>?_);obtain⟨cd,hc,hd'⟩:=PySem.W.any_some hh;have hx:s.heap.get? x=some ⟨.ref C,some dx,.plain,#[]⟩:=I.obj;refine wpAny_bind (wpAny_pure (wpAny_bind (wpAny_bind (wpAny_loadPart hx (wpAny_bind (PySem.W.Looks.here (s:={ s with toks:=s.toks + 1 }) (PySem.W.looks_clsIn X hc) ?_))))));rw[hd'];refine wpAny_pure (a:=some dx) (wpAny_bind (wpAny_pure (wpAny_bind ?_)));refine wpAny_nsSet1 (s:={ s with toks:=s.toks + 1 }) I.ns fun h' hn2 hs2=>?_;obtain⟨oD,esD,epD,hoD,hdD,hcD⟩:=hn2.count (PySem.Within.cons name v hw);refine wpAny_bind (wpAny_lookBehind hoD (by rw[hdD];exact pastItsLine_dict (Nat.le_trans hcD (by rw[List.length_cons];omega))) ?_);exact wpAny_pure (h _ ⟨(hs2.2 _ (Ne.symm I.ne)).trans I.obj,hn2,I.ne⟩ hs2)
theorem Aq {R:Result->Shared->Prop} {vs:Lv} {kw:List (Str×Value)} (X:K.In s.heap) (hm:PySem.W.makesIn K C=true)
  (hi:PySem.W.findIn K (.ref C) "__init__"=some (some (.ref f))) (hf:PySem.W.typeIn K (.ref f)=some (.type "function"))
  (h:codeAny (model prog w) (A.under (.builtin "type.__call__" ⟨.ref C::vs,kw⟩)) (.call (.ref f) ⟨.ref (s.heap.objs.size + 1)::vs,kw⟩) (PySem.W.InitBack (s.heap.objs.size + 1) R)
   { s with heap:=(s.heap.push PySem.W.emptyDict).push (PySem.W.instObj C s.heap.objs.size) }) :
  codeAny (model prog w) A (.call (.ref C) ⟨vs,kw⟩) R s:=by
 obtain⟨hh,g,d,t,os⟩:=s;exact PySem.W.make_core (PySem.W.makes_of X hm) (PySem.W.looks_findIn X hi) (fun self=>PySem.W.bind_fn X self hf) (.inl rfl) h
theorem yE {R:Result->Shared->Prop} (X:K.In s.heap) (hm:PySem.W.makesIn K C=true)
  (hi:PySem.W.findIn K (.ref C) "__init__"=some (some (.builtin "object.__init__")))
  (hb:∀ self,PySem.W.Looks (model prog w) s.heap (bindSpecial (.builtin "object.__init__") self) (.builtin "object.__init__",[self]))
  (h:codeAny (model prog w) (A.under (.builtin "type.__call__" ⟨[.ref C],[]⟩)) (.call (.builtin "object.__init__") ⟨[.ref (s.heap.objs.size + 1)],[]⟩) (PySem.W.InitBack (s.heap.objs.size + 1) R)
   { s with heap:=(s.heap.push PySem.W.emptyDict).push (PySem.W.instObj C s.heap.objs.size) }) :
  codeAny (model prog w) A (.call (.ref C) ⟨[],[]⟩) R s:=by
 obtain⟨hh,g,d,t,os⟩:=s;exact PySem.W.make_core (PySem.W.makes_of X hm) (PySem.W.looks_findIn X hi) hb (.inr ⟨rfl,rfl⟩) h
end
def i6 (f:Str) (v:V):List (Str×V)->List (Str×V)
 | []=>[(f,v)]
 | (g,x)::r=>if g=f then (g,v)::r else (g,x)::i6 f v r
theorem nk (f g:Str) (v:V):∀ fs:List (Str×V),(i6 f v fs).lookup g=if g=f then some v else fs.lookup g
 | []=>by
  show List.lookup g [(f,v)]=_;by_cases h:g=f
  ·have hb:(g == f)=true:=beq_iff_eq.mpr h;simp only[List.lookup,hb,if_pos h]
  ·have hb:(g == f)=false:=beq_eq_false_iff_ne.mpr h;simp only[List.lookup,hb,if_neg h]
 | (k,x)::r=>by
  have ih:=nk f g v r;rw[show i6 f v ((k,x)::r)=(if k=f then (k,v)::r else (k,x)::i6 f v r) from rfl];by_cases hk:k=f
  ·rw[if_pos hk];by_cases h:g=k
   ·have hb:(g == k)=true:=beq_iff_eq.mpr h;simp only[List.lookup,hb,if_pos (h.trans hk)]
   ·have hb:(g == k)=false:=beq_eq_false_iff_ne.mpr h;simp only[List.lookup,hb,if_neg (fun e:g=f=>h (e.trans hk.symm))]
  ·rw[if_neg hk];by_cases h:g=k
   ·have hb:(g == k)=true:=beq_iff_eq.mpr h;simp only[List.lookup,hb,if_neg (fun e:g=f=>hk (h.symm.trans e))]
   ·have hb:(g == k)=false:=beq_eq_false_iff_ne.mpr h;simp only[List.lookup,hb];exact ih
theorem mT (f:Str) (v:V):∀ fs:List (Str×V),f∈(i6 f v fs).map (·.1)/\∀ g,g∈fs.map (·.1)->g∈(i6 f v fs).map (·.1)
 | []=>⟨by simp [i6],fun g h=>by simp at h⟩
 | (k,x)::r=>by
  obtain⟨i1,i2⟩:=mT f v r;rw[show i6 f v ((k,x)::r)=(if k=f then (k,v)::r else (k,x)::i6 f v r) from rfl];by_cases hk:k=f
  ·rw[if_pos hk];subst hk;exact⟨by simp,fun g h=>by simpa using h⟩
  ·rw[if_neg hk];refine⟨?_,fun g h=>?_⟩
   ·rw[List.map_cons];exact List.mem_cons_of_mem _ i1
   ·rw[List.map_cons] at h ⊢;rcases List.mem_cons.mp h with e | e
    ·exact List.mem_cons.mpr (.inl e)
    ·exact List.mem_cons_of_mem _ (i2 g e)
theorem nq (f:Str) (v:V):∀ fs:List (Str×V),(i6 f v fs).length<=fs.length + 1
 | []=>by simp [i6]
 | (k,x)::r=>by
  have ih:=nq f v r;rw[show i6 f v ((k,x)::r)=(if k=f then (k,v)::r else (k,x)::i6 f v r) from rfl];by_cases hk:k=f
  ·rw[if_pos hk,List.length_cons,List.length_cons];omega
  ·rw[if_neg hk,List.length_cons,List.length_cons];omega
theorem qv.some_of {v:V} {o:Option Value} (r:qv (some v) o):∃ u,o=some u/\RelV v u:=by
 cases o with
 | none=>exact(show False from r).elim
 | some u=>exact⟨u,rfl,r⟩
theorem qv.none_of {o:Option Value} (r:qv none o):o=none:=by
 cases o with
 | none=>rfl
 | some u=>exact(show False from r).elim
theorem yO {v:V} {u:Value} (r:RelV v u):PySem.W.handedIn u=true:=by
 cases v with
 | non=>cases (show u=Value.none from r);rfl
 | bl b=>cases (show u=Value.bool b from r);rfl
 | int i=>obtain⟨t,e⟩:=(show ∃ t,u=Value.int i t from r);cases e;rfl
 | str x=>obtain⟨t,e⟩:=(show ∃ t,u=Value.str x t from r);cases e;rfl
 | byt b=>obtain⟨t,e⟩:=(show ∃ t,u=Value.bytes b t from r);cases e;rfl
 | flt b=>obtain⟨t,e⟩:=(show ∃ t,u=Value.float b t from r);cases e;rfl
 | ref a=>cases (show u=Value.ref a from r);rfl
 | ty n=>cases (show u=Value.type n from r);rfl
section
variable {P:Program} {w:World} {H H':Hp} {h h':Heap} {a C dx:Addr} {fs fs':List (Str×V)}
theorem oH (hok:HOk P w H h) (e:H a=some (.ins C dx fs)):∃ mA,wQ h a dx C mA/\(∀ f,qv (fs.lookup f) (mA f))/\PySem.Within mA (fs.map (·.1))/\fs.length<=1000/\H dx=some (.own a):=by
 obtain⟨d,z,ne,ob,mA,n,r,q⟩:=(show cI P w H h a (.ins C dx fs) from hok a _ e);exact⟨mA,⟨ob,n,ne⟩,r,q,z,d⟩
end
structure Cls (K:Fg0) (C:Addr):Prop where
 pg:PySem.W.plainGet K C Str.empty=true
 hd:PySem.W.hasDictIn K C=true
 po:PySem.W.plainOver K C=true
 sa:PySem.W.findIn K (.ref C) "__setattr__"=some (some (.builtin "object.__setattr__"))
theorem Cls.get {K:Fg0} {C:Addr} (c:Cls K C) (f:Str):PySem.W.plainGet K C f=true:=c.pg
def dG (K:Fg0) (C:Addr) (f:Str):Prop:=PySem.W.findIn K (.ref C) f=some none
theorem dG.Hh {K:Fg0} {C:Addr} {f:Str} (n:dG K C f):PySem.W.takerIn K C f=some none:=by
 unfold PySem.W.takerIn;rw[show PySem.W.findIn K (.ref C) f=some none from n]
 rfl
structure Meth (K:Fg0) (C:Addr) (m:Str) (f:Addr):Prop where
 at_:PySem.W.findIn K (.ref C) m=some (some (.ref f))
 fn:PySem.W.isFn K (.ref f)=true
 kp:PySem.W.keepIn K (.ref f)=true
section
variable {X:Cx} {pins:Pn} {σ:St} {H:Hp} {s:Shared} {a C dx:Addr} {fs:List (Str×V)} {f:Str} {v:V} {A:Around} {E:VS}
theorem wk {b:Bool} {Q:VS} (I:Inv X pins σ H s) (e:H a=some (.ins C dx fs)) (c:Cls X.K C) (n:dG X.K C f) (l:fs.lookup f=some v)
  (h:∀ u s',Inv X pins σ H s'->RelV v u->Q u s'):wpAny (model X.prog X.w) A (getAttr (.ref a) f b) Q E s:=by
 obtain⟨mA,O,r,_,_,_⟩:=oH I.hok e;obtain⟨u,hu,ru⟩:=qv.some_of (v:=v) (o:=mA f) (by rw[<- l];exact r f);exact get_map I.kIn O (c.get f) c.hd n hu (yO ru) (h u _ (I.tok _) ru)
theorem kO {m:Str} {g:Addr} {pl:Sem Bool} {Q:Value×Lv->Shared->Prop} (I:Inv X pins σ H s) (e:H a=some (.ins C dx fs)) (c:Cls X.K C) (k:Meth X.K C m g) (l:fs.lookup m=none)
  (h:Q (.ref g,[.ref a]) s):wpAny (model X.prog X.w) A (getMethod (.ref a) m pl) Q E s:=by
 obtain⟨mA,O,r,_,_,_⟩:=oH I.hok e;have hn:mA m=none:=qv.none_of (by rw[<- l];exact r m);exact AO I.kIn O (c.get m) k.at_ k.fn hn h
theorem vE {y:V} {u:Value} {Q:Unit->Shared->Prop} (I:Inv X pins σ H s) (e:H a=some (.ins C dx fs)) (c:Cls X.K C) (n:dG X.K C f) (hl:fs.length < 1000) (ry:RelV y u)
  (h:∀ s',Inv X pins σ (upd H a (.ins C dx (i6 f y fs))) s'->Q () s'):wpAny (model X.prog X.w) A (setAttr (.ref a) f u) Q E s:=by
 obtain⟨mA,O,r,wi,_,ho⟩:=oH I.hok e;have hz:(fs.map (·.1)).length<=sizeLine:=by rw[lM0,sizeLine_eq];omega
 refine BN I.kIn O c.sa c.po n.Hh c.hd wi hz fun h' O' sb=>h _ ?_;have hd:∃ o,h'.get? dx=some o:=let ⟨o,_,_,e',_⟩:=O'.ns;⟨o,e'⟩
 refine I.write (x:=a) (e:=dx) (by rw[e];exact True.intro) (.inr ho) (fun b q hb z=>(sb.2 b hb).trans z) hd ?_;refine⟨by rw[af O.ne];exact ho,?_,O.ne,O'.obj,_,O'.ns,fun g=>?_,fun g hg=>?_⟩
 ·have:=nq f y fs;omega
 ·show qv ((i6 f y fs).lookup g) (if g=f then some u else mA g);rw[nk];by_cases q:g=f
  ·rw[if_pos q,if_pos q];exact ry
  ·rw[if_neg q,if_neg q];exact r g
 ·by_cases q:g=f
  ·rw[q];exact(mT f y fs).1
  ·refine(mT f y fs).2 g (wi g fun z=>hg ?_);show (if g=f then some u else mA g)=none;rw[if_neg q];exact z
theorem Inv.made (I:Inv X pins σ H s):Inv X pins σ (upd (upd H s.heap.objs.size (.own (s.heap.objs.size + 1))) (s.heap.objs.size + 1) (.ins C s.heap.objs.size []))
  { s with heap:=(s.heap.push PySem.W.emptyDict).push (PySem.W.instObj C s.heap.objs.size) }:=by
 have e1:(s.heap.push PySem.W.emptyDict).get? s.heap.objs.size=some PySem.W.emptyDict:=Heap.get?_push_size s.heap rfl;have e2:((s.heap.push PySem.W.emptyDict).push (PySem.W.instObj C s.heap.objs.size)).get? (s.heap.objs.size + 1)=some (PySem.W.instObj C s.heap.objs.size):=by
  have:=Heap.get?_push_size (s.heap.push PySem.W.emptyDict) (o:=PySem.W.instObj C s.heap.objs.size) rfl
  rwa [Heap.size_push] at this
 have e3:(s.heap.push PySem.W.emptyDict).Ns s.heap.objs.size (fun _=>none):=⟨PySem.W.emptyDict,#[],_,e1,rfl,(fun e he=>absurd he (by simp)),fun _=>rfl⟩;have I1:=I.laid (a:=s.heap.objs.size) (o:=.own (s.heap.objs.size + 1)) (h':=s.heap.push PySem.W.emptyDict) (t':=s.toks) (fun b u q=>Heap.get?_push_of_some _ q) (Nat.le_refl _) ⟨_,e1⟩;refine I1.laid (a:=s.heap.objs.size + 1) (o:=.ins C s.heap.objs.size []) (t':=s.toks) (fun b u q=>Heap.get?_push_of_some _ q) (Nat.le_of_eq (Heap.size_push _ _)) ?_;have ne:s.heap.objs.size≠s.heap.objs.size + 1:=Nat.ne_of_lt (Nat.lt_succ_self _);refine⟨by rw[af ne,ao],Nat.zero_le _,ne,e2,fun _=>none,(Heap.Ns1.of_empty e3).at fun o q=>Heap.get?_push_of_some _ q,fun _=>True.intro,fun y hy=>absurd rfl hy⟩
theorem De {prog:Program} {w:World} {env:Env} {e:Expr} {f:Str} {pos:Pos} {s:Shared} {Q:VS} (hb:attributeBase e f env (eval e env)=eval e env)
  (h:wpAny (model prog w) A (eval e env) (fun o s₁=>wpAny (model prog w) A (getAttr o f true) Q E s₁) E s):wpAny (model prog w) A (eval (.Attribute e f pos) env) Q E s:=
 Attribute_any_ h (by rw[arm_eval_Attribute,hb])
end
def Hm (K:Fg0) (ta:TE) (f:Str):TE:=fun σ H Q=>ta σ H fun x H1=>∃ a C dx fs v,x=.ref a/\H1 a=some (.ins C dx fs)/\Cls K C/\dG K C f/\fs.lookup f=some v/\Q v H1
def ES (K:Fg0) (ta tv:TE) (f:Str):TS:=fun D σ H=>tv σ H fun y H1=>ta σ H1 fun x H2=>∃ a C dx fs,x=.ref a/\H2 a=some (.ins C dx fs)/\Cls K C/\dG K C f/\fs.length < 1000/\
 D.nx σ (upd H2 a (.ins C dx (i6 f y fs)))
section
variable {X:Cx} {o e value:Expr} {f:Str} {pos pos' tpos:Pos} {ta tv:TE}
theorem Fp (he:PE X e ta) (hb:attributeBase e f X.env (eval e X.env)=eval e X.env):PE X (.Attribute e f pos) (Hm X.K ta f):=by
 intro pins s σ H Q I h;refine De hb (thn (he pins s σ H _ I h) fun u s1 ⟨x,H1,I1,rx,a,C,dx,fs,v,ex,ea,c,n,l,q⟩=>?_);subst ex;obtain rfl:u=Value.ref a:=rx;exact wk I1 ea c n l fun u' s2 I2 ru=>⟨v,H1,I2,ru,q⟩
theorem Fb (ha:PE X o ta) (hv:PE X value tv) (hs:swapsWith value (some (.Attribute o f pos')) pos.line X.env=pure false):PS X (.Assign [.Attribute o f pos'] value pos) (ES X.K ta tv f):=by
 intro pins s σ H D I h;refine plainObj_wpAny_Assign_Attribute (thn (hv pins s σ H _ I h) fun u s1 ⟨y,H1,I1,ry,q⟩=>thn (ha pins s1 σ H1 _ I1 q) fun ov s2 ⟨x,H2,I2,rx,a,C,dx,fs,ex,ea,c,n,l,q2⟩=>?_) hs;subst ex;obtain rfl:ov=Value.ref a:=rx;exact vE I2 ea c n l ry fun s3 I3=>⟨σ,_,I3,q2⟩
theorem DM {pl:Sem Bool} {m:Str} {apos:Pos} {args:List Expr} {pins:Pn} {s:Shared} {σ:St} {H:Hp} {Q:VS} {te:TE} (he:PE X e te) (I:Inv X pins σ H s)
  (h:te σ H fun x H1=>∃ a C dx fs g,x=.ref a/\H1 a=some (.ins C dx fs)/\Cls X.K C/\Meth X.K C m g/\fs.lookup m=none/\
   ∀ s1,Inv X pins σ H1 s1->wpAny (model X.prog X.w) X.A (callWith pos (.ref g) [.ref a] (backTo pos (starEach args X.env)) (backToKw pos (keywordEach [] X.env))) Q X.xe s1)
  (ht:eval (.Call (.Attribute e m apos) args [] pos) X.env=(do
   let ov <- eval e X.env
   standAt apos.atName
   let (f,first) <- holding [ov] (getMethod ov m pl)
   callWith pos f first (backTo pos (starEach args X.env)) (backToKw pos (keywordEach [] X.env)))) :
  wpAny (model X.prog X.w) X.A (eval (.Call (.Attribute e m apos) args [] pos) X.env) Q X.xe s:=by
 refine PySem.W.methodCall_KW (pl:=pl) (thn (he pins s σ H _ I h) fun u s1 ⟨x,H1,I1,rx,a,C,dx,fs,g,ex,ea,c,k,l,q⟩=>?_) ht;subst ex;obtain rfl:u=Value.ref a:=rx;exact kO I1 ea c k l (q s1 I1)
end
section
variable {X:Cx} {pins:Pn} {σ:St} {H:Hp} {s:Shared} {A:Around} {E:VS} {Q:VS} {c:Value} {b:Bool}
inductive m6 (K:Fg0) (H:Hp):V->Value->Prop where
 | non:m6 K H .non (.type "NoneType")
 | bl (x:Bool):m6 K H (.bl x) (.type "bool")
 | int (i:Int):m6 K H (.int i) (.type "int")
 | str (x:Str):m6 K H (.str x) (.type "str")
 | flt (x:UInt64):m6 K H (.flt x) (.type "float")
 | lst {a:Addr} {xs:List V} (e:H a=some (.lst xs)):m6 K H (.ref a) (.type "list")
 | frz {a:Addr} {o:Obj} {xs:List V} (e:H a=some (.frz o (.lst xs))):m6 K H (.ref a) (.type "list")
 | tup {a:Addr} {xs:List V} (e:H a=some (.tup xs)):m6 K H (.ref a) (.type "tuple")
 | dK {a:Addr} {kvs:List (Key×V)} (e:H a=some (.dK kvs)):m6 K H (.ref a) (.type "dict")
 | dT {a:Addr} {kvs:List (List Key×V)} (e:H a=some (.dT kvs)):m6 K H (.ref a) (.type "dict")
 | ins {a C dx:Addr} {fs:List (Str×V)} (e:H a=some (.ins C dx fs)) (cl:Cls K C) (ha:PySem.W.findIn K (.ref C) "__class__"=some (some (.builtin "object.__class__")))
   (hn:PySem.W.specialIn K (.builtin "object.__class__") "__get__"=some (some (.builtin "getset_descriptor.__get__"))) (htk:PySem.W.takesIn K (.builtin "object.__class__")=some true)
   (hm:PySem.W.mroIn K C (.type "object")=some true):m6 K H (.ref a) (.ref C)
theorem yL {x:V} {u t:Value} (I:Inv X pins σ H s) (rx:RelV x u) (ty:m6 X.K H x t) (e:PySem.W.kitOne X.K t c=some b) (h:∀ tk,Q (.bool b) { s with toks:=tk }) :
  wpAny (model X.prog X.w) A (call (.builtin "isinstance") [u,c]) Q E s:=by
 cases ty with
 | non=>cases (show u=Value.none from rx);exact PySem.W.kia_one PySem.W.kitx_none I.kIn True.intro e (fun z=>nomatch z) h
 | bl y=>cases (show u=Value.bool y from rx);exact PySem.W.kia_one PySem.W.kitx_bool I.kIn True.intro e (fun z=>nomatch z) h
 | int i=>obtain⟨t,q⟩:=(show ∃ t,u=Value.int i t from rx);cases q;exact PySem.W.kia_one PySem.W.kitx_int I.kIn True.intro e (fun z=>nomatch z) h
 | str y=>obtain⟨t,q⟩:=(show ∃ t,u=Value.str y t from rx);cases q;exact PySem.W.kia_one PySem.W.kitx_str I.kIn True.intro e (fun z=>nomatch z) h
 | flt y=>obtain⟨t,q⟩:=(show ∃ t,u=Value.float y t from rx);cases q;exact PySem.W.kia_one PySem.W.kitx_float I.kIn True.intro e (fun z=>nomatch z) h
 | @lst a xs ea=>
  cases (show u=Value.ref a from rx);obtain⟨_,_,n,_,h1⟩:=(show cI X.prog X.w H s.heap a (.lst xs) from I.hok a _ ea);exact PySem.W.kia_one PySem.W.kitx_list I.kIn ⟨_,h1,rfl⟩ e (fun z=>nomatch z) h
 | @frz a ob xs ea=>
  cases (show u=Value.ref a from rx);obtain⟨_,_,_,n,_,h1⟩:=(show cI X.prog X.w H s.heap a (.frz ob (.lst xs)) from I.hok a _ ea);exact PySem.W.kia_one PySem.W.kitx_list I.kIn ⟨_,h1,rfl⟩ e (fun z=>nomatch z) h
 | @tup a xs ea=>
  cases (show u=Value.ref a from rx);obtain⟨_,_,_,p⟩:=(show cI X.prog X.w H s.heap a (.tup xs) from I.hok a _ ea);obtain⟨o,h1,h2,_⟩:=p;exact PySem.W.kia_one PySem.W.kitx_tuple I.kIn ⟨o,h1,h2⟩ e (fun z=>nomatch z) h
 | @dK a kvs ea=>
  cases (show u=Value.ref a from rx);obtain⟨_,_,vs,_,p⟩:=(show cI X.prog X.w H s.heap a (.dK kvs) from I.hok a _ ea);obtain⟨o,es,ep,h1,h2,_⟩:=p;exact PySem.W.kia_one PySem.W.kitx_dict I.kIn ⟨o,h1,h2.1⟩ e (fun z=>nomatch z) h
 | @dT a kvs ea=>
  cases (show u=Value.ref a from rx);obtain⟨_,_,xs,_,o,es,ep,h1,h2,_⟩:=(show cI X.prog X.w H s.heap a (.dT kvs) from I.hok a _ ea);exact PySem.W.kia_one PySem.W.kitx_dict I.kIn ⟨o,h1,h2.1⟩ e (fun z=>nomatch z) h
 | @ins a C dx fs ea cl ha hn htk hm=>
  cases (show u=Value.ref a from rx);obtain⟨mA,O,_⟩:=oH I.hok ea;obtain⟨od,J,_⟩:=O.look;exact PySem.W.kia_one (PySem.W.kitx_own (cl.get _) cl.hd ha hn htk hm) I.kIn J e (fun z=>nomatch z) h
end
structure bJ (k:Nat) (A:Around):Prop where
 hd:A.handled=none
 dp:A.depth + 3 * k + 5 < recursionLimit
 un:A.units + 16 * k + 200 < cLine
 gd:A.guards=some []
theorem bJ.mono {j k:Nat} {A:Around} (r:bJ k A) (h:j<=k):bJ j A:=⟨r.hd,by have:=r.dp;omega,by have:=r.un;omega,r.gd⟩
theorem bJ.deeper {k:Nat} {A:Around} (r:bJ (k + 1) A) (env:Env):bJ k (A.deeper env):=
 ⟨r.hd,by have:=r.dp;show A.depth + 1 + 3 * k + 5 < _;omega,by have:=r.un;show A.units + 3 + 16 * k + 200 < _;omega,r.gd⟩
theorem v7 {A:Around} {C:Addr} {us:Lv} {kw:List (Str×Value)}:(A.under (.builtin "type.__call__" ⟨.ref C::us,kw⟩)).depth=A.depth + 1:=by
 first | rfl | simp [Around.under,Code.weight,Code.isCreation,Code.isGuard,Code.isCaller,Code.frames,Code.isFrame,guardIds]
theorem v5 {A:Around} {C:Addr} {us:Lv} {kw:List (Str×Value)}:(A.under (.builtin "type.__call__" ⟨.ref C::us,kw⟩)).units=A.units + 1:=by
 first | rfl | simp [Around.under,Code.cUnits,Code.frames,Code.isFrame]
theorem uW {A:Around} {C:Addr} {us:Lv} {kw:List (Str×Value)}:(A.under (.builtin "type.__call__" ⟨.ref C::us,kw⟩)).guards=A.guards:=by
 first | rfl | simp [Around.under,pushGuards,Code.guards,Code.isGuard,guardIds] | (cases A;simp [Around.under,pushGuards,Code.guards,Code.isGuard,guardIds])
theorem bJ.make {k:Nat} {A:Around} (r:bJ (k + 1) A) (C:Addr) (us:Lv) (kw:List (Str×Value)):bJ k (A.under (.builtin "type.__call__" ⟨.ref C::us,kw⟩)):=
 ⟨r.hd,by have:=r.dp;rw[v7];omega,by have:=r.un;rw[v5];omega,by have:=r.gd;rw[uW];exact this⟩
theorem bJ.depth {k:Nat} {A:Around} (r:bJ k A):A.depth < recursionLimit:=by have:=r.dp;omega
theorem bJ.units {k:Nat} {A:Around} (r:bJ k A):A.units + 64 < cLine:=by have:=r.un;omega
def nW:TA:=fun _ H Q=>Q [] H
def k9 (ta:TE) (tr:TA):TA:=fun σ H Q=>ta σ H fun x H1=>tr σ H1 fun xs H2=>Q (x::xs) H2
section
variable {X:Cx} {e:Expr} {es:List Expr} {te:TE} {t:TA} {pos:Pos}
theorem pC:PA X [] nW:=fun _ _ _ _ H Q I h=>Calls.spliced_nil ⟨[],H,I,.nil,h⟩
theorem jK (ha:PE X e te) (hr:PA X es t) (hs:starEach (e::es) X.env=(false,eval e X.env)::starEach es X.env:=by rfl):PA X (e::es) (k9 te t):=by
 intro pos pins s σ H Q I h;rw[hs];show wpAny _ _ (spliced ((false,eval e X.env)::backTo pos (starEach es X.env))) _ _ s;refine Calls.spliced_cons (thn (ha pins s σ H _ I h) fun u s1 ⟨x,H1,I1,r1,q1⟩=>?_);exact thn (hr pos pins s1 σ H1 _ I1 q1) fun us s2 ⟨xs,H2,I2,r2,q2⟩=>⟨x::xs,H2,I2,.cons r1 r2,q2⟩
def EB (t:TA):TE:=fun σ H Q=>t σ H fun xs H1=>xs.length<=sizeLine/\∀ p,H1 p=none->Q (.ref p) (upd H1 p (.tup xs))
def Hl (t:TA):TE:=fun σ H Q=>t σ H fun xs H1=>xs.length<=sizeLine/\∀ p,H1 p=none->Q (.ref p) (upd H1 p (.lst xs))
theorem zY {x1} (h:PA X es t):PE X (.Tuple es x1 pos) (EB t):=by
 intro pins s σ H Q I hq;refine wpAny_Tuple_spliced (thn (h pos pins s σ H _ I hq) fun us s1 ⟨xs,H1,I1,r,z,q⟩=>⟨by rw[<- r.length];exact z,?_⟩);have hf:H1 s1.heap.objs.size=none:=I1.hok.fresh (Nat.le_refl _);refine⟨.ref s1.heap.objs.size,upd H1 s1.heap.objs.size (.tup xs),I1.laid (t':=s1.toks) (fun b u e=>Heap.get?_push_of_some _ e) (Nat.le_refl _) ?_,rfl,q _ hf⟩;exact⟨z,us,r,⟨_,Heap.get?_push_size _ rfl,rfl,_,rfl⟩⟩
theorem Fm (h:PA X es t):PE X (.List es pos) (Hl t):=by
 intro pins s σ H Q I hq;refine wpAny_List_spliced (thn (h pos pins s σ H _ I hq) fun us s1 ⟨xs,H1,I1,r,z,q⟩=>⟨by rw[<- r.length];exact z,?_⟩);have hf:H1 s1.heap.objs.size=none:=I1.hok.fresh (Nat.le_refl _);refine⟨.ref s1.heap.objs.size,upd H1 s1.heap.objs.size (.lst xs),I1.laid (t':=s1.toks) (fun b u e=>Heap.get?_push_of_some _ e) (Nat.le_refl _) ?_,rfl,q _ hf⟩;exact⟨z,us,0,r,Heap.get?_push_size _ rfl⟩
end
abbrev Sp:=List V->Hp->VK->XK->Prop
abbrev CXT:=List Env->Hp->Shared->XK->Value->Shared->Prop
structure vt (P:Program) (w:World) (K:Fg0) (mg:SV) (base:Heap) (A:Around) (outer:List Env) (s:Shared) (H:Hp):Prop where
 frames:A.frames=some outer
 mod:Mod K mg base
 bs:∀ b o,base.get? b=some o->s.heap.get? b=some o/\Kpt H b o
 bsz:base.objs.size<=s.heap.objs.size
 kQ:s.heap.FunFrames base outer
 frf:∀ b∈frs outer,H b=none
 hok:HOk P w H s.heap
 bare:AllBare s.gens
 tb:TabsAt base H
def CE (outer:List Env) (P:Program) (w:World) (H:Hp) (s:Shared) (Q:VK) (u:Value) (s':Shared):Prop:=
 ∃ v H',s'.os=s.os/\AllBare s'.gens/\Un (frs outer) [] H H' s.heap s'.heap/\HOk P w H' s'.heap/\RelV v u/\Q v H'
def CR (CX:CXT) (outer:List Env) (P:Program) (w:World) (H:Hp) (s:Shared) (Q:VK) (E:XK) (r:Result) (s':Shared):Prop:=
 match r with
 | .ok (.ret u)=>CE outer P w H s Q u s'
 | .ok _=>False
 | .error e=>CX outer H s E e s'
structure aM (P:Program) (w:World) (K:Fg0) (mg:SV) (base:Heap) (CX:CXT) (k:Nat) (f:Addr) (fd:FuncData) (ps:Ls) (sp:Sp):Prop where
 len:∀ vs H Q E,sp vs H Q E->vs.length=ps.length
 run:∀ (A:Around) (outer:List Env) (s:Shared) (H:Hp) (args:Args) (us:Lv) (vs:List V) (Q:VK) (E:XK),bJ k A->vt P w K mg base A outer s H->BindsTo s fd args (ps.zip us)->Vals vs us->sp vs H Q E->
  codeAny (model P w) A (.call (.ref f) args) (CR CX outer P w H s Q E) s
theorem aM.imp {P:Program} {w:World} {K:Fg0} {mg:SV} {base:Heap} {CX:CXT} {k:Nat} {f:Addr} {fd:FuncData} {ps:Ls} {sp sp':Sp} (F:aM P w K mg base CX k f fd ps sp)
  (h:∀ vs H Q E,sp' vs H Q E->sp vs H Q E):aM P w K mg base CX k f fd ps sp':=
 ⟨fun vs H Q E q=>F.len vs H Q E (h _ _ _ _ q),fun A outer s H args us vs Q E hr he hb hv hs=>F.run A outer s H args us vs Q E hr he hb hv (h _ _ _ _ hs)⟩
theorem vt.make {P:Program} {w:World} {K:Fg0} {mg:SV} {base:Heap} {A:Around} {outer:List Env} {s:Shared} {H:Hp} (e:vt P w K mg base A outer s H) (C:Addr) (us:Lv) (kw:List (Str×Value)) :
  vt P w K mg base (A.under (.builtin "type.__call__" ⟨.ref C::us,kw⟩)) outer s H:=⟨by first | exact e.frames | (simpa [Around.under,Code.envs,Code.isFrame,pushEnvs] using e.frames),e.mod,e.bs,e.bsz,e.kQ,e.frf,e.hok,e.bare,e.tb⟩
section
variable {X:Cx} {pins:Pn} {σ:St} {H:Hp} {s s':Shared}
theorem Inv.Jr (I:Inv X pins σ H s):vt X.prog X.w X.K X.mg X.base X.A X.stack s H:=
 ⟨I.ok.frames,I.ok.mod,I.bs,Nat.le_trans I.ok.bsz I.sz,I.stack,I.oq,I.hok,I.bare,I.tb⟩
theorem Inv.after {Q:VK} {u:Value} (I:Inv X pins σ H s) (h:CE X.stack X.prog X.w H s Q u s'):EP X pins σ Q u s':=by
 obtain⟨v,H',os,bare,un,hok,r,q⟩:=h;obtain⟨hh,g,d,t,os'⟩:=s';obtain rfl:os'=s.os:=os;exact⟨v,H',I.call (h':=hh) (g':=g) (d':=d) (t':=t) (ch:=[]) un hok bare (fun b z=>absurd z (by simp)),r,q⟩
end
def ug (sp:Sp) (dvs:List V) (E:XK) (t:TA):TE:=fun σ H Q=>t σ H fun vs H1=>sp (vs++dvs) H1 Q E
def ue (C:Addr) (m:Str) (sp:Sp) (dvs:List V) (E:XK) (ta:TE) (t:TA):TE:=fun σ H Q=>ta σ H fun x H1=>∃ a dx fs,x=.ref a/\H1 a=some (.ins C dx fs)/\fs.lookup m=none/\
 t σ H1 fun vs H2=>sp (x::(vs++dvs)) H2 Q E
def zg (C:Addr) (sp:Sp) (dvs:List V) (E:XK) (t:TA):TE:=fun σ H Q=>t σ H fun vs H1=>∀ x dx,H1 x=none->H1 dx=none->dx≠x->
 sp (.ref x::(vs++dvs)) (upd (upd H1 dx (.own x)) x (.ins C dx [])) (fun v H2=>v=.non/\Q (.ref x) H2) E
def Binds (K:Fg0) (fd:FuncData) (ps:Ls) (ds:Lv):Prop:=
 ∀ (s:Shared) (us:Lv),K.In s.heap->(us++ds).length=ps.length->BindsTo s fd ⟨us,[]⟩ (ps.zip (us++ds))
theorem Binds.all {K:Fg0} {fd:FuncData} {ps:Ls} (h:∀ us:Lv,us.length=ps.length->bindArgs fd ⟨us,[]⟩=pure (ps.zip us)):Binds K fd ps []:=fun s us _ hl=>by
 rw[List.append_nil] at hl ⊢;exact .of_eq (h us hl)
def Passes (CX:CXT) (X:Cx) (E:XK):Prop:=∀ (pins:Pn) (σ:St) (H:Hp) (s:Shared) (e:Value) (s':Shared),Inv X pins σ H s->CX X.stack H s E e s'->X.xe e s'
section
variable {X:Cx} {CX:CXT} {k:Nat} {f C:Addr} {fd:FuncData} {ps:Ls} {sp:Sp} {dvs:List V} {ds:Lv} {E:XK} {x m:Str} {p pos apos:Pos} {e o:Expr} {es:List Expr} {ta:TE} {t:TA}
theorem mF {pins:Pn} {σ:St} {H:Hp} {s:Shared} {Q:VK} {us:Lv} {vs:List V} (F:aM X.prog X.w X.K X.mg X.base CX k f fd ps sp) (hr:bJ k X.A) (hb:Binds X.K fd ps ds) (hd:Vals dvs ds) (hx:Passes CX X E)
  (I:Inv X pins σ H s) (r:Vals vs us) (h:sp (vs++dvs) H Q E):wpAny (model X.prog X.w) X.A (call (.ref f) us) (EP X pins σ Q) X.xe s:=by
 have r2:Vals (vs++dvs) (us++ds):=r.append hd;have hl:(us++ds).length=ps.length:=by rw[<- r2.length];exact F.len _ _ _ _ h
 refine wpAny_call (codeAny_mono (F.run X.A X.stack s H ⟨us,[]⟩ (us++ds) (vs++dvs) Q E hr I.Jr (hb s us I.kIn hl) r2 h) fun r s' hq=>?_);cases r with
 | error e=>exact hx pins σ H s e s' I hq
 | ok fl=>
  cases fl with
  | ret u=>exact I.after hq
  | next=>exact False.elim hq
  | brk=>exact False.elim hq
  | cont=>exact False.elim hq
theorem Cm (F:aM X.prog X.w X.K X.mg X.base CX k f fd ps sp) (hr:bJ k X.A) (hg:Gl X x) (hm:X.mg x=some (.ref f)) (hk:PySem.W.keepIn X.K (.ref f)=true) (hb:Binds X.K fd ps ds) (hd:Vals dvs ds) (hx:Passes CX X E)
  (ha:PA X (e::es) t) (hdb:(x == ("__debug__":Str))=false:=by decide) (he:starEach (e::es) X.env=(false,eval e X.env)::starEach es X.env:=by rfl) (hpl:(backTo pos (starEach es X.env)).any (·.1)=false:=by rfl) :
  PE X (.Call (.Name x p) (e::es) [] pos) (ug sp dvs E t):=by
 intro pins s σ H Q I h;refine wpAny_Call_Name_kw (jP I hg hm ?_ hdb);refine PySem.W.callWith_K (h₀:=X.base) I.ok.mod.kin hk (thn (ha pos pins s σ H _ I h) fun us s1 ⟨vs,H1,I1,r,q⟩=>⟨I1.kIn,?_⟩) he hpl;exact mF F hr hb hd hx I1 r q
theorem Ac (F:aM X.prog X.w X.K X.mg X.base CX k f fd ps sp) (hr:bJ k X.A) (hg:Gl X x) (hm:X.mg x=some (.ref f)) (hk:PySem.W.keepIn X.K (.ref f)=true) (hb:Binds X.K fd ps ds) (hd:Vals dvs ds) (hx:Passes CX X E)
  (hdb:(x == ("__debug__":Str))=false:=by decide):PE X (.Call (.Name x p) [] [] pos) (ug sp dvs E nW):=by
 intro pins s σ H Q I h;refine wpAny_Call_Name_kw (jP I hg hm ?_ hdb);exact PySem.W.callWith_K0 I.kIn hk (mF (us:=[]) F hr hb hd hx I .nil h)
theorem Cg {pl:Sem Bool} (he:PE X o ta) (c:Cls X.K C) (hm:Meth X.K C m f) (F:aM X.prog X.w X.K X.mg X.base CX k f fd ps sp) (hr:bJ k X.A) (hb:Binds X.K fd ps ds) (hd:Vals dvs ds) (hx:Passes CX X E) (ha:PA X (e::es) t)
  (hst:starEach (e::es) X.env=(false,eval e X.env)::starEach es X.env:=by rfl) (hpl:(backTo pos (starEach es X.env)).any (·.1)=false:=by rfl)
  (ht:eval (.Call (.Attribute o m apos) (e::es) [] pos) X.env=(do
   let ov <- eval o X.env
   standAt apos.atName
   let (f,first) <- holding [ov] (getMethod ov m pl)
   callWith pos f first (backTo pos (starEach (e::es) X.env)) (backToKw pos (keywordEach [] X.env))):=by rfl) :
  PE X (.Call (.Attribute o m apos) (e::es) [] pos) (ue C m sp dvs E ta t):=by
 intro pins s σ H Q I h;refine PySem.W.methodCall_KW (pl:=pl) (thn (he pins s σ H _ I h) fun u s1 ⟨x,H1,I1,rx,a,dx,fs,ex,ea,l,q⟩=>?_) ht;subst ex;obtain rfl:u=Value.ref a:=rx;refine kO I1 ea c hm l ?_;refine PySem.W.callWith_K (first:=[.ref a]) (h₀:=X.base) I.ok.mod.kin hm.kp (thn (ha pos pins s1 σ H1 _ I1 q) fun us s2 ⟨vs,H2,I2,r,q2⟩=>⟨I2.kIn,?_⟩) hst hpl;exact mF (us:=.ref a::us) (vs:=.ref a::vs) F hr hb hd hx I2 (.cons rfl r) q2
theorem zZ {pl:Sem Bool} (he:PE X o ta) (c:Cls X.K C) (hm:Meth X.K C m f) (F:aM X.prog X.w X.K X.mg X.base CX k f fd ps sp) (hr:bJ k X.A) (hb:Binds X.K fd ps ds) (hd:Vals dvs ds) (hx:Passes CX X E)
  (ht:eval (.Call (.Attribute o m apos) [] [] pos) X.env=(do
   let ov <- eval o X.env
   standAt apos.atName
   let (f,first) <- holding [ov] (getMethod ov m pl)
   callWith pos f first (backTo pos (starEach [] X.env)) (backToKw pos (keywordEach [] X.env))):=by rfl) :
  PE X (.Call (.Attribute o m apos) [] [] pos) (ue C m sp dvs E ta nW):=by
 intro pins s σ H Q I h;refine PySem.W.methodCall_KW (pl:=pl) (thn (he pins s σ H _ I h) fun u s1 ⟨x,H1,I1,rx,a,dx,fs,ex,ea,l,q⟩=>?_) ht;subst ex;obtain rfl:u=Value.ref a:=rx;refine kO I1 ea c hm l ?_;exact PySem.W.callWith_K0 (first:=[.ref a]) I1.kIn hm.kp (mF (us:=[.ref a]) (vs:=[.ref a]) F hr hb hd hx I1 (.cons rfl .nil) q)
structure Mk (K:Fg0) (C f:Addr):Prop where
 makes:PySem.W.makesIn K C=true
 init:PySem.W.findIn K (.ref C) "__init__"=some (some (.ref f))
 fn:PySem.W.isFn K (.ref f)=true
 kp:PySem.W.keepIn K (.ref C)=true
theorem zx {pins:Pn} {σ:St} {H:Hp} {s:Shared} {Q:VK} {us:Lv} {vs:List V} (M:Mk X.K C f) (F:aM X.prog X.w X.K X.mg X.base CX k f fd ps sp) (hr:bJ (k + 1) X.A) (hb:Binds X.K fd ps ds) (hd:Vals dvs ds)
  (hx:Passes CX X E) (I:Inv X pins σ H s) (r:Vals vs us)
  (h:∀ x dx,H x=none->H dx=none->dx≠x->sp (.ref x::(vs++dvs)) (upd (upd H dx (.own x)) x (.ins C dx [])) (fun v H2=>v=.non/\Q (.ref x) H2) E) :
  wpAny (model X.prog X.w) X.A (call (.ref C) us) (EP X pins σ Q) X.xe s:=by
 have hq:=h (s.heap.objs.size + 1) s.heap.objs.size (I.hok.fresh (Nat.le_succ _)) (I.hok.fresh (Nat.le_refl _)) (Nat.ne_of_lt (Nat.lt_succ_self _));have I2:=Inv.made (C:=C) I;have r2:Vals (V.ref (s.heap.objs.size + 1)::(vs++dvs)) (Value.ref (s.heap.objs.size + 1)::(us++ds)):=.cons rfl (r.append hd);have hl:(Value.ref (s.heap.objs.size + 1)::us++ds).length=ps.length:=by
  have e:=r2.length;rw[F.len _ _ _ _ hq] at e;exact e.symm
 refine wpAny_call (Aq (f:=f) I.kIn M.makes M.init (beq_iff_eq.mp M.fn) (codeAny_mono (F.run _ X.stack _ _ ⟨Value.ref (s.heap.objs.size + 1)::us,[]⟩ (Value.ref (s.heap.objs.size + 1)::(us++ds)) _ _ E (hr.make C us [])
  (I2.Jr.make C us []) (hb _ (Value.ref (s.heap.objs.size + 1)::us) I2.kIn hl) r2 hq) fun r s' hq'=>?_))
 cases r with
 | error e=>exact hx pins σ _ _ e s' I2 hq'
 | ok fl=>
  cases fl with
  | ret u=>
   obtain⟨v,H',I3,rv,ev,q3⟩:=I2.after hq';subst ev;exact⟨rv,⟨V.ref (s.heap.objs.size + 1),H',I3,rfl,q3⟩⟩
  | next=>exact False.elim hq'
  | brk=>exact False.elim hq'
  | cont=>exact False.elim hq'
theorem Ci (M:Mk X.K C f) (F:aM X.prog X.w X.K X.mg X.base CX k f fd ps sp) (hr:bJ (k + 1) X.A) (hg:Gl X x) (hm:X.mg x=some (.ref C)) (hb:Binds X.K fd ps ds) (hd:Vals dvs ds) (hx:Passes CX X E)
  (ha:PA X (e::es) t) (hdb:(x == ("__debug__":Str))=false:=by decide) (he:starEach (e::es) X.env=(false,eval e X.env)::starEach es X.env:=by rfl) (hpl:(backTo pos (starEach es X.env)).any (·.1)=false:=by rfl) :
  PE X (.Call (.Name x p) (e::es) [] pos) (zg C sp dvs E t):=by
 intro pins s σ H Q I h;refine wpAny_Call_Name_kw (jP I hg hm ?_ hdb);refine PySem.W.callWith_K (h₀:=X.base) I.ok.mod.kin M.kp (thn (ha pos pins s σ H _ I h) fun us s1 ⟨vs,H1,I1,r,q⟩=>⟨I1.kIn,?_⟩) he hpl;exact zx M F hr hb hd hx I1 r q
end
section
variable {X:Cx} {CX:CXT} {k:Nat} {f C:Addr} {fd:FuncData} {ps ks:Ls} {sp:Sp} {E:XK} {x m:Str} {p pos apos kpos:Pos} {e o:Expr} {es:List Expr} {kws:List Keyword} {te ta:TE} {t tk:TA} {nm:Option Str}
variable {g:Lv->Lv->Lv} {gV:List V->List V->List V}
end
structure aC (N P:Ls) (sc:Scope):Prop where
 kind:sc.kind=.function
 co:sc.isCoroutine=false
 gen:sc.isGenerator=false
 nd:N.Nodup
 pre:N.take P.length=P
 par:∀ x∈P,sc.names.lookup x=some .local\/sc.names.lookup x=some .cell
 nofree:∀ y∈sc.names,y.2≠.free
theorem sd {kindOf:Str->Option NameKind} {x:Str}:∀ {binds:List (Str×Value)} {m:SV},(∀ v,(x,v)∉binds)->bindL kindOf binds m x=m x
 | [],_,_=>rfl
 | (n,v)::r,m,h=>by
  unfold bindL;rw[sd fun w hw=>h w (List.mem_cons_of_mem _ hw)];split
  ·have:x≠n:=by rintro rfl;exact h v List.mem_cons_self
   simp [this]
  ·rfl
theorem sf {kindOf:Str->Option NameKind} {x:Str}:∀ {binds:List (Str×Value)} {m:SV},(∀ v,(x,v)∉binds)->bindC kindOf binds m x=m x
 | [],_,_=>rfl
 | (n,v)::r,m,h=>by
  unfold bindC;rw[sf fun w hw=>h w (List.mem_cons_of_mem _ hw)];split
  ·rfl
  ·have:x≠n:=by rintro rfl;exact h v List.mem_cons_self
   simp [this]
theorem se {kindOf:Str->Option NameKind} {x:Str} {v:Value}:∀ {P:Ls} {vs:Lv} {i:Nat} {m:SV},P.Nodup->P[i]?=some x->vs[i]?=some v->kindOf x=some .local->
  bindL kindOf (P.zip vs) m x=some v
 | [],_,_,_,_,h,_,_=>by simp at h
 | _::_,[],_,_,_,_,h,_=>by simp at h
 | p::P,w::vs,0,m,nd,h1,h2,hk=>by
  simp at h1 h2;subst h1;subst h2;show bindL kindOf ((p,w)::P.zip vs) m p=_;unfold bindL;rw[sd fun v hv=>(List.nodup_cons.mp nd).1 (List.of_mem_zip hv).1,if_pos hk];simp
 | p::P,w::vs,i + 1,m,nd,h1,h2,hk=>by
  show bindL kindOf ((p,w)::P.zip vs) m x=_;unfold bindL;exact se (i:=i) (List.nodup_cons.mp nd).2 (by simpa using h1) (by simpa using h2) hk
theorem sg {kindOf:Str->Option NameKind} {x:Str} {v:Value}:∀ {P:Ls} {vs:Lv} {i:Nat} {m:SV},P.Nodup->P[i]?=some x->vs[i]?=some v->kindOf x≠some .local->
  bindC kindOf (P.zip vs) m x=some v
 | [],_,_,_,_,h,_,_=>by simp at h
 | _::_,[],_,_,_,_,h,_=>by simp at h
 | p::P,w::vs,0,m,nd,h1,h2,hk=>by
  simp at h1 h2;subst h1;subst h2;show bindC kindOf ((p,w)::P.zip vs) m p=_;unfold bindC;rw[sf fun v hv=>(List.nodup_cons.mp nd).1 (List.of_mem_zip hv).1,if_neg hk];simp
 | p::P,w::vs,i + 1,m,nd,h1,h2,hk=>by
  show bindC kindOf ((p,w)::P.zip vs) m x=_;unfold bindC;exact sg (i:=i) (List.nodup_cons.mp nd).2 (by simpa using h1) (by simpa using h2) hk
def start (N:Ls) (vs:List V):St:=vs.map some++List.replicate (N.length - vs.length) none
def vf (CX:CXT) (P:Program) (w:World) (K:Fg0) (mg:SV) (base:Heap) (N:Ls) (qual:Str) (scope:Scope) (f:Addr) (cd:Value) (A:Around) (outer:List Env) (s:Shared) (H:Hp) (E:XK):Cx where
 prog:=P
 w:=w
 K:=K
 mg:=mg
 base:=base
 A:=A.deeper (envOfC qual scope s.heap.objs.size f cd)
 N:=N
 s₀:=s
 H₀:=H
 env:=envOfC qual scope s.heap.objs.size f cd
 outer:=outer
 stack:=envOfC qual scope s.heap.objs.size f cd::outer
 ex:=[]
 calm:=true
 fn:=fun _=>true
 pn:=[]
 xe:=fun e s'=>wpAny (model P w) (A.deeper (envOfC qual scope s.heap.objs.size f cd)) (leaving (envOfC qual scope s.heap.objs.size f cd) e) (fun _ s''=>CX outer H s E e s'') (fun e' s''=>CX outer H s E e' s'') s'
theorem vh {sc:Scope} {n:Nat} {x:Str} (h:sc.names.lookup x=some .cell):∃ c,(cellsFrom n sc.names []).lookup x=some c:=by
 have q:=PySem.W.cellsFrom_some sc.names n [] (.inl h);exact Option.isSome_iff_exists.mp q
theorem yM {CX:CXT} {P:Program} {w:World} {K:Fg0} {mg:SV} {base:Heap} {N ps:Ls} {qual:Str} {scope:Scope} {f:Addr} {cd:Value} {A:Around} {outer:List Env} {s s1:Shared} {H:Hp} {E:XK} {us:Lv} {vs:List V}
  (S:aC N ps scope) (hd:A.handled=none) (e0:vt P w K mg base A outer s H) (hl:vs.length=ps.length) (r:Vals vs us)
  (x:InCallC s s.heap.objs.size (bindL (envOfC qual scope s.heap.objs.size f cd).kindOf (ps.zip us) fun _=>none) (cellsFrom (s.heap.objs.size + 1) scope.names []) (bindC (envOfC qual scope s.heap.objs.size f cd).kindOf (ps.zip us) fun _=>none) s1) :
  Inv (vf CX P w K mg base N qual scope f cd A outer s H E) [] (start N vs) H s1:=by
 have hpl:ps.length<=N.length:=by have:=congrArg List.length S.pre;rw[List.length_take] at this;omega
 obtain⟨h1,tk,rfl,hk⟩:=x.done;have noA:∀ b:Addr,b∉(vf CX P w K mg base N qual scope f cd A outer s H E).ex:=fun b z=>absurd (show b∈([]:La) from z) (by simp);refine⟨⟨e0.mod,S.kind,rfl,rfl,Nat.le_refl _,fun y z c h1 h2=>?_,fun y hy=>?_,fun y c _ h=>?_,fun _=>hd,Around.frames_deeper e0.frames,.inr ⟨rfl,rfl⟩,fun b z=>absurd z (noA b),e0.bs,e0.bsz,fun b _ _=>noA b,fun b z=>absurd z (noA b),e0.kQ,e0.frf,e0.tb⟩,
  rfl,e0.bare,Un.kept hk,⟨_,x.toInCall.ns,fun i y v h1 h2 h3=>?_⟩,fun y c h=>⟨_,x.cell y c h⟩,e0.hok.fresh (Nat.le_refl _),fun y c h=>?_,fun p hp=>absurd (show p∈([]:Pn) from hp) (by simp),e0.hok.kept hk,?_⟩
 ·exact name_of_addr x.apart (PySem.mem_of_lookup h1) (PySem.mem_of_lookup h2)
 ·have hy:scope.names.lookup y=some .cell\/scope.names.lookup y=some .free:=hy;rcases hy with hy | hy
  ·exact vh hy
  ·exact absurd rfl (S.nofree _ (PySem.mem_of_lookup hy))
 ·exact Nat.le_of_lt (x.above y c (PySem.mem_of_lookup h))
 ·have hi:i < vs.length:=by
   unfold start at h2;by_cases hi:i < vs.length
   ·exact hi
   ·rw[List.getElem?_append_right (by simpa using hi)] at h2;rw[List.getElem?_replicate] at h2;split at h2 <;> cases h2
  have ha:vs[i]?=some v:=by
   unfold start at h2;rw[List.getElem?_append_left (by simpa using hi),List.getElem?_map] at h2;cases e:vs[i]? with
   | none=>rw[e] at h2;cases h2
   | some a=>rw[e] at h2;cases h2;rfl
  obtain⟨u,hu,rv⟩:=r.get ha;have hp:ps[i]?=some y:=by
   rw[<- S.pre,List.getElem?_take_of_lt (by omega)];exact h1
  have ndP:ps.Nodup:=by rw[<- S.pre];exact S.nd.sublist (List.take_sublist _ _)
  refine⟨u,rv,?_⟩;rcases S.par y (List.mem_of_getElem? hp) with k | k
  ·exact .inl ⟨k,se ndP hp hu k⟩
  ·obtain⟨c,e⟩:=vh (n:=s.heap.objs.size + 1) k;refine .inr ⟨.inl k,c,e,?_⟩;have q:=x.cell y c e;rw[sg ndP hp hu (by show scope.names.lookup y≠_;rw[k];decide)] at q;exact q
 ·exact e0.hok.fresh (Nat.le_of_lt (x.above y c (PySem.mem_of_lookup h)))
 ·unfold start;show _=N.length;rw[List.length_append,lM0,List.length_replicate];omega
theorem D9 {CX:CXT} {P:Program} {w:World} {K:Fg0} {mg:SV} {base:Heap} {k:Nat} {f:Addr} {name qual:Str} {params:Arguments} {body:List Stmt} {scope:Scope} {dV kV doc pm cdv ct oc:Value} {an od:Option Addr}
  {osl:Array (Option Value)} {N ps:Ls} {sp:Sp} (lk:K.lookup f=some ⟨oc,od,.func (PySem.W.fnOf name qual params body scope dV kV doc pm an cdv ct),osl⟩) (hcd:PySem.W.codeIn K cdv qual=true) (S:aC N ps scope)
  (len:∀ vs H Q E,sp vs H Q E->vs.length=ps.length)
  (hbody:∀ (A:Around) (outer:List Env) (s:Shared) (H:Hp) (vs:List V) (Q:VK) (E:XK),bJ k (A.deeper (envOfC qual scope s.heap.objs.size f cdv))->sp vs H Q E->
   ∃ t,PSs (vf CX P w K mg base N qual scope f cdv A outer s H E) body t/\t { nx:=fun _ H'=>Q .non H',rt:=Q } (start N vs) H) :
  aM P w K mg base CX (k + 1) f (PySem.W.fnOf name qual params body scope dV kV doc pm an cdv ct) ps sp:=by
 refine⟨len,fun A outer s H args us vs Q E hr e0 hb r hsp=>?_⟩;have hl:=len _ _ _ _ hsp;have KX:K.In s.heap:=e0.mod.kin.keeps fun b o e=>(e0.bs b o e).1;have lim:s.heap.NoLimit:=e0.mod.nolimit.keeps fun b o e=>(e0.bs b o e).1;have hkind:∀ y∈ps.zip us,scope.names.lookup y.1=some .local\/(scope.names.lookup y.1=some .cell/\((cellsFrom (s.heap.objs.size + 1) scope.names []).lookup y.1).isSome=true):=fun ⟨n,v⟩ hy=>by
  rcases S.par n (List.of_mem_zip hy).1 with q | q
  ·exact .inl q
  ·exact .inr ⟨q,PySem.W.cellsFrom_some _ _ _ (.inl q)⟩
 refine codeAny_call_function hr.depth (KX _ _ lk) rfl S.co S.gen rfl (PySem.W.codeRec_of KX hcd) (hb _ _ _ _ ?_);refine wpAny_newFunctionEnv_cells S.kind hkind fun env he s1 x=>?_;subst he;refine⟨lim.keeps x.toInCall.keep,codeAny_func ?_⟩;obtain⟨t,ht,hq⟩:=hbody A outer s H vs Q E (hr.deeper _) hsp;have I:Inv (vf CX P w K mg base N qual scope f cdv A outer s H E) [] (start N vs) H s1:=yM S hr.hd e0 hl r x;refine wpAny_mono (ht [] s1 (start N vs) H _ I hq) (fun fl s' hs=>?_) fun e s' hs=>hs;have fin:∀ {σ':St} {H':Hp} {v:V} {u:Value},Inv (vf CX P w K mg base N qual scope f cdv A outer s H E) [] σ' H' s'->RelV v u->Q v H'->CE outer P w H s Q u s':=
  fun {σ' H' v u} J rv q=>⟨v,H',J.os,J.bare,J.base,J.hok,rv,q⟩
 cases fl with
 | ret u=>
  obtain⟨v,σ',H',J,rv,q⟩:=hs;exact fin J rv q
 | next=>
  obtain⟨σ',H',J,q⟩:=hs;exact fin (v:=V.non) (u:=Value.none) J rfl q
 | brk=>
  obtain⟨_,_,_,q⟩:=hs;exact False.elim q
 | cont=>
  obtain⟨_,_,_,q⟩:=hs;exact False.elim q
section
variable {X:Cx} {x:Str} {p pos:Pos} {e:Expr} {es:List Expr} {t:TA} {id T:String} {r:List V->Hp->VK->Prop}
def tCB (r:List V->Hp->VK->Prop) (t:TA):TE:=fun σ H Q=>t σ H fun vs H1=>r vs H1 Q
theorem Aa (hc:cj X (.builtin id) r) (hg:Gl X x) (hm:X.mg x=none) (hv:bootBuiltins x=some (.builtin id)) (ha:PA X (e::es) t) (hn:x≠"__name__":=by decide) (hdb:(x == ("__debug__":Str))=false:=by decide)
  (he:starEach (e::es) X.env=(false,eval e X.env)::starEach es X.env:=by rfl) (hpl:(backTo pos (starEach es X.env)).any (·.1)=false:=by rfl):PE X (.Call (.Name x p) (e::es) [] pos) (tCB r t):=by
 intro pins s σ H Q I h;refine wpAny_Call_Name_kw (dD I hg hm hv ?_ hn hdb);exact PyProof.Rows.callWith_builtin1 (thn (ha pos pins s σ H _ I h) fun us s1 ⟨vs,H1,I1,r1,q1⟩=>hc pins s1 σ H1 vs us Q I1 r1 q1) he hpl
theorem yw (hc:cj X (.type T) r) (hg:Gl X x) (hm:X.mg x=none) (hv:bootBuiltins x=some (.type T)) (ha:PA X (e::es) t) (hn:x≠"__name__":=by decide) (hdb:(x == ("__debug__":Str))=false:=by decide)
  (he:starEach (e::es) X.env=(false,eval e X.env)::starEach es X.env:=by rfl) (hpl:(backTo pos (starEach es X.env)).any (·.1)=false:=by rfl):PE X (.Call (.Name x p) (e::es) [] pos) (tCB r t):=by
 intro pins s σ H Q I h;refine wpAny_Call_Name_kw (dD I hg hm hv ?_ hn hdb);exact PyProof.Rows.callWith_type1 (thn (ha pos pins s σ H _ I h) fun us s1 ⟨vs,H1,I1,r1,q1⟩=>hc pins s1 σ H1 vs us Q I1 r1 q1) he hpl
end
end L2
namespace HT
open PySem PyProof.Rows
section
open PySem.SeqAt
open PySem.AutoSeq1 (wpAny_loadPart')
open PySem.MeetsSeq PySem.MeetsSeq2 PySem.MeetsSeq3
end
section
variable {prog:Program} {w:World} {A:Around} {E:VS} {s:Shared}
def sIx (n d:Nat):Option Int->Nat
 | none=>d
 | some v=>if v < 0 then (v + (n:Int)).toNat else min v.toNat n
theorem um (n d:Nat):sIx n d none=d:=rfl
theorem w5 (n d k:Nat):sIx n d (some (k:Int))=min k n:=by
 show (if (k:Int) < 0 then ((k:Int) + (n:Int)).toNat else min (k:Int).toNat n)=min k n;rw[if_neg (by omega),Int.toNat_natCast]
theorem ER (n d:Nat) (hd:d<=n) (o:Option Int):sIx n d o<=n:=by
 cases o with
 | none=>exact hd
 | some v=>
  show (if v < 0 then (v + (n:Int)).toNat else min v.toNat n)<=n;by_cases hv:v < 0
  ·rw[if_pos hv];omega
  ·rw[if_neg hv];exact Nat.min_le_right _ _
theorem xN (v:Int) (n d:Nat):(if v < 0 then max (v + (n:Int)) 0 else min v (n:Int))=((sIx n d (some v):Nat):Int):=by
 show (if v < 0 then max (v + (n:Int)) 0 else min v (n:Int))=(((if v < 0 then (v + (n:Int)).toNat else min v.toNat n):Nat):Int);by_cases hv:v < 0
 ·simp only[if_pos hv];omega
 ·simp only[if_neg hv];omega
theorem wO (lo hi:Option Int) (n:Nat):Builtin.Slice.sliceAdjust lo hi 1 (n:Int)=(((sIx n 0 lo:Nat):Int),((sIx n n hi:Nat):Int)):=by
 have h1:¬ ((1:Int) < 0):=by omega
 unfold Builtin.Slice.sliceAdjust;simp only[h1,if_false];refine Prod.ext ?_ ?_
 ·cases lo with
  | none=>rfl
  | some v=>exact xN v n 0
 ·cases hi with
  | none=>rfl
  | some v=>exact xN v n n
theorem vL (i j:Nat):Builtin.Slice.slicePlaces (i:Int) (j:Int) 1=j - i:=by
 unfold Builtin.Slice.slicePlaces;have h1:(1:Int) > 0:=by omega
 simp only[h1,if_true,Int.ediv_one];split <;> omega
theorem oY {v:Value} {o:Option Int} {Q:Option Int->Shared->Prop} (p:IsPart v o) (h:Q o s):wpAny (model prog w) A (Builtin.Slice.slicePartIndex v) Q E s:=by
 cases p with
 | none=>exact slicePart_none h
 | int i t=>exact slicePart_int h
theorem my {sl:Addr} {vl vu:Value} {lo hi:Option Int} {n:Nat} {Q:Int×Int×Nat->Shared->Prop} (hs:s.heap.IsSliceOf sl vl vu .none) (pl:IsPart vl lo) (pu:IsPart vu hi)
  (h:Q (((sIx n 0 lo:Nat):Int),1,sIx n n hi - sIx n 0 lo) s):wpAny (model prog w) A (Builtin.Slice.sliceApplied (.ref sl) (pure (n:Int))) Q E s:=by
 obtain⟨os,hos,hcs,hds⟩:=id hs;unfold Builtin.Slice.sliceApplied Builtin.Slice.sliceFields;refine wpAny_bind (wpAny_bind (wpAny_field hos hds (x:=vl) rfl (wpAny_bind (wpAny_field hos hds (x:=vu) rfl (wpAny_bind (wpAny_field hos hds (x:=.none) rfl (wpAny_pure ?_)))))));refine wpAny_bind (slicePart_none ?_);show wpAny _ _ (if ((1:Int) == 0)=true then _ else _) _ _ s;rw[if_neg (by decide)];refine wpAny_bind (oY pl (wpAny_bind (oY pu (wpAny_bind (wpAny_pure ?_)))));show wpAny _ _ (match Builtin.Slice.sliceAdjust lo hi 1 (n:Int) with | (lo,hi)=>pure (lo,(1:Int),Builtin.Slice.slicePlaces lo hi 1)) _ _ s;rw[wO lo hi n];show wpAny _ _ (pure (((sIx n 0 lo:Nat):Int),(1:Int),Builtin.Slice.slicePlaces ((sIx n 0 lo:Nat):Int) ((sIx n n hi:Nat):Int) 1)) _ _ s;rw[vL];exact wpAny_pure h
theorem zW (xs:Array Value) (i k:Nat):((List.range k).filterMap fun (m:Nat)=>xs[((i:Int) + (m:Int) * 1).toNat]?).toArray=((xs.toList.drop i).take k).toArray:=by
 have e:(fun (m:Nat)=>xs[((i:Int) + (m:Int) * 1).toNat]?)=fun m=>xs[i + m]?:=by
  funext m
  have:((i:Int) + (m:Int) * 1).toNat=i + m:=by omega
  rw[this]
 rw[e];have:=pick_run xs i k;rw[List.filterMap_map] at this;have e2:((fun x=>xs[x]?) ∘ fun x=>i + x)=fun m=>xs[i + m]?:=rfl;rw[e2] at this;rw[this]
theorem lP {t sl:Addr} {items:Array Value} {vl vu:Value} {lo hi:Option Int} {Q:VS} (ht:IsTup s.heap t items) (hs:s.heap.IsSliceOf sl vl vu .none) (pl:IsPart vl lo) (pu:IsPart vu hi)
  (hw:¬ (sIx items.size 0 lo=0/\sIx items.size items.size hi=items.size))
  (h:Q (.ref s.heap.objs.size) { s with heap:=s.heap.push { cls:=.type "tuple",data:=.seq ((items.toList.drop (sIx items.size 0 lo)).take (sIx items.size items.size hi - sIx items.size 0 lo)).toArray } })
  (hsz:items.size<=sizeLine):wpAny (model prog w) A (getItem (.ref t) (.ref sl)) Q E s:=by
 have htake:sizeOk (.seq ((items.toList.drop (sIx items.size 0 lo)).take (sIx items.size items.size hi - sIx items.size 0 lo)).toArray):=by
  show ((items.toList.drop (sIx items.size 0 lo)).take (sIx items.size items.size hi - sIx items.size 0 lo)).toArray.size<=sizeLine;rw[List.size_toArray,List.length_take,List.length_drop,Array.length_toList];omega
 have hj:sIx items.size items.size hi<=items.size:=ER _ _ (Nat.le_refl _) hi;obtain⟨os,hos,hcs,hds⟩:=id hs;have hTs:s.TypeIs (.ref sl) "slice":=⟨os,hos,hcs⟩;unfold getItem
 try with_reducible refine wpAny_holding ?_
 first | refine wpAny_bind (wpAny_pure ?_) | skip
 refine wpAny_bind (wpAny_sequenceKey ht.typeIs (by decide) ?_);refine wpAny_bind (wpAny_callSpecial?_slot (name:=Str.ofString "__getitem__") ht.typeIs PyProof.Rows.slot_tuple_getitem
  (wpAny_call_entry PyProof.Rows.slot_tuple_getitem ht.typeIs entry_tuple_getitem ?_ (args_tuple_getitem _ _)))
 show wpAny _ _ (Builtin.Tuple.tupleItemsOf (.ref t) >>= _) _ _ s;refine wpAny_bind (tupleItemsOf_ ht ?_);refine wpAny_bind (wpAny_typeOf hTs ?_);rw[if_pos (by decide)];refine wpAny_bind (my hs pl pu ?_);have hno:¬ ((((sIx items.size 0 lo:Nat):Int) == 0 && (1:Int) == 1 && (sIx items.size items.size hi - sIx items.size 0 lo) == items.size)=true):=by
  intro q;rw[Bool.and_eq_true,Bool.and_eq_true] at q;have q1:((sIx items.size 0 lo:Nat):Int)=0:=eq_of_beq q.1.1;have q2:sIx items.size items.size hi - sIx items.size 0 lo=items.size:=eq_of_beq q.2;exact hw ⟨by omega,by omega⟩
 show wpAny _ _ (if (((sIx items.size 0 lo:Nat):Int) == 0 && (1:Int) == 1 && (sIx items.size items.size hi - sIx items.size 0 lo) == items.size)=true then _ else _) _ _ s;rw[if_neg hno,zW]
 first
  | exact wpAny_bind (m:=Builtin.Tuple.tupleExact _) (wpAny_newObj_type (wpAny_pure ⟨_,rfl,wpAny_pure h⟩) htake)
  | exact wpAny_bind (m:=Builtin.Tuple.tupleExact _) (wpAny_newObj_type (wpAny_bind (wpAny_pure (wpAny_pure ⟨_,rfl,wpAny_pure h⟩))) htake)
  | exact wpAny_bind (wpAny_bind (m:=Builtin.Tuple.tupleExact _) (wpAny_newObj_type (wpAny_pure (wpAny_pure ⟨_,rfl,wpAny_pure h⟩)) htake))
  | exact wpAny_bind (wpAny_bind (m:=Builtin.Tuple.tupleExact _) (wpAny_newObj_type (wpAny_pure ⟨_,rfl,wpAny_pure h⟩) htake))
end
end HT
namespace L2
open PySem PySem.Spec PyProof.Rows
abbrev TO:=St->Hp->(Option Int->Hp->Prop)->Prop
def PO (X:Cx) (e:Option Expr) (t:TO):Prop:=
 ∀ (pins:Pn) (s:Shared) (σ:St) (H:Hp) (Q:Option Int->Hp->Prop),Inv X pins σ H s->t σ H Q->
  wpAny (model X.prog X.w) X.A (evalPart e X.env) (fun u s'=>∃ o H',Inv X pins σ H' s'/\IsPart u o/\Q o H') X.xe s
def wW:TO:=fun _ H Q=>Q none H
def Dv (t:TE):TO:=fun σ H Q=>t σ H fun x H1=>∃ i,x=.int i/\Q (some i) H1
section
variable {X:Cx} {e:Expr} {te:TE} {lo hi:Option Expr} {tl th:TO} {pos p2:Pos}
theorem Cb:PO X none wW:=by
 intro pins s σ H Q I h;rw[evalPart_none];exact wpAny_pure ⟨none,H,I,.none,h⟩
theorem Ca (h:PE X e te):PO X (some e) (Dv te):=by
 intro pins s σ H Q I hw;rw[evalPart_some];refine thn (h pins s σ H _ I hw) fun u s1 ⟨x,H1,I1,r1,q1⟩=>?_;obtain⟨i,rfl,q⟩:=q1;obtain⟨t,rfl⟩:=r1;exact⟨some i,H1,I1,.int i t,q⟩
def SlR (X:Cx) (r:V->Option Int->Option Int->Hp->VK->Prop):Prop:=
 ∀ (pins:Pn) (s:Shared) (σ:St) (H:Hp) (x:V) (v vl vu:Value) (lo hi:Option Int) (sl:Addr) (Q:VK),Inv X pins σ H s->RelV x v->s.heap.IsSliceOf sl vl vu .none->IsPart vl lo->IsPart vu hi->r x lo hi H Q->
  ∃ T id,typeLookup (.type T) "__getitem__"=pure (some (.builtin id))/\s.TypeIs v T/\wpAny (model X.prog X.w) X.A (getItem v (.ref sl)) (EP X pins σ Q) X.xe s
def tSl (r:V->Option Int->Option Int->Hp->VK->Prop) (te:TE) (tl th:TO):TE:=fun σ H Q=>te σ H fun x H1=>tl σ H1 fun l H2=>th σ H2 fun u H3=>r x l u H3 Q
theorem uD {r:V->Option Int->Option Int->Hp->VK->Prop} (hr:SlR X r) (he:PE X e te) (hl:PO X lo tl) (hu:PO X hi th):PE X (.Subscript e (.Slice lo hi none p2) pos) (tSl r te tl th):=by
 intro pins s σ H Q I h;refine Subscript_ (thn (he pins s σ H _ I h) fun v s1 ⟨x,H1,I1,r1,q1⟩=>?_);refine wpAny_Slice (thn (hl pins s1 σ H1 _ I1 q1) fun vl s2 ⟨l,H2,I2,pl,q2⟩=>thn (hu pins s2 σ H2 _ I2 q2) fun vu s3 ⟨u,H3,I3,pu,q3⟩=>?_);rw[evalPart_none];refine wpAny_pure ?_;have I4:Inv X pins σ H3 { s3 with heap:=s3.heap.push { cls:=.type "slice",data:=.fields #[vl,vu,.none] } }:=I3.kept (t':=s3.toks) fun b ob q=>Heap.get?_push_of_some _ q;obtain⟨T,id,hT,ht,hg⟩:=hr pins { s3 with heap:=s3.heap.push { cls:=.type "slice",data:=.fields #[vl,vu,.none] } } σ H3 x v vl vu l u s3.heap.objs.size Q I4 r1 (Heap.IsSliceOf.new ..) pl pu q3;show wpAny (model X.prog X.w) X.A (subscriptTail e (.Slice lo hi none p2) v (.ref s3.heap.objs.size)) (EP X pins σ Q) X.xe { s3 with heap:=s3.heap.push { cls:=.type "slice",data:=.fields #[vl,vu,.none] } };exact tail_any (ops:=[.ref s3.heap.objs.size,v]) ht hT hg (by with_unfolding_all rfl)
def qT (xs:List V) (lo hi:Option Int):List V:=(xs.drop (HT.sIx xs.length 0 lo)).take (HT.sIx xs.length xs.length hi - HT.sIx xs.length 0 lo)
theorem nK (xs:List V) (lo hi:Option Int):(qT xs lo hi).length<=xs.length:=by
 unfold qT;rw[List.length_take,List.length_drop];omega
def HD (K:Fg0):V->Option Int->Option Int->Hp->VK->Prop:=fun x lo hi H Q=>∃ a xs,x=.ref a/\SqT K H a xs/\
 ¬ (HT.sIx xs.length 0 lo=0/\HT.sIx xs.length xs.length hi=xs.length)/\∀ p,H p=none->Q (.ref p) (upd H p (.tup (qT xs lo hi)))
theorem EK:SlR X (HD X.K):=by
 intro pins s σ H x v vl vu lo hi sl Q I rx hs pl pu h;obtain⟨a,xs,rfl,hx,hw,q⟩:=h;cases rx;obtain⟨its,r,ht,hz⟩:=I.tuple hx;have hlen:its.toArray.size=xs.length:=by rw[List.size_toArray];exact r.length.symm
 refine⟨"tuple",_,PyProof.Rows.slot_tuple_getitem.lookup,ht.typeIs,?_⟩;refine HT.lP ht hs pl pu (by rw[hlen];exact hw) ?_ (by rw[hlen];exact hz);rw[hlen];refine⟨.ref s.heap.objs.size,_,I.laid (t':=s.toks) (o:=.tup (qT xs lo hi)) (fun b ob q=>Heap.get?_push_of_some _ q) (Nat.le_refl _) ?_,rfl,q _ (I.hok.fresh (Nat.le_refl _))⟩;exact⟨Nat.le_trans (nK xs lo hi) hz,_,(r.drop (HT.sIx xs.length 0 lo)).take (HT.sIx xs.length xs.length hi - HT.sIx xs.length 0 lo),IsTup.new _ _⟩
end
def ixN (n:Nat) (i:Int):Option Nat:=if 0<=i then (if i < n then some i.toNat else none) else if -(n:Int)<=i then some (i + n).toNat else none
def atI {α:Type} (xs:List α) (i:Int):Option α:=(ixN xs.length i).bind fun j=>xs[j]?
theorem xx {n:Nat} {i:Int} {j:Nat} (h:ixN n i=some j):seqIndex? i n=some j/\j < n/\-(n:Int)<=i/\i < n:=by
 unfold ixN at h;by_cases h0:0<=i
 ·rw[if_pos h0] at h;by_cases h1:i < n
  ·rw[if_pos h1] at h;have e:i.toNat=j:=Option.some.inj h;exact⟨by rw[seqIndex_of h0 h1,e],by omega,by omega,h1⟩
  ·rw[if_neg h1] at h;cases h
 ·rw[if_neg h0] at h;by_cases h1:-(n:Int)<=i
  ·rw[if_pos h1] at h;have e:(i + n).toNat=j:=Option.some.inj h;exact⟨by rw[seqIndex_neg (by omega) h1,e],by omega,h1,by omega⟩
  ·rw[if_neg h1] at h;cases h
theorem t6 {α:Type} {xs:List α} {i:Int} {v:α} (h:atI xs i=some v):∃ j,seqIndex? i xs.length=some j/\xs[j]?=some v/\j < xs.length/\-(xs.length:Int)<=i/\i < xs.length:=by
 unfold atI at h;cases e:ixN xs.length i with
 | none=>rw[e] at h;cases h
 | some j=>
  rw[e] at h;obtain⟨h1,h2,h3,h4⟩:=xx e;exact⟨j,h1,h,h2,h3,h4⟩
theorem Dh {α:Type} {xs:List α} {j:Nat} {v:α} (h:xs[j]?=some v):atI xs (j:Int)=some v:=by
 have hj:j < xs.length:=(gS0 h).1;have e:ixN xs.length (j:Int)=some j:=by
  unfold ixN;rw[if_pos (by omega),if_pos (by omega)];simp
 unfold atI;rw[e];exact h
def xW (b:Expr):Prop:=∀ o i,subscripted b false o i=operate [o,i] (getItem o i)
def IxR (X:Cx) (r:R2):Prop:=
 ∀ (value slice:Expr) (pins:Pn) (s:Shared) (σ:St) (H:Hp) (x y:V) (v u:Value) (Q:VK),Inv X pins σ H s->RelV x v->RelV y u->r x y H Q->
  subscripted slice false v u=operate [v,u] (getItem v u)->wpAny (model X.prog X.w) X.A (subscriptTail value slice v u) (EP X pins σ Q) X.xe s
def MtR (X:Cx) (id:String) (r:V->List V->Hp->VK->Prop):Prop:=
 ∀ (pins:Pn) (s:Shared) (σ:St) (H:Hp) (x:V) (xs:List V) (v:Value) (us:Lv) (Q:VK),Inv X pins σ H s->RelV x v->Vals xs us->r x xs H Q->
  wpAny (model X.prog X.w) X.A (call (.builtin id) (v::us)) (EP X pins σ Q) X.xe s
section
variable {X:Cx} {a b:Expr} {ta tb:TE} {pos:Pos}
theorem IxR.or {r r':R2} (h:IxR X r) (h':IxR X r'):IxR X (fun x y H Q=>r x y H Q\/r' x y H Q):=by
 intro value slice pins s σ H x y v u Q I rx ry q hs;rcases q with q | q
 ·exact h value slice pins s σ H x y v u Q I rx ry q hs
 ·exact h' value slice pins s σ H x y v u Q I rx ry q hs
theorem HW {r:R2} (hr:IxR X r) (ha:PE X a ta) (hb:PE X b tb) (hs:xW b):PE X (.Subscript a b pos) (tOp r ta tb):=by
 intro pins s σ H Q I h;exact Subscript_ (GX ha hb I h fun v u s2 x y H2 I2 rx ry q=>hr a b pins s2 σ H2 x y v u Q I2 rx ry q (hs _ _))
def HH (K:Fg0):R2:=fun x y H Q=>∃ p xs i v,x=.ref p/\y=.int i/\SqL K H p xs/\atI xs i=some v/\Q v H
def HF (K:Fg0):R2:=fun x y H Q=>∃ p xs i v,x=.ref p/\y=.int i/\SqT K H p xs/\atI xs i=some v/\Q v H
def HG:R2:=fun x y H Q=>∃ z i c,x=.str z/\y=.int i/\z.length<=sizeLine/\atI z.cps.toList i=some c/\Q (.str ⟨#[c]⟩) H
theorem CO:IxR X (HH X.K):=by
 intro value slice pins s σ H x y v u Q I rx ry h hs;obtain⟨p,xs,i,z,rfl,rfl,hq,he,q⟩:=h;cases rx;obtain⟨t,rfl⟩:=ry;obtain⟨its,r,pl,hz⟩:=I.list hq;obtain⟨j,h1,h2,h3,h4,h5⟩:=t6 he;obtain⟨w,ew,rw'⟩:=r.get h2;have hl:=r.length;have hn:=mQ;have fin:EP X pins σ Q w s:=⟨z,H,I,rw',q⟩;by_cases h0:0<=i
 ·have hj:i.toNat=j:=by
   rw[seqIndex_of h0 h5] at h1;exact Option.some.inj h1
  exact item_listR pl.isList h0 (by omega) (by rw[hj];simpa using ew) fin hs
 ·have hj:(i + (its.toArray.size:Int)).toNat=j:=by
   rw[seqIndex_neg (by omega) h4] at h1;rw[List.size_toArray,<- hl];exact Option.some.inj h1
  exact subscriptTail_builtinR (x:=w) pl.isList.typeIs slot_list_getitem.lookup
   (wpAny_getItem_list_neg (Q:=fun r s'=>r=w/\EP X pins σ Q r s') pl.isList (by omega) (by rw[List.size_toArray] <;> omega) (by omega) (by rw[hj];simpa using ew) ⟨rfl,fin⟩) hs
theorem Gf:IxR X (HF X.K):=by
 intro value slice pins s σ H x y v u Q I rx ry h hs;obtain⟨p,xs,i,z,rfl,rfl,hq,he,q⟩:=h;cases rx;obtain⟨t,rfl⟩:=ry;obtain⟨its,r,pl,hz⟩:=I.tuple hq;obtain⟨j,h1,h2,h3,h4,h5⟩:=t6 he;obtain⟨w,ew,rw'⟩:=r.get h2;have hl:=r.length;have hn:=mQ;have fin:EP X pins σ Q w s:=⟨z,H,I,rw',q⟩;exact subscriptTail_builtinR (x:=w) pl.typeIs slot_tuple_getitem.lookup
  (getItem_tuple (j:=j) (Q:=fun r s'=>r=w/\EP X pins σ Q r s') pl (by omega) (by omega) (by rw[List.size_toArray,<- hl];exact h1) (by simpa using ew) ⟨rfl,fin⟩) hs
theorem Gg:IxR X HG:=by
 intro value slice pins s σ H x y v u Q I rx ry h hs;obtain⟨z,i,c,rfl,rfl,hz,he,q⟩:=h;obtain⟨t,rfl⟩:=rx;obtain⟨t',rfl⟩:=ry;obtain⟨j,h1,h2,h3,h4,h5⟩:=t6 he;have hl:z.cps.toList.length=z.length:=by simp [Str.length]
 rw[hl] at h1 h4 h5;have hn:=mQ;exact tail_any (typeIs_str s z t) slot_str_getitem.lookup (getItem_str (c:=c) (by
  have e1:decide (i < -(2 ^ 63:Int))=false:=decide_eq_false (by omega);have e2:decide (i≥2 ^ 63)=false:=decide_eq_false (by omega);rw[e1,e2,Bool.or_false]) (by rw[h1];simpa using h2) ⟨.str ⟨#[c]⟩,H,I.tok _,⟨_,rfl⟩,q⟩) hs
def rIx (K:Fg0):R2:=fun x y H Q=>HH K x y H Q\/HF K x y H Q\/HG x y H Q
theorem Gh:IxR X (rIx X.K):=CO.or (Gf.or Gg)
theorem vZ (its:Lv) (n j:Nat) (u:Value):Obj.mapSeq (·.setIfInBounds j u) { cls:=.type "list",data:=.seq its.toArray n }={ cls:=.type "list",data:=.seq (its.set j u).toArray n }:=by
 simp [Obj.mapSeq]
theorem Inv.lst {pins:Pn} {σ:St} {H:Hp} {s:Shared} {p:Addr} {xs:List V} (I:Inv X pins σ H s) (h:H p=some (.lst xs)) :
  ∃ (its:Lv) (n:Nat),Vals xs its/\s.heap.get? p=some { cls:=.type "list",data:=.seq its.toArray n }/\xs.length<=sizeLine:=by
 obtain⟨z,its,n,r,e⟩:=I.hok p _ h;exact⟨its,n,r,e,z⟩
theorem Inv.FT {pins:Pn} {σ:St} {H:Hp} {s:Shared} {p:Addr} {xs ys:List V} {its its':Lv} {n n':Nat} {f:Obj->Obj} (I:Inv X pins σ H s) (h:H p=some (.lst xs))
  (ho:s.heap.get? p=some { cls:=.type "list",data:=.seq its.toArray n }) (hf:f { cls:=.type "list",data:=.seq its.toArray n }={ cls:=.type "list",data:=.seq its'.toArray n' }) (r:Vals ys its') (hz:ys.length<=sizeLine) (t:Nat) :
  Inv X pins σ (upd H p (.lst ys)) { s with heap:=s.heap.update p f,toks:=t }:=by
 have e:(s.heap.update p f).get? p=some { cls:=.type "list",data:=.seq its'.toArray n' }:=by
  rw[Heap.get?_update_self f ho (by rw[hf] <;> rfl),hf]
 refine I.write (x:=p) (e:=p) (by rw[h];trivial) (.inl rfl) (fun b u hb q=>(Heap.get?_update_other _ _ (Ne.symm hb)).trans q) ⟨_,e⟩ ?_;exact⟨hz,its',n',r,e⟩
def i5:V->V->V->Hp->(Hp->Prop)->Prop:=fun o i v H Q=>∃ p xs k j,o=.ref p/\i=.int k/\H p=some (.lst xs)/\ixN xs.length k=some j/\Q (upd H p (.lst (xs.set j v)))
theorem set_list:JP X i5:=by
 intro pins s σ H o i v ov iv u Q I ro ri rv h;obtain⟨p,xs,k,j,rfl,rfl,hp,hj,q⟩:=h;cases ro;obtain⟨t,rfl⟩:=ri;obtain⟨its,n,r,ho,hz⟩:=I.lst hp;obtain⟨h1,h2,h3,h4⟩:=xx hj;have hl:=r.length;have hn:=mQ;have I':Inv X pins σ (upd H p (.lst (xs.set j v))) { s with heap:=s.heap.update p (Obj.mapSeq (·.setIfInBounds j u)) }:=
  I.FT hp ho (vZ its n j u) (r.set rv j) (by rw[List.length_set];exact hz) s.toks
 by_cases h0:0<=k
 ·have hk:k.toNat=j:=by
   rw[seqIndex_of h0 h4] at h1;exact Option.some.inj h1
  exact PySem.W.ki_setAt ho h0 (by omega) (by rw[List.size_toArray,<- hl];exact h4) (by rw[hk];exact⟨_,I',q⟩)
 ·have hk:(k + (its.toArray.size:Int)).toNat=j:=by
   rw[seqIndex_neg (by omega) h3] at h1;rw[List.size_toArray,<- hl];exact Option.some.inj h1
  exact PySem.W.ki_setBack ho (by omega) (by rw[List.size_toArray,<- hl];exact h3) (by omega) (by rw[hk];exact⟨_,I',q⟩)
theorem sC (lo hi:Option Int) (n:Nat):(sliceBounds lo hi none n).1=((HT.sIx n 0 lo:Nat):Int)/\(sliceBounds lo hi none n).2.1=((HT.sIx n n hi:Nat):Int)/\(sliceBounds lo hi none n).2.2=1:=by
 refine⟨?_,?_,rfl⟩
 ·cases lo with
  | none=>simp [sliceBounds,HT.sIx]
  | some i=>
   simp only[sliceBounds,HT.sIx,Option.getD_none,show (1:Int) > 0 by decide,if_true];by_cases h:i < 0
   ·simp only[h,if_true] <;> omega
   ·simp only[h,if_false] <;> omega
 ·cases hi with
  | none=>simp [sliceBounds,HT.sIx]
  | some i=>
   simp only[sliceBounds,HT.sIx,Option.getD_none,show (1:Int) > 0 by decide,if_true];by_cases h:i < 0
   ·simp only[h,if_true] <;> omega
   ·simp only[h,if_false] <;> omega
theorem qA (its:Lv) (lo hi:Option Int):slicePick its.toArray lo hi none=((its.drop (HT.sIx its.length 0 lo)).take (HT.sIx its.length its.length hi - HT.sIx its.length 0 lo)).toArray:=by
 obtain⟨h1,h2,h3⟩:=sC lo hi its.toArray.size;unfold slicePick;rw[h1,h2,h3];simp only[sliceRange_one,pick_run,List.size_toArray] <;> rfl
def HE (K:Fg0):V->Option Int->Option Int->Hp->VK->Prop:=fun x lo hi H Q=>∃ a xs,x=.ref a/\SqL K H a xs/\∀ p,H p=none->Q (.ref p) (upd H p (.lst (qT xs lo hi)))
theorem BL:SlR X (HE X.K):=by
 intro pins s σ H x v vl vu lo hi sl Q I rx hs pl pu h;obtain⟨a,xs,rfl,hx,q⟩:=h;cases rx;obtain⟨its,r,ht,hz⟩:=I.list hx;have hlen:=r.length;refine⟨"list",_,slot_list_getitem.lookup,ht.isList.typeIs,?_⟩;refine wpAny_getItem_list_slice ht.isList hs pl pu .none (by simp) ?_ (by rw[List.size_toArray] <;> omega);rw[qA,<- hlen];refine⟨.ref s.heap.objs.size,_,I.laid (t':=s.toks) (o:=.lst (qT xs lo hi)) (fun b ob q=>Heap.get?_push_of_some _ q) (Nat.le_refl _) ?_,rfl,q _ (I.hok.fresh (Nat.le_refl _))⟩;exact⟨Nat.le_trans (nK xs lo hi) hz,_,0,(r.drop (HT.sIx xs.length 0 lo)).take (HT.sIx xs.length xs.length hi - HT.sIx xs.length 0 lo),Heap.get?_push_size _ rfl⟩
def kb:V->Bool
 | .non=>true
 | .bl _=>true
 | .int _=>true
 | .str _=>true
 | _=>false
def eqV:V->V->Bool
 | .non,.non=>true
 | .bl a,.bl b=>a == b
 | .bl a,.int b=>(if a then 1 else 0) == b
 | .int a,.bl b=>a == (if b then 1 else 0)
 | .int a,.int b=>a == b
 | .str a,.str b=>a == b
 | _,_=>false
theorem GR {A:Around} {s:Shared} {y x:V} {u v:Value} (ry:RelV y u) (rx:RelV x v) (fy:kb y=true) (fx:kb x=true):SeqAt.EqAt A s u v (eqV y x):=by
 cases y with
 | non=>
  cases ry;cases x with
  | non=>cases rx;exact SeqAt.EqAt.same _
  | bl b=>cases rx;exact SeqAt.EqAt.none_bool b
  | int b=>obtain⟨t,rfl⟩:=rx;exact SeqAt.EqAt.none_int b t
  | str b=>obtain⟨t,rfl⟩:=rx;exact SeqAt.EqAt.none_str b t
  | _=>exact absurd (show false=true from fx) Bool.false_ne_true
 | bl a=>
  cases ry;cases x with
  | non=>cases rx;exact SeqAt.EqAt.bool_none a
  | bl b=>cases rx;exact SeqAt.EqAt.bool_bool a b
  | int b=>obtain⟨t,rfl⟩:=rx;exact SeqAt.EqAt.bool_int a b t
  | str b=>obtain⟨t,rfl⟩:=rx;exact SeqAt.EqAt.bool_str a b t
  | _=>exact absurd (show false=true from fx) Bool.false_ne_true
 | int a=>
  obtain⟨t',rfl⟩:=ry;cases x with
  | non=>cases rx;exact SeqAt.EqAt.int_none a t'
  | bl b=>cases rx;exact SeqAt.EqAt.int_bool a t' b
  | int b=>obtain⟨t,rfl⟩:=rx;exact SeqAt.EqAt.int_int a t' b t
  | str b=>obtain⟨t,rfl⟩:=rx;exact SeqAt.EqAt.int_str a t' b t
  | _=>exact absurd (show false=true from fx) Bool.false_ne_true
 | str a=>
  obtain⟨t',rfl⟩:=ry;cases x with
  | non=>cases rx;exact SeqAt.EqAt.str_none a t'
  | bl b=>cases rx;exact SeqAt.EqAt.str_bool a t' b
  | int b=>obtain⟨t,rfl⟩:=rx;exact SeqAt.EqAt.str_int a t' b t
  | str b=>obtain⟨t,rfl⟩:=rx;exact SeqAt.EqAt.str_str a t' b t
  | _=>exact absurd (show false=true from fx) Bool.false_ne_true
 | _=>exact absurd (show false=true from fy) Bool.false_ne_true
def eqU (x:V) (u:Value):Bool:=match u with
 | .none=>eqV .non x
 | .bool b=>eqV (.bl b) x
 | .int i _=>eqV (.int i) x
 | .str z _=>eqV (.str z) x
 | _=>false
theorem A1 {x y:V} {u:Value} (r:RelV y u) (f:kb y=true):eqU x u=eqV y x:=by
 cases y with
 | non=>cases r;rfl
 | bl b=>cases r;rfl
 | int i=>obtain⟨t,rfl⟩:=r;rfl
 | str z=>obtain⟨t,rfl⟩:=r;rfl
 | _=>exact absurd (show false=true from f) Bool.false_ne_true
theorem t8 {x:V}:∀ {xs:List V} {us:Lv},Vals xs us->xs.all kb=true->us.any (eqU x)=xs.any fun y=>eqV y x
 | _,_,.nil,_=>rfl
 | y::xs,u::us,.cons r t,f=>by
  rw[List.all_cons,Bool.and_eq_true] at f;rw[List.any_cons,List.any_cons,A1 r f.1,t8 t f.2]
theorem pS {A:Around} {s:Shared} {x:V} {v:Value} (rx:RelV x v) (fx:kb x=true):∀ {xs:List V} {us:Lv},Vals xs us->xs.all kb=true->∀ u∈us,SeqAt.EqAt A s u v (eqU x u)
 | _,_,.nil,_=>fun u hu=>by cases hu
 | y::xs,u::us,.cons r t,f=>fun u' hu=>by
  rw[List.all_cons,Bool.and_eq_true] at f;rcases List.mem_cons.mp hu with rfl | hu
  ·rw[A1 r f.1];exact GR r rx f.1 fx
  ·exact pS rx fx t f.2 u' hu
def inV (x:V) (xs:List V):Bool:=xs.any fun y=>eqV y x
def rIn (K:Fg0) (neg:Bool):R2:=fun x y H Q=>∃ p xs,y=.ref p/\(SqL K H p xs\/SqT K H p xs)/\kb x=true/\xs.all kb=true/\Q (.bl (if neg then !inV x xs else inV x xs)) H
theorem yy:OpR X (compareOp .In) (rIn X.K false):=by
 intro pins s σ H x y v u Q I rx ry h;obtain⟨p,xs,rfl,hq,fx,fs,q⟩:=h;cases ry;rcases hq with hq | hq
 ·obtain⟨its,r,pl,hz⟩:=I.list hq;refine SeqAt.in_listAt (eqU x) pl.isList (fun w hw=>pS rx fx r fs w (by simpa using hw)) ⟨.bl _,H,I,rfl,?_⟩;rw[show its.toArray.any (eqU x)=its.any (eqU x) by simp,t8 r fs];exact q
 ·obtain⟨its,r,pl,hz⟩:=I.tuple hq;refine SeqAt.in_tupleAt (eqU x) pl (fun w hw=>pS rx fx r fs w (by simpa using hw)) ⟨.bl _,H,I,rfl,?_⟩;rw[show its.toArray.any (eqU x)=its.any (eqU x) by simp,t8 r fs];exact q
theorem tY:cj X (.builtin "len") (fun xs H Q=>∃ p ys,xs=[.ref p]/\(SqL X.K H p ys\/SqT X.K H p ys)/\Q (.int ys.length) H):=by
 intro pins s σ H xs us Q I r h;obtain⟨p,ys,rfl,hq,q⟩:=h;obtain⟨u,rfl,rx⟩:=vals1 r;cases rx;have hn:=mQ;rcases hq with hq | hq
 ·obtain⟨its,r',pl,hz⟩:=I.list hq;have hlen:=r'.length;exact Calls.call_len_list pl.isList (by simp only[List.size_toArray] <;> omega) ⟨.int ys.length,H,I.tok _,⟨s.toks + 1,by rw[List.size_toArray,hlen]⟩,q⟩
 ·obtain⟨its,r',pl,hz⟩:=I.tuple hq;have hlen:=r'.length;exact len_tuple pl (by simp only[List.size_toArray] <;> omega) ⟨.int ys.length,H,I.tok _,⟨s.toks + 1,by rw[List.size_toArray,hlen]⟩,q⟩
theorem tX:cj X (.builtin "len") (fun xs H Q=>∃ z,xs=[.str z]/\z.length<=sizeLine/\Q (.int z.length) H):=by
 intro pins s σ H xs us Q I r h;obtain⟨z,rfl,hz,q⟩:=h;obtain⟨u,rfl,t,rfl⟩:=vals1 r;have hn:=mQ;exact len_str (by omega) ⟨.int z.length,H,I.tok _,⟨_,rfl⟩,q⟩
theorem cj.or {f:Value} {r r':List V->Hp->VK->Prop} (h:cj X f r) (h':cj X f r'):cj X f (fun xs H Q=>r xs H Q\/r' xs H Q):=by
 intro pins s σ H xs us Q I rs q;rcases q with q | q
 ·exact h pins s σ H xs us Q I rs q
 ·exact h' pins s σ H xs us Q I rs q
theorem qV:cj X (.type "tuple") (fun xs H Q=>∃ p ys,xs=[.ref p]/\((SqL X.K H p ys/\∀ l,H l=none->Q (.ref l) (upd H l (.tup ys)))\/(SqT X.K H p ys/\Q (.ref p) H))):=by
 intro pins s σ H xs us Q I r h;obtain⟨p,ys,rfl,h⟩:=h;obtain⟨u,rfl,rx⟩:=vals1 r;cases rx;rcases h with ⟨hq,q⟩ | ⟨hq,q⟩
 ·obtain⟨its,r',pl,hz⟩:=I.list hq;have hlen:=r'.length;refine call_tuple_list pl.isList (fun h' kp=>?_) (by simp only[List.size_toArray] <;> omega);have I1:Inv X pins σ H { s with heap:=h' }:=I.kept (t':=s.toks) kp;have I2:Inv X pins σ (upd H h'.objs.size (.tup ys)) { s with heap:=h'.push { cls:=.type "tuple",data:=.seq its.toArray } }:=
   I1.laid (t':=s.toks) (fun b o e=>Heap.get?_push_of_some _ e) (Nat.le_refl _) (show cI X.prog X.w _ _ _ (.tup ys) from ⟨hz,its,r',IsTup.new _ _⟩)
  exact⟨.ref h'.objs.size,_,I2,rfl,q _ (I1.hok.fresh (Nat.le_refl _))⟩
 ·obtain⟨its,r',pl,hz⟩:=I.tuple hq;exact call_tuple_same pl ⟨.ref p,H,I,rfl,q⟩
def tyV (K:Fg0) (T:String) (x:V) (H:Hp):Prop:=match x with
 | .str _=>T="str"
 | .int _=>T="int"
 | .ref p=>(T="list"/\∃ xs,SqL K H p xs)\/(T="tuple"/\∃ o,K.lookup p=some o/\o.cls=.type "tuple"/\o.dict=none)\/
   (T="dict"/\((∃ kvs,H p=some (.dK kvs))\/∃ kvs,H p=some (.dT kvs)))\/(T="set"/\∃ S n,H p=some (.set S n))
 | _=>False
theorem y7 {pins:Pn} {σ:St} {H:Hp} {s:Shared} {T:String} {x:V} {v:Value} (I:Inv X pins σ H s) (r:RelV x v) (ty:tyV X.K T x H) :
  s.TypeIs v T/\∀ a,v=.ref a->∃ ob,s.heap.get? a=some ob/\ob.dict=none:=by
 cases x with
 | str z=>
  obtain⟨t,rfl⟩:=r;cases (show T="str" from ty);exact⟨typeIs_str s z t,fun _ e=>nomatch e⟩
 | int i=>
  obtain⟨t,rfl⟩:=r;cases (show T="int" from ty);exact⟨typeIs_int s i t,fun _ e=>nomatch e⟩
 | ref p=>
  cases r;rcases ty with ⟨rfl,xs,hq⟩ | ⟨rfl,o,hk,hc,hd⟩ | ⟨rfl,hk⟩ | ⟨rfl,S,n,hk⟩
  ·obtain⟨its,_,pl,_⟩:=I.list hq;refine⟨pl.isList.typeIs,fun a e=>?_⟩;cases e;obtain⟨o,n,e,c,hd,_⟩:=pl;exact⟨o,e,hd⟩
  ·refine⟨⟨o,I.kIn p o hk,hc⟩,fun a e=>?_⟩;cases e;exact⟨o,I.kIn _ o hk,hd⟩
  ·have z:∃ o,s.heap.get? p=some o/\o.ExactDict:=by
    rcases hk with ⟨kvs,hk⟩ | ⟨kvs,hk⟩
    ·obtain⟨_,_,_,_,o,_,_,e,ex,_⟩:=I.hok p _ hk;exact⟨o,e,ex⟩
    ·obtain⟨_,_,_,_,o,_,_,e,ex,_⟩:=I.hok p _ hk;exact⟨o,e,ex⟩
   obtain⟨o,e,ex⟩:=z;refine⟨⟨o,e,ex.1⟩,fun a e2=>?_⟩;cases e2;exact⟨o,e,ex.2.1⟩
  ·obtain⟨o,_,_,_,e,ex,_⟩:=I.hok p _ hk;refine⟨⟨o,e,ex.1⟩,fun a e2=>?_⟩;cases e2;exact⟨o,e,ex.2.1⟩
 | _=>exact False.elim ty
def EH (K:Fg0) (T:String) (r:V->List V->Hp->VK->Prop) (to:TE):TE:=fun σ H Q=>to σ H fun x H1=>tyV K T x H1/\r x [] H1 Q
def tBM (K:Fg0) (T:String) (r:V->List V->Hp->VK->Prop) (to:TE) (t:TA):TE:=fun σ H Q=>to σ H fun x H1=>tyV K T x H1/\t σ H1 fun xs H2=>r x xs H2 Q
variable {o e:Expr} {es:List Expr} {to:TE} {t:TA} {name:Str} {apos cpos:Pos} {T id:String} {r:V->List V->Hp->VK->Prop}
theorem Fq (pa:PlainAttrs T) (slot:Slot T name id) (hty:typeOf (.builtin id)=pure (.type "method_descriptor")) (hm:MtR X id r) (ho:PE X o to)
  (hbase:attributeBase o name X.env (eval o X.env)=eval o X.env:=by rfl) (hline:(apos.endLine == cpos.line)=true:=by rfl):PE X (.Call (.Attribute o name apos) [] [] cpos) (EH X.K T r to):=by
 intro pins s σ H Q I h;refine wpAny_Call_method0_late hbase hline (thn (ho pins s σ H _ I h) fun v s1 ⟨x,H1,I1,r1,ty,q1⟩=>?_);obtain⟨h1,h2⟩:=y7 I1 r1 ty;exact⟨T,id,pa,slot,hty,h1,h2,Calls.callWith_builtin rfl (PySem.evalArgs_none (hm pins s1 σ H1 x [] v [] Q I1 r1 .nil q1))⟩
theorem DI (pa:PlainAttrs T) (slot:Slot T name id) (hty:typeOf (.builtin id)=pure (.type "method_descriptor")) (hm:MtR X id r) (ho:PE X o to) (ha:PA X (e::es) t)
  (hbase:attributeBase o name X.env (eval o X.env)=eval o X.env:=by rfl)
  (hfew:((backTo cpos (starEach (e::es) X.env)).all (fun x=>!x.1) && (backToKw cpos (keywordEach [] X.env)).all (fun x=>x.1.isSome)
   && decide ((e::es).length + ([]:List Keyword).length + (if ([]:List Keyword).isEmpty then 0 else 1) < 30))=true:=by rfl)
  (hline:(apos.endLine == cpos.line)=true:=by rfl) (hs:starEach (e::es) X.env=(false,eval e X.env)::starEach es X.env:=by rfl) (hplain:(backTo cpos (starEach es X.env)).any (·.1)=false:=by rfl) :
  PE X (.Call (.Attribute o name apos) (e::es) [] cpos) (tBM X.K T r to t):=by
 intro pins s σ H Q I h;refine wpAny_Call_method_late hbase hfew hline rfl (thn (ho pins s σ H _ I h) fun v s1 ⟨x,H1,I1,r1,ty,q1⟩=>?_);obtain⟨h1,h2⟩:=y7 I1 r1 ty;refine⟨T,id,pa,slot,hty,h1,h2,?_⟩;have hA:=ha cpos pins s1 σ H1 _ I1 q1;rw[hs] at hA ⊢;refine Calls.callWith_builtin (by show (false || (backTo cpos (starEach es X.env)).any (·.1))=false;rw[hplain] <;> rfl) (Calls.evalArgs_plain ?_);exact thn hA fun us s2 ⟨vs,H2,I2,r2,q2⟩=>hm pins s2 σ H2 x vs v us Q I2 r1 r2 q2
end
def MtM (X:Cx) (id:String) (r:V->List V->Hp->VK->Prop):Prop:=
 ∀ (pins:Pn) (s:Shared) (σ:St) (H:Hp) (x:V) (xs:List V) (v:Value) (us:Lv) (Q:VK),Inv X pins σ H s->RelV x v->Vals xs us->r x xs H Q->
  wpAny (model X.prog X.w) X.A (call (.builtin id) (v::us)) (EP X pins σ Q) X.xe s
theorem Vals.one:∀ {x:V} {us:Lv},Vals [x] us->∃ u,us=[u]/\RelV x u
 | _,_,.cons r .nil=>⟨_,rfl,r⟩
theorem Vals.zero:∀ {us:Lv},Vals [] us->us=[]
 | _,.nil=>rfl
theorem Vals.dropLast {xs:List V} {us:Lv} (h:Vals xs us):Vals xs.dropLast us.dropLast:=by
 induction h with
 | nil=>exact .nil
 | cons r t ih=>
  cases t with
  | nil=>exact .nil
  | cons q t'=>exact .cons r ih
theorem Vals.rep {xs:List V} {us:Lv} (h:Vals xs us):∀ k:Nat,Vals (List.replicate k xs).flatten (List.replicate k us).flatten
 | 0=>.nil
 | k + 1=>by
  rw[List.replicate_succ,List.replicate_succ,List.flatten_cons,List.flatten_cons];exact Vals.append h (Vals.rep h k)
theorem wt {α:Type} (l:List α):l.eraseIdx (l.length - 1)=l.dropLast:=by
 induction l with
 | nil=>rfl
 | cons a r ih=>
  cases r with
  | nil=>rfl
  | cons b r=>
   have e:(a::b::r).length - 1=((b::r).length - 1) + 1:=by
    have h1:(a::b::r).length=r.length + 2:=rfl;have h2:(b::r).length=r.length + 1:=rfl;omega
   rw[e,List.eraseIdx_cons_succ,ih]
   all_goals rfl
theorem foldl_rep (its:Lv):∀ (k:Nat) (acc:Lv),
  List.foldl (fun x1 x2=>x1++x2) acc.toArray (List.replicate k its.toArray)=(acc++(List.replicate k its).flatten).toArray
 | 0,acc=>by simp
 | k + 1,acc=>by
  have e:acc.toArray++its.toArray=(acc++its).toArray:=by simp
  have e2:(acc++its)++(List.replicate k its).flatten=acc++(List.replicate (k + 1) its).flatten:=by
   rw[List.replicate_succ,List.flatten_cons,List.append_assoc]
  rw[<- e2,<- foldl_rep its k (acc++its),<- e,List.replicate_succ,List.foldl_cons]
section
variable {X:Cx} {pins:Pn} {σ:St} {H:Hp} {s:Shared} {l b:Addr} {xs ys zs:List V}
theorem Inv.CK {its its':Lv} {n:Nat} {f:Array Value->Array Value} {t':Nat} (I:Inv X pins σ H s) (hH:H l=some (.lst xs))
  (e:s.heap.get? l=some { cls:=.type "list",data:=.seq its.toArray n }) (hf:f its.toArray=its'.toArray) (hv:Vals ys its') (hz:ys.length<=sizeLine) :
  Inv X pins σ (upd H l (.lst ys)) { s with heap:=s.heap.update l (Obj.mapSeq f),toks:=t' }:=by
 have q:=PySem.IsL.update e f;rw[hf] at q;refine I.write (x:=l) (e:=l) (by rw[hH];exact trivial) (.inl rfl) (fun b' u hb hu=>(Heap.get?_update_other s.heap (Obj.mapSeq f) (Ne.symm hb)).trans hu) ⟨_,q⟩ ?_;exact⟨hz,its',_,hv,q⟩
theorem Inv.IH {its:Lv} {t':Nat} (I:Inv X pins σ H s) (hv:Vals ys its) (hz:ys.length<=sizeLine) :
  Inv X pins σ (upd H s.heap.objs.size (.lst ys)) { s with heap:=s.heap.push { cls:=.type "list",data:=.seq its.toArray },toks:=t' }:=
 I.laid (fun _ _ q=>Heap.get?_push_of_some _ q) (Nat.le_refl _) ⟨hz,its,0,hv,Heap.get?_push_size _ rfl⟩
theorem Inv.fresh (I:Inv X pins σ H s):H s.heap.objs.size=none:=I.hok.fresh (Nat.le_refl _)
theorem Inv.uX (I:Inv X pins σ H s) (hH:H l=some (.lst xs)):xs.length<=sizeLine/\∃ (its:Lv) (n:Nat),Vals xs its/\xs.length=its.length/\s.heap.get? l=some { cls:=.type "list",data:=.seq its.toArray n }:=by
 obtain⟨z,its,n,r,e⟩:=I.hok l _ hH;exact⟨z,its,n,r,r.length,e⟩
theorem uR {n:Nat} (h:n<=sizeLine):Builtin.List.listTooLong n=false:=by
 unfold Builtin.List.listTooLong;exact decide_eq_false (by omega)
end
section
variable {X:Cx}
def sQ:V->List V->Hp->VK->Prop:=fun x vs H Q=>∃ l xs y,x=.ref l/\vs=[y]/\H l=some (.lst xs)/\xs.length < sizeLine/\Q .non (upd H l (.lst (xs++[y])))
theorem yD:MtM X "list.append" sQ:=by
 intro pins s σ H x vs v us Q I rx rv h;obtain⟨l,xs,y,rfl,rfl,hH,hz,q⟩:=h;cases rx;obtain⟨u,rfl,ru⟩:=rv.one;obtain⟨z,its,n,r,hl,e⟩:=I.uX hH;refine call_meets F.slot_list_append ⟨_,e,rfl⟩ F.entry_list_append (F.args_list_append_2 _ _) (PySem.list_append l its.toArray n u (by rw[List.size_toArray];omega)) ⟨e,?_⟩;refine⟨.non,_,I.CK (its':=its++[u]) hH e (by simp) (r.append (.cons ru .nil)) ?_,rfl,q⟩;rw[List.length_append,List.length_singleton];omega
def sP:V->List V->Hp->VK->Prop:=fun x vs H Q=>∃ l b xs zs,x=.ref l/\vs=[.ref b]/\H l=some (.lst xs)/\H b=some (.lst zs)/\xs.length + zs.length<=sizeLine/\Q .non (upd H l (.lst (xs++zs)))
theorem yC:MtM X "list.extend" sP:=by
 intro pins s σ H x vs v us Q I rx rv h;obtain⟨l,b,xs,zs,rfl,rfl,hH,hB,hz,q⟩:=h;cases rx;obtain⟨u,rfl,ru⟩:=rv.one;cases ru;obtain⟨z,its,n,r,hl,e⟩:=I.uX hH;obtain⟨z2,its2,n2,r2,hl2,e2⟩:=I.uX hB;have hsz:its.toArray.size + its2.toArray.size<=sizeLine:=by rw[List.size_toArray,List.size_toArray];omega
 have hlong:¬ (!its.toArray.isEmpty && Builtin.List.listTooLong (its.toArray.size + its2.toArray.size))=true:=by
  rw[uR hsz,Bool.and_false];exact Bool.false_ne_true
 refine call_meets F.slot_list_extend ⟨_,e,rfl⟩ F.entry_list_extend (F.args_list_extend_2 _ _)
  (AutoSeq1.list_extend_list_list_0 l its.toArray n b its2.toArray n2 hlong (by rw[List.size_toArray];omega) (by omega)) ⟨e,e2,?_⟩
 refine⟨.non,_,I.CK (its':=its++its2) hH e (by simp) (r.append r2) ?_,rfl,q⟩;rw[List.length_append];omega
def JZ:V->List V->Hp->VK->Prop:=fun x vs H Q=>∃ l xs y,x=.ref l/\vs=[]/\H l=some (.lst xs)/\xs[xs.length - 1]?=some y/\Q y (upd H l (.lst xs.dropLast))
theorem Kh:MtM X "list.pop" JZ:=by
 intro pins s σ H x vs v us Q I rx rv h;obtain⟨l,xs,y,rfl,rfl,hH,hy,q⟩:=h;cases rx;have hus:=rv.zero;subst hus;obtain⟨z,its,n,r,hl,e⟩:=I.uX hH;obtain⟨u,hu,ru⟩:=r.get hy;have hy':its.toArray[its.toArray.size - 1]?=some u:=by
  show its.toArray[its.length - 1]?=some u;rw[<- Array.getElem?_toList,<- hl];exact hu
 refine call_meets F.slot_list_pop ⟨_,e,rfl⟩ F.entry_list_pop (F.args_list_pop_1 _) (MeetsSeq.list_pop_last l its.toArray n u hy' (by rw[List.size_toArray];omega)) ⟨e,?_⟩;refine⟨y,_,I.CK (its':=its.dropLast) hH e ?_ r.dropLast ?_,ru,q⟩
 ·show its.toArray.eraseIdxIfInBounds (its.toArray.size - 1)=its.dropLast.toArray;rw[List.size_toArray,List.eraseIdxIfInBounds_toArray,wt]
 ·rw[List.length_dropLast];omega
def vJ:V->List V->Hp->VK->Prop:=fun x vs H Q=>∃ l xs,x=.ref l/\vs=[]/\H l=some (.lst xs)/\Q .non (upd H l (.lst []))
theorem Ao:MtM X "list.clear" vJ:=by
 intro pins s σ H x vs v us Q I rx rv h;obtain⟨l,xs,rfl,rfl,hH,q⟩:=h;cases rx;have hus:=rv.zero;subst hus;obtain⟨z,its,n,r,hl,e⟩:=I.uX hH;refine call_meets F.slot_list_clear ⟨_,e,rfl⟩ F.entry_list_clear (F.args_list_clear_1 _) (AutoSeq1.list_clear_list_0 l its.toArray n (by rw[List.size_toArray];omega)) ⟨e,?_⟩;exact⟨.non,_,I.CK (its':=[]) (ys:=[]) hH e rfl .nil (Nat.zero_le _),rfl,q⟩
def HI:R2:=fun x y H Q=>∃ l b xs zs,x=.ref l/\y=.ref b/\H l=some (.lst xs)/\H b=some (.lst zs)/\xs.length + zs.length<=sizeLine/\∀ p,H p=none->Q (.ref p) (upd H p (.lst (xs++zs)))
theorem FF:OpR X (binaryOp .Add) HI:=by
 intro pins s σ H x y v u Q I rx ry h;obtain⟨l,b,xs,zs,rfl,rfl,hH,hB,hz,q⟩:=h;cases rx;cases ry;obtain⟨z,its,n,r,hl,e⟩:=I.uX hH;obtain⟨z2,its2,n2,r2,hl2,e2⟩:=I.uX hB;refine PySem.P.add_list e e2 ?_ (by rw[List.size_toArray,List.size_toArray];omega);have ea:its.toArray++its2.toArray=(its++its2).toArray:=by simp
 rw[ea];exact⟨.ref _,_,I.IH (t':=s.toks) (r.append r2) (by rw[List.length_append];omega),rfl,q _ I.fresh⟩
def EZ:R2:=fun x y H Q=>∃ l k xs,x=.ref l/\y=.int k/\H l=some (.lst xs)/\-(2 ^ 63)<=k/\k < 2 ^ 63/\xs.length * k.toNat<=sizeLine/\
 ∀ p,H p=none->Q (.ref p) (upd H p (.lst (List.replicate k.toNat xs).flatten))
theorem len_rep {α:Type} (xs:List α) (k:Nat):(List.replicate k xs).flatten.length=k * xs.length:=by
 induction k with
 | zero=>simp
 | succ k ih=>rw[List.replicate_succ,List.flatten_cons,List.length_append,ih,Nat.succ_mul,Nat.add_comm]
theorem Fz:OpR X (binaryOp .Mult) EZ:=by
 intro pins s σ H x y v u Q I rx ry h;obtain⟨l,k,xs,rfl,rfl,hH,h1,h2,hz,q⟩:=h;cases rx;obtain⟨t,rfl⟩:=ry;obtain⟨z,its,n,r,hl,e⟩:=I.uX hH;have hlen:its.toArray.size * k.toNat<=sizeLine:=by rw[List.size_toArray,<- hl];exact hz
 have hcap:¬ its.toArray.size * k.toNat > (2 ^ 63 - 1) / 8:=by
  have:(sizeLine:Nat)<=(2 ^ 63 - 1) / 8:=by decide
  omega
 have hfit:¬ (!Builtin.List.listFitsIndex k)=true:=by
  rw[fitsIndex_both h1 h2];exact Bool.false_ne_true
 have hlong:¬ Builtin.List.listTooLong (its.toArray.size * k.toNat)=true:=by
  rw[uR hlen];exact Bool.false_ne_true
 have hnew:List.foldl (fun x1 x2=>x1++x2) #[] (List.replicate (if its.toArray.isEmpty=true then 0 else k.toNat) its.toArray)=(List.replicate k.toNat its).flatten.toArray:=by
  have f0:∀ m:Nat,List.foldl (fun x1 x2=>x1++x2) #[] (List.replicate m its.toArray)=(List.replicate m its).flatten.toArray:=fun m=>by
   have:=foldl_rep its m [];rw[List.nil_append] at this;exact this
  rw[f0];cases its with
  | nil=>simp
  | cons a r'=>rw[if_neg (by simp)]
 refine wpAny_binaryOp_repeat_ref (T:="list") (U:="int") (by decide) ⟨_,e,rfl⟩ (fun s'=>typeIs_int s' k t) noFill_list_mul F.fills_int_mul F.slot_int_rmul repeat_list F.slot_int_index.lookup
  (call_meets F.slot_int_rmul (typeIs_int s k t) F.entry_int_rmul (F.args_int_rmul_2 _ _) (int___rmul___int_list k t l its.toArray n)
   ⟨e,rfl,⟨_,e,rfl⟩,call_meets F.slot_list_mul ⟨_,e,rfl⟩ F.entry_list_mul (F.args_list_mul_2 _ _) (AutoListH.list___mul___list_int_3 l its.toArray n k t hfit hcap hlong) ⟨e,?_⟩⟩)
 rw[hnew];exact⟨.ref _,_,I.IH (t':=s.toks) (r.rep k.toNat) (by rw[len_rep,Nat.mul_comm];exact hz),rfl,q _ I.fresh⟩
end
section
variable {prog:Program} {w:World} {A:Around} {E:VS} {s:Shared}
end
section
variable {X:Cx}
end
section
variable {κ:Type} [DecidableEq κ]
end
section
variable {P:Program} {w:World} {H:Hp} {h:Heap} {a:Addr}
theorem HB {u:HO} (ok:HOk P w H h) (e:Rd H a u):cI P w H h a u:=e.ok ok
theorem Js {kvs:List (Key×V)} (ok:HOk P w H h) (e:Rd H a (.dK kvs)):kvs.length<=sizeLine/\(a == sysModules)=false/\∃ vs,KV kvs vs/\h.DictOf (oC P w) a vs:=
 show cI P w H h a (.dK kvs) from HB ok e
theorem Ee {kvs:List (Key×V)} (ok:HOk P w H h) (e:H a=some (.dK kvs)):kvs.length<=sizeLine/\(a == sysModules)=false/\∃ vs,KV kvs vs/\h.DictOf (oC P w) a vs:=Js ok (.inl e)
end
section
variable {X:Cx} {pins:Pn} {σ:St} {H:Hp} {s:Shared} {a:Addr} {y v:V} {u r:Value} {o:Option V} {A:Around} {E:VS}
end
section
variable {X:Cx} {pins:Pn} {σ:St} {H:Hp} {s:Shared} {a:Addr} {kvs:List (Key×V)} {k:Key} {u:Value} {A:Around} {E:VS}
end
def G6 (i:Expr):Prop:=∀ ov iv,subscripted i false ov iv=operate [ov,iv] (getItem ov iv)
theorem BI {prog:Program} {w:World} {A:Around} {E:VS} {s:Shared} {env:Env} {value slice:Expr} {pos:Pos} {T id:String} {Q:VS}
  (hl:typeLookup (.type T) "__getitem__"=pure (some (.builtin id))) (hs:G6 slice)
  (h:wpAny (model prog w) A (eval value env) (fun o s₁=>wpAny (model prog w) A (eval slice env) (fun i s₂=>s₂.TypeIs o T/\wpAny (model prog w) A (getItem o i) Q E s₂) E s₁) E s) :
  wpAny (model prog w) A (eval (.Subscript value slice pos) env) Q E s:=by
 refine Subscript_ (wpAny_mono h (fun o s₁ h₁=>wpAny_mono h₁ (fun i s₂ h₂=>?_) fun _ _ x=>x) fun _ _ x=>x);obtain⟨hT,h₂⟩:=h₂;unfold subscriptTail;refine wpAny_bind ?_;rw[getitemInPython_of_ne hT.not_modules];refine wpAny_bind (wpAny_specialOf hT hl ?_);have fin:wpAny (model prog w) A (subscripted slice false o i) (fun r s₃=>wpAny (model prog w) A (letTemporaryGo value o r >>= fun _=>pure r) Q E s₃) E s₂:=by
  rw[hs o i];exact wpAny_operating (wpAny_mono h₂ (fun r s₃ h₃=>wpAny_bind (wpAny_letTemporaryGo (wpAny_pure h₃))) fun _ _ x=>x)
 first
  | exact wpAny_pure (wpAny_bind fin)
  | exact wpAny_bind (wpAny_pure (wpAny_bind fin))
  | exact wpAny_bind fin
section
variable {X:Cx} {o i e value:Expr} {pos pos' tpos:Pos} {td ty tv:TE}
end
section
variable {X:Cx} {pos:Pos}
end
section
variable {X:Cx} {pins:Pn} {σ:St} {H:Hp} {s:Shared} {a:Addr} {y d:V} {u r:Value} {o:Option V} {A:Around} {E:VS}
end
section
variable {X:Cx} {o e f:Expr} {apos cpos:Pos} {td ty tx:TE}
end
section
variable {X:Cx} {pins:Pn} {σ:St} {H:Hp} {s:Shared} {a:Addr} {kvs:List (Key×V)} {A:Around} {E:VS}
end
section
variable {X:Cx} {pins:Pn} {σ:St} {H:Hp} {s:Shared} {a:Addr} {y:V} {u:Value} {A:Around} {E:VS}
end
end L2
namespace Att
open PySem PySem.W PySem.Calls PyProof.Rows
theorem n9 {P:Params} {h:Heap}:∀ (ns:Li) (vs:Lv),WellAll P h vs (ns.map WData.int)->IntsAre vs ns:=by
 intro ns
 induction ns with
 | nil=>
  intro vs w;rw[List.map_nil] at w;cases w;exact .nil
 | cons n ns ih=>
  intro vs w;rw[List.map_cons] at w;cases w with
  | cons a b=>
   cases a;exact .cons _ _ (ih _ b)
theorem ye {l:OpenLaw} {n:Nat} (hn:l.most=some n) {P:Params} {h:Heap} {args:List WData} {vals:Lv}
  (hpre:l.row.toRowW.claim.pre args=true) (hwl:WellAll P h vals args) :
  ∃ a vs ns,vals=[Value.ref a]/\args=[WData.list (ns.map WData.int)]/\h.get? a=some { cls:=.type "list",data:=.seq vs.toArray }/\IntsAre vs ns/\ns.length<=n:=by
 have hsh:WShape.hasAll [] args [.list .int]=true:=(pre_splitW hpre).1;have hc:l.pre.holds [] { args:=args }=true:=(pre_splitW hpre).2;obtain⟨d,r,rfl,h1,h2⟩:=hasAllW_cons hsh;obtain rfl:=hasAllW_nil h2;obtain⟨xs,rfl,h3⟩:=hasW_list h1;obtain⟨ns,rfl⟩:=items_int h3;have hlen:ns.length<=n:=by
  unfold OpenLaw.pre at hc;have h4:(WTm.not (.lt (.lit (.int (n:Int))) (.len (.arg 0)))).holds [] { args:=[.list (ns.map .int)] }=true:=by
   have h4:=(holds_andW hc).1;rw[hn] at h4;exact h4
  have h5:=condW_of h4 (w_not (w_lt w_lit (w_len_list (w_arg rfl))));rw[lM0] at h5;refine Nat.le_of_not_lt fun q=>?_;have q':(n:Int) < ((ns.length:Nat):Int):=by omega
  first
   | (rw[decide_eq_true q'] at h5;exact absurd h5 (by decide))
   | (simp at h5;omega)
 cases hwl with
 | cons w1 w2=>
  cases w2;cases w1 with
  | list ho hall=>exact⟨_,_,ns,rfl,rfl,ho,n9 ns _ hall,hlen⟩
theorem yn (l:OpenLaw) (args:List WData):l.row.toRowW.claim.post args (.bool true) args=true:=
 postW_of (r:=l.row.toRowW) (X:=(true == true))
  (show WShape.has [] (.bool true) .bool=true by first | rfl | decide | simp [WShape.has,WShape.arms,WShape.armsAll])
  (show (WTm.eq .res (.lit (.bool true))).value [] { args:=args,res:=some (.bool true),after:=args }=some (.bool (true == true)) from w_eq_bool (w_res rfl) w_lit) rfl
theorem vp {l:OpenLaw} {n:Nat} {q:Program} {loose:Ls} {XP:(SV)->Heap->Prop} {YP:World->Heap->Prop} {d:DefRec}
  (hn:l.most=some n) (hdf:d.params.defaults=[])
  (call:∀ (w:World) (s₀ s₁:Shared) (mg mb:SV) (fa:Addr) (o:Obj) (pm cd doc:Value) (a:Addr) (vs:Lv) (ns:Li),
   Ground q loose [] XP w s₀ mg mb s₁.heap->YP w s₁.heap->
   s₁.heap.get? fa=some o->o.data=.func (docDef d.name d.params d.body d.scope pm cd doc)->s₁.heap.CodeRec cd d.name->mg d.name=some (.ref fa)->
   s₁.heap.get? a=some { cls:=.type "list",data:=.seq vs.toArray }->IntsAre vs ns->ns.length<=n->s₁.gens=#[]->
   codeAny (model l.prog w) callerA (.call (.ref fa) ⟨[.ref a],[]⟩) (fun r s'=>r=.ok (.ret (.bool true))/\OldK s₁.heap s'.heap/\s'.os=s₁.os/\AllBare s'.gens) s₁) :
  WalkO q loose XP YP l.row.toRowW d [] (fun f vs=>PySem.call f vs):=by
 intro w s₀ s₁ mg mb G Y fa o pm cd doc dV kV ho hd hcd hD hmg hg args vals as hpre hlay hrd hwl hlo;obtain rfl:dV=.none:=Dflts.none hD hdf;obtain rfl:kV=.none:=Dflts.noKw hD;obtain⟨a,vs,ns,rfl,rfl,hobj,hints,hlen⟩:=ye hn hpre hwl;refine enter_call (codeAny_mono (call w s₀ s₁ mg mb fa o pm cd doc a vs ns G Y ho (fd_plain hd) hcd hmg hobj hints hlen hg) fun r s' hq=>?_);obtain⟨rfl,h2,h3,h4⟩:=hq;exact⟨.inl ⟨.bool true,.bool true,[],rfl,fun _=>rfl,.bool true,yn l _,fun _=>⟨List.Pairwise.nil,fun _ hm=>(nomatch hm)⟩⟩,h2,h3,h4⟩
section
variable {prog:Program} {w:World} {A:Around} {E:VS} {s:Shared} {K:Frag}
end
end Att
namespace L2
open PySem PySem.Spec PyProof.Rows
theorem rh:∀ {vs:Lv} {ns:Li},IntsAre vs ns->Vals (ns.map V.int) vs
 | _,_,.nil=>.nil
 | _,_,.cons n t h=>.cons ⟨t,rfl⟩ (rh h)
def G5 (H:Hp):Prop:=∀ b,H b=none\/(∃ o xs,H b=some (.frz o (.lst xs)))\/∃ ps,H b=some (.tbl ps)
def inClass (s:Stmt) (j:Nat):Stmt:=match s with
 | .ClassDef _ _ _ body _ _ _ _ _ _ _=>body.getD j (.Pass ⟨0,0,0,0⟩)
 | _=>.Pass ⟨0,0,0,0⟩
def e_ (s:Stmt):Arguments:=match s with
 | .FunctionDef _ a _ _ _ _ _ _ _ _=>a
 | _=>{ posonlyargs:=[],args:=[],vararg:=none,kwonlyargs:=[],kw_defaults:=[],kwarg:=none,defaults:=[] }
def cT (s:Stmt):List Stmt:=match s with
 | .FunctionDef _ _ b _ _ _ _ _ _ _=>b
 | _=>[]
def ah (s:Stmt):Scope:=match s with
 | .FunctionDef _ _ _ _ _ _ sc _ _ _=>sc
 | _=>{ kind:=.function,names:=[],isGenerator:=false,isCoroutine:=false }
abbrev CX0:CXT:=fun _ _ _ _ _ _=>False
abbrev E0:XK:=fun _ _ _=>False
theorem pB {X:Cx}:Passes CX0 X E0:=fun _ _ _ _ _ _ _ h=>h.elim
structure Fun (K:Fg0) (x qual:Str) (st:Stmt) (f:Addr) (fd:FuncData):Prop where
 ex:∃ (oc:Value) (od:Option Addr) (kV doc pm:Value) (an:Option Addr) (cdv ct:Value) (osl:Array (Option Value)),
  fd=PySem.W.fnOf x qual (e_ st) (cT st) (ah st) .none kV doc pm an cdv ct/\K.lookup f=some ⟨oc,od,.func fd,osl⟩/\PySem.W.codeIn K cdv qual=true
 kp:PySem.W.keepIn K (.ref f)=true
section
variable {P:Program} {w:World} {K:Fg0} {mg:SV} {base:Heap}
theorem Fun.ok {x qual:Str} {st:Stmt} {f:Addr} {fd:FuncData} {N ps:Ls} {k:Nat} {sp:Sp} (F:Fun K x qual st f fd) (S:aC N ps (ah st)) (len:∀ vs H Q E,sp vs H Q E->vs.length=ps.length)
  (hbody:∀ (cdv:Value) (A:Around) (outer:List Env) (s:Shared) (H:Hp) (vs:List V) (Q:VK) (E:XK),bJ k (A.deeper (envOfC qual (ah st) s.heap.objs.size f cdv))->sp vs H Q E->
   ∃ t,PSs (vf CX0 P w K mg base N qual (ah st) f cdv A outer s H E).nox (cT st) t/\t { nx:=fun _ H'=>Q .non H',rt:=Q } (start N vs) H):aM P w K mg base CX0 (k + 1) f fd ps sp:=by
 obtain⟨oc,od,kV,doc,pm,an,cdv,ct,osl,rfl,lk,hcd⟩:=F.ex;refine D9 lk hcd S len fun A outer s H vs Q E hr hsp=>?_;obtain⟨t,h,q⟩:=hbody cdv A outer s H vs Q E hr hsp;exact⟨t,h.nox,q⟩
theorem Fun.binds {x qual:Str} {st:Stmt} {f:Addr} {fd:FuncData} {ps:Ls} (F:Fun K x qual st f fd)
  (h:∀ (kV doc pm:Value) (an:Option Addr) (cdv ct:Value) (us:Lv),us.length=ps.length->bindArgs (PySem.W.fnOf x qual (e_ st) (cT st) (ah st) .none kV doc pm an cdv ct) ⟨us,[]⟩=pure (ps.zip us)):Binds K fd ps []:=by
 obtain⟨oc,od,kV,doc,pm,an,cdv,ct,osl,rfl,lk,hcd⟩:=F.ex;exact .all (h kV doc pm an cdv ct)
theorem tP {x qual:Str} {st:Stmt} {f:Addr} {oc:Value} {od an:Option Addr} {osl:Array (Option Value)} {kV doc pm cdv ct:Value} (l:K.lookup f=some ⟨oc,od,.func (PySem.W.fnOf x qual (e_ st) (cT st) (ah st) .none kV doc pm an cdv ct),osl⟩)
  (c:PySem.W.codeIn K cdv qual=true) (k:PySem.W.keepIn K (.ref f)=true):Fun K x qual st f (PySem.W.fnOf x qual (e_ st) (cT st) (ah st) .none kV doc pm an cdv ct):=⟨⟨oc,od,kV,doc,pm,an,cdv,ct,osl,rfl,l,c⟩,k⟩
end
section
variable {X:Cx}
end
theorem wc {A B:Prop} (h:B):if false=true then A else B:=by
 rw[if_neg Bool.false_ne_true];exact h
theorem wb {A B:Prop} (h:A):if true=true then A else B:=by
 rw[if_pos rfl];exact h
def av (H H':Hp):Prop:=∀ b o,H b=some o->H' b=some o
theorem av.refl (H:Hp):av H H:=fun _ _ h=>h
theorem av.trans {H H1 H2:Hp} (a:av H H1) (b:av H1 H2):av H H2:=fun c o h=>b c o (a c o h)
theorem av.free {H H':Hp} (e:av H H') {l:Addr} (h:H' l=Option.none):H l=Option.none:=by
 cases q:H l with
 | none=>rfl
 | some o=>
  rw[e l o q] at h;cases h
theorem av.seq {K:Fg0} {H H':Hp} {a:Addr} {xs:List V} (e:av H H') (h:SqL K H a xs):SqL K H' a xs:=by
 rcases h with (h | ⟨o,h⟩) | h
 ·exact .inl (.inl (e _ _ h))
 ·exact .inl (.inr ⟨o,e _ _ h⟩)
 ·exact .inr h
section
variable {κ:Type} [DecidableEq κ]
end
def takes (cells:List (Str×Addr)):List (Str×NameKind)->List (Str×Addr)->List (Str×Addr)
 | [],acc=>acc
 | (n,k)::r,acc=>takes cells r (if k=NameKind.free then (n,(cells.lookup n).getD 0)::acc else acc)
theorem qU {sc:Scope} {env:Env} (h:∀ y∈sc.names,y.2=.free->∃ c,env.cells.lookup y.1=some c):closureFor sc env=pure (takes env.cells sc.names []):=by
 have go:∀ (l:List (Str×NameKind)) (acc:List (Str×Addr)),(∀ y∈l,y.2=.free->∃ c,env.cells.lookup y.1=some c)->
   (forIn l acc (fun (x:Str×NameKind) (cs:List (Str×Addr))=>match x with
    | (name,kind)=>if (kind == NameKind.free)=true then do let c <- cellOf env name;pure (ForInStep.yield ((name,c)::cs)) else pure (ForInStep.yield cs)):Sem (List (Str×Addr)))=pure (takes env.cells l acc):=by
  intro l
  induction l with
  | nil=>intro acc _;rfl
  | cons x l ih=>
   intro acc hl;obtain⟨n,k⟩:=x;rw[List.forIn_cons];by_cases hk:k=NameKind.free
   ·subst hk;obtain⟨c,hc⟩:=hl (n,.free) List.mem_cons_self rfl;have hc':env.cells.lookup n=some c:=hc;have e1:cellOf env n=pure c:=by unfold cellOf;rw[hc']
    have e2:takes env.cells ((n,NameKind.free)::l) acc=takes env.cells l ((n,c)::acc):=by
     show takes env.cells l (if NameKind.free=NameKind.free then (n,(env.cells.lookup n).getD 0)::acc else acc)=_;rw[if_pos rfl,hc']
     rfl
    rw[e2,<- ih ((n,c)::acc) fun y hy=>hl y (List.mem_cons_of_mem _ hy)];show ((if (NameKind.free == NameKind.free)=true then (do let c <- cellOf env n;pure (ForInStep.yield ((n,c)::acc))) else pure (ForInStep.yield acc)) >>= _)=_;rw[if_pos (by decide),e1,pure_bind,pure_bind]
   ·have e2:takes env.cells ((n,k)::l) acc=takes env.cells l acc:=by
     show takes env.cells l (if k=NameKind.free then _ else acc)=_;rw[if_neg hk]
    have hb:(k == NameKind.free)=false:=by simpa using hk
    rw[e2,<- ih acc fun y hy=>hl y (List.mem_cons_of_mem _ hy)];show ((if (k == NameKind.free)=true then _ else pure (ForInStep.yield acc)) >>= _)=_;rw[hb,if_neg Bool.false_ne_true,pure_bind]
 have:=go sc.names [] h;unfold closureFor
 first
  | exact(congrArg (fun z=>z >>= fun cs=>pure cs) this).trans (pure_bind _ _)
  | exact this
  | simpa using this
theorem rj {cells:List (Str×Addr)} {n:Str} {c:Addr}:∀ (names:List (Str×NameKind)) (acc:List (Str×Addr)),(takes cells names acc).lookup n=some c->
  acc.lookup n=some c\/((n,NameKind.free)∈names/\c=(cells.lookup n).getD 0)
 | [],_,h=>.inl h
 | (m,k)::r,acc,h=>by
  rcases rj r _ h with q | ⟨q1,q2⟩
  ·by_cases hk:k=NameKind.free
   ·rw[if_pos hk] at q;subst hk;by_cases e:n=m
    ·subst e;rw[List.lookup_cons,beq_self_eq_true] at q;exact .inr ⟨List.mem_cons_self,(Option.some.inj q).symm⟩
    ·have:(n == m)=false:=by simpa using e
     rw[List.lookup_cons,this] at q;exact .inl q
   ·rw[if_neg hk] at q;exact .inl q
  ·exact .inr ⟨List.mem_cons_of_mem _ q1,q2⟩
theorem rk {cells:List (Str×Addr)} {n:Str}:∀ (names:List (Str×NameKind)) (acc:List (Str×Addr)),(acc.lookup n).isSome=true->((takes cells names acc).lookup n).isSome=true
 | [],_,h=>h
 | (m,k)::r,acc,h=>by
  refine rk r _ ?_;by_cases hk:k=NameKind.free
  ·rw[if_pos hk];cases e:n == m with
   | true=>rw[List.lookup_cons,e];rfl
   | false=>rw[List.lookup_cons,e];exact h
  ·rw[if_neg hk];exact h
theorem mw {cells:List (Str×Addr)} {n:Str}:∀ (names:List (Str×NameKind)) (acc:List (Str×Addr)),(n,NameKind.free)∈names->((takes cells names acc).lookup n).isSome=true
 | [],_,h=>by simp at h
 | (m,k)::r,acc,h=>by
  rcases List.mem_cons.mp h with e | h
  ·cases e;refine rk r _ ?_;rw[if_pos rfl,List.lookup_cons,beq_self_eq_true]
   rfl
  ·exact mw r _ h
structure Blk (N:Ls) (osc sc:Scope) (Nc:Ls) (fr:On):Prop where
 kind:sc.kind=.function
 own:∀ y∈sc.names,y.2=.cell->sc.names.lookup y.1=some .cell
 free:∀ y∈sc.names,y.2=.free->osc.names.lookup y.1=some .cell\/osc.names.lookup y.1=some .free
 locs:∀ y∈sc.names,y.2=.local->sc.names.lookup y.1=some .local
 nd:Nc.Nodup
 len:Nc.length=fr.length
 whence:∀ p∈Nc.zip fr,(p.2.all fun j=>decide (N[j]?=some p.1) && decide (sc.names.lookup p.1=some .free))=true
abbrev bcl (cells:List (Str×Addr)) (sc:Scope) (C:Addr):List (Str×Addr):=cellsFrom (C + 1) sc.names (takes cells sc.names [])
theorem xP {x:Str} {c:Addr}:∀ (names:List (Str×NameKind)) (n:Nat) (acc:List (Str×Addr)),(cellsFrom n names acc).lookup x=some c->acc.lookup x=some c\/(n<=c/\(x,NameKind.cell)∈names)
 | [],_,_,h=>.inl h
 | (y,k)::r,n,acc,h=>by
  unfold cellsFrom at h;split at h
  ·rename_i hk;have ek:k=NameKind.cell:=by simpa using hk
   subst ek;rcases xP r _ _ h with q | ⟨q1,q2⟩
   ·rw[List.lookup_cons] at q;cases hx:x == y with
    | true=>
     rw[hx] at q;cases q;rw[beq_iff_eq.mp hx];exact .inr ⟨Nat.le_refl _,List.mem_cons_self⟩
    | false=>rw[hx] at q;exact .inl q
   ·exact .inr ⟨Nat.le_of_succ_le q1,List.mem_cons_of_mem _ q2⟩
  ·rcases xP r _ _ h with q | ⟨q1,q2⟩
   ·exact .inl q
   ·exact .inr ⟨q1,List.mem_cons_of_mem _ q2⟩
theorem wC {x:Str} {c:Addr}:∀ (names:List (Str×NameKind)) (n:Nat) (acc:List (Str×Addr)),(x,NameKind.cell)∈names->(cellsFrom n names acc).lookup x=some c->n<=c
 | [],_,_,m,_=>nomatch m
 | (y,k)::r,n,acc,m,h=>by
  unfold cellsFrom at h;by_cases hr:(x,NameKind.cell)∈r
  ·split at h
   ·exact Nat.le_of_succ_le (wC r _ _ hr h)
   ·exact wC r _ _ hr h
  ·have e:(x,NameKind.cell)=(y,k):=(List.mem_cons.mp m).resolve_right hr;cases e;rw[if_pos (by rfl)] at h;rcases xP r _ _ h with q | ⟨q1,_⟩
   ·rw[List.lookup_cons,beq_self_eq_true] at q;cases q;exact Nat.le_refl _
   ·exact Nat.le_of_succ_le q1
theorem wB {x:Str}:∀ (names:List (Str×NameKind)) (n:Nat) (acc:List (Str×Addr)),(x,NameKind.cell)∉names->(cellsFrom n names acc).lookup x=acc.lookup x
 | [],_,_,_=>rfl
 | (y,k)::r,n,acc,m=>by
  unfold cellsFrom;have hr:(x,NameKind.cell)∉r:=fun z=>m (List.mem_cons_of_mem _ z);split
  ·rename_i hk;have ek:k=NameKind.cell:=by simpa using hk
   subst ek;rw[wB r _ _ hr,List.lookup_cons];have:(x == y)=false:=by
    cases hx:x == y with
    | false=>rfl
    | true=>exact absurd (by rw[beq_iff_eq.mp hx];exact List.mem_cons_self) m
   rw[this]
  ·exact wB r _ _ hr
theorem wD:∀ (names:List (Str×NameKind)) (n:Nat) (acc:List (Str×Addr)),(∀ x y c,acc.lookup x=some c->acc.lookup y=some c->x=y)->(∀ x c,acc.lookup x=some c->c < n)->
  ∀ x y c,(cellsFrom n names acc).lookup x=some c->(cellsFrom n names acc).lookup y=some c->x=y
 | [],_,_,h,_=>h
 | (z,k)::r,n,acc,h,lt=>by
  unfold cellsFrom;split
  ·refine wD r (n + 1) ((z,n)::acc) (fun x y c h1 h2=>?_) fun x c h1=>?_
   ·rw[List.lookup_cons] at h1 h2;cases hx:x == z with
    | true=>
     cases hy:y == z with
     | true=>rw[beq_iff_eq.mp hx,beq_iff_eq.mp hy]
     | false=>
      rw[hx] at h1;rw[hy] at h2;cases h1;exact absurd (lt y n h2) (Nat.lt_irrefl _)
    | false=>
     cases hy:y == z with
     | true=>
      rw[hx] at h1;rw[hy] at h2;cases h2;exact absurd (lt x n h1) (Nat.lt_irrefl _)
     | false=>rw[hx] at h1;rw[hy] at h2;exact h x y c h1 h2
   ·rw[List.lookup_cons] at h1;cases hx:x == z with
    | true=>rw[hx] at h1;cases h1;exact Nat.lt_succ_self _
    | false=>rw[hx] at h1;exact Nat.lt_succ_of_lt (lt x c h1)
  ·exact wD r n acc h lt
theorem rK {M:Model} {A:Around} {E:VS} {s:Shared} {sc:Scope} {g:Addr} {cl:List (Str×Addr)} {qual:Str} {oe:Env} {Q:Env->Shared->Prop}
  (hQ:∀ h':Heap,h'.Ns s.heap.objs.size (fun _=>none)->(∀ b o,s.heap.get? b=some o->h'.get? b=some o)->(∀ n c,(cellsFrom (s.heap.objs.size + 1) sc.names cl).lookup n=some c->cl.lookup n=some c\/h'.IsCell c none)->
   Q { scope:=sc,locals:=s.heap.objs.size,globals:=g,cells:=cellsFrom (s.heap.objs.size + 1) sc.names cl,qual:=qual,func:=none,code:=oe.code,frame:=oe.frame,builtins:=oe.builtins } { s with heap:=h' }) :
  wpAny M A (newFunctionEnv sc g cl [] qual none .none (some oe)) Q E s:=by
 simp only[newFunctionEnv,Option.isSome_some,if_true];refine wpAny_bind (wpAny_alloc ?_);refine wpAny_bind (wpAny_layCells _ (fun name kind cells=>by cases hkc:kind == NameKind.cell <;> simp [hkc]) _ _ _ _ ?_);have go:∀ (names:List (Str×NameKind)) (h:Heap) (acc:List (Str×Addr)) (P:Str->Addr->Prop),(∀ n c,acc.lookup n=some c->P n c\/h.IsCell c none)->∀ n c,(cellsFrom h.objs.size names acc).lookup n=some c->P n c\/(pushCells h names).IsCell c none:=by
  intro names
  induction names with
  | nil=>intro h acc P x;exact x
  | cons p r ih=>
   intro h acc P x;obtain⟨y,k⟩:=p;unfold cellsFrom pushCells;split
   ·have:=ih (h.push { cls:=.type "cell",data:=.cell none }) ((y,h.objs.size)::acc) P fun n c e=>by
     rw[List.lookup_cons] at e;cases hx:n == y with
     | true=>rw[hx] at e;cases e;exact .inr ⟨_,Heap.get?_push_size _ rfl,rfl⟩
     | false=>
      rw[hx] at e;rcases x n c e with q | q
      ·exact .inl q
      ·exact .inr (q.keeps fun b o e=>Heap.get?_push_of_some _ e)
    rwa [Heap.size_push] at this
   ·exact ih h acc P x
 have ok:=go sc.names (s.heap.push { cls:=.type "dict",data:=.dict #[] }) cl (fun n c=>cl.lookup n=some c) fun n c e=>.inl e;rw[Heap.size_push] at ok;rw[show ({ s with heap:=s.heap.push { cls:=.type "dict",data:=.dict #[] } }:Shared).heap.objs.size=s.heap.objs.size + 1 from Heap.size_push ..];refine wpAny_bind ?_;rw[List.forIn_nil];exact wpAny_pure (wpAny_pure (hQ _ ((Heap.Ns.new s.heap (.type "dict")).keeps (pushCells_keeps _ _)) (fun b o e=>pushCells_keeps _ _ b o (Heap.get?_push_of_some _ e)) ok))
abbrev aY (X:Cx) (sc:Scope) (Nc:Ls) (s₀:Shared) (H₀:Hp) (C:Addr) (ex:La) (pn:Pn):Cx where
 prog:=X.prog
 w:=X.w
 K:=X.K
 mg:=X.mg
 base:=X.base
 A:=X.A
 N:=Nc
 s₀:=s₀
 H₀:=H₀
 env:=compEnvC sc (bcl X.env.cells sc C) C X.env
 outer:=X.stack
 stack:=X.stack
 ex:=ex
 fn:=fun x=>sc.names.lookup x == some .cell
 calm:=X.calm
 pn:=pn
 xe:=fun _ _=>False
def jF (fr:On) (σ:St):St:=fr.map fun o=>o.bind fun j=>(σ[j]?).join
def Es (J:It) (g:TG) (te:TE) (σ0:St) (H1:Hp) (Q:VK):Prop:=
 ∃ W:Nat->Nat->List V->St->Hp->Prop,(∃ m,W 0 m [] σ0 H1)/\∀ i m ys σc H,W i m ys σc H->ys.length < sizeLine/\
  ((J.stop i H/\∀ l,H l=none->Q (.ref l) (upd H l (.lst ys)))\/
   (J.go i H/\∀ x H',J.yld i H x H'->g x σc H' fun σ2 H2=>∃ N:VK,(∀ y H3,N y H3->∃ m',m' < m/\W (i + 1) m' (ys++[y]) σ2 H3)/\te σ2 H2 N))
def oV (fr:On) (wi:TI) (g:TG) (te:TE):TE:=fun σ H Q=>wi σ H fun J H1=>Es J g te (jF fr σ) H1 Q
theorem iZ {sc:Scope} {env:Env} {x:Str} {k:NameKind} (h:(relabel sc env).names.lookup x=some k):sc.names.lookup x=some k\/(k=.cell/\sc.names.lookup x=some .free):=by
 have go:∀ l:List (Str×NameKind),(l.map fun (n,k)=>if (k == NameKind.free && env.scope.kind == .function && env.kindOf n == some .cell) then (n,NameKind.cell) else (n,k)).lookup x=some k->l.lookup x=some k\/(k=.cell/\l.lookup x=some .free):=by
  intro l
  induction l with
  | nil=>intro h;simp at h
  | cons p r ih=>
   intro h;obtain⟨n,k'⟩:=p;rw[List.map_cons] at h;by_cases hc:(k' == NameKind.free && env.scope.kind == .function && env.kindOf n == some .cell)=true
   ·have h2:List.lookup x ((n,NameKind.cell)::r.map fun (n,k)=>if (k == NameKind.free && env.scope.kind == .function && env.kindOf n == some .cell) then (n,NameKind.cell) else (n,k))=some k:=by
     have h3:=h;simp only[hc,if_true] at h3;exact h3
    have hk:k'=.free:=by
     simp only[Bool.and_eq_true] at hc;simpa using hc.1.1
    subst hk;cases hx:x == n with
    | true=>
     rw[List.lookup_cons,hx] at h2;rw[List.lookup_cons,hx];cases h2;exact .inr ⟨rfl,rfl⟩
    | false=>
     rw[List.lookup_cons,hx] at h2;rw[List.lookup_cons,hx];exact ih h2
   ·have hc':(k' == NameKind.free && env.scope.kind == .function && env.kindOf n == some .cell)=false:=by simpa using hc
    have h2:List.lookup x ((n,k')::r.map fun (n,k)=>if (k == NameKind.free && env.scope.kind == .function && env.kindOf n == some .cell) then (n,NameKind.cell) else (n,k))=some k:=by
     have h3:=h;simp only[hc',Bool.false_eq_true,if_false] at h3;exact h3
    cases hx:x == n with
    | true=>
     rw[List.lookup_cons,hx] at h2;rw[List.lookup_cons,hx];exact .inl h2
    | false=>
     rw[List.lookup_cons,hx] at h2;rw[List.lookup_cons,hx];exact ih h2
 exact go _ h
theorem sO {sc:Scope} {env:Env} {x:Str} (h:sc.names.lookup x=some .free):(relabel sc env).names.lookup x=some .cell\/(relabel sc env).names.lookup x=some .free:=by
 have go:∀ l:List (Str×NameKind),l.lookup x=some .free->(l.map fun (n,k)=>if (k == NameKind.free && env.scope.kind == .function && env.kindOf n == some .cell) then (n,NameKind.cell) else (n,k)).lookup x=some .cell\/(l.map fun (n,k)=>if (k == NameKind.free && env.scope.kind == .function && env.kindOf n == some .cell) then (n,NameKind.cell) else (n,k)).lookup x=some .free:=by
  intro l
  induction l with
  | nil=>intro h;simp at h
  | cons p r ih=>
   intro h;obtain⟨n,k'⟩:=p;rw[List.map_cons];by_cases hc:(k' == NameKind.free && env.scope.kind == .function && env.kindOf n == some .cell)=true
   ·simp only[hc,if_true];cases hx:x == n with
    | true=>left;simp [List.lookup_cons,hx]
    | false=>
     rw[List.lookup_cons,hx] at h;simp only[List.lookup_cons,hx];exact ih h
   ·have hc':(k' == NameKind.free && env.scope.kind == .function && env.kindOf n == some .cell)=false:=by simpa using hc
    simp only[hc',Bool.false_eq_true,if_false];cases hx:x == n with
    | true=>
     rw[List.lookup_cons,hx] at h
     right
     simp only[List.lookup_cons,hx];exact h
    | false=>
     rw[List.lookup_cons,hx] at h;simp only[List.lookup_cons,hx];exact ih h
 exact go _ h
section
variable {X:Cx} {pins:Pn} {σ:St}
theorem fe {sc:Scope} {Nc:Ls} {fr:On} (B:Blk X.N X.env.scope sc Nc fr) (ok:X.Ok) {n:Str} {c:Addr} (h:(takes X.env.cells sc.names []).lookup n=some c):X.env.cells.lookup n=some c:=by
 rcases rj _ _ h with q | ⟨q1,q2⟩
 ·simp at q
 ·obtain⟨c',hc'⟩:=ok.has n (B.free _ q1 rfl);rw[hc'] at q2;rw[hc',q2]
  rfl
theorem r_ {sc:Scope} {Nc:Ls} {fr:On} {C:Addr} (B:Blk X.N X.env.scope sc Nc fr) (ok:X.Ok) {n:Str} {c:Addr} (h:(bcl X.env.cells sc C).lookup n=some c):X.env.cells.lookup n=some c\/C < c:=by
 rcases xP _ _ _ h with q | ⟨q,_⟩
 ·exact .inl (fe B ok q)
 ·exact .inr q
theorem dh {n:Str} {k:NameKind}:∀ {l:List (Str×NameKind)},l.lookup n=some k->(n,k)∈l:=fun h=>PySem.mem_of_lookup h
theorem Bj {sc:Scope} {Nc:Ls} {fr:On} (B:Blk X.N X.env.scope sc Nc fr) {s₀:Shared} {H₀:Hp} {C:Addr} {ex:La} {pn:Pn} (I:Inv X pins σ H₀ s₀) (hC:s₀.heap.objs.size<=C)
  (hex:∀ b∈ex,b < s₀.heap.objs.size/\b∉X.fs/\b≠X.env.locals/\(∀ x c,X.env.cells.lookup x=some c->c≠b)/\∀ o,X.base.get? b≠some o):(aY X sc Nc s₀ H₀ C ex pn).Ok where
 mod:=I.ok.mod
 kind:=B.kind
 glob:=I.ok.glob
 blt:=I.ok.blt
 above:=hC
 inj:=wD _ _ _ (fun x y c h1 h2=>I.ok.inj x y c (fe B I.ok h1) (fe B I.ok h2)) fun x c h=>by
  obtain⟨v,o,e,_⟩:=I.cell x c (fe B I.ok h);exact Nat.lt_succ_of_lt (Nat.lt_of_lt_of_le (Heap.lt_size e) hC)
 has:=fun x hx=>by
  have hf:sc.names.lookup x=some .cell\/sc.names.lookup x=some .free:=by
   rcases hx with hx | hx
   ·rcases iZ hx with q | ⟨_,q⟩
    ·exact .inl q
    ·exact .inr q
   ·rcases iZ hx with q | ⟨_,q⟩
    ·exact .inr q
    ·exact .inr q
  refine Option.isSome_iff_exists.mp (PySem.W.cellsFrom_some _ _ _ ?_);rcases hf with q | q
  ·exact .inl q
  ·exact .inr (mw _ _ (dh q))
 cab:=fun x c h e=>by
  have h':sc.names.lookup x=some .cell:=by simpa using h
  exact Nat.le_trans hC (Nat.le_of_succ_le (wC _ _ _ (dh h') e))
 hd:=I.ok.hd
 frames:=I.ok.frames
 stk:=.inl rfl
 exf:=fun b hb=>⟨fun e=>by have:=(hex b hb).1;rw[e] at this;exact absurd (Nat.lt_of_lt_of_le this hC) (Nat.lt_irrefl _),fun x c h=>by
  rcases r_ B I.ok h with q | q
  ·exact(hex b hb).2.2.2.1 x c q
  ·exact fun z=>absurd (Nat.lt_trans (Nat.lt_of_lt_of_le (hex b hb).1 hC) q) (by rw[z];exact Nat.lt_irrefl _)⟩
 bs:=fun b o e=>I.bs b o e
 bsz:=Nat.le_trans I.ok.bsz I.sz
 noex:=fun b o e hb=>(hex b hb).2.2.2.2 o e
 exfs:=fun b hb hf=>by
  rcases List.mem_cons.mp (I.oW b hf) with e | e
  ·exact(hex b hb).2.2.1 e
  ·exact(hex b hb).2.1 e
 kQ:=I.stack
 frf:=fun b hb=>I.oq b hb
 tb:=I.tb
end
section
variable {X:Cx}
abbrev a9 (us:Lv) (n:Nat):Obj:={ cls:=.type "list",data:=.seq us.toArray n }
theorem wa {α:Type} {Nc:Ls} {fr:List α} {i:Nat} {x:Str} {o:α} (h1:Nc[i]?=some x) (h2:fr[i]?=some o):(x,o)∈Nc.zip fr:=by
 have h3:(Nc.zip fr)[i]?=some (x,o):=by
  rw[List.getElem?_zip_eq_some];exact⟨h1,h2⟩
 exact List.mem_of_getElem? h3
theorem xU {pins:Pn} {σ:St} {sc:Scope} {Nc:Ls} {fr:On} (B:Blk X.N X.env.scope sc Nc fr) {s₀ s₄:Shared} {H₀:Hp} {C D:Addr} {o:Obj} {ex:La} {mC:SV}
  (ok:(aY X sc Nc s₀ H₀ C ex (X.pn++pins)).Ok) (I:Inv X pins σ H₀ s₀) (hC:s₀.heap.objs.size<=C) (ho:s₄.os=s₀.os) (hg:s₄.gens=s₀.gens) (hk:∀ b u,s₀.heap.get? b=some u->s₄.heap.get? b=some u) (hn:s₄.heap.Ns C mC)
  (hw:∀ x c,(bcl X.env.cells sc C).lookup x=some c->(takes X.env.cells sc.names []).lookup x=some c\/s₄.heap.IsCell c none) (hD:s₀.heap.get? D=some o) (hDH:H₀ D=none) (hDL:D≠X.env.locals) (hDf:D∉X.fs) (hDc:∀ v,o.data≠.cell v) :
  Inv (aY X sc Nc s₀ H₀ C ex (X.pn++pins)) [(D,o)] (jF fr σ) H₀ s₄:=by
 have stk:∀ b,b≠X.env.locals->b∉X.fs->b∉frs X.stack:=fun b h1 h2 h3=>by
  rcases List.mem_cons.mp (I.oW b h3) with e | e
  ·exact h1 e
  ·exact h2 e
 have ltC:∀ {b:Addr} {u:Obj},s₀.heap.get? b=some u->b≠C:=fun e z=>absurd (Nat.lt_of_lt_of_le (Heap.lt_size e) (by rw[z];exact hC)) (Nat.lt_irrefl _);refine⟨ok,ho,by rw[hg];exact I.bare,Un.kept hk,⟨mC,hn,fun i x v h1 h2 h3=>?_⟩,fun x c h=>?_,I.hok.fresh hC,fun x c h=>?_,fun p hp=>?_,I.hok.kept hk,?_⟩
 ·have h2':(fr.map fun o=>o.bind fun j=>(σ[j]?).join)[i]?=some (some v):=h2;rw[List.getElem?_map] at h2';cases ef:fr[i]? with
  | none=>rw[ef] at h2';cases h2'
  | some oj=>
   rw[ef] at h2';have h4:(oj.bind fun j=>(σ[j]?).join)=some v:=Option.some.inj h2';cases oj with
   | none=>cases h4
   | some j=>
    have hz:=B.whence _ (wa h1 ef);have hz':(decide (X.N[j]?=some x) && decide (sc.names.lookup x=some .free))=true:=hz;rw[Bool.and_eq_true] at hz';have e1:X.N[j]?=some x:=of_decide_eq_true hz'.1;have e2:sc.names.lookup x=some .free:=of_decide_eq_true hz'.2;have h5:σ[j]?=some (some v):=by
     have h6:(σ[j]?).join=some v:=h4;cases e3:σ[j]? with
     | none=>rw[e3] at h6;cases h6
     | some y=>rw[e3] at h6;exact congrArg some h6
    have hkd:=B.free _ (dh e2) rfl;obtain⟨m,hm,hl⟩:=I.loc;have vis:Vis X.env.scope x:=by rcases hkd with k | k;exact .inr (.inl k);exact .inr (.inr k)
    obtain⟨u,r,l⟩:=hl j x v e1 h5 vis;refine⟨u,r,.inr ⟨sO e2,?_⟩⟩;rcases l with ⟨k,_⟩ | ⟨_,c,hc,hcell⟩
    ·have k':X.env.scope.names.lookup x=some .local:=k;rcases hkd with q | q
     ·rw[q] at k';cases k'
     ·rw[q] at k';cases k'
    ·obtain⟨c',hc'⟩:=Option.isSome_iff_exists.mp (mw (cells:=X.env.cells) sc.names [] (dh e2));have hc2:=fe B I.ok hc';rw[hc] at hc2;cases hc2;obtain⟨oc,ho1,ho2⟩:=hcell;exact⟨c,(wB _ _ _ fun z=>by have:=B.own _ z rfl;rw[e2] at this;cases this).trans hc',oc,hk _ _ ho1,ho2⟩
 ·rcases hw x c h with q | q
  ·obtain⟨v,oc,h1,h2⟩:=I.cell x c (fe B I.ok q);exact⟨v,oc,hk _ _ h1,h2⟩
  ·exact⟨_,q⟩
 ·rcases r_ B I.ok h with q | q
  ·exact I.freeC x c q
  ·exact I.hok.fresh (Nat.le_trans hC (Nat.le_of_lt q))
 ·rcases List.mem_append.mp hp with hp | hp
  ·obtain⟨e1,e2,e3,e4,e5⟩:=I.pin p hp;exact⟨hk _ _ e1,e2,ltC e1,stk _ e3 e4,e5⟩
  ·have e:p=(D,o):=by simpa using hp
   subst e;exact⟨hk _ _ hD,hDH,ltC hD,stk _ hDL hDf,hDc⟩
 ·show (fr.map _).length=Nc.length;rw[lM0,B.len]
abbrev Runs (prog:Program) (w:World) (A:Around) {α:Type} (c:Sem α) (t:Shared) (Q:α->Shared->Prop):Prop:=wpAny (model prog w) A c Q (fun _ _=>False) t
theorem Runs.go {prog:Program} {w:World} {A:Around} {α:Type} {c:Sem α} {t:Shared} {Q Q':α->Shared->Prop} {E:VS} (h:Runs prog w A c t Q) (f:∀ a u,Q a u->Q' a u):wpAny (model prog w) A c Q' E t:=wpAny_mono h f fun _ _ z=>z.elim
theorem tU {prog:Program} {w:World} {A:Around} {R:Result->Shared->Prop} {s:Shared} {elt tg iter:Expr} {sc:Scope} {pos:Pos} {it acc:Value} {env:Env} (J:Nat->Shared->Prop)
  (one:∀ k t,J k t->Runs prog w A (pyNext it) t fun r t1=>match r with
   | none=>R (.ok .next) t1
   | some v=>Runs prog w A (letOwnedTupleGo tg it v) t1 fun _ t2=>Runs prog w A (assign tg env v) t2 fun _ t3=>Runs prog w A (eval elt env) t3 fun x t4=>
     Runs prog w A (call (.builtin "list.append") [acc,x]) t4 fun _ t5=>∃ j,j < k/\J j t5)
  (k:Nat) (h:J k s):codeAny (model prog w) A (.compLoop (.ListComp elt [⟨tg,iter,[],0⟩] sc pos) 0 it acc env) R s:=
 PySem.W.kcp_loop J (fun k t hJ=>(one k t hJ).go fun r t1 q=>match r,q with
  | none,q=>q
  | some _,q=>Runs.go q fun _ _ q=>Runs.go q fun _ _ q=>Runs.go q fun _ _ q=>Runs.go q fun _ _ q=>q) k h
theorem qi {elt iter tg:Expr} {sc:Scope} {pos:Pos} {Nc:Ls} {fr:On} {g:TG} {te:TE} (B:Blk X.N X.env.scope sc Nc fr) (hc:X.calm=true)
  (hg:∀ s₀ H₀ C ex pn,PG (aY X sc Nc s₀ H₀ C ex pn) tg g) (he:∀ s₀ H₀ C ex pn,PE (aY X sc Nc s₀ H₀ C ex pn) elt te)
  {pins:Pn} {σ:St} {s2:Shared} {H2:Hp} {it:Addr} {fp:La} {tn:Nat->Heap->Prop} {J:It} (I2:Inv X pins σ H2 s2) (T:Turn X.prog X.w X.K tg J fp it tn) (st2:tn 0 s2.heap) (f2:∀ b∈fp,c5 X pins H2 b)
  {Q:VK} (cw:Es J g te (jF fr σ) H2 Q) {RR:Value->Addr->Result->Shared->Prop} {E:VS}
  (hRR:∀ D C s' H',Inv X pins σ H' s'->(∃ m,s'.heap.Ns C m)->c5 X pins H' C->Q (.ref D) H'->RR (.ref D) C (.ok .next) s') :
  wpAny (model X.prog X.w) X.A (newList []) (fun acc s₃=>wpAny (model X.prog X.w) X.A (newFunctionEnv sc X.env.globals (takes X.env.cells sc.names []) [] X.env.qual none .none (some X.env)) (fun cenv s₄=>
   codeAny (model X.prog X.w) X.A (.compStart (.ListComp elt [⟨tg,iter,[],0⟩] sc pos) 0 (.ref it) acc { cenv with scope:=relabel sc X.env }) (RR acc cenv.locals) s₄) E s₃) E s2:=by
 obtain⟨W,⟨m0,w0⟩,turn⟩:=cw;refine wpAny_newObj_type (rK fun h₁ hns₁ old₁ cl₁=>?_);dsimp only at hns₁ old₁ cl₁ ⊢;generalize hH2:s2.heap.push { cls:=.type "list",dict:=none,data:=.seq ([]:Lv).toArray }=hp at hns₁ old₁ cl₁ ⊢;have hCs:hp.objs.size=s2.heap.objs.size + 1:=by rw[<- hH2,Heap.size_push]
 generalize hCe:hp.objs.size=C at hns₁ cl₁ ⊢;generalize hDe:s2.heap.objs.size=D at hCs ⊢;have hDC:D≠C:=by rw[<- hCe,hCs];exact Nat.ne_of_lt (Nat.lt_succ_self _)
 have up:∀ b o,s2.heap.get? b=some o->hp.get? b=some o:=fun b o e=>by rw[<- hH2];exact Heap.get?_push_of_some _ e
 have hDp:hp.get? D=some (a9 [] 0):=by rw[<- hH2,<- hDe];exact Heap.get?_push_size _ rfl
 have I3:Inv X pins σ H2 { s2 with heap:=hp }:=I2.kept (t':=s2.toks) up;have hD0:H2 D=none:=I2.hok.fresh (by rw[hDe];exact Nat.le_refl _);have fD:c5 X pins H2 D:=I2.lR (by rw[hDe];exact Nat.le_refl _) hD0;have fpo:∀ b∈fp,∃ o,s2.heap.get? b=some o/\∀ v,o.data≠.cell v:=T.obj 0 _ st2;have fplt:∀ b∈fp,b < D:=fun b hb=>by obtain⟨o,e,_⟩:=fpo b hb;rw[<- hDe];exact Heap.lt_size e
 have hDfp:D∉fp:=fun hb=>Nat.lt_irrefl _ (fplt D hb);have hCfp:C∉fp:=fun hb=>by have:=fplt C hb;rw[<- hCe,hCs] at this;exact absurd (Nat.lt_of_succ_lt this) (Nat.lt_irrefl _)
 have nobase:∀ b,(b∈X.ex\/X.s₀.heap.objs.size<=b)->∀ o,X.base.get? b≠some o:=fun b h o e=>by
  rcases h with h | h
  ·exact I2.ok.noex b o e h
  ·exact absurd (Nat.lt_of_lt_of_le (Heap.lt_size e) (Nat.le_trans I2.ok.bsz h)) (Nat.lt_irrefl _)
 have hex:∀ b∈D::fp,b < hp.objs.size/\b∉X.fs/\b≠X.env.locals/\(∀ x c,X.env.cells.lookup x=some c->c≠b)/\∀ o,X.base.get? b≠some o:=fun b hb=>by
  have fb:c5 X pins H2 b:=by
   rcases List.mem_cons.mp hb with e | hb
   ·rw[e];exact fD
   ·exact f2 b hb
  refine⟨?_,fb.2.2.1,fb.2.1,fb.2.2.2.2.1,nobase b fb.2.2.2.1⟩;rcases List.mem_cons.mp hb with e | hb
  ·rw[e,hCs];exact Nat.lt_succ_self _
  ·rw[hCs];exact Nat.lt_succ_of_lt (fplt b hb)
 have hCle:hp.objs.size<=C:=by rw[hCe];exact Nat.le_refl _
 have ok:(aY X sc Nc { s2 with heap:=hp } H2 C (D::fp) (X.pn++pins)).Ok:=Bj B I3 hCle hex;have old:∀ b u,hp.get? b=some u->h₁.get? b=some u:=old₁;have J0:Inv (aY X sc Nc { s2 with heap:=hp } H2 C (D::fp) (X.pn++pins)) [(D,a9 [] 0)] (jF fr σ) H2 { s2 with heap:=h₁ }:=
  xU B ok I3 hCle rfl rfl old hns₁ cl₁ hDp hD0 fD.2.1 fD.2.2.1 (fun v z=>by cases z)
 have fpY:∀ {H':Hp} {u:Obj},(∀ b∈fp,H' b=none)->∀ b∈fp,c5 (aY X sc Nc { s2 with heap:=hp } H2 C (D::fp) (X.pn++pins)) [(D,u)] H' b:=fun {H' u} hn b hb=>
  ⟨hn b hb,fun e=>hCfp (by have e':b=C:=e;rw[<- e'];exact hb),ok.exfs b (List.mem_cons_of_mem _ hb),.inl (List.mem_cons_of_mem _ hb),(ok.exf b (List.mem_cons_of_mem _ hb)).2,fun p hp'=>by
   rcases List.mem_append.mp hp' with q | q
   ·exact(f2 b hb).2.2.2.2.2 p q
   ·have e:p=(D,u):=by simpa using q
    rw[e];exact fun z=>hDfp (by have z':D=b:=z;rw[z'];exact hb)⟩
 have loop:codeAny (model X.prog X.w) X.A (.compLoop (.ListComp elt [⟨tg,iter,[],0⟩] sc pos) 0 (.ref it) (.ref D) (compEnvC sc (bcl X.env.cells sc C) C X.env)) (RR (.ref D) C) { s2 with heap:=h₁ }:=by
  refine tU (fun n s'=>∃ (i:Nat) (ys:List V) (us:Lv) (σc:St) (H':Hp),Inv (aY X sc Nc { s2 with heap:=hp } H2 C (D::fp) (X.pn++pins)) [(D,a9 us us.length)] σc H' s'/\Vals ys us/\tn i s'.heap/\(∀ b∈fp,H' b=none)/\W i n ys σc H')
   ?_ m0 ⟨0,[],[],_,H2,J0,.nil,T.keep _ _ _ st2 (fun b _ o e=>old b o (up b o e)),fun b hb=>(f2 b hb).1,w0⟩
  rintro n s3 ⟨i,ys,us,σ3,H3,I3',rv,st3,fr3,w3⟩;obtain⟨hsz,hcase⟩:=turn i n ys σ3 H3 w3;rcases hcase with ⟨stop,qn⟩ | ⟨go,step⟩
  ·refine thn (T.done (aY X sc Nc { s2 with heap:=hp } H2 C (D::fp) (X.pn++pins)) rfl rfl rfl hc i _ s3 σ3 H3 _ I3' (fpY fr3) st3 stop) fun r s4 ⟨hr,I4⟩=>?_;subst hr;obtain⟨pD,pH,_,_,_⟩:=I4.pin (D,a9 us us.length) (List.mem_append_right _ List.mem_cons_self);obtain⟨mC',hnC,_⟩:=I4.loc;have un:Un (frs X.stack) fp H2 (upd H3 D (.lst ys)) s2.heap s4.heap:=by
    have u0:Un (frs X.stack) (D::fp) H2 H3 hp s4.heap:=I4.base;have neD:∀ {b:Addr} {o:Obj},s2.heap.get? b=some o->b≠D:=fun e=>by rw[<- hDe];exact Nat.ne_of_lt (Heap.lt_size e)
    have nx:∀ {b:Addr} {o:Obj},s2.heap.get? b=some o->b∉fp->b∉D::fp:=fun e h1 h2=>by
     rcases List.mem_cons.mp h2 with z | z
     ·exact neD e z
     ·exact h1 z
    have neT:∀ {b:Addr} {o:HO},H2 b=some o->b≠D:=fun e z=>by rw[z,hD0] at e;cases e
    exact⟨fun b o e n hb hx=>u0.keep b o (up b o e) n hb (nx e hx),fun b o e n hb hx=>u0.slot b o (up b o e) n hb (nx e hx),fun b o e n hx=>by rw[af (neD e)];exact u0.free b o (up b o e) n (nx e hx),
     fun b o e hx=>u0.there b o (up b o e) (nx e hx),fun b xs e=>by rw[af (neT e)];exact u0.tups b xs e,fun b o xs e=>by rw[af (neT e)];exact u0.frzs b o xs e,fun b ps e=>by rw[af (neT e)];exact u0.tbls b ps e⟩
   have hok:HOk X.prog X.w (upd H3 D (.lst ys)) s4.heap:=fun b u e=>by
    by_cases hb:b=D
    ·subst hb;rw[ao] at e;cases e;exact⟨Nat.le_of_lt hsz,us,us.length,rv,pD⟩
    ·rw[af hb] at e;refine(I4.hok b u e).nY (fun c v _ q=>q) (fun c q=>?_) fun c xs q=>?_
     ·rw[af (fun z=>by rw[z] at q;rw[show H3 D=none from pH] at q;cases q)];exact q
     ·rw[af (fun z=>by rw[z] at q;rw[show H3 D=none from pH] at q;cases q)];exact q
   have I5:Inv X pins σ (upd H3 D (.lst ys)) s4:=I2.Ei I4.os un hok I4.bare fun b hb=>⟨(f2 b hb).2.2.2.1,(f2 b hb).2.1,(f2 b hb).2.2.2.2.1,(f2 b hb).2.2.2.2.2⟩;refine hRR D C s4 _ I5 ⟨mC',hnC⟩ ?_ (qn D pH);have hC2:s2.heap.objs.size<=C:=by rw[hDe,<- hCe,hCs];exact Nat.le_succ _
   refine I2.lR hC2 ?_;rw[af (Ne.symm hDC)];exact I4.free
  ·refine thn (T.item (aY X sc Nc { s2 with heap:=hp } H2 C (D::fp) (X.pn++pins)) rfl rfl rfl hc i _ s3 σ3 H3 _ I3' (fpY fr3) st3 go) fun r s4 ⟨u,hr,h4⟩=>?_;subst hr;refine thn h4 fun _ s5 ⟨x,H5,I5,r5,y5,st5,fr5⟩=>?_;have I5':=I5.pinned (fpY fr5) (T.obj _ _ st5);refine thn (hg _ _ _ _ _ _ s5 σ3 H5 x u _ I5' r5 (step x H5 y5)) fun _ s6 ⟨σ6,H6,I6,N,hN,q6⟩=>?_;refine thn (he _ _ _ _ _ _ s6 σ6 H6 _ I6 q6) fun y s7 ⟨yv,H7,I7,r7,q7⟩=>?_;obtain⟨pD,pH,pL,pF,pc⟩:=I7.pin (D,a9 us us.length) (List.mem_append_right _ (List.mem_append_left _ List.mem_cons_self));have hlen:us.length=ys.length:=rv.length.symm;refine append_at (hsz:=by rw[List.size_toArray,hlen];exact Nat.le_of_lt hsz) pD fun h8 sb8 hD8=>?_;obtain⟨m',hm,w8⟩:=hN yv H7 q7;have st7:tn (i + 1) s7.heap:=T.keep _ _ _ st5 fun b hb o e=>(I7.pin (b,o) (List.mem_append_right _ (List.mem_append_right _ (dC hb e)))).1;have fr7:∀ b∈fp,H7 b=none:=fun b hb=>by
    obtain⟨o,e,d⟩:=T.obj _ _ st5 b hb;exact(I7.pin (b,o) (List.mem_append_right _ (List.mem_append_right _ (dC hb e)))).2.1
   have I7n:Inv (aY X sc Nc { s2 with heap:=hp } H2 C (D::fp) (X.pn++pins)) [] σ6 H7 s7:=I7.hU fun p z=>absurd z (by simp);have I8:Inv (aY X sc Nc { s2 with heap:=hp } H2 C (D::fp) (X.pn++pins)) [] σ6 H7 { s7 with heap:=h8 }:=
    I7n.turned (t':=s7.toks) (it:=D) (fun b o hb e=>(sb8.2 b hb).trans e) pH pL (.inl List.mem_cons_self) (fun x c e=>(ok.exf D List.mem_cons_self).2 x c e) fun p hp'=>by
     have hp2:p∈X.pn++pins:=by simpa using hp'
     exact fD.2.2.2.2.2 p hp2
   have e8:h8.get? D=some (a9 (us++[y]) (us++[y]).length):=by
    rw[hD8];simp
   refine⟨m',hm,i + 1,ys++[yv],us++[y],σ6,H7,I8.hU fun p z=>?_,rv.append (.cons r7 .nil),T.keep _ _ _ st7 fun b hb o e=>(sb8.2 b fun z=>hDfp (by rw[<- z];exact hb)).trans e,fr7,w8⟩;have e:p=(D,a9 (us++[y]) (us++[y]).length):=by simpa using z
   subst e;exact⟨e8,pH,pL,pF,fun v z=>by cases z⟩
 exact codeAny_compStart_list loop (wpAny_mono (T.self X.A 0 _ _ (fun _ _=>False) (T.keep _ _ _ st2 (fun b _ o e=>old b o (up b o e))) loop) (fun _ _ h=>h) fun _ _ h=>h.elim)
theorem tW {pins:Pn} {σ:St} {H:Hp} {s:Shared} {sc:Scope} {Nc:Ls} {fr:On} (B:Blk X.N X.env.scope sc Nc fr) (I:Inv X pins σ H s):closureFor sc X.env=pure (takes X.env.cells sc.names []):=
 qU fun y hy hf=>I.ok.has y.1 (B.free y hy hf)
theorem xf {elt iter tg:Expr} {sc:Scope} {pos:Pos} {Nc:Ls} {fr:On} {wi:TI} {g:TG} {te:TE} (hc:X.calm=true) (hi:PI X tg iter wi) (B:Blk X.N X.env.scope sc Nc fr)
  (hg:∀ s₀ H₀ C ex pn,PG (aY X sc Nc s₀ H₀ C ex pn) tg g) (he:∀ s₀ H₀ C ex pn,PE (aY X sc Nc s₀ H₀ C ex pn) elt te) (hs:∀ x,foldedSetIterable iter X.env x=pure x:=by intro _;rfl) :
  PE X (.ListComp elt [⟨tg,iter,[],0⟩] sc pos) (oV fr wi g te):=by
 intro pins s σ H Q I h;rw[eval_ListComp];refine wpAny_comprehension_free (use:=none) rfl hs (tW B I) B.kind B.locs (thn (hi pins s σ H _ I h) fun v s1 h1=>thn h1 fun itv s2 h2=>?_);obtain⟨it,fp,tn,J,H2,e,I2,T,st2,f2,cw⟩:=h2;subst e;refine qi (RR:=fun acc C=>compPost (model X.prog X.w) X.A X.xe none (EP X pins σ Q) acc C) B hc hg he I2 T st2 f2 cw fun D C s' H' I' hn fC q=>?_;obtain⟨m,hn⟩:=hn;exact⟨m,hn,fun h' sb=>⟨.ref D,H',I'.turned (t':=s'.toks) (fun b o hb e=>(sb.2 b hb).trans e) fC.1 fC.2.1 fC.2.2.2.1 fC.2.2.2.2.1 fC.2.2.2.2.2,rfl,q⟩⟩
theorem vK {i:Nat} {x:Str} {px spos:Pos} {elt iter tg:Expr} {sc:Scope} {pos:Pos} {Nc:Ls} {fr:On} {wi:TI} {g:TG} {te:TE} (hN:X.N.Nodup) (hi':X.N[i]?=some x) (hx:X.env.scope.names.lookup x=some .local)
  (hc:X.calm=true) (hi:PI X tg iter wi) (B:Blk X.N X.env.scope sc Nc fr)
  (hg:∀ s₀ H₀ C ex pn,PG (aY X sc Nc s₀ H₀ C ex pn) tg g) (he:∀ s₀ H₀ C ex pn,PE (aY X sc Nc s₀ H₀ C ex pn) elt te)
  (hsw:swapsWith (.ListComp elt [⟨tg,iter,[],0⟩] sc pos) (some (.Name x px)) spos.line X.env=pure true:=by rfl) (hs:∀ x,foldedSetIterable iter X.env x=pure x:=by intro _;rfl) :
  PS X (.Assign [.Name x px] (.ListComp elt [⟨tg,iter,[],0⟩] sc pos) spos) (fm (oV fr wi g te) (ka i)):=by
 intro pins s σ H D I h;rw[exec_Assign_Name_used _ _ _ _ hsw];refine wpAny_bind (wpAny_standAt (wpAny_bind ?_));show wpAny _ X.A (do let _ <- comprehension (.ListComp elt [⟨tg,iter,[],0⟩] sc pos) sc X.env _ (newList []) false (eval iter X.env) (some (assign (.Name x px) X.env))) _ _ s;refine wpAny_bind (wpAny_mono (wpAny_comprehension_free (use:=some (assign (.Name x px) X.env)) (Q:=fun _ s'=>SP X pins D .next s') rfl hs (tW B I) B.kind B.locs
  (thn (hi pins s σ H _ I h) fun v s1 h1=>thn h1 fun itv s2 h2=>?_)) (fun _ s' hq=>wpAny_pure (wpAny_pure hq)) fun _ _ e=>e)
 obtain⟨it,fp,tn,J,H2,e,I2,T,st2,f2,cw⟩:=h2;subst e;refine qi (RR:=fun acc C=>compPost (model X.prog X.w) X.A X.xe (some (assign (.Name x px) X.env)) (fun _ s'=>SP X pins D .next s') acc C) B hc hg he I2 T st2 f2 cw fun L C s' H' I' hn fC q=>?_;obtain⟨m,hn⟩:=hn;show wpAny _ X.A (assign (.Name x px) X.env (.ref L)) _ _ _;refine wpAny_assign_Name (rn I' hN hi' (.inl hx) (v:=.ref L) rfl (fun s3 I3 hs3=>?_) (.inr hx));obtain⟨a,sb,ha⟩:=hs3;have hCa:C≠a:=by
  rcases ha with e | e
  ·rw[e];exact fC.2.1
  ·exact fun z=>fC.2.2.2.2.1 _ _ e (by rw[z])
 exact⟨m,hn.sameBut sb hCa,fun h' sb'=>⟨_,H',I3.turned (t':=s3.toks) (fun b o hb e=>(sb'.2 b hb).trans e) fC.1 fC.2.1 fC.2.2.2.1 fC.2.2.2.2.1 fC.2.2.2.2.2,q⟩⟩
structure mq (K:Fg0):Prop where
 bb:PySem.W.kitOne K (.type "bool") (.type "bool")=some true
 bi:PySem.W.kitOne K (.type "bool") (.type "int")=some true
 bl:PySem.W.kitOne K (.type "bool") (.type "list")=some false
 bt:PySem.W.kitOne K (.type "bool") (.type "tuple")=some false
 ib:PySem.W.kitOne K (.type "int") (.type "bool")=some false
 ii:PySem.W.kitOne K (.type "int") (.type "int")=some true
 il:PySem.W.kitOne K (.type "int") (.type "list")=some false
 it:PySem.W.kitOne K (.type "int") (.type "tuple")=some false
 nb:PySem.W.kitOne K (.type "NoneType") (.type "bool")=some false
 ni:PySem.W.kitOne K (.type "NoneType") (.type "int")=some false
 nl:PySem.W.kitOne K (.type "NoneType") (.type "list")=some false
 nt:PySem.W.kitOne K (.type "NoneType") (.type "tuple")=some false
 sb:PySem.W.kitOne K (.type "str") (.type "bool")=some false
 si:PySem.W.kitOne K (.type "str") (.type "int")=some false
 sl:PySem.W.kitOne K (.type "str") (.type "list")=some false
 st:PySem.W.kitOne K (.type "str") (.type "tuple")=some false
 lb:PySem.W.kitOne K (.type "list") (.type "bool")=some false
 li:PySem.W.kitOne K (.type "list") (.type "int")=some false
 ll:PySem.W.kitOne K (.type "list") (.type "list")=some true
 lt:PySem.W.kitOne K (.type "list") (.type "tuple")=some false
 tb:PySem.W.kitOne K (.type "tuple") (.type "bool")=some false
 ti:PySem.W.kitOne K (.type "tuple") (.type "int")=some false
 tl:PySem.W.kitOne K (.type "tuple") (.type "list")=some false
 tt:PySem.W.kitOne K (.type "tuple") (.type "tuple")=some true
 db:PySem.W.kitOne K (.type "dict") (.type "bool")=some false
 di:PySem.W.kitOne K (.type "dict") (.type "int")=some false
 dl:PySem.W.kitOne K (.type "dict") (.type "list")=some false
 dt:PySem.W.kitOne K (.type "dict") (.type "tuple")=some false
inductive Kn (H:Hp):V->Prop where
 | non:Kn H .non
 | bl (b:Bool):Kn H (.bl b)
 | int (i:Int):Kn H (.int i)
 | str (x:Str):Kn H (.str x)
 | lst {a:Addr} {xs:List V} (e:H a=some (.lst xs)):Kn H (.ref a)
 | tup {a:Addr} {xs:List V} (e:H a=some (.tup xs)):Kn H (.ref a)
 | dK {a:Addr} {kvs:List (Key×V)} (e:H a=some (.dK kvs)):Kn H (.ref a)
def isB:V->Bool
 | .bl _=>true
 | _=>false
def isI:V->Bool
 | .bl _=>true
 | .int _=>true
 | _=>false
theorem aJ {pins:Pn} {s:Shared} {σ:St} {H:Hp} {x:V} {c:String} {us:Lv} {t:Value} {b b':Bool} {Q:VK} (I:Inv X pins σ H s) (r:Vals [x,.ty c] us) (ty:m6 X.K H x t) (e:PySem.W.kitOne X.K t (.type c)=some b) (eb:b'=b) (q:Q (.bl b') H) :
  wpAny (model X.prog X.w) X.A (call (.builtin "isinstance") us) (EP X pins σ Q) X.xe s:=by
 obtain⟨u,w',rfl,ru,rw'⟩:=vals2 r;obtain rfl:w'=Value.type c:=rw';subst eb;exact yL I ru ty e fun tk=>⟨.bl b',H,I.tok _,rfl,q⟩
theorem Bf (F:mq X.K):cj X (.builtin "isinstance") (fun xs H Q=>∃ x,xs=[x,.ty "bool"]/\Kn H x/\Q (.bl (isB x)) H):=by
 intro pins s σ H xs us Q I r h;obtain⟨x,rfl,k,q⟩:=h;cases k with
 | non=>exact aJ I r .non F.nb rfl q
 | bl b=>exact aJ I r (.bl b) F.bb rfl q
 | int i=>exact aJ I r (.int i) F.ib rfl q
 | str y=>exact aJ I r (.str y) F.sb rfl q
 | lst e=>exact aJ I r (.lst e) F.lb rfl q
 | tup e=>exact aJ I r (.tup e) F.tb rfl q
 | dK e=>exact aJ I r (.dK e) F.db rfl q
theorem Be (F:mq X.K):cj X (.builtin "isinstance") (fun xs H Q=>∃ x,xs=[x,.ty "int"]/\Kn H x/\Q (.bl (isI x)) H):=by
 intro pins s σ H xs us Q I r h;obtain⟨x,rfl,k,q⟩:=h;cases k with
 | non=>exact aJ I r .non F.ni rfl q
 | bl b=>exact aJ I r (.bl b) F.bi rfl q
 | int i=>exact aJ I r (.int i) F.ii rfl q
 | str y=>exact aJ I r (.str y) F.si rfl q
 | lst e=>exact aJ I r (.lst e) F.li rfl q
 | tup e=>exact aJ I r (.tup e) F.ti rfl q
 | dK e=>exact aJ I r (.dK e) F.di rfl q
mutual
inductive Dt (K:Fg0) (H:Hp):V->PyData->Prop where
 | non:Dt K H .non .none
 | bl (b:Bool):Dt K H (.bl b) (.bool b)
 | int (i:Int):Dt K H (.int i) (.int i)
 | str (x:Str):Dt K H (.str x) (.str x)
 | lst {a:Addr} {xs:List V} {ds:List PyData}:SqL K H a xs->cE K H xs ds->Dt K H (.ref a) (.list ds)
 | tup {a:Addr} {xs:List V} {ds:List PyData}:SqT K H a xs->cE K H xs ds->Dt K H (.ref a) (.tuple ds)
 | dct {a:Addr}:H a=some (.dK [])->Dt K H (.ref a) (.dict [])
 | dcs {a:Addr} (y:Str) (i:Int):H a=some (.dK [(.inr y,.int i)])->Dt K H (.ref a) (.dict [(.str y,.int i)])
inductive cE (K:Fg0) (H:Hp):List V->List PyData->Prop where
 | nil:cE K H [] []
 | cons {x:V} {xs:List V} {d:PyData} {ds:List PyData}:Dt K H x d->cE K H xs ds->cE K H (x::xs) (d::ds)
end
theorem wu {pins:Pn} {σ:St} {H:Hp} {s:Shared} {a:Addr} (I:Inv X pins σ H s) (h:H a=some (.dK [])):∃ o n,s.heap.get? a=some o/\o.cls=.type "dict"/\o.data=.dict #[] n/\(a == sysModules)=false:=by
 obtain⟨_,q,vs,kv,o,es,n,e1,e2,e3,_,e4,_⟩:=Ee I.hok h;have:vs=[]:=by cases kv;rfl
 subst this;have:es.toList=[]:=by cases e:es.toList with
  | nil=>rfl
  | cons x xs=>rw[e] at e4;cases e4
 have:es=#[]:=by cases es;simp_all
 subst this;exact⟨o,n,e1,e2.1,e3,q⟩
theorem wx {pins:Pn} {σ:St} {H:Hp} {s:Shared} {a:Addr} {y:Str} {i:Int} (I:Inv X pins σ H s) (h:H a=some (.dK [(.inr y,.int i)])) :
  ∃ o es n t u q,s.heap.get? a=some o/\o.cls=.type "dict"/\o.data=.dict es n/\(a == sysModules)=false/\es.toList=[⟨q,.str y t,.int i u⟩]:=by
 obtain⟨_,q,vs,kv,o,es,n,e1,e2,e3,_,e4,_⟩:=Ee I.hok h;cases kv with
 | @cons p r ps qs h1 t1=>
  cases t1;obtain⟨r1,r2⟩:=r;obtain⟨hk,u,hv⟩:=h1;cases (show (Sum.inr y:Key)=r1 from hk);cases (show r2=Value.int i u from hv);cases hes:es.toList with
  | nil=>rw[hes] at e4;cases e4
  | cons x xs=>
   rw[hes] at e4;cases e4 with
   | cons k1 k2 k3=>
    cases k3;obtain⟨hx,kx,vx⟩:=x;rcases bH (show AA (.inr y) kx=true from k1) with ⟨j,t,z,_⟩ | ⟨z,t,e,rfl⟩
    ·cases z
    ·cases e;cases (show vx=Value.int i u from k2);exact⟨o,es,n,t,u,hx,e1,e2.1,e3,q,hes⟩
mutual
theorem Dt.reads {pins:Pn} {σ:St} {H:Hp} {s:Shared} (I:Inv X pins σ H s):∀ {x:V} {d:PyData} {u:Value},Dt X.K H x d->RelV x u->∃ as,Reads s.heap u d as
 | _,_,_,.non,r=>by cases r;exact⟨_,.none⟩
 | _,_,_,.bl b,r=>by cases r;exact⟨_,.bool b⟩
 | _,_,_,.int i,r=>by obtain⟨t,rfl⟩:=r;exact⟨_,.int i t⟩
 | _,_,_,.str y,r=>by obtain⟨t,rfl⟩:=r;exact⟨_,.str y t⟩
 | _,_,_,.lst hq hs,r=>by
  cases r;obtain⟨its,rv,⟨o,n,e1,e2,e3,e4⟩,hz⟩:=I.list hq;obtain⟨as,h⟩:=cE.reads I hs rv;exact⟨_,.list e1 e2 e4 (by simpa using h)⟩
 | _,_,_,.tup hq hs,r=>by
  cases r;obtain⟨its,rv,⟨o,e1,e2,n,e4⟩,hz⟩:=I.tuple hq;obtain⟨as,h⟩:=cE.reads I hs rv;exact⟨_,.tuple e1 e2 e4 (by simpa using h)⟩
 | _,_,_,.dct hq,r=>by
  cases r;obtain⟨o,n,e1,e2,e3,_⟩:=wu I hq;exact⟨_,.dict e1 e2 e3 .nil .nil⟩
 | _,_,_,.dcs y i hq,r=>by
  cases r;obtain⟨o,es,n,t,u,q,e1,e2,e3,_,e5⟩:=wx I hq;exact⟨_,.dict e1 e2 e3 (by rw[e5];exact .cons (.str y t) .nil) (by rw[e5];exact .cons (.int i u) .nil)⟩
theorem cE.reads {pins:Pn} {σ:St} {H:Hp} {s:Shared} (I:Inv X pins σ H s):∀ {xs:List V} {ds:List PyData} {us:Lv},cE X.K H xs ds->Vals xs us->∃ as,ReadsAll s.heap us ds as
 | _,_,_,.nil,.nil=>⟨_,.nil⟩
 | _,_,_,.cons h1 h2,.cons r1 r2=>by
  obtain⟨as,a⟩:=Dt.reads I h1 r1;obtain⟨bs,b⟩:=cE.reads I h2 r2;exact⟨_,.cons a b⟩
end
structure Shw (d:PyData):Prop where
 sh:d.showable=true
 dp:d.depth<=20
 sz:d.shown.length<=sizeLine
def G3 (X:Cx) (h:Heap) (u:Value) (d:PyData):Prop:=∃ bs,ReadAtMost h d.depth bs/\ReprK X.prog X.w bs h d.depth u d.shown
def Dp (X:Cx) (h:Heap) (us:Lv) (ds:List PyData):Prop:=∃ bs,ReadAtMost h (PyData.depthAll ds) bs/\ReprAllK X.prog X.w bs h (PyData.depthAll ds) us (PyData.shownAll ds)
theorem G3.is {h:Heap} {u:Value} {d:PyData} (k:ReprIs X.prog X.w u d.shown):G3 X h u d:=⟨[],by (intro _ z;cases z),.of_is k _ _ _⟩
theorem qh (y:Str) (i:Int):(reprText y).length<=(PyData.shown (.dict [(.str y,.int i)])).length:=by
 have e:PyData.shown (.dict [(.str y,.int i)])=dictText [reprText y++": "++PyData.shown (.int i)]:=by simp only[PyData.shown,PyData.shownKv]
 have h:=dictText_mem_le (List.mem_singleton.mpr (rfl:reprText y++": "++PyData.shown (.int i)=_));rw[strLen_append,strLen_append] at h;rw[e];omega
theorem xM {y:Str} {i:Int} (h:PyData.showable (.dict [(.str y,.int i)])=true):i.natAbs.log2 < 1920:=by
 simp [PyData.showable,PyData.showableKv] at h;exact h
mutual
theorem Dt.says {pins:Pn} {σ:St} {H:Hp} {s:Shared} (I:Inv X pins σ H s):∀ {x:V} {d:PyData} {u:Value},Dt X.K H x d->RelV x u->d.showable=true->d.shown.length<=sizeLine->G3 X s.heap u d
 | _,_,_,.non,r,_,_=>by cases r;exact .is (by simp only[PyData.shown];exact .none)
 | _,_,_,.bl b,r,_,_=>by cases r;exact .is (by simp only[PyData.shown];exact .bool b)
 | _,_,_,.int i,r,q,_=>by obtain⟨t,rfl⟩:=r;exact .is (by simp only[PyData.shown];exact .int t (by simpa [PyData.showable] using q))
 | _,_,_,.str y,r,_,z=>by obtain⟨t,rfl⟩:=r;exact .is (by simp only[PyData.shown] at z ⊢;exact .str y t z)
 | _,_,_,.lst (a:=a) (ds:=ds) hq hs,r,q,z=>by
  cases r;obtain⟨its,rv,⟨o,n,e1,e2,e3,e4⟩,_⟩:=I.list hq;obtain⟨as,ra⟩:=cE.reads I hs rv;have rd:Reads s.heap (.ref a) (.list ds) _:=.list e1 e2 e4 (by simpa using ra);simp only[PyData.shown] at z;obtain⟨bs,b1,b2⟩:=cE.says I hs rv (by simpa [PyData.showable] using q) fun t ht=>Nat.le_trans (listText_mem_le ht) z;have na:=not_mem_of_deeper rd (n:=PyData.depthAll ds) (by simp only[PyData.depth];omega) b1;refine⟨a::bs,ReadAtMost.cons rd (by simp only[PyData.depth];omega) b1,?_⟩;simp only[PyData.shown,PyData.depth];cases its with
  | nil=>cases rv;cases hs;simp only[PyData.shownAll,listText_nil];exact .listEmpty e1 e2 e4
  | cons y ys=>exact .list e1 e2 e4 na (by rw[b2.length_eq];simp) fun i v e=>b2.item i v (by simpa using e)
 | _,_,_,.tup (a:=a) (ds:=ds) hq hs,r,q,z=>by
  cases r;obtain⟨its,rv,⟨o,e1,e2,n,e4⟩,_⟩:=I.tuple hq;obtain⟨as,ra⟩:=cE.reads I hs rv;have rd:Reads s.heap (.ref a) (.tuple ds) _:=.tuple e1 e2 e4 (by simpa using ra);simp only[PyData.shown] at z;obtain⟨bs,b1,b2⟩:=cE.says I hs rv (by simpa [PyData.showable] using q) fun t ht=>Nat.le_trans (tupleText_mem_le ht) z;have na:=not_mem_of_deeper rd (n:=PyData.depthAll ds) (by simp only[PyData.depth];omega) b1;refine⟨a::bs,ReadAtMost.cons rd (by simp only[PyData.depth];omega) b1,?_⟩;simp only[PyData.shown,PyData.depth];exact .tuple e1 e2 e4 na (by simpa using b2)
 | _,_,_,.dct (a:=a) hq,r,_,_=>by
  cases r;obtain⟨o,n,e1,e2,e3,e4⟩:=wu I hq;refine⟨[a],fun b hb=>?_,?_⟩
  ·cases List.mem_singleton.mp hb;exact⟨_,_,.dict e1 e2 e3 .nil .nil,Nat.le_refl _⟩
  ·have:=ReprK.dict (prog:=X.prog) (w:=X.w) (as:=[]) (d:=0) (ps:=[]) e1 e2 e3 e4 (by intro z;cases z) .nil;simp only[PyData.shown,PyData.depth,PyData.shownKv,PyData.depthKv];exact this
 | _,_,_,.dcs (a:=a) y i hq,r,sh,z=>by
  cases r;obtain⟨o,es,n,t,u,q,e1,e2,e3,e4,e5⟩:=wx I hq;have ky:(reprText y).length<=sizeLine:=Nat.le_trans (qh y i) z;refine⟨[a],fun b hb=>?_,?_⟩
  ·cases List.mem_singleton.mp hb;exact⟨_,_,.dict e1 e2 e3 (by rw[e5];exact .cons (.str y t) .nil) (by rw[e5];exact .cons (.int i u) .nil),Nat.le_refl _⟩
  ·have k1:ReprK X.prog X.w [] s.heap 0 (.str y t) (reprText y):=.of_is (.str y t ky) _ _ _;have k2:ReprK X.prog X.w [] s.heap 0 (.int i u) (PyData.shown (.int i)):=.of_is (by simp only[PyData.shown];exact .int u (xM sh)) _ _ _;have:=ReprK.dict (prog:=X.prog) (w:=X.w) (as:=[]) (d:=0) (ps:=_) e1 e2 e3 e4 (by intro z;cases z) (by rw[e5];exact .cons k1 k2 .nil);simp only[PyData.shown,PyData.depth,PyData.shownKv,PyData.depthKv];exact this
theorem cE.says {pins:Pn} {σ:St} {H:Hp} {s:Shared} (I:Inv X pins σ H s):∀ {xs:List V} {ds:List PyData} {us:Lv},cE X.K H xs ds->Vals xs us->PyData.showableAll ds=true->(∀ t∈PyData.shownAll ds,t.length<=sizeLine)->Dp X s.heap us ds
 | _,_,_,.nil,.nil,_,_=>⟨[],by (intro _ z;cases z),.nil⟩
 | _,_,_,.cons (d:=d) (ds:=ds) h1 h2,.cons r1 r2,q,z=>by
  simp only[PyData.showableAll,Bool.and_eq_true] at q;simp only[PyData.shownAll,List.mem_cons,forall_eq_or_imp] at z;obtain⟨as,a1,a2⟩:=Dt.says I h1 r1 q.1 z.1;obtain⟨bs,b1,b2⟩:=cE.says I h2 r2 q.2 z.2;have l1:d.depth<=PyData.depthAll (d::ds):=by simp only[PyData.depthAll];exact Nat.le_max_left _ _
  have l2:PyData.depthAll ds<=PyData.depthAll (d::ds):=by simp only[PyData.depthAll];exact Nat.le_max_right _ _
  exact⟨as++bs,(a1.mono l1).append (b1.mono l2),.cons ((a2.more fun _ h=>List.mem_append_left _ h).level_le l1) (b2.more_le (fun _ h=>List.mem_append_right _ h) l2)⟩
end
theorem wG {k:Nat} (hr:bJ k X.A):cj X (.builtin "repr") (fun xs H Q=>∃ a d,xs=[.ref a]/\Dt X.K H (.ref a) d/\Shw d/\Q (.str d.shown) H):=by
 intro pins s σ H xs us Q I r h;obtain⟨a,d,rfl,hd,S,q⟩:=h;obtain⟨u,rfl,ru⟩:=vals1 r;cases ru;have lu:X.A.units + (d.depth + 1) < cLine:=by have:=hr.units;have:=S.dp;omega
 have fin:∀ h' u tk,(∀ b o,s.heap.get? b=some o->h'.get? b=some o)->∃ x t,Value.str d.shown u=.str x t/\EP X pins σ Q (.str d.shown u) { s with heap:=h',toks:=tk }:=fun h' u tk hk=>⟨_,_,rfl,.str d.shown,H,I.kept hk,⟨_,rfl⟩,q⟩;have sh:=S.sh;have sz:=S.sz;cases hd with
 | @lst _ xs ds hq hs=>
  obtain⟨its,rv,⟨o,n,e1,e2,e3,e4⟩,_⟩:=I.list hq;obtain⟨as,ra⟩:=cE.reads I hs rv;have rd:Reads s.heap (.ref a) (.list ds) _:=.list e1 e2 e4 (by simpa using ra);simp only[PyData.shown] at sz fin;simp only[PyData.depth] at lu;obtain⟨bs,b1,b2⟩:=cE.says I hs rv (by simpa [PyData.showable] using sh) fun t ht=>Nat.le_trans (listText_mem_le ht) sz;have na:=not_mem_of_deeper rd (n:=PyData.depthAll ds) (by simp only[PyData.depth];omega) b1;refine call_repr_slot (by omega) ⟨o,e1,e2⟩ F.slot_list_repr.toG ?_;cases its with
  | nil=>cases rv;cases hs;simp only[PyData.shownAll,listText_nil] at fin;exact call_list_repr_empty ⟨o,e1,e2⟩ e1 e4 (fin s.heap _ _ fun _ _ e=>e)
  | cons y ys=>exact call_list_reprK e1 e2 e4 na (by rw[b2.length_eq];simp) (fun i v e=>b2.item i v (by simpa using e)) hr.gd (fun b _=>Clear.nil b) (by show X.A.units + 1 + _ < _;omega) (fun _ _ e=>e) fin sz
 | @tup _ xs ds hq hs=>
  obtain⟨its,rv,⟨o,e1,e2,n,e4⟩,_⟩:=I.tuple hq;obtain⟨as,ra⟩:=cE.reads I hs rv;have rd:Reads s.heap (.ref a) (.tuple ds) _:=.tuple e1 e2 e4 (by simpa using ra);simp only[PyData.shown] at sz fin;simp only[PyData.depth] at lu;obtain⟨bs,b1,b2⟩:=cE.says I hs rv (by simpa [PyData.showable] using sh) fun t ht=>Nat.le_trans (tupleText_mem_le ht) sz;have na:=not_mem_of_deeper rd (n:=PyData.depthAll ds) (by simp only[PyData.depth];omega) b1;exact call_repr_slot (by omega) ⟨o,e1,e2⟩ F.slot_tuple_repr (call_tuple_reprK e1 e2 e4 na (by simpa using b2) hr.gd (fun b _=>Clear.nil b) (by show X.A.units + 1 + _ < _;omega) (fun _ _ e=>e) fin sz)
 | dct hq=>
  obtain⟨o,n,e1,e2,e3,e4⟩:=wu I hq;simp only[PyData.shown,PyData.shownKv] at sz fin;simp only[PyData.depth,PyData.depthKv] at lu;exact call_repr_slot (by omega) ⟨o,e1,e2⟩ F.slot_dict_repr (call_dict_reprK (as:=[]) (d:=0) (ps:=[]) e1 e2 e3 e4 (by intro z;cases z) .nil hr.gd (fun b _=>Clear.nil b) (by show X.A.units + 1 + _ < _;omega) (fun _ _ e=>e) fin sz)
 | dcs y i hq=>
  obtain⟨o,es,n,t,u,q,e1,e2,e3,e4,e5⟩:=wx I hq;have ky:(reprText y).length<=sizeLine:=Nat.le_trans (qh y i) sz;have k1:ReprK X.prog X.w [] s.heap 0 (.str y t) (reprText y):=.of_is (.str y t ky) _ _ _;have k2:ReprK X.prog X.w [] s.heap 0 (.int i u) (PyData.shown (.int i)):=.of_is (by simp only[PyData.shown];exact .int u (xM sh)) _ _ _;simp only[PyData.shown,PyData.shownKv] at sz fin;simp only[PyData.depth,PyData.depthKv] at lu;exact call_repr_slot (by omega) ⟨o,e1,e2⟩ F.slot_dict_repr (call_dict_reprK (as:=[]) (d:=0) e1 e2 e3 e4 (by intro z;cases z) (by rw[e5];exact .cons k1 k2 .nil) hr.gd (fun b _=>Clear.nil b) (by show X.A.units + 1 + _ < _;omega) (fun _ _ e=>e) fin sz)
end
section
variable {X:Cx} {pins:Pn} {σ:St} {H:Hp} {s:Shared}
theorem Inv.moved {ch:La} {h':Heap} {t':Nat} (I:Inv X pins σ H s) (hch:∀ b∈ch,c5 X pins H b) (hk:∀ b o,b∉ch->s.heap.get? b=some o->h'.get? b=some o):Inv X pins σ H { s with heap:=h',toks:=t' }:=by
 have nt:∀ {b:Addr} {u:HO},H b=some u->b∉ch:=fun e hb=>by rw[(hch _ hb).1] at e;cases e
 refine I.step (g':=s.gens) (d':=s.drawn) (ch:=ch) (fun b hb=>⟨(hch b hb).2.2.2.1,(hch b hb).2.1,(hch b hb).2.2.2.2.1,(hch b hb).2.2.2.2.2⟩) (fun b o _ _ hc e _=>hk b o hc e) (fun b o _ _ hc e _=>⟨o.slots,hk b o hc e⟩) (fun _ _ _ _ n=>n)
  (fun b o hc e=>⟨o,hk b o hc e⟩) (fun _ _ e=>e) (fun _ _ _ e=>e) (fun b ps e=>⟨#[],by rw[e];simp⟩) (fun m hm=>?_) (fun b u e=>?_) I.bare
 ·obtain⟨o,es,ep,ho,r⟩:=hm;exact⟨o,es,ep,hk _ o (fun hb=>(hch _ hb).2.1 rfl) ho,r⟩
 ·exact(I.hok b u e).nY (fun c v hc q=>hk c v (by rcases hc with z | z <;> first | (rw[z];exact nt e) | exact nt z) q) (fun _ q=>q) fun _ _ q=>q
theorem Inv.tj {ch:La} {T:Addr} {x y:V} {u v:Value} {h':Heap} {t':Nat} (I:Inv X pins σ H s) (hch:∀ b∈ch,c5 X pins H b) (hT:s.heap.objs.size<=T)
  (hk:∀ b o,b∉ch->s.heap.get? b=some o->h'.get? b=some o) (ht:IsTup h' T #[u,v]) (ru:RelV x u) (rv:RelV y v):Inv X pins σ (upd H T (.tup [x,y])) { s with heap:=h',toks:=t' }:=by
 have nt:∀ {b:Addr} {u:HO},H b=some u->b∉ch:=fun e hb=>by rw[(hch _ hb).1] at e;cases e
 have fT:H T=none:=I.hok.fresh hT;have neT:∀ {b:Addr} {o:Obj},s.heap.get? b=some o->b≠T:=fun e=>Nat.ne_of_lt (Nat.lt_of_lt_of_le (Heap.lt_size e) hT);have neH:∀ {b:Addr} {u:HO},H b=some u->b≠T:=fun e z=>by rw[z,fT] at e;cases e
 refine I.step (g':=s.gens) (d':=s.drawn) (ch:=ch) (fun b hb=>⟨(hch b hb).2.2.2.1,(hch b hb).2.1,(hch b hb).2.2.2.2.1,(hch b hb).2.2.2.2.2⟩) (fun b o _ _ hc e _=>hk b o hc e) (fun b o _ _ hc e _=>⟨o.slots,hk b o hc e⟩) (fun b o _ e n=>by rw[af (neT e)];exact n)
  (fun b o hc e=>⟨o,hk b o hc e⟩) (fun b xs e=>by rw[af (neH e)];exact e) (fun b o xs e=>by rw[af (neH e)];exact e) (fun b ps e=>⟨#[],by rw[af (neH e),e];simp⟩) (fun m hm=>?_) (fun b o e=>?_) I.bare
 ·obtain⟨o,es,ep,ho,r⟩:=hm;exact⟨o,es,ep,hk _ o (fun hb=>(hch _ hb).2.1 rfl) ho,r⟩
 ·by_cases hb:b=T
  ·subst hb;rw[ao] at e;cases e;exact⟨(by show 2<=sizeLine;decide),[u,v],.cons ru (.cons rv .nil),ht⟩
  ·rw[af hb] at e;exact(I.hok b o e).nY (fun c w' hc q=>hk c w' (by rcases hc with z | z <;> first | (rw[z];exact nt e) | exact nt z) q) (fun c q=>by rw[af (neH q)];exact q) (fun c xs q=>by rw[af (neH q)];exact q) fun c o φ q=>by rw[af (neH q)];exact q
end
def Itz (a b:Addr):It:=
 ⟨fun i H=>∃ xs ys x y,H a=some (.lst xs)/\H b=some (.lst ys)/\xs[i]?=some x/\ys[i]?=some y,
  fun i H v H'=>∃ t xs ys x y,H t=none/\H a=some (.lst xs)/\H b=some (.lst ys)/\xs[i]?=some x/\ys[i]?=some y/\v=.ref t/\H'=upd H t (.tup [x,y]),
  fun i H=>∃ xs ys,H a=some (.lst xs)/\H b=some (.lst ys)/\(xs.length<=i\/ys.length<=i)⟩
def Em (z TI TO i1 i2 l1 l2:Addr) (i:Nat) (h:Heap):Prop:=IsZip h z TI TO .none/\IsPair h TI (.ref i1) (.ref i2)/\(∃ a b,IsPair h TO a b)/\h.IsListIter i1 l1 i/\h.IsListIter i2 l2 i
structure oN (z TI TO i1 i2:Addr):Prop where
 TIz:TI≠z
 TOz:TO≠z
 i1z:i1≠z
 i2z:i2≠z
 TITO:TI≠TO
 TIi1:TI≠i1
 TIi2:TI≠i2
 TOi1:TO≠i1
 TOi2:TO≠i2
 i12:i1≠i2
theorem y9 {P:Program} {w:World} {K:Fg0} {es:List Expr} {kt:Nat} {tp:Pos} (z TI TO i1 i2 l1 l2:Addr) (D:oN z TI TO i1 i2) :
  Turn P w K (.Tuple es kt tp) (Itz l1 l2) [z,TI,TO,i1,i2] z (Em z TI TO i1 i2 l1 l2) where
 mem:=by simp
 obj:=fun i h st b hb=>by
  obtain⟨hz,hTI,⟨a,c,hTO⟩,⟨o1,e1,_,d1⟩,⟨o2,e2,_,d2⟩⟩:=st;simp only[List.mem_cons,List.not_mem_nil,or_false] at hb;rcases hb with rfl | rfl | rfl | rfl | rfl
  ·exact⟨_,hz,fun v q=>by cases q⟩
  ·exact⟨_,hTI,fun v q=>by cases q⟩
  ·exact⟨_,hTO,fun v q=>by cases q⟩
  ·exact⟨_,e1,fun v q=>by rw[d1] at q;cases q⟩
  ·exact⟨_,e2,fun v q=>by rw[d2] at q;cases q⟩
 keep:=fun i h h' st k=>by
  obtain⟨hz,hTI,⟨a,c,hTO⟩,h1,h2⟩:=st;exact⟨k z (by simp) _ hz,k TI (by simp) _ hTI,⟨a,c,k TO (by simp) _ hTO⟩,h1.at fun o e=>k i1 (by simp) o e,h2.at fun o e=>k i2 (by simp) o e⟩
 item:=by
  intro X hP hw hK hc i pins s σ H E I hf st hg;subst hP hw hK;obtain⟨xs,ys,x,y,ha,hb,hx,hy⟩:=hg;obtain⟨hz,hTI,⟨a0,b0,hTO⟩,h1,h2⟩:=st;obtain⟨ia,na,ra,ea,_⟩:=I.lst ha;obtain⟨ib,nb,rb,eb,_⟩:=I.lst hb;have nf:∀ b∈[z,TI,TO,i1,i2],H b=none:=fun b hb=>(hf b hb).1;have ne1:∀ b∈[z,TI,TO,i1,i2],l1≠b:=fun b hb e=>by rw[e,nf b hb] at ha;cases ha
  have ne2:∀ b∈[z,TI,TO,i1,i2],l2≠b:=fun b hb' e=>by rw[e,nf b hb'] at hb;cases hb
  have Z:ZipApart z TI TO i1 i2 l1 l2:=⟨D.TIz,D.TOz,D.i1z,D.i2z,D.TITO,D.TIi1,D.TIi2,D.TOi1,D.TOi2,D.i12,ne1 z (by simp),ne1 TO (by simp),ne1 i1 (by simp),ne1 i2 (by simp),ne2 z (by simp),ne2 TO (by simp),ne2 i1 (by simp),ne2 i2 (by simp)⟩;obtain⟨u,hu,ru⟩:=ra.get hx;obtain⟨v,hv,rv⟩:=rb.get hy;refine wpAny_pyNext_zip_item Z hz hTI hTO h1 h2 (xs:=ia.toArray) (ys:=ib.toArray) ⟨_,ea,rfl,_,rfl⟩ ⟨_,eb,rfl,_,rfl⟩ (x:=u) (y:=v) (by simpa using hu) (by simpa using hv) fun h' a1 a2 a3 a4 a5 a6 hk=>?_;refine⟨_,rfl,wpAny_letOwnedTupleGo_zip a1 fun h2' hz' hs'=>?_⟩;have zT:s.heap.objs.size≠z:=Nat.ne_of_gt (Heap.lt_size hz);refine⟨.ref s.heap.objs.size,upd H s.heap.objs.size (.tup [x,y]),?_,rfl,⟨_,xs,ys,x,y,I.hok.fresh (Nat.le_refl _),ha,hb,hx,hy,rfl,rfl⟩,?_,fun b hb'=>?_⟩
  ·refine I.tj (t':=s.toks) (ch:=[z,TO,i1,i2]) (u:=u) (v:=v) (fun b hb'=>hf b (by simp at hb' ⊢;rcases hb' with e | e | e | e <;> simp [e])) (Nat.le_refl _) (fun b o hb' e=>?_) ⟨_,hs'.extBut _ _ zT a5,rfl,_,rfl⟩ ru rv;simp only[List.mem_cons,List.not_mem_nil,or_false,not_or] at hb';exact hs'.extBut b o hb'.1 (hk b o hb'.1 hb'.2.1 hb'.2.2.1 hb'.2.2.2 e)
  ·exact⟨hz',hs'.extBut _ _ D.TIz (hk _ _ D.TIz D.TITO D.TIi1 D.TIi2 hTI),⟨_,_,hs'.extBut _ _ D.TOz a2⟩,a3.extBut hs'.extBut D.i1z,a4.extBut hs'.extBut D.i2z⟩
  ·rw[af]
   ·exact nf b hb'
   ·have hlt:∃ o,s.heap.get? b=some o:=by
     obtain⟨o1,e1,_⟩:=h1;obtain⟨o2,e2,_⟩:=h2;simp only[List.mem_cons,List.not_mem_nil,or_false] at hb';rcases hb' with rfl | rfl | rfl | rfl | rfl
     ·exact⟨_,hz⟩
     ·exact⟨_,hTI⟩
     ·exact⟨_,hTO⟩
     ·exact⟨_,e1⟩
     ·exact⟨_,e2⟩
    obtain⟨o,e⟩:=hlt;exact Nat.ne_of_lt (Heap.lt_size e)
 done:=by
  intro X hP hw hK hc i pins s σ H E I hf st hg;subst hP hw hK;obtain⟨xs,ys,ha,hb,hl⟩:=hg;obtain⟨hz,hTI,⟨a0,b0,hTO⟩,h1,h2⟩:=st;obtain⟨ia,na,ra,ea,_⟩:=I.lst ha;obtain⟨ib,nb,rb,eb,_⟩:=I.lst hb;have nf:∀ b∈[z,TI,TO,i1,i2],H b=none:=fun b hb=>(hf b hb).1;have ne1:∀ b∈[z,TI,TO,i1,i2],l1≠b:=fun b hb e=>by rw[e,nf b hb] at ha;cases ha
  have ne2:∀ b∈[z,TI,TO,i1,i2],l2≠b:=fun b hb' e=>by rw[e,nf b hb'] at hb;cases hb
  have Z:ZipApart z TI TO i1 i2 l1 l2:=⟨D.TIz,D.TOz,D.i1z,D.i2z,D.TITO,D.TIi1,D.TIi2,D.TOi1,D.TOi2,D.i12,ne1 z (by simp),ne1 TO (by simp),ne1 i1 (by simp),ne1 i2 (by simp),ne2 z (by simp),ne2 TO (by simp),ne2 i1 (by simp),ne2 i2 (by simp)⟩;have la:=ra.length;have lb:=rb.length;refine wpAny_pyNext_zip_end (I.ok.hd hc) Z hz hTI hTO h1 h2 (xs:=ia.toArray) (ys:=ib.toArray) ⟨_,ea,rfl,_,rfl⟩ ⟨_,eb,rfl,_,rfl⟩ ?_ fun h' hk=>⟨rfl,I.moved (t':=s.toks) (ch:=[z,TO,i1,i2]) (fun b hb'=>hf b (by simp at hb' ⊢;rcases hb' with e | e | e | e <;> simp [e])) fun b o hb' e=>?_⟩
  ·rcases hl with hl | hl
   ·left;simp;omega
   ·right;simp;omega
  ·simp only[List.mem_cons,List.not_mem_nil,or_false,not_or] at hb';exact hk b o hb'.1 hb'.2.1 hb'.2.2.1 hb'.2.2.2 e
 self:=fun _ _ _ _ _ st h=>wpAny_pyIter_zip st.1 h
section
variable {X:Cx}
def IX (ta:TA):TI:=fun σ H R=>ta σ H fun vs H1=>∃ (p q:Addr) (xs ys:List V),vs=[.ref p,.ref q]/\H1 p=some (.lst xs)/\H1 q=some (.lst ys)/\R (Itz p q) H1
theorem Ff {a b:Expr} {ta:TA} {es:List Expr} {kt:Nat} {tp p pos:Pos} (hg:Gl X "zip") (hm:X.mg "zip"=none) (ha:PA X [a,b] ta) (hs:starEach [a,b] X.env=[(false,eval a X.env),(false,eval b X.env)]:=by rfl) (hs2:starEach [b] X.env=[(false,eval b X.env)]:=by rfl) :
  PI X (.Tuple es kt tp) (.Call (.Name "zip" p) [a,b] [] pos) (IX ta):=by
 intro pins s σ H R I h;refine Call_ (dD I hg hm (by decide +kernel:bootBuiltins "zip"=some (.type "zip")) (PyProof.Rows.callWith_type1 (thn (ha pos pins s σ H _ I h) fun us s1 ⟨vs,H1,I1,r1,q1⟩=>?_) (by rw[hs,hs2]) (by rw[hs2];rfl)));obtain⟨l1,l2,xs,ys,e,h1,h2,q⟩:=q1;subst e;obtain⟨u,w',rfl,ru,rw'⟩:=vals2 r1;cases ru;cases rw';obtain⟨ia,na,ra,ea,_⟩:=I1.lst h1;obtain⟨ib,nb,rb,eb,_⟩:=I1.lst h2;refine call_zip_2 (xs:=ia.toArray) (ys:=ib.toArray) ⟨_,ea,rfl,_,rfl⟩ ⟨_,eb,rfl,_,rfl⟩ fun h' hz hTI hTO hi1 hi2 hsz hk=>wpAny_pyIter_zip hz ?_;have I2:Inv X pins σ H1 { s1 with heap:=h' }:=I1.kept (t':=s1.toks) hk;have lt:∀ i j:Nat,i < j->s1.heap.objs.size + i≠s1.heap.objs.size + j:=fun i j h e=>by omega
 have D:oN (s1.heap.objs.size + 4) (s1.heap.objs.size + 2) (s1.heap.objs.size + 3) s1.heap.objs.size (s1.heap.objs.size + 1):=
  ⟨lt 2 4 (by decide),lt 3 4 (by decide),lt 0 4 (by decide),lt 1 4 (by decide),lt 2 3 (by decide),(lt 0 2 (by decide)).symm,(lt 1 2 (by decide)).symm,(lt 0 3 (by decide)).symm,(lt 1 3 (by decide)).symm,lt 0 1 (by decide)⟩
 refine⟨_,_,_,_,H1,rfl,I2,y9 _ _ _ _ _ l1 l2 D,⟨hz,hTI,⟨_,_,hTO⟩,hi1,hi2⟩,fun b hb=>?_,q⟩;have hge:s1.heap.objs.size<=b:=by
  simp only[List.mem_cons,List.not_mem_nil,or_false] at hb;rcases hb with rfl | rfl | rfl | rfl | rfl <;> omega
 exact I1.lR hge (I1.hok.fresh hge)
end
def Ite (a:Addr):It:=
 ⟨fun i H=>∃ xs x,H a=some (.lst xs)/\xs[i]?=some x,
  fun i H v H'=>∃ t xs x,H t=none/\H a=some (.lst xs)/\xs[i]?=some x/\v=.ref t/\H'=upd H t (.tup [.int i,x]),
  fun i H=>∃ xs,H a=some (.lst xs)/\xs.length<=i⟩
def KR (e it l:Addr) (i:Nat) (h:Heap):Prop:=(∃ old,IsEnum h e it i old)/\h.IsListIter it l i
theorem yb {P:Program} {w:World} {K:Fg0} {es:List Expr} {kt:Nat} {tp:Pos} (e it l:Addr) (D:e≠it):Turn P w K (.Tuple es kt tp) (Ite l) [e,it] e (KR e it l) where
 mem:=by simp
 obj:=fun i h st b hb=>by
  obtain⟨⟨old,he⟩,⟨o1,e1,_,d1⟩⟩:=st;simp only[List.mem_cons,List.not_mem_nil,or_false] at hb;rcases hb with rfl | rfl
  ·exact⟨_,he,fun v q=>by cases q⟩
  ·exact⟨_,e1,fun v q=>by rw[d1] at q;cases q⟩
 keep:=fun i h h' st k=>by
  obtain⟨⟨old,he⟩,h1⟩:=st;exact⟨⟨old,k e (by simp) _ he⟩,h1.at fun o e=>k it (by simp) o e⟩
 item:=by
  intro X hP hw hK hc i pins s σ H E I hf st hg;subst hP hw hK;obtain⟨xs,x,ha,hx⟩:=hg;obtain⟨⟨old,he⟩,h1⟩:=st;obtain⟨ia,na,ra,ea,_⟩:=I.lst ha;have nf:∀ b∈[e,it],H b=none:=fun b hb=>(hf b hb).1;obtain⟨u,hu,ru⟩:=ra.get hx;refine wpAny_pyNext_enum_item he h1 (items:=ia.toArray) ⟨_,ea,rfl,_,rfl⟩ (x:=u) (by simpa using hu) D fun h' a1 a2 a3 a4 hk=>?_;refine⟨_,rfl,wpAny_letOwnedTupleGo_enum a1 fun h2' he' hs'=>?_⟩;have eT:s.heap.objs.size≠e:=Nat.ne_of_gt (Heap.lt_size he);refine⟨.ref s.heap.objs.size,upd H s.heap.objs.size (.tup [.int i,x]),?_,rfl,⟨_,xs,x,I.hok.fresh (Nat.le_refl _),ha,hx,rfl,rfl⟩,?_,fun b hb'=>?_⟩
  ·refine I.tj (t':=s.toks + 1) (ch:=[e,it]) (u:=.int i s.toks) (v:=u) hf (Nat.le_refl _) (fun b o hb' q=>?_) ⟨_,hs'.extBut _ _ eT a3,rfl,_,rfl⟩ ⟨_,rfl⟩ ru;simp only[List.mem_cons,List.not_mem_nil,or_false,not_or] at hb';exact hs'.extBut b o hb'.1 (hk b o hb'.1 hb'.2 q)
  ·exact⟨⟨_,by simpa using he'⟩,a2.extBut hs'.extBut (Ne.symm D)⟩
  ·rw[af]
   ·exact nf b hb'
   ·have hlt:∃ o,s.heap.get? b=some o:=by
     obtain⟨o1,e1,_⟩:=h1;simp only[List.mem_cons,List.not_mem_nil,or_false] at hb';rcases hb' with rfl | rfl
     ·exact⟨_,he⟩
     ·exact⟨_,e1⟩
    obtain⟨o,q⟩:=hlt;exact Nat.ne_of_lt (Heap.lt_size q)
 done:=by
  intro X hP hw hK hc i pins s σ H E I hf st hg;subst hP hw hK;obtain⟨xs,ha,hl⟩:=hg;obtain⟨⟨old,he⟩,h1⟩:=st;obtain⟨ia,na,ra,ea,_⟩:=I.lst ha;have la:=ra.length;exact wpAny_pyNext_enum_end (I.ok.hd hc) he h1 (items:=ia.toArray) ⟨_,ea,rfl,_,rfl⟩ (by simp;omega) fun h' hk=>⟨rfl,I.moved (t':=s.toks) (ch:=[it]) (fun b hb'=>hf b (by simp at hb' ⊢;simp [hb'])) fun b o hb' q=>hk b o (fun z=>hb' (by simp [z])) q⟩
 self:=fun _ _ _ _ _ st h=>by obtain⟨⟨old,he⟩,_⟩:=st;exact wpAny_pyIter_enum he h
section
variable {X:Cx}
def DU (ta:TA):TI:=fun σ H R=>ta σ H fun vs H1=>∃ (p:Addr) (xs:List V),vs=[.ref p]/\H1 p=some (.lst xs)/\R (Ite p) H1
theorem Cf {a:Expr} {ta:TA} {es:List Expr} {kt:Nat} {tp p pos:Pos} (hg:Gl X "enumerate") (hm:X.mg "enumerate"=none) (ha:PA X [a] ta) (hs:starEach [a] X.env=[(false,eval a X.env)]:=by rfl) :
  PI X (.Tuple es kt tp) (.Call (.Name "enumerate" p) [a] [] pos) (DU ta):=by
 intro pins s σ H R I h;refine Call_ (dD I hg hm (by decide +kernel:bootBuiltins "enumerate"=some (.type "enumerate")) (PyProof.Rows.callWith_type1 (thn (ha pos pins s σ H _ I h) fun us s1 ⟨vs,H1,I1,r1,q1⟩=>?_) hs rfl));obtain⟨l,xs,e,h1,q⟩:=q1;subst e;obtain⟨u,rfl,ru⟩:=vals1 r1;cases ru;obtain⟨ia,na,ra,ea,_⟩:=I1.lst h1;refine call_enumerate_1 ea fun h' he hi hsz hk=>wpAny_pyIter_enum he ?_;have I2:Inv X pins σ H1 { s1 with heap:=h' }:=I1.kept (t':=s1.toks) hk;refine⟨_,_,_,_,H1,rfl,I2,yb _ _ l (Nat.succ_ne_self _),⟨⟨_,by simpa using he⟩,hi⟩,fun b hb=>?_,q⟩;have hge:s1.heap.objs.size<=b:=by
  simp only[List.mem_cons,List.not_mem_nil,or_false] at hb;rcases hb with rfl | rfl <;> omega
 exact I1.lR hge (I1.hok.fresh hge)
def i9 (xs:List V) (lo hi st:Option Int):List V:=
 (sliceRange (sliceBounds lo hi st xs.length).1 (sliceBounds lo hi st xs.length).2.1 (sliceBounds lo hi st xs.length).2.2).filterMap (xs[·]?)
theorem Vals.places:∀ {xs:List V} {us:Lv},Vals xs us->∀ js:List Nat,Vals (js.filterMap (xs[·]?)) (js.filterMap (us[·]?))
 | _,_,_,[]=>.nil
 | xs,us,h,j::js=>by
  have ih:=Vals.places h js;cases hn:xs[j]? with
  | some x=>
   obtain⟨u,hu,r⟩:=h.get hn;simp only[List.filterMap_cons,hn,hu];exact .cons r ih
  | none=>
   have hv:=h.none_of hn;simp only[List.filterMap_cons,hn,hv];exact ih
def Hi (K:Fg0) (te:TE) (tl th ts:TO):TE:=fun σ H Q=>te σ H fun x H1=>tl σ H1 fun l H2=>th σ H2 fun u H3=>ts σ H3 fun k H4=>k≠some 0/\∃ a xs,x=.ref a/\SqL K H4 a xs/\∀ p,H4 p=none->Q (.ref p) (upd H4 p (.lst (i9 xs l u k)))
theorem yr {e:Expr} {te:TE} {lo hi:Option Expr} {st:Expr} {tl th ts:TO} {p2 pos:Pos} (he:PE X e te) (hl:PO X lo tl) (hu:PO X hi th) (hs:PO X (some st) ts):PE X (.Subscript e (.Slice lo hi (some st) p2) pos) (Hi X.K te tl th ts):=by
 intro pins s σ H Q I h;refine Subscript_ (thn (he pins s σ H _ I h) fun v s1 ⟨x,H1,I1,r1,q1⟩=>?_);refine wpAny_Slice (thn (hl pins s1 σ H1 _ I1 q1) fun vl s2 ⟨l,H2,I2,pl,q2⟩=>thn (hu pins s2 σ H2 _ I2 q2) fun vu s3 ⟨u,H3,I3,pu,q3⟩=>thn (hs pins s3 σ H3 _ I3 q3) fun vk s4 ⟨k,H4,I4,pk,q4⟩=>?_);obtain⟨k0,a,xs,rfl,hx,q⟩:=q4;cases r1;have I5:Inv X pins σ H4 { s4 with heap:=s4.heap.push { cls:=.type "slice",data:=.fields #[vl,vu,vk] } }:=I4.kept (t':=s4.toks) fun b ob q=>Heap.get?_push_of_some _ q;obtain⟨its,r,ht,hz⟩:=I5.list hx;have hlen:=r.length;show wpAny (model X.prog X.w) X.A (subscriptTail e (.Slice lo hi (some st) p2) (.ref a) (.ref s4.heap.objs.size)) (EP X pins σ Q) X.xe { s4 with heap:=s4.heap.push { cls:=.type "slice",data:=.fields #[vl,vu,vk] } };refine tail_any (ops:=[.ref a,.ref s4.heap.objs.size]) ht.isList.typeIs slot_list_getitem.lookup (wpAny_getItem_list_slice ht.isList (Heap.IsSliceOf.new ..) pl pu pk k0 ?_ (by rw[List.size_toArray] <;> omega)) (by with_unfolding_all rfl);refine⟨.ref _,_,I5.laid (t':=s4.toks) (o:=.lst (i9 xs l u k)) (fun b ob q=>Heap.get?_push_of_some _ q) (Nat.le_refl _) ?_,rfl,q _ (I5.hok.fresh (Nat.le_refl _))⟩;have rp:Vals (i9 xs l u k) (slicePick its.toArray l u k).toList:=by
  have e:(slicePick its.toArray l u k).toList=(sliceRange (sliceBounds l u k xs.length).1 (sliceBounds l u k xs.length).2.1 (sliceBounds l u k xs.length).2.2).filterMap (its[·]?):=by
   simp [slicePick,hlen]
  rw[e];exact r.places _
 have hsz:=slicePick_size_le its.toArray l u k;have h2:=rp.length;simp only[Array.length_toList,List.size_toArray] at h2 hsz;exact⟨by omega,_,0,rp,Heap.get?_push_size _ rfl⟩
end
abbrev bM (h:Heap) (z TI TO T:Addr) (f:Bool):Prop:=h.get? z=some { cls:=.type "zip",dict:=none,data:=.fields #[rawInt T,.bool f,.bool false,.ref TI,.ref TO],slots:=#[] }
section
variable {prog:Program} {w:World} {A:Around} {E:VS} {s:Shared}
theorem yW {M:Model} {a:Addr} {Q:Option Obj->Shared->Prop} (h:Q (s.heap.get? a) s):wpAny M A (loadIfAlive a) Q E s:=fun Γ p hΓ=>by
 unfold loadIfAlive;rw[Sem.wp_loadIfAlive];exact h
theorem oK {z TI TO T:Addr} {f:Bool} {ob:Obj} {Q:Bool->Shared->Prop} (hzf:bM s.heap z TI TO T f) (hT:s.heap.get? T=some ob) (h:∀ h',bM h' z TI TO T true->Heap.SameBut z s.heap h'->Q false { s with heap:=h' }) :
  wpAny (model prog w) A (Builtin.SmallTypes.ownedTupleIsFree (.ref z)) Q E s:=by
 unfold Builtin.SmallTypes.ownedTupleIsFree;refine wpAny_bind (wpAny_field hzf rfl (x:=rawInt T) rfl ?_);show wpAny _ _ (loadIfAlive ((T:Int).toNat) >>= _) _ _ _;have eT:((T:Nat):Int).toNat=T:=Int.toNat_natCast T;rw[eT];refine wpAny_bind (yW ?_);rw[hT];show wpAny _ _ (field (.ref z) 1 >>= _) _ _ _;refine wpAny_bind (wpAny_field hzf rfl (x:=.bool f) rfl ?_);cases f with
 | true=>exact wpAny_pure (h _ hzf (.refl ..))
 | false=>
  show wpAny _ _ (setField (.ref z) 1 (.bool true) >>= fun _=>pure false) _ _ _;exact wpAny_bind (wpAny_setField_rec hzf (by simp) fun h' hz' hs'=>wpAny_pure (h h' hz' hs'))
theorem yZ {z TI TO i1 i2 l1 l2 T:Addr} {f:Bool} {ob:Obj} {k1 k2:Nat} {xs ys:Array Value} {x y:Value} {Q:VS} (D:ZipApart z TI TO i1 i2 l1 l2) (hzf:bM s.heap z TI TO T f)
  (hTI:IsPair s.heap TI (.ref i1) (.ref i2)) (hT:s.heap.get? T=some ob) (h1:s.heap.IsListIter i1 l1 k1) (h2:s.heap.IsListIter i2 l2 k2) (hl1:s.heap.IsList l1 xs) (hl2:s.heap.IsList l2 ys) (hx:xs[k1]?=some x) (hy:ys[k2]?=some y)
  (hQ:∀ h',bM h' z TI TO T true->h'.IsListIter i1 l1 (k1 + 1)->h'.IsListIter i2 l2 (k2 + 1)->IsPair h' s.heap.objs.size x y->(∀ c o,c≠z->c≠i1->c≠i2->s.heap.get? c=some o->h'.get? c=some o)->Q (.ref s.heap.objs.size) { s with heap:=h' }) :
  wpAny (model prog w) A (Builtin.«zip.__next__» ⟨[.ref z],[]⟩) (fun fin s'=>∃ v,fin=.done (.ret v)/\Q v s') E s:=by
 show wpAny _ _ (field (.ref z) 2 >>= fun a=>_) _ _ _;refine wpAny_bind (wpAny_field hzf rfl (x:=.bool false) rfl ?_);show wpAny _ _ (field (.ref z) 3 >>= fun a=>_) _ _ _;refine wpAny_bind (wpAny_field hzf rfl (x:=.ref TI) rfl (wpAny_bind (wpAny_seqItems hTI rfl ?_)));show wpAny _ _ (Builtin.SmallTypes.ownedTupleIsFree (.ref z) >>= fun a=>_) _ _ _;refine wpAny_bind (oK hzf hT fun g1 hz1 sb1=>?_);simp only[Bool.false_eq_true,if_false];have ht1:g1.IsListIter i1 l1 k1:=h1.extBut sb1.extBut D.i1z;have ht2:g1.IsListIter i2 l2 k2:=h2.extBut sb1.extBut D.i2z;have hL1:g1.IsList l1 xs:=hl1.extBut sb1.extBut D.l1z;have hL2:g1.IsList l2 ys:=hl2.extBut sb1.extBut D.l2z;rw[List.forIn_toArray];refine wpAny_bind ?_;rw[List.forIn_cons];refine wpAny_bind (wpAny_bind (wpAny_holding ?_));show wpAny _ _ (Builtin.SmallTypes.nextOf (.ref i1) >>= fun v=>pure (some v)) _ _ _;refine wpAny_bind (wpAny_nextOf_list_item ht1 hL1 hx fun g2 hi1 sb2=>wpAny_pure (wpAny_pure ?_));show wpAny _ _ (forIn [Value.ref i2] _ _) _ _ _;rw[List.forIn_cons];refine wpAny_bind (wpAny_bind (wpAny_holding ?_));show wpAny _ _ (Builtin.SmallTypes.nextOf (.ref i2) >>= fun v=>pure (some v)) _ _ _;refine wpAny_bind (wpAny_nextOf_list_item (ht2.extBut sb2.extBut D.i12.symm) (hL2.extBut sb2.extBut D.l2i1) hy fun g3 hi2 sb3=>wpAny_pure (wpAny_pure ?_));show wpAny _ _ (forIn ([]:Lv) _ _) _ _ _;rw[List.forIn_nil];refine wpAny_pure ?_;show wpAny _ _ (newTuple [x,y] >>= fun t=>ret t) _ _ _;refine wpAny_bind (wpAny_newTuple (wpAny_pure ⟨_,rfl,?_⟩));have hsz:g3.objs.size=s.heap.objs.size:=by rw[sb3.1,sb2.1,sb1.1]
 have hz3:bM g3 z TI TO T true:=sb3.extBut _ _ D.i2z.symm (sb2.extBut _ _ D.i1z.symm hz1);have hq:=hQ (g3.push { cls:=.type "tuple",data:=.seq #[x,y] }) (Heap.get?_push_of_some _ hz3) ((hi1.extBut sb3.extBut D.i12).at fun o e=>Heap.get?_push_of_some _ e) (hi2.at fun o e=>Heap.get?_push_of_some _ e)
  (by rw[<- hsz];exact Heap.get?_push_size _ rfl) fun c o c1 c2 c3 e=>Heap.get?_push_of_some _ (sb3.extBut _ _ c3 (sb2.extBut _ _ c2 (sb1.extBut _ _ c1 e)))
 rw[<- hsz] at hq;exact hq
theorem yB {z TI TO i1 i2 l1 l2 T:Addr} {f:Bool} {ob:Obj} {k1 k2:Nat} {xs ys:Array Value} {x y:Value} {Q:Option Value->Shared->Prop} (D:ZipApart z TI TO i1 i2 l1 l2) (hzf:bM s.heap z TI TO T f)
  (hTI:IsPair s.heap TI (.ref i1) (.ref i2)) (hT:s.heap.get? T=some ob) (h1:s.heap.IsListIter i1 l1 k1) (h2:s.heap.IsListIter i2 l2 k2) (hl1:s.heap.IsList l1 xs) (hl2:s.heap.IsList l2 ys) (hx:xs[k1]?=some x) (hy:ys[k2]?=some y)
  (hQ:∀ h',bM h' z TI TO T true->h'.IsListIter i1 l1 (k1 + 1)->h'.IsListIter i2 l2 (k2 + 1)->IsPair h' s.heap.objs.size x y->(∀ c o,c≠z->c≠i1->c≠i2->s.heap.get? c=some o->h'.get? c=some o)->Q (some (.ref s.heap.objs.size)) { s with heap:=h' }) :
  wpAny (model prog w) A (pyNext (.ref z)) Q E s:=by
 have hTy:s.TypeIs (.ref z) "zip":=⟨_,hzf,rfl⟩;unfold pyNext;exact wpAny_bind (wpAny_attempt (wpAny_callSpecial?_slot (name:=Str.ofString "__next__") hTy F.slot_zip_next
  (wpAny_call_entry F.slot_zip_next hTy F.entry_zip_next (yZ D hzf hTI hT h1 h2 hl1 hl2 hx hy fun h' a1 a2 a3 a4 a5=>wpAny_pure (hQ h' a1 a2 a3 a4 a5)) (F.args_zip_next_1 _))))
theorem yY {z TI TO i1 i2 l1 l2 T:Addr} {f:Bool} {ob:Obj} {k1 k2:Nat} {xs ys:Array Value} {Q:Fin->Shared->Prop} (hh:A.handled=none) (D:ZipApart z TI TO i1 i2 l1 l2) (hzf:bM s.heap z TI TO T f)
  (hTI:IsPair s.heap TI (.ref i1) (.ref i2)) (hT:s.heap.get? T=some ob) (h1:s.heap.IsListIter i1 l1 k1) (h2:s.heap.IsListIter i2 l2 k2) (hl1:s.heap.IsList l1 xs) (hl2:s.heap.IsList l2 ys) (hend:xs[k1]?=none\/ys[k2]?=none)
  (hE:∀ h' e,(∀ c o,c≠z->c≠i1->c≠i2->s.heap.get? c=some o->h'.get? c=some o)->(∃ o,h'.get? e=some o/\o.cls=.type "StopIteration")->E (.ref e) { s with heap:=h' }) :
  wpAny (model prog w) A (Builtin.«zip.__next__» ⟨[.ref z],[]⟩) Q E s:=by
 show wpAny _ _ (field (.ref z) 2 >>= fun a=>_) _ _ _;refine wpAny_bind (wpAny_field hzf rfl (x:=.bool false) rfl ?_);show wpAny _ _ (field (.ref z) 3 >>= fun a=>_) _ _ _;refine wpAny_bind (wpAny_field hzf rfl (x:=.ref TI) rfl (wpAny_bind (wpAny_seqItems hTI rfl ?_)));show wpAny _ _ (Builtin.SmallTypes.ownedTupleIsFree (.ref z) >>= fun a=>_) _ _ _;refine wpAny_bind (oK hzf hT fun g1 hz1 sb1=>?_);simp only[Bool.false_eq_true,if_false];have ht1:g1.IsListIter i1 l1 k1:=h1.extBut sb1.extBut D.i1z;have ht2:g1.IsListIter i2 l2 k2:=h2.extBut sb1.extBut D.i2z;have hL1:g1.IsList l1 xs:=hl1.extBut sb1.extBut D.l1z;have hL2:g1.IsList l2 ys:=hl2.extBut sb1.extBut D.l2z;rw[List.forIn_toArray];refine wpAny_bind ?_;rw[List.forIn_cons];refine wpAny_bind (wpAny_bind (wpAny_holding ?_));show wpAny _ _ (Builtin.SmallTypes.nextOf (.ref i1) >>= fun v=>pure (some v)) _ _ _;cases hx:xs[k1]? with
 | none=>
  exact wpAny_bind (wpAny_nextOf_list_end hh ht1 hL1 hx fun h' e hk he=>hE h' e (fun c o c1 c2 c3 q=>hk c o c2 (sb1.extBut _ _ c1 q)) he)
 | some x=>
  have hy:ys[k2]?=none:=by rcases hend with q | q;(rw[hx] at q;cases q);exact q
  refine wpAny_bind (wpAny_nextOf_list_item ht1 hL1 hx fun g2 hi1 sb2=>wpAny_pure (wpAny_pure ?_));show wpAny _ _ (forIn [Value.ref i2] _ _) _ _ _;rw[List.forIn_cons];refine wpAny_bind (wpAny_bind (wpAny_holding ?_));show wpAny _ _ (Builtin.SmallTypes.nextOf (.ref i2) >>= fun v=>pure (some v)) _ _ _;exact wpAny_bind (wpAny_nextOf_list_end hh (ht2.extBut sb2.extBut D.i12.symm) (hL2.extBut sb2.extBut D.l2i1) hy fun h' e hk he=>hE h' e (fun c o c1 c2 c3 q=>hk c o c3 (sb2.extBut _ _ c2 (sb1.extBut _ _ c1 q))) he)
theorem yA {z TI TO i1 i2 l1 l2 T:Addr} {f:Bool} {ob:Obj} {k1 k2:Nat} {xs ys:Array Value} {Q:Option Value->Shared->Prop} (hh:A.handled=none) (D:ZipApart z TI TO i1 i2 l1 l2) (hzf:bM s.heap z TI TO T f)
  (hTI:IsPair s.heap TI (.ref i1) (.ref i2)) (hT:s.heap.get? T=some ob) (h1:s.heap.IsListIter i1 l1 k1) (h2:s.heap.IsListIter i2 l2 k2) (hl1:s.heap.IsList l1 xs) (hl2:s.heap.IsList l2 ys) (hend:xs[k1]?=none\/ys[k2]?=none)
  (hQ:∀ h',(∀ c o,c≠z->c≠i1->c≠i2->s.heap.get? c=some o->h'.get? c=some o)->Q none { s with heap:=h' }):wpAny (model prog w) A (pyNext (.ref z)) Q E s:=by
 have hTy:s.TypeIs (.ref z) "zip":=⟨_,hzf,rfl⟩;unfold pyNext;refine wpAny_bind (wpAny_attempt (wpAny_callSpecial?_slot (name:=Str.ofString "__next__") hTy F.slot_zip_next
  (wpAny_call_entry F.slot_zip_next hTy F.entry_zip_next (yY hh D hzf hTI hT h1 h2 hl1 hl2 hend fun h' e hk he=>?_) (F.args_zip_next_1 _))))
 obtain⟨o,ho,hcl⟩:=he;exact wpAny_bind (wpAny_isInstance (T:="StopIteration") (b:=true) ⟨o,ho,hcl⟩ isSubtype_stop (wpAny_pure (hQ _ hk)))
theorem vb {R:Result->Shared->Prop} {I S:Addr} {res:Value} {n:Nat} (J:Nat->Lv->Shared->Prop) (hn:n < sizeLine) (hlen:∀ i acc s,J i acc s->acc.length=i)
  (item:∀ i acc s E,i < n->J i acc s->wpAny (model prog w) A.in1 (pyNext (.ref I)) (fun r s'=>∃ v c,r=some v/\s'.heap.get? S=some (a9 acc c)/\∀ h',Heap.SameBut S s'.heap h'->h'.get? S=some (a9 (acc++[v]) (c + 1))->J (i + 1) (acc++[v]) { s' with heap:=h' }) E s)
  (done:∀ acc s E,J n acc s->wpAny (model prog w) A.in1 (pyNext (.ref I)) (fun r s'=>r=none/\R (.ok (.ret res)) s') E s) :
  ∀ (k i:Nat) (acc:Lv) (s:Shared),n - i=k->i<=n->J i acc s->codeAny (model prog w) A (.builtin "list.extend.loop" ⟨[.ref S,.ref I,res],[]⟩) R s:=by
 intro k
 induction k with
 | zero=>
  intro i acc s hk hi hJ;obtain rfl:i=n:=by omega
  refine codeAny_builtin F.entry_extend_loop ?_;rw[Around.under_plainId F.plain_extend_loop _];show wpAny _ A.in1 (pyNext (.ref I) >>= fun r=>_) _ _ s;refine wpAny_bind (thn (done acc s _ hJ) fun r s' ⟨hr,q⟩=>?_);subst hr;exact wpAny_pure q
 | succ k ih=>
  intro i acc s hk hi hJ;refine codeAny_builtin F.entry_extend_loop ?_;rw[Around.under_plainId F.plain_extend_loop _];show wpAny _ A.in1 (pyNext (.ref I) >>= fun r=>_) _ _ s;refine wpAny_bind (thn (item i acc s _ (by omega) hJ) fun r s' ⟨v,c,hr,hS,q⟩=>?_);subst hr;have hl:=hlen i acc s hJ;show wpAny _ A.in1 (updateSeq S (·.push v) >>= fun r=>_) _ _ _;have eo:Obj.mapSeq (·.push v) (a9 acc c)=a9 (acc++[v]) (c + 1):=by
   show Obj.mapSeq (·.push v) { cls:=.type "list",dict:=none,data:=.seq acc.toArray c,slots:=#[] }=_;rw[mapSeq_push,List.push_toArray]
  refine wpAny_bind (wpAny_updateSeq hS rfl (wpAny_pure ⟨plainId_quiet F.plain_extend_loop _,ih (i + 1) (acc++[v]) _ (by omega) (by omega) (q _ (Heap.SameBut.update ..) ?_)⟩) (by rw[List.size_toArray];omega) (by show (acc.toArray.push v).size<=sizeLine + 1;rw[Array.size_push,List.size_toArray];omega));rw[Heap.get?_update_self _ hS (by rw[eo];rfl),eo]
end
theorem qZ:typeLookup (.type "zip") "__len__"=pure none:=by rw[typeLookup_type,builtinLookup_eq_fast];kernel_rfl
theorem oO:typeLookup (.type "zip") "__length_hint__"=pure none:=by rw[typeLookup_type,builtinLookup_eq_fast];kernel_rfl
section
variable {X:Cx} {pins:Pn} {σ:St} {H:Hp} {s:Shared}
theorem Inv.adopt {S:Addr} {xs:List V} {us:Lv} {c:Nat} (I:Inv X pins σ H s) (fS:c5 X pins H S) (hS:s.heap.get? S=some (a9 us c)) (r:Vals xs us) (hz:xs.length<=sizeLine):Inv X pins σ (upd H S (.lst xs)) s:=by
 have neH:∀ {b:Addr} {u:HO},H b=some u->b≠S:=fun e z=>by rw[z,fS.1] at e;cases e
 refine⟨I.ok,I.os,I.bare,⟨I.base.keep,I.base.slot,fun b o e n hx=>?_,I.base.there,fun b ys e=>?_,fun b o u e=>?_,fun b ps e=>?_⟩,I.loc,I.cell,?_,fun x d e=>?_,fun p hp=>?_,fun b u e=>?_,I.len⟩
 ·have nb:b≠S:=fun z=>by
   rcases fS.2.2.2.1 with q | q
   ·exact hx (by rw[z];exact q)
   ·exact absurd (Nat.lt_of_lt_of_le (Heap.lt_size e) (by rw[z];exact q)) (Nat.lt_irrefl _)
  rw[af nb];exact I.base.free b o e n hx
 ·have q:=I.base.tups b ys e;rw[af (neH q)];exact q
 ·have q:=I.base.frzs b o u e;rw[af (neH q)];exact q
 ·obtain⟨m,q⟩:=I.base.tbls b ps e;exact⟨m,by rw[af (neH q)];exact q⟩
 ·rw[af (Ne.symm fS.2.1)];exact I.free
 ·rw[af (fS.2.2.2.2.1 x d e)];exact I.freeC x d e
 ·obtain⟨e1,e2,e3⟩:=I.pin p hp;exact⟨e1,by rw[af (fS.2.2.2.2.2 p hp)];exact e2,e3⟩
 ·by_cases hb:b=S
  ·subst hb;rw[ao] at e;cases e;exact⟨hz,us,c,r,hS⟩
  ·rw[af hb] at e;exact(I.hok b u e).nY (fun _ _ _ q=>q) (fun d q=>by rw[af (neH q)];exact q) (fun d ys q=>by rw[af (neH q)];exact q) fun d o φ q=>by rw[af (neH q)];exact q
theorem c5.heap {b:Addr} {H':Hp} (f:c5 X pins H b) (h:H' b=none):c5 X pins H' b:=⟨h,f.2⟩
theorem mG:∀ ts:La,Vals (ts.map V.ref) (ts.map Value.ref)
 | []=>.nil
 | _::r=>.cons rfl (mG r)
def JK (H:Hp) (xs ys:List V) (Q:VK):Prop:=∀ (S:Addr) (ts:La) (H':Hp),H S=none->av H H'->H' S=some (.lst (ts.map V.ref))->ts.length=min xs.length ys.length->
 (∀ (j:Nat) t x y,ts[j]?=some t->xs[j]?=some x->ys[j]?=some y->H' t=some (.tup [x,y]))->(∀ t∈ts,H t=none)->Q (.ref S) H'
theorem uY {E:VS} {z TI TO i1 i2 l1 l2:Addr} {xs ys:List V} {Q:VK} (D:oN z TI TO i1 i2) (I:Inv X pins σ H s) (hc:X.calm=true) (hf:∀ b∈[z,TI,TO,i1,i2],c5 X pins H b) (st:Em z TI TO i1 i2 l1 l2 0 s.heap)
  (ha:H l1=some (.lst xs)) (hb:H l2=some (.lst ys)) (hn:min xs.length ys.length < sizeLine) (q:JK H xs ys Q):wpAny (model X.prog X.w) X.A (call (.type "list") [.ref z]) (EP X pins σ Q) E s:=by
 obtain⟨hz,hTI,⟨a0,b0,hTO⟩,h1,h2⟩:=st;obtain⟨S,hSe⟩:∃ S,S=s.heap.objs.size:=⟨_,rfl⟩;have fS:c5 X pins H S:=by rw[hSe];exact I.lR (Nat.le_refl _) (I.hok.fresh (Nat.le_refl _))
 have inS:∀ b∈[z,TI,TO,i1,i2],b < S:=fun b hb'=>by
  have hlt:∃ o,s.heap.get? b=some o:=by
   obtain⟨o1,e1,_⟩:=h1;obtain⟨o2,e2,_⟩:=h2;simp only[List.mem_cons,List.not_mem_nil,or_false] at hb';rcases hb' with rfl | rfl | rfl | rfl | rfl
   ·exact⟨_,hz⟩
   ·exact⟨_,hTI⟩
   ·exact⟨_,hTO⟩
   ·exact⟨_,e1⟩
   ·exact⟨_,e2⟩
  obtain⟨o,e⟩:=hlt;rw[hSe];exact Heap.lt_size e
 have nS:∀ b∈[z,TI,TO,i1,i2],b≠S:=fun b hb'=>Nat.ne_of_lt (inS b hb');have apart:∀ H':Hp,av H H'->(∀ b∈[z,TI,TO,i1,i2],H' b=none)->ZipApart z TI TO i1 i2 l1 l2:=fun H' sm nf=>by
  have ne1:∀ b∈[z,TI,TO,i1,i2],l1≠b:=fun b hb' e=>by have:=sm _ _ ha;rw[e,nf b hb'] at this;cases this
  have ne2:∀ b∈[z,TI,TO,i1,i2],l2≠b:=fun b hb' e=>by have:=sm _ _ hb;rw[e,nf b hb'] at this;cases this
  exact⟨D.TIz,D.TOz,D.i1z,D.i2z,D.TITO,D.TIi1,D.TIi2,D.TOi1,D.TOi2,D.i12,ne1 z (by simp),ne1 TO (by simp),ne1 i1 (by simp),ne1 i2 (by simp),ne2 z (by simp),ne2 TO (by simp),ne2 i1 (by simp),ne2 i2 (by simp)⟩
 let J:Nat->Lv->Shared->Prop:=fun i acc s'=>∃ (H':Hp) (ts:La) (c:Nat),Inv X pins σ H' s'/\acc=ts.map Value.ref/\ts.length=i/\H' S=none/\s'.heap.get? S=some (a9 acc c)/\av H H'/\
  (∀ (j:Nat) t x y,ts[j]?=some t->xs[j]?=some x->ys[j]?=some y->H' t=some (.tup [x,y]))/\(∀ t∈ts,H' t≠none/\H t=none)/\(∀ b∈[z,TI,TO,i1,i2],H' b=none)/\(∃ o,s'.heap.get? TO=some o)/\IsPair s'.heap TI (.ref i1) (.ref i2)/\s'.heap.IsListIter i1 l1 i/\s'.heap.IsListIter i2 l2 i/\
  ((ts=[]/\IsZip s'.heap z TI TO .none/\∃ a b,IsPair s'.heap TO a b)\/∃ t r f,ts=t::r/\bM s'.heap z TI TO t f)
 have alive:∀ {H':Hp} {s':Shared} {t:Addr},Inv X pins σ H' s'->H' t≠none->∃ o,s'.heap.get? t=some o:=fun {H' s' t} I' h=>by
  cases e:H' t with
  | none=>exact absurd e h
  | some o=>
   have lt:=I'.hok.lt e;have x:=I'.hok t o e;cases e2:s'.heap.get? t with
   | some ob=>exact⟨ob,rfl⟩
   | none=>
    exfalso;cases o with
    | lst _=>obtain⟨_,_,_,_,e3⟩:=x;rw[e2] at e3;cases e3
    | tup _=>obtain⟨_,_,_,p⟩:=x;obtain⟨_,e3,_⟩:=p;rw[e2] at e3;cases e3
    | dK _=>obtain⟨_,_,_,_,_,_,_,e3,_⟩:=x;rw[e2] at e3;cases e3
    | dT _=>obtain⟨_,_,_,_,_,_,_,e3,_⟩:=x;rw[e2] at e3;cases e3
    | set _ _=>obtain⟨_,_,_,_,e3,_⟩:=x;rw[e2] at e3;cases e3
    | ins _ _ _=>obtain⟨_,_,_,e3,_⟩:=x;rw[e2] at e3;cases e3
    | own _=>obtain⟨_,e3⟩:=x;rw[e2] at e3;cases e3
    | xd _=>obtain⟨_,⟨_,_,_,e3,_⟩,_⟩:=x;rw[e2] at e3;cases e3
    | rng _ _=>obtain⟨_,_,_,e3⟩:=x;rw[e2] at e3;cases e3
    | frz _ _=>obtain⟨e3,_⟩:=x;rw[e2] at e3;cases e3
    | tbl _=>obtain⟨_,_,_,_,e3,_⟩:=x;rw[e2] at e3;cases e3
    | cod _ _=>obtain⟨⟨_,e3⟩,_⟩:=x;rw[e2] at e3;cases e3
    | met _ _=>have e3:s'.heap.get? t=some _:=x;rw[e2] at e3;cases e3
    | ext _=>obtain⟨_,⟨_,e3⟩,_⟩:=x;rw[e2] at e3;cases e3
 have chOk:∀ {H':Hp},(∀ b∈[z,TI,TO,i1,i2],H' b=none)->∀ b∈[z,TO,i1,i2],c5 X pins H' b:=fun {H'} nf b hb'=>by
  have hb2:b∈[z,TI,TO,i1,i2]:=by
   simp only[List.mem_cons,List.not_mem_nil,or_false] at hb' ⊢;rcases hb' with e | e | e | e <;> simp [e]
  exact(hf b hb2).heap (nf b hb2)
 have step:∀ (i:Nat) (H':Hp) (ts:La) (c:Nat) (s':Shared) (h':Heap) (x y:V) (u v:Value),Inv X pins σ H' s'->ts.length=i->H' S=none->s'.heap.get? S=some (a9 (ts.map Value.ref) c)->av H H'->
   (∀ (j:Nat) t x y,ts[j]?=some t->xs[j]?=some x->ys[j]?=some y->H' t=some (.tup [x,y]))->(∀ t∈ts,H' t≠none/\H t=none)->(∀ b∈[z,TI,TO,i1,i2],H' b=none)->(∀ b∈[z,TI,TO,i1,i2],∃ o,s'.heap.get? b=some o)->IsPair s'.heap TI (.ref i1) (.ref i2)->xs[i]?=some x->ys[i]?=some y->RelV x u->RelV y v->
   (∀ b o,b∉[z,TO,i1,i2]->s'.heap.get? b=some o->h'.get? b=some o)->(∃ o,h'.get? TO=some o)->IsPair h' s'.heap.objs.size u v->h'.IsListIter i1 l1 (i + 1)->h'.IsListIter i2 l2 (i + 1)->(∃ t r f,ts++[s'.heap.objs.size]=t::r/\bM h' z TI TO t f)->
   ∃ v' c',some (Value.ref s'.heap.objs.size)=some v'/\h'.get? S=some (a9 (ts.map Value.ref) c')/\∀ g,Heap.SameBut S h' g->g.get? S=some (a9 (ts.map Value.ref++[v']) (c' + 1))->J (i + 1) (ts.map Value.ref++[v']) { s' with heap:=g }:=by
  intro i H' ts c s' h' x y u v I' hl hHS hS sm hts hal nf ex hTI' hx hy ru rv hk hTOx hT hi1 hi2 hzz;have Slt:S < s'.heap.objs.size:=Heap.lt_size hS;have ST:S≠s'.heap.objs.size:=Nat.ne_of_lt Slt;have fT:H' s'.heap.objs.size=none:=I'.hok.fresh (Nat.le_refl _);have hSn:S∉[z,TO,i1,i2]:=fun hm=>by
   simp only[List.mem_cons,List.not_mem_nil,or_false] at hm;rcases hm with e | e | e | e
   ·exact nS z (by simp) e.symm
   ·exact nS TO (by simp) e.symm
   ·exact nS i1 (by simp) e.symm
   ·exact nS i2 (by simp) e.symm
  refine⟨_,c,rfl,hk S _ hSn hS,fun g sb hg=>?_⟩;have I1:Inv X pins σ (upd H' s'.heap.objs.size (.tup [x,y])) { s' with heap:=h' }:=I'.tj (t':=s'.toks) (chOk nf) (Nat.le_refl _) hk ⟨_,hT,rfl,_,rfl⟩ ru rv;have nT:∀ b∈[z,TI,TO,i1,i2],b≠s'.heap.objs.size:=fun b hb'=>by obtain⟨o,e⟩:=ex b hb';exact Nat.ne_of_lt (Heap.lt_size e)
  have hS2:(upd H' s'.heap.objs.size (.tup [x,y])) S=none:=by rw[af ST];exact hHS
  have I2:Inv X pins σ (upd H' s'.heap.objs.size (.tup [x,y])) { s' with heap:=g }:=I1.moved (t':=s'.toks) (ch:=[S]) (fun b hb'=>by
   have e:b=S:=by simpa using hb'
   rw[e];exact fS.heap hS2) fun b o hb' e=>(sb.2 b fun z'=>hb' (by simp [z'])).trans e
  have nTt:∀ {t:Addr},H' t≠none->t≠s'.heap.objs.size:=fun h e=>h (by rw[e];exact fT);refine⟨upd H' s'.heap.objs.size (.tup [x,y]),ts++[s'.heap.objs.size],c + 1,I2,by rw[List.map_append];rfl,by rw[List.length_append,hl];rfl,hS2,hg,fun b o e=>?_,fun j t x' y' ht hx' hy'=>?_,fun t ht=>?_,fun b hb'=>?_,?_,?_,?_,?_,?_⟩
  ·have e':=sm b o e;rw[af (fun z'=>by rw[z',fT] at e';cases e')];exact e'
  ·by_cases hj:j < ts.length
   ·rw[List.getElem?_append_left hj] at ht;have e':=hts j t x' y' ht hx' hy';rw[af (nTt (by rw[e'];simp))];exact e'
   ·have hj2:j=ts.length:=by
     have:=(gS0 ht).1;rw[List.length_append,List.length_singleton] at this;omega
    subst hj2;rw[List.getElem?_append_right (Nat.le_refl _),Nat.sub_self] at ht;have et:t=s'.heap.objs.size:=(Option.some.inj ht).symm;rw[hl] at hx' hy';rw[hx] at hx';rw[hy] at hy';cases hx';cases hy';rw[et];exact ao
  ·rcases List.mem_append.mp ht with z' | z'
   ·rw[af (nTt (hal t z').1)];exact hal t z'
   ·have e:t=s'.heap.objs.size:=by simpa using z'
    rw[e,ao];exact⟨by simp,sm.free fT⟩
  ·rw[af (nT b hb')];exact nf b hb'
  ·obtain⟨o,e⟩:=hTOx;exact⟨o,(sb.2 TO (nS TO (by simp))).trans e⟩
  ·exact(sb.2 TI (nS TI (by simp))).trans (hk TI _ (by simp [D.TIz,D.TITO,D.TIi1,D.TIi2]) hTI')
  ·exact hi1.extBut sb.extBut (nS i1 (by simp))
  ·exact hi2.extBut sb.extBut (nS i2 (by simp))
  ·obtain⟨t,r,f,e,hzf⟩:=hzz;exact .inr ⟨t,r,f,e,(sb.2 z (nS z (by simp))).trans hzf⟩
 refine callType_codes (Q₁:=fun obj s₁=>obj=.ref S/\s₁={ s with heap:=s.heap.push { cls:=.type "list",data:=.seq #[] } }) F.called_list (F.typeCall_list_1 _) F.entry_list_init (code_list_new _ ⟨by rw[hSe],rfl⟩) fun obj s₁ e₁=>?_;obtain⟨rfl,rfl⟩:=e₁;have hS0:(s.heap.push { cls:=.type "list",data:=.seq #[] }).get? S=some { cls:=.type "list",data:=.seq #[] }:=by rw[hSe];exact Heap.get?_push_size _ rfl
 have up0:∀ b o,s.heap.get? b=some o->(s.heap.push { cls:=.type "list",data:=.seq #[] }).get? b=some o:=fun b o e=>Heap.get?_push_of_some _ e;have I0:Inv X pins σ H { s with heap:=s.heap.push { cls:=.type "list",data:=.seq #[] } }:=I.kept (t':=s.toks) up0;refine⟨⟨_,hS0,rfl⟩,F.args_list_init_2 _ _,?_⟩;show wpAny _ X.A.in1.in1 (Builtin.List.listItems (.ref S) >>= fun old=>Builtin.List.listUpdate (.ref S) (fun _=>#[]) >>= fun _=>letGo old.toList.reverse >>= fun _=>Builtin.List.listExtendWith (.ref S) (.ref z) .none) _ _ _;unfold Builtin.List.listItems;refine wpAny_bind (wpAny_bind (wpAny_seqItems hS0 rfl (wpAny_pure ?_)));show wpAny _ X.A.in1.in1 (updateSeq S (fun _=>#[]) >>= fun _=>letGo (#[]:Array Value).toList.reverse >>= fun _=>Builtin.List.listExtendWith (.ref S) (.ref z) .none) _ _ _;refine wpAny_bind (wpAny_updateSeq hS0 rfl (wpAny_bind (wpAny_letGo ?_)));have hS1:=Heap.get?_update_self (Obj.mapSeq (fun _=>(#[]:Array Value))) hS0 rfl;have up1:∀ b o,b≠S->s.heap.get? b=some o->((s.heap.push { cls:=.type "list",data:=.seq #[] }).update S (Obj.mapSeq (fun _=>(#[]:Array Value)))).get? b=some o:=fun b o nb e=>(Heap.get?_update_other _ _ (Ne.symm nb)).trans (up0 b o e);generalize hg1:(s.heap.push { cls:=.type "list",data:=.seq #[] }).update S (Obj.mapSeq (fun _=>(#[]:Array Value)))=g1 at hS1 up1;have hzT:∀ g:Heap,(∀ b o,b≠S->s.heap.get? b=some o->g.get? b=some o)->g.get? z=some _:=fun g k=>k z _ (nS z (by simp)) hz;have TyZ:∀ s':Shared,s'.heap.get? z=some { cls:=.type "zip",dict:=none,data:=.fields #[.none,.bool false,.bool false,.ref TI,.ref TO],slots:=#[] }->s'.TypeIs (.ref z) "zip":=fun s' e=>⟨_,e,rfl⟩;unfold Builtin.List.listExtendWith;refine wpAny_bind (wpAny_typeOf (TyZ _ (hzT g1 up1)) ?_);have b1:Builtin.List.listSameRef (.ref S) (.ref z)=false:=by simp [Builtin.List.listSameRef,(nS z (by simp)).symm]
 have b2:(Value.type "zip" == Value.type "list")=false:=by decide
 have b3:(Value.type "zip" == Value.type "tuple")=false:=by decide
 simp only[b1,b2,b3,Bool.or_false,Bool.false_eq_true,if_false];refine wpAny_bind (wpAny_pyIter_zip (hzT g1 up1) (wpAny_bind (wpAny_holding ?_)));unfold Builtin.List.listLengthHint;refine wpAny_bind (wpAny_specialOf (TyZ _ (hzT g1 up1)) qZ ?_);show wpAny _ X.A.in1.in1 (specialOf (Value.ref z) (Str.ofString "__length_hint__") >>= fun a=>_) _ _ _;refine wpAny_bind (wpAny_specialOf (TyZ _ (hzT g1 up1)) oO (wpAny_pure ?_));show wpAny _ X.A.in1.in1 (rule "list.extend.makes-room" >>= fun _=>Builtin.List.listTouch (.ref S) >>= fun _=>again (.builtin "list.extend.loop" ⟨[.ref S,.ref z,.none],[]⟩)) _ _ _;refine wpAny_bind (wpAny_rule (wpAny_bind ?_));show wpAny _ X.A.in1.in1 (updateSeq S (·.push .none) >>= fun _=>updateSeq S (·.pop)) _ _ _;refine wpAny_bind (wpAny_updateSeq hS1 rfl ?_);have hS2:=Heap.get?_update_self (Obj.mapSeq (·.push Value.none)) hS1 rfl;refine wpAny_updateSeq (hz:=by seq_fits) hS2 rfl ?_;have hS3:=Heap.get?_update_self (Obj.mapSeq (·.pop)) hS2 rfl;have up3:∀ b o,b≠S->s.heap.get? b=some o->((g1.update S (Obj.mapSeq (·.push Value.none))).update S (Obj.mapSeq (·.pop))).get? b=some o:=
  fun b o nb e=>(Heap.get?_update_other _ _ (Ne.symm nb)).trans ((Heap.get?_update_other _ _ (Ne.symm nb)).trans (up1 b o nb e))
 generalize hg3:(g1.update S (Obj.mapSeq (·.push Value.none))).update S (Obj.mapSeq (·.pop))=g3 at hS3 up3;have I3:Inv X pins σ H { s with heap:=g3 }:=I.moved (t':=s.toks) (ch:=[S]) (fun b hb'=>by
  have e:b=S:=by simpa using hb'
  rw[e];exact fS) fun b o hb' e=>up3 b o (fun z'=>hb' (by simp [z'])) e
 obtain⟨c0,hc0⟩:∃ c0,g3.get? S=some (a9 [] c0):=⟨_,hS3⟩;have J0:J 0 [] { s with heap:=g3 }:=⟨H,[],c0,I3,rfl,rfl,fS.1,hc0,av.refl H,fun j t x y h=>by simp at h,fun t h=>by simp at h,fun b hb'=>(hf b hb').1,⟨_,up3 TO _ (nS TO (by simp)) hTO⟩,up3 TI _ (nS TI (by simp)) hTI,h1.at fun o e=>up3 i1 o (nS i1 (by simp)) e,h2.at fun o e=>up3 i2 o (nS i2 (by simp)) e,
  .inl ⟨rfl,up3 z _ (nS z (by simp)) hz,a0,b0,up3 TO _ (nS TO (by simp)) hTO⟩⟩
 refine wpAny_pure ⟨plainId_quiet F.plain_extend_loop _,vb J hn (fun i acc s' h=>?_) (fun i acc s' E' hi h=>?_) (fun acc s' E' h=>?_) _ 0 [] _ rfl (Nat.zero_le _) J0⟩
 ·obtain⟨_,ts,_,_,e,l,_⟩:=h;rw[e,lM0,l]
 ·obtain⟨H',ts,c,I',rfl,hl,hHS,hS,sm,hts,hal,nf,toEx,hTI',hi1,hi2,hzz⟩:=h;have Z:=apart H' sm nf;obtain⟨ia,na,ra,ea,_⟩:=I'.lst (sm _ _ ha);obtain⟨ib,nb,rb,eb,_⟩:=I'.lst (sm _ _ hb);have hix:i < xs.length:=by omega
  have hiy:i < ys.length:=by omega
  have hx:xs[i]?=some xs[i]:=gE0 hix;have hy:ys[i]?=some ys[i]:=gE0 hiy;obtain⟨u,hu,ru⟩:=ra.get hx;obtain⟨v,hv,rv⟩:=rb.get hy;have LA:s'.heap.IsList l1 ia.toArray:=⟨_,ea,rfl,_,rfl⟩;have LB:s'.heap.IsList l2 ib.toArray:=⟨_,eb,rfl,_,rfl⟩;have exb:∀ zo:∃ o,s'.heap.get? z=some o,∀ to:∃ o,s'.heap.get? TO=some o,∀ b∈[z,TI,TO,i1,i2],∃ o,s'.heap.get? b=some o:=fun zo to b hb'=>by
   obtain⟨o1,e1,_⟩:=hi1;obtain⟨o2,e2,_⟩:=hi2;simp only[List.mem_cons,List.not_mem_nil,or_false] at hb';rcases hb' with rfl | rfl | rfl | rfl | rfl
   ·exact zo
   ·exact⟨_,hTI'⟩
   ·exact to
   ·exact⟨_,e1⟩
   ·exact⟨_,e2⟩
  rcases hzz with ⟨rfl,hz',a,b,hTO'⟩ | ⟨t,r,f,rfl,hzf⟩
  ·refine wpAny_pyNext_zip_item Z hz' hTI' hTO' hi1 hi2 LA LB (x:=u) (y:=v) (by simpa using hu) (by simpa using hv) fun h' a1 a2 a3 a4 a5 a6 hk=>?_;exact step i H' [] c s' h' _ _ u v I' hl hHS hS sm hts hal nf (exb ⟨_,hz'⟩ ⟨_,hTO'⟩) hTI' hx hy ru rv (fun b o hb' e=>by
    simp only[List.mem_cons,List.not_mem_nil,or_false,not_or] at hb';exact hk b o hb'.1 hb'.2.1 hb'.2.2.1 hb'.2.2.2 e) ⟨_,a2⟩ a5 a3 a4 ⟨_,[],false,rfl,a1⟩
  ·obtain⟨ot,et⟩:=alive I' (hal t List.mem_cons_self).1;refine yB Z hzf hTI' et hi1 hi2 LA LB (x:=u) (y:=v) (by simpa using hu) (by simpa using hv) fun h' a1 a2 a3 a4 hk=>?_;exact step i H' (t::r) c s' h' _ _ u v I' hl hHS hS sm hts hal nf (exb ⟨_,hzf⟩ toEx) hTI' hx hy ru rv (fun b o hb' e=>by
    simp only[List.mem_cons,List.not_mem_nil,or_false,not_or] at hb';exact hk b o hb'.1 hb'.2.2.1 hb'.2.2.2 e) (by obtain⟨o,e⟩:=toEx;exact⟨o,hk TO o D.TOz D.TOi1 D.TOi2 e⟩) a4 a2 a3 ⟨t,r++[_],true,rfl,a1⟩
 ·obtain⟨H',ts,c,I',rfl,hl,hHS,hS,sm,hts,hal,nf,toEx,hTI',hi1,hi2,hzz⟩:=h;have Z:=apart H' sm nf;obtain⟨ia,na,ra,ea,_⟩:=I'.lst (sm _ _ ha);obtain⟨ib,nb,rb,eb,_⟩:=I'.lst (sm _ _ hb);have LA:s'.heap.IsList l1 ia.toArray:=⟨_,ea,rfl,_,rfl⟩;have LB:s'.heap.IsList l2 ib.toArray:=⟨_,eb,rfl,_,rfl⟩;have la:=ra.length;have lb:=rb.length;have hend:ia.toArray[min xs.length ys.length]?=none\/ib.toArray[min xs.length ys.length]?=none:=by
   by_cases hle:xs.length<=ys.length
   ·left;simp;omega
   ·right;simp;omega
  have fin:∀ h',(∀ b o,b∉[z,TO,i1,i2]->s'.heap.get? b=some o->h'.get? b=some o)->wants (fun r s₂=>r=.none/\EP X pins σ Q (.ref S) s₂) E (.ok (.ret .none)) { s' with heap:=h' }:=fun h' hk=>by
   have I4:Inv X pins σ H' { s' with heap:=h' }:=I'.moved (t':=s'.toks) (chOk nf) hk;have hS4:h'.get? S=some (a9 (ts.map Value.ref) c):=hk S _ (fun hm=>by
    simp only[List.mem_cons,List.not_mem_nil,or_false] at hm;rcases hm with e | e | e | e
    ·exact nS z (by simp) e.symm
    ·exact nS TO (by simp) e.symm
    ·exact nS i1 (by simp) e.symm
    ·exact nS i2 (by simp) e.symm) hS
   have I5:=I4.adopt (fS.heap hHS) hS4 (mG ts) (by rw[lM0,hl];omega);have sm5:av H (upd H' S (.lst (ts.map V.ref))):=fun b o e=>by rw[af (aE (sm b o e) hHS)];exact sm b o e
   exact⟨rfl,.ref S,_,I5,rfl,q S ts _ fS.1 sm5 ao hl (fun j t x y ht hx hy=>by
    have e:=hts j t x y ht hx hy;rw[af (aE e hHS)];exact e) fun t ht=>(hal t ht).2⟩
  rcases hzz with ⟨rfl,hz',a,b,hTO'⟩ | ⟨t,r,f,rfl,hzf⟩
  ·exact wpAny_pyNext_zip_end (I.ok.hd hc) Z hz' hTI' hTO' hi1 hi2 LA LB hend fun h' hk=>⟨rfl,fin h' fun b o hb' e=>by
    simp only[List.mem_cons,List.not_mem_nil,or_false,not_or] at hb';exact hk b o hb'.1 hb'.2.1 hb'.2.2.1 hb'.2.2.2 e⟩
  ·obtain⟨ot,et⟩:=alive I' (hal t List.mem_cons_self).1;exact yA (I.ok.hd hc) Z hzf hTI' et hi1 hi2 LA LB hend fun h' hk=>⟨rfl,fin h' fun b o hb' e=>by
    simp only[List.mem_cons,List.not_mem_nil,or_false,not_or] at hb';exact hk b o hb'.1 hb'.2.2.1 hb'.2.2.2 e⟩
def uf (t:TA):TE:=fun σ H Q=>t σ H fun vs H1=>∃ (p q:Addr) (xs ys:List V),vs=[.ref p,.ref q]/\H1 p=some (.lst xs)/\H1 q=some (.lst ys)/\min xs.length ys.length < sizeLine/\JK H1 xs ys Q
theorem vN {a b:Expr} {ta:TA} {p p2 pos pos2:Pos} (hc:X.calm=true) (hg:Gl X "list") (hm:X.mg "list"=none) (hg2:Gl X "zip") (hm2:X.mg "zip"=none) (ha:PA X [a,b] ta)
  (hs:starEach [a,b] X.env=[(false,eval a X.env),(false,eval b X.env)]:=by rfl) (hs2:starEach [b] X.env=[(false,eval b X.env)]:=by rfl) (hs3:starEach [Expr.Call (.Name "zip" p2) [a,b] [] pos2] X.env=[(false,eval (.Call (.Name "zip" p2) [a,b] [] pos2) X.env)]:=by rfl) :
  PE X (.Call (.Name "list" p) [.Call (.Name "zip" p2) [a,b] [] pos2] [] pos) (uf ta):=by
 intro pins s σ H Q I h;refine wpAny_Call_Name_kw (dD I hg hm (by decide +kernel:bootBuiltins "list"=some (.type "list")) ?_);refine PyProof.Rows.callWith_type1 ?_ (by rw[hs3];rfl) rfl;rw[hs3];show wpAny _ _ (spliced ((false,eval (.Call (.Name "zip" p2) [a,b] [] pos2) X.env)::backTo pos [])) _ _ s;refine Calls.spliced_cons (Call_ (dD I hg2 hm2 (by decide +kernel:bootBuiltins "zip"=some (.type "zip")) (PyProof.Rows.callWith_type1 (thn (ha pos2 pins s σ H _ I h) fun us s1 ⟨vs,H1,I1,r1,q1⟩=>?_) (by rw[hs,hs2]) (by rw[hs2];rfl))));obtain⟨l1,l2,xs,ys,e,h1,h2,hn,q⟩:=q1;subst e;obtain⟨u,w',rfl,ru,rw'⟩:=vals2 r1;cases ru;cases rw';obtain⟨ia,na,ra,ea,_⟩:=I1.lst h1;obtain⟨ib,nb,rb,eb,_⟩:=I1.lst h2;refine call_zip_2 (xs:=ia.toArray) (ys:=ib.toArray) ⟨_,ea,rfl,_,rfl⟩ ⟨_,eb,rfl,_,rfl⟩ fun h' hz hTI hTO hi1 hi2 hsz hk=>?_;have I2:Inv X pins σ H1 { s1 with heap:=h' }:=I1.kept (t':=s1.toks) hk;have lt:∀ i j:Nat,i < j->s1.heap.objs.size + i≠s1.heap.objs.size + j:=fun i j h e=>by omega
 have D:oN (s1.heap.objs.size + 4) (s1.heap.objs.size + 2) (s1.heap.objs.size + 3) s1.heap.objs.size (s1.heap.objs.size + 1):=
  ⟨lt 2 4 (by decide),lt 3 4 (by decide),lt 0 4 (by decide),lt 1 4 (by decide),lt 2 3 (by decide),(lt 0 2 (by decide)).symm,(lt 1 2 (by decide)).symm,(lt 0 3 (by decide)).symm,(lt 1 3 (by decide)).symm,lt 0 1 (by decide)⟩
 refine Calls.spliced_nil ?_;refine uY D I2 hc (fun b hb=>?_) ⟨hz,hTI,⟨_,_,hTO⟩,hi1,hi2⟩ h1 h2 hn q;have hge:s1.heap.objs.size<=b:=by
  simp only[List.mem_cons,List.not_mem_nil,or_false] at hb;rcases hb with rfl | rfl | rfl | rfl | rfl <;> omega
 exact I1.lR hge (I1.hok.fresh hge)
end
section
variable {X:Cx} {C:Addr} {x:Str} {p pos:Pos}
structure Mk0 (K:Fg0) (C:Addr):Prop where
 makes:PySem.W.makesIn K C=true
 init:PySem.W.findIn K (.ref C) "__init__"=some (some (.builtin "object.__init__"))
 kp:PySem.W.keepIn K (.ref C)=true
def wX (C:Addr):TE:=fun _ H Q=>∀ x dx,H x=none->H dx=none->dx≠x->Q (.ref x) (upd (upd H dx (.own x)) x (.ins C dx []))
theorem yu (M:Mk0 X.K C) (hg:Gl X x) (hm:X.mg x=some (.ref C)) (hdb:(x == ("__debug__":Str))=false:=by decide):PE X (.Call (.Name x p) [] [] pos) (wX C):=by
 intro pins s σ H Q I h;refine wpAny_Call_Name_kw (jP I hg hm ?_ hdb);refine PySem.W.callWith_K0 I.kIn M.kp (wpAny_call ?_);have hq:=h (s.heap.objs.size + 1) s.heap.objs.size (I.hok.fresh (Nat.le_succ _)) (I.hok.fresh (Nat.le_refl _)) (Nat.ne_of_lt (Nat.lt_succ_self _));have I2:=Inv.made (C:=C) I;have Y:=PySem.W.makes_of (M:=model X.prog X.w) I.kIn M.makes;refine yE I.kIn M.makes M.init (fun self=>PySem.W.Looks.of_pure (PySem.W.oi_bind self)) ?_;have e2:((s.heap.push PySem.W.emptyDict).push (PySem.W.instObj C s.heap.objs.size)).get? (s.heap.objs.size + 1)=some (PySem.W.instObj C s.heap.objs.size):=by
  have:=Heap.get?_push_size (s.heap.push PySem.W.emptyDict) (o:=PySem.W.instObj C s.heap.objs.size) rfl
  rwa [Heap.size_push] at this
 have t1:PySem.W.Looks (model X.prog X.w) ((s.heap.push PySem.W.emptyDict).push (PySem.W.instObj C s.heap.objs.size)) (typeOf (.ref (s.heap.objs.size + 1))) (.ref C):=(PySem.W.Looks.ld e2).andThen .now;have t2:PySem.W.Looks (model X.prog X.w) ((s.heap.push PySem.W.emptyDict).push (PySem.W.instObj C s.heap.objs.size)) (isInstance (.ref (s.heap.objs.size + 1)) (.type "object")) true:=t1.andThen (Y.top.keeps fun b o e=>Heap.get?_push_of_some _ (Heap.get?_push_of_some _ e));refine codeAny_call_builtin PySem.W.oi_plain PySem.W.entry_oi (@PySem.W.check_slot (model X.prog X.w) _ _ _ "object.__init__" "object" "__init__" (.ref (s.heap.objs.size + 1)) [] [] _ PySem.W.oi_kind PySem.W.oi_split t2 (PySem.W.oi_args (.ref (s.heap.objs.size + 1))) ?_);rw[PySem.W.oi_run];exact wpAny_pure (And.intro rfl ⟨V.ref (s.heap.objs.size + 1),_,I2,rfl,hq⟩)
end
theorem tQ {α β:Type} {f:α->Option β} {g:α->β}:∀ {l:List α},(∀ k∈l,f k=some (g k))->l.filterMap f=l.map g
 | [],_=>rfl
 | k::l,h=>by
  rw[List.filterMap_cons,h k List.mem_cons_self,List.map_cons,tQ fun j hj=>h j (List.mem_cons_of_mem _ hj)]
theorem Ji (ns:Li) {k:Nat} (h:k < ns.length):(ns.map V.int)[k]?=some (V.int (ns.getD k 0)):=by
 rw[List.getElem?_map,List.getD_eq_getElem?_getD,gE0 h]
 rfl
theorem HS (ns:Li):i9 (ns.map V.int) (some 0) none (some 2)=(List.range ((ns.length + 1) / 2)).map fun k=>V.int (ns.getD (2 * k) 0):=by
 have e:sliceBounds (some 0) none (some 2) (ns.map V.int).length=(0,(ns.length:Int),2):=by
  simp [sliceBounds];omega
 unfold i9;rw[e];have e2:sliceRange 0 (ns.length:Int) 2=(List.range ((ns.length + 1) / 2)).map fun k=>2 * k:=by
  unfold sliceRange;have ec:(if (2:Int) > 0 then (if (0:Int) < (ns.length:Int) then ((ns.length:Int) - 0 + 2 - 1) / 2 else 0) else (if (0:Int) > (ns.length:Int) then (0 - (ns.length:Int) - 2 - 1) / (-2) else 0)).toNat=(ns.length + 1) / 2:=by
   rw[if_pos (by decide)];split <;> omega
  simp only[ec];refine List.map_congr_left fun k _=>?_;omega
 simp only[e2,List.filterMap_map];refine tQ fun k hk=>?_;have:=List.mem_range.mp hk;exact Ji ns (show 2 * k < ns.length by omega)
theorem HR (ns:Li):i9 (ns.map V.int) (some 1) none (some 2)=(List.range (ns.length / 2)).map fun k=>V.int (ns.getD (2 * k + 1) 0):=by
 have e:sliceBounds (some 1) none (some 2) (ns.map V.int).length=(min 1 (ns.length:Int),(ns.length:Int),2):=by
  simp [sliceBounds];omega
 unfold i9;rw[e];have e2:sliceRange (min 1 (ns.length:Int)) (ns.length:Int) 2=(List.range (ns.length / 2)).map fun k=>2 * k + 1:=by
  unfold sliceRange;have ec:(if (2:Int) > 0 then (if min 1 (ns.length:Int) < (ns.length:Int) then ((ns.length:Int) - min 1 (ns.length:Int) + 2 - 1) / 2 else 0) else (if min 1 (ns.length:Int) > (ns.length:Int) then (min 1 (ns.length:Int) - (ns.length:Int) - 2 - 1) / (-2) else 0)).toNat=ns.length / 2:=by
   rw[if_pos (by decide)];split <;> omega
  simp only[ec];refine List.map_congr_left fun k hk=>?_;have:=List.mem_range.mp hk;omega
 simp only[e2,List.filterMap_map];refine tQ fun k hk=>?_;have:=List.mem_range.mp hk;exact Ji ns (show 2 * k + 1 < ns.length by omega)
def G9 (lo c:Int) (n:Nat):It:=⟨fun i _=>i < n,fun i H x H'=>H'=H/\x=.int (lo + i * c),fun i _=>n<=i⟩
theorem ud {P:Program} {w:World} {K:Fg0} {tg:Expr} (it:Addr) (lo c:Int) (n:Nat):Turn P w K tg (G9 lo c n) [it] it (fun i h=>IsRangeIter h it (lo + (i:Nat) * c) ((n:Int) - (i:Nat)) c) where
 mem:=by simp
 obj:=fun i h st b hb=>by
  obtain rfl:b=it:=by simpa using hb
  exact⟨_,st,fun v z=>by cases (show Data.fields _=Data.cell v from z)⟩
 keep:=fun i h h' st k=>k it (by simp) _ st
 item:=by
  intro X hP hw hK hc i pins s σ H E I hf st hg;subst hP hw hK;obtain⟨f0,f1,f2,f3,f4,f5⟩:=hf it (by simp);refine(Walks.range (prog:=X.prog) (w:=X.w) (I.ok.hd hc) it lo c n).item i s _ _ hg st fun v h' tk hv st' kk=>?_;obtain⟨t,rfl⟩:=hv;have I1:Inv X pins σ H { s with heap:=h',toks:=tk }:=I.turned (fun b o hb e=>kk b o (by simpa using hb) e) f0 f1 f3 f4 f5;exact⟨_,rfl,xE (s:={ s with heap:=h',toks:=tk }) (n:="range_iterator") st' rfl rfl (by decide) ⟨.int (lo + i * c),H,I1,⟨t,rfl⟩,⟨rfl,rfl⟩,st',fun b hb=>(hf b hb).1⟩⟩
 done:=by
  intro X hP hw hK hc i pins s σ H E I hf st hg;subst hP hw hK;obtain⟨f0,f1,f2,f3,f4,f5⟩:=hf it (by simp);have hg':n<=i:=hg;exact wpAny_pyNext_range_end (I.ok.hd hc) st (by omega) fun h' eb=>⟨rfl,I.turned (t':=s.toks) (fun b o hb e=>eb b o hb e) f0 f1 f3 f4 f5⟩
 self:=fun _ _ _ _ _ st h=>wpAny_pyIter_rangeiter st h
section
variable {X:Cx} {tg:Expr}
end
theorem jv (ns:Li) (k:Nat) (h:k<=ns.length):qT (ns.map V.int) (some (k:Int)) none=(ns.drop k).map V.int:=by
 have e:HT.sIx (ns.map V.int).length 0 (some (k:Int))=k:=by
  simp only[HT.sIx,lM0];split <;> omega
 unfold qT;rw[e,show HT.sIx (ns.map V.int).length (ns.map V.int).length none=ns.length by simp [HT.sIx]];rw[List.take_of_length_le (by simp),List.map_drop]
def sgn (c:Nat):Str:=⟨#[c]⟩
def Its (x:Str):It:=⟨fun i _=>i < x.cps.size,fun i H v H'=>H'=H/\∃ c,x.cps[i]?=some c/\v=.str (sgn c),fun i _=>x.cps.size<=i⟩
theorem y_ {P:Program} {w:World} {K:Fg0} {tg:Expr} (it:Addr) (x:Str) (t:Tok):Turn P w K tg (Its x) [it] it (fun i h=>h.IsStrIter it "str_ascii_iterator" x t i) where
 mem:=by simp
 obj:=fun i h st b hb=>by
  obtain rfl:b=it:=by simpa using hb
  obtain⟨o,e,c,d⟩:=st;exact⟨o,e,fun v z=>by rw[d] at z;cases z⟩
 keep:=fun i h h' st k=>let ⟨o,e,r⟩:=st;⟨o,k it (by simp) o e,r⟩
 item:=by
  intro X hP hw hK hc i pins s σ H E I hf st hg;subst hP hw hK;obtain⟨f0,f1,f2,f3,f4,f5⟩:=hf it (by simp);have hg':i < x.cps.size:=hg;refine wpAny_pyNext_ascii_item st (c:=x.cps[i]) (by simp [hg']) fun h' st' sb=>?_;have I1:Inv X pins σ H { s with heap:=h',toks:=s.toks + 1 }:=I.turned (fun b o hb e=>(sb.2 b hb).trans e) f0 f1 f3 f4 f5;obtain⟨o,e,c,d⟩:=id st';exact⟨_,rfl,xE (s:={ s with heap:=h',toks:=s.toks + 1 }) e c d (by decide) ⟨.str (sgn x.cps[i]),H,I1,⟨_,rfl⟩,⟨rfl,_,by simp [hg'],rfl⟩,st',fun b hb=>(hf b hb).1⟩⟩
 done:=by
  intro X hP hw hK hc i pins s σ H E I hf st hg;subst hP hw hK;obtain⟨f0,f1,f2,f3,f4,f5⟩:=hf it (by simp);have hg':x.cps.size<=i:=hg;exact wpAny_pyNext_ascii_end (I.ok.hd hc) st (by simpa using hg') fun h' eb=>⟨rfl,I.turned (t':=s.toks) (fun b o hb e=>eb b o hb e) f0 f1 f3 f4 f5⟩
 self:=fun _ _ _ _ _ st h=>wpAny_pyIter_striter_ascii st h
section
variable {X:Cx} {tg:Expr}
def IY (tl:TE):TI:=fun σ H R=>tl σ H fun x H1=>∃ z,x=.str z/\z.cps.all (· < 128)=true/\R (Its z) H1
theorem Fg {l:Expr} {tl:TE} (hl:PE X l tl):PI X tg l (IY tl):=by
 intro pins s σ H R I h;refine thn (hl pins s σ H _ I h) fun v s1 ⟨x,H1,I1,r1,q1⟩=>?_;obtain⟨z,rfl,ha,q⟩:=q1;obtain⟨t,rfl⟩:=r1;refine wpAny_pyIter_ascii ha ?_;refine⟨s1.heap.objs.size,[s1.heap.objs.size],_,_,H1,rfl,I1.kept (t':=s1.toks) fun b o e=>Heap.get?_push_of_some _ e,y_ _ z t,⟨_,Heap.get?_push_size _ rfl,rfl,rfl⟩,fun b hb=>?_,q⟩;obtain rfl:b=s1.heap.objs.size:=by simpa using hb
 exact I1.lR (Nat.le_refl _) (I1.hok.fresh (Nat.le_refl _))
structure TyS (K:Fg0):Prop where
 bs:PySem.W.kitOne K (.type "bool") (.type "str")=some false
 is:PySem.W.kitOne K (.type "int") (.type "str")=some false
 ns:PySem.W.kitOne K (.type "NoneType") (.type "str")=some false
 ss:PySem.W.kitOne K (.type "str") (.type "str")=some true
 ls:PySem.W.kitOne K (.type "list") (.type "str")=some false
 ts:PySem.W.kitOne K (.type "tuple") (.type "str")=some false
 ds:PySem.W.kitOne K (.type "dict") (.type "str")=some false
def isS:V->Bool
 | .str _=>true
 | _=>false
theorem Bd (F:TyS X.K):cj X (.builtin "isinstance") (fun xs H Q=>∃ x,xs=[x,.ty "str"]/\Kn H x/\Q (.bl (isS x)) H):=by
 intro pins s σ H xs us Q I r h;obtain⟨x,rfl,k,q⟩:=h;cases k with
 | non=>exact aJ I r .non F.ns rfl q
 | bl b=>exact aJ I r (.bl b) F.bs rfl q
 | int i=>exact aJ I r (.int i) F.is rfl q
 | str y=>exact aJ I r (.str y) F.ss rfl q
 | lst e=>exact aJ I r (.lst e) F.ls rfl q
 | tup e=>exact aJ I r (.tup e) F.ts rfl q
 | dK e=>exact aJ I r (.dK e) F.ds rfl q
end
section
variable {prog:Program} {w:World} {A:Around} {E:VS} {s:Shared}
abbrev w6 (n:Int):Obj:={ cls:=.type "range_iterator",data:=.fields #[rawInt (n - 1),rawInt n,rawInt (-1)] }
theorem Hu {n:Int} (h:0<=n):Builtin.Range.rangeSize 0 n 1=n:=by
 unfold Builtin.Range.rangeSize;rw[if_pos (by decide),Int.ediv_one];split <;> omega
theorem jV {r:Addr} {n:Int} {t u v:Tok} {Q:VS} (hr:IsRange s.heap r 0 n 1 t u v) (h0:0<=n) (h1:n < 2 ^ 62)
  (h:Q (.ref s.heap.objs.size) { s with heap:=s.heap.push (w6 n) }):wpAny (model prog w) A (call (.builtin "range.__reversed__") [.ref r]) Q E s:=by
 have hT:s.TypeIs (.ref r) "range":=⟨_,hr,rfl⟩;have e2:(Builtin.Range.rangeFitsLong 0 && Builtin.Range.rangeFitsLong n && Builtin.Range.rangeFitsLong 1 && Builtin.Range.rangeFitsLong (-1) && Builtin.Range.rangeFitsLong (0 - 1) && Builtin.Range.rangeFitsLong n)=true:=by
  simp only[Builtin.Range.rangeFitsLong,Bool.and_eq_true,decide_eq_true_eq];omega
 refine wpAny_call_entry F.slot_range_reversed hT F.entry_range_reversed ?_ (F.args_range_reversed_1 _);unfold Builtin.«range.__reversed__»;refine wpAny_bind (wpAny_of_eq (a:=Value.ref r) rfl ?_);refine wpAny_bind ?_;unfold Builtin.Range.rangeFields;refine wpAny_bind (wpAny_field hr rfl (x:=.int 0 t) rfl ?_);refine wpAny_bind (wpAny_of_eq (a:=some (0:Int)) rfl ?_);refine wpAny_bind (wpAny_field hr rfl (x:=.int n u) rfl ?_);refine wpAny_bind (wpAny_of_eq (a:=some n) rfl ?_);refine wpAny_bind (wpAny_field hr rfl (x:=.int 1 v) rfl ?_);refine wpAny_bind (wpAny_of_eq (a:=some (1:Int)) rfl ?_);refine wpAny_pure ?_;dsimp only;rw[Hu h0,e2];simp only[Bool.not_true,Bool.false_eq_true,if_false,if_true];have e3:(0:Int) + (n - 1) * 1=n - 1:=by omega
 rw[e3]
 first
 | exact wpAny_bind (wpAny_newObj_type (wpAny_pure ⟨_,rfl,h⟩))
 | exact wpAny_bind (wpAny_pure (wpAny_bind (wpAny_newObj_type (wpAny_pure ⟨_,rfl,h⟩))))
theorem nX:isSubtype (.type "range_iterator") (.type "reversed")=pure false:=by rw[isSubtype_type];kernel_rfl
theorem jT {r:Addr} {n:Int} {t u v:Tok} {Q₁:VS} (hr:IsRange s.heap r 0 n 1 t u v) (h0:0<=n) (h1:n < 2 ^ 62)
  (h:Q₁ (.ref s.heap.objs.size) { s with heap:=s.heap.push (w6 n) }) :
  codeAny (model prog w) A (.call (.builtin "reversed.__new__") ⟨[.type "reversed",.ref r],[]⟩) (wants Q₁ E) s:=by
 have hT:s.TypeIs (.ref r) "range":=⟨_,hr,rfl⟩;refine codeAny_of_tree ?_;show wpAny _ A.in1 (checkBuiltinCall "reversed.__new__" ⟨[.type "reversed",.ref r],[]⟩ >>= fun _=>again (.builtin "reversed.__new__" ⟨[.type "reversed",.ref r],[]⟩)) _ _ s;refine wpAny_bind (wpAny_of_eq (F.newCall_reversed_1 _) (wpAny_pure ⟨plainId_quiet F.plain_reversed_new _,codeAny_builtin F.entry_reversed_new ?_⟩));rw[Around.under_plainId F.plain_reversed_new _];unfold Builtin.«reversed.__new__»;refine wpAny_bind (wpAny_of_eq (newClass_reversed _) ?_)
 try dsimp only
 refine wpAny_bind (wpAny_of_eq (a:=()) (by first | rfl | kernel_rfl) ?_);refine wpAny_bind (wpAny_of_eq (a:=()) (by first | rfl | kernel_rfl) ?_)
 try dsimp only
 refine wpAny_bind (wpAny_specialOf hT F.slot_range_reversed.lookup ?_)
 try dsimp only
 refine wpAny_bind (wpAny_of_eq (F.slot_range_reversed.bind _) ?_)
 try dsimp only
 have ng:¬ ((Value.builtin "range.__reversed__" == Value.none)=true):=Bool.false_ne_true
 first
 | rw[if_neg ng]
 | (show wpAny _ _ (if (Value.builtin "range.__reversed__" == Value.none)=true then _ else _) _ _ _;rw[if_neg ng])
 refine wpAny_bind (wpAny_rule ?_);refine wpAny_bind (m:=runValue (.call (.builtin "range.__reversed__") ⟨[.ref r],[]⟩)) (show wpAny _ _ (call (.builtin "range.__reversed__") [.ref r]) _ _ _ from jV hr h0 h1 ?_)
 first
 | exact wpAny_pure h
 | exact wpAny_bind (wpAny_pure (wpAny_pure h))
theorem jU {r:Addr} {n:Int} {t u v:Tok} {Q:VS} (hr:IsRange s.heap r 0 n 1 t u v) (h0:0<=n) (h1:n < 2 ^ 62)
  (h:Q (.ref s.heap.objs.size) { s with heap:=s.heap.push (w6 n) }):wpAny (model prog w) A (call (.type "reversed") [.ref r]) Q E s:=by
 refine callType_other (U:="range_iterator") (Q₁:=fun obj s₁=>obj=.ref s.heap.objs.size/\s₁={ s with heap:=s.heap.push (w6 n) }) (by decide +kernel) F.create_reversed ⟨_,_,F.mro_reversed⟩ F.made_reversed nX (F.typeCall_reversed_1 _) (jT hr h0 h1 ⟨rfl,rfl⟩) ?_;rintro obj s₁ ⟨rfl,rfl⟩;exact⟨⟨_,Heap.get?_push_size _ rfl,rfl⟩,h⟩
end
section
variable {X:Cx} {tg:Expr}
def I_ (ta:TA):TI:=fun σ H R=>ta σ H fun vs H1=>∃ j:Int,vs=[.int j]/\0<=j/\j < 2 ^ 62/\R (G9 (j - 1) (-1) j.toNat) H1
theorem Fh {a:Expr} {ta:TA} {p p' pos pos':Pos} (hg':Gl X "reversed") (hm':X.mg "reversed"=none) (hg:Gl X "range") (hm:X.mg "range"=none) (ha:PA X [a] ta) (hs:starEach [a] X.env=[(false,eval a X.env)]:=by rfl)
  (hs':starEach [.Call (.Name "range" p) [a] [] pos] X.env=[(false,eval (.Call (.Name "range" p) [a] [] pos) X.env)]:=by rfl) :
  PI X tg (.Call (.Name "reversed" p') [.Call (.Name "range" p) [a] [] pos] [] pos') (I_ ta):=by
 intro pins s σ H R I h;refine Call_ (dD I hg' hm' (by decide +kernel:bootBuiltins "reversed"=some (.type "reversed")) (PyProof.Rows.callWith_type1 ?_ hs' rfl));rw[hs'];have hsp:∀ (q:Sem Value) (Q:Lv->Shared->Prop) (s:Shared),wpAny (model X.prog X.w) X.A q (fun v s'=>Q [v] s') X.xe s->wpAny (model X.prog X.w) X.A (spliced (backTo pos' [(false,q)])) Q X.xe s:=fun q Q s hq=>by
  show wpAny _ _ (spliced ((false,q)::backTo pos' [])) _ _ s;exact Calls.spliced_cons (thn hq fun v s' z=>Calls.spliced_nil z)
 refine hsp _ _ _ ?_;refine Call_ (dD I hg hm boot_range (PyProof.Rows.callWith_type1 (thn (ha pos pins s σ H _ I h) fun us s1 ⟨vs,H1,I1,r1,q1⟩=>?_) hs rfl));obtain⟨j,e,q0,q2,q⟩:=q1;subst e;obtain⟨u,rfl,ru⟩:=vals1 r1;obtain⟨t,rfl⟩:=ru;refine call_range_1 ?_;have I2:Inv X pins σ H1 { s1 with heap:=s1.heap.push { cls:=.type "range",data:=.fields #[.int 0 s1.toks,.int j t,.int 1 (s1.toks + 1)] },toks:=s1.toks + 1 + 1 }:=I1.kept fun b o e=>Heap.get?_push_of_some _ e;refine jU (IsRange.new ..) q0 q2 ?_;refine wpAny_pyIter_rangeiter (x:=j - 1) (left:=j) (step:=-1) (Heap.get?_push_size _ rfl) ?_;refine⟨_,_,_,_,H1,rfl,I2.kept (t':=s1.toks + 1 + 1) fun b o e=>Heap.get?_push_of_some _ e,ud _ (j - 1) (-1) j.toNat,?_,fun b hb=>?_,q⟩
 ·show IsRangeIter _ _ (j - 1 + ((0:Nat):Int) * (-1)) (((j.toNat:Nat):Int) - ((0:Nat):Int)) (-1);rw[show j - 1 + ((0:Nat):Int) * (-1)=j - 1 by simp,show ((j.toNat:Nat):Int) - ((0:Nat):Int)=j by simp;omega];exact Heap.get?_push_size _ rfl
 ·have eb:b=s1.heap.objs.size + 1:=by simpa using hb
  have hge:(s1.heap.push { cls:=.type "range",data:=.fields #[.int 0 s1.toks,.int j t,.int 1 (s1.toks + 1)] }).objs.size<=b:=by rw[Heap.size_push,eb];exact Nat.le_refl _
  exact I2.lR hge (I2.hok.fresh hge)
end
section
variable {prog:Program} {w:World} {A:Around} {E:VS} {s:Shared}
end
section
variable {X:Cx} {pins:Pn} {σ:St} {H:Hp} {s:Shared}
end
section
variable {prog:Program} {w:World} {A:Around} {E:VS} {s:Shared}
end
section
variable {X:Cx}
end
structure ExcAt (n:Nat) (H:Hp) (h:Heap) (e:Addr) (cls:Value) (dx:Option Addr):Prop where
 ge:n<=e
 free:H e=none
 rcd:∃ oe vs,h.get? e=some oe/\oe.cls=cls/\oe.dict=dx/\oe.data=.fields vs/\1 < vs.size/\
  (vs[1]?=some .none\/∃ T oT ts,vs[1]?=some (.ref T)/\n<=T/\T≠e/\H T=none/\h.get? T=some oT/\oT.data=.fields ts/\ts[3]?=some .none)
section
variable {M:Model} {A:Around} {E:VS} {s:Shared} {base:Heap} {env:Env} {outer:List Env} {L e:Addr} {n:Nat} {H:Hp} {cls:Value} {dx:Option Addr}
end
section
variable {P:Program} {w:World} {K:Fg0} {mg:SV} {base:Heap} {N:Ls} {qual:Str} {scope:Scope} {f:Addr} {cd:Value} {A:Around} {outer:List Env} {s:Shared} {H:Hp} {E:XK}
end
open PySem PySem.Spec PyProof.Rows PySem.W
section
variable {prog:Program} {w:World} {A:Around} {K:Frag} {C:Addr} {R:Result->Shared->Prop} {h:Heap} {g:Array GenState} {d:Drawn} {t:Nat} {os:OsState}
end
section
variable {P:Program} {w:World} {K:Fg0} {mg:SV} {base:Heap} {N:Ls} {qual:Str} {scope:Scope} {f:Addr} {cd:Value} {A:Around} {outer:List Env} {s:Shared} {H:Hp} {E:XK}
end
section
variable {X:Cx} {CX:CXT} {k:Nat} {f C:Addr} {fd:FuncData} {ps:Ls} {sp:Sp} {dvs:List V} {ds:Lv} {E E':XK} {x m:Str} {p pos apos cpos:Pos} {e o:Expr} {es:List Expr} {ta:TE} {t:TA}
end
open Builtin Builtin.ObjectAttr
section
variable {prog:Program} {w:World} {A:Around} {E:VS} {s:Shared} {K:Fg0} {e C:Addr} {name:Str} {v:Value} {R:Result->Shared->Prop}
open PySem.W in
end
def XdO (d:Addr) (fs:List (Str×V)):HO:=HO.ext fun h=>∃ mA,h.Ns1 d mA/\(∀ f,qv (fs.lookup f) (mA f))/\PySem.Within mA (fs.map (·.1))
section
variable {X:Cx} {pins:Pn} {σ:St} {H:Hp} {s:Shared} {A:Around} {E:VS} {e C d:Addr} {f:Str} {fs:List (Str×V)}
end
section
variable {X:Cx} {CX:CXT} {k:Nat} {g C:Addr} {fd:FuncData} {ps:Ls} {sp:Sp} {dvs:List V} {ds:Lv} {E:XK} {x m f:Str} {p pos pos' apos:Pos} {e o value:Expr} {es:List Expr} {ta tv:TE} {t:TA} {mc:Value}
end
namespace XI
open PySem.W
end XI
section
variable {prog:Program} {w:World} {A:Around} {E:VS} {s:Shared} {K:Fg0} {e C t:Addr} {dx:Option Addr} {u:Value}
end
section
variable {X:Cx} {p pos apos:Pos} {a:Expr} {es:List Expr} {t:TA}
end
end L2
namespace L2
open PySem PySem.Spec PyProof.Rows
structure XAt (X:Cx) (pins:Pn) (n:Nat):Prop where
 s0:X.s₀.heap.objs.size<=n
 loc:X.env.locals < n
 cel:∀ x c,X.env.cells.lookup x=some c->c < n
 pin:∀ p∈X.pn++pins,p.1 < n
section
variable {X:Cx} {pins:Pn} {σ:St} {H:Hp} {s:Shared} {n:Nat} {h':Heap} {e L:Addr} {cls:Value} {dx:Option Addr} {M:Model} {E:VS}
end
def XP (X:Cx) (W:St->XK) (ev:Value) (s':Shared):Prop:=∃ e cls dx H' σ' n,ev=.ref e/\Inv X [] σ' H' s'/\XAt X [] n/\ExcAt n H' s'.heap e cls dx/\W σ' cls dx H'
section
variable {X:Cx} {pins:Pn} {σ:St} {H:Hp} {s:Shared} {n:Nat} {e:Addr} {cls:Value} {dx:Option Addr}
def KQ (e:Addr) (cls:Value) (dx:Option Addr):HO:=HO.ext fun h=>∃ o vs,h.get? e=some o/\o.cls=cls/\o.dict=dx/\o.data=.fields vs
end
section
variable {prog:Program} {w:World} {A:Around} {E:VS} {s:Shared} {K:Fg0} {e C C₀:Addr} {oe:Obj} {b:Bool} {Q:Bool->Shared->Prop}
end
section
variable {X:Cx} {pins:Pn} {σ:St} {H:Hp} {s:Shared} {e:Addr}
end
section
variable {X:Cx} {x nm:Str} {i:Nat} {C₀ L:Addr} {body suite:List Stmt} {b₀:Stmt} {np hpos pos:Pos} {tb:(St->XK)->TS} {ts:TS}
end
section
variable {X:Cx} {CX:CXT} {k:Nat} {f C:Addr} {fd:FuncData} {ps:Ls} {sp:Sp} {dvs:List V} {ds:Lv} {E:St->XK} {x m:Str} {p pos apos:Pos} {e o:Expr} {es:List Expr} {ta:TE} {t:TA}
end
section
variable {prog:Program} {w:World} {A:Around} {E:VS} {s:Shared} {K:Fg0} {e C dx:Addr} {name:Str} {v:Value} {mA:SV} {oe:Obj} {vs:Array Value}
open PySem.W in
end
section
variable {X:Cx} {o:Expr} {f:Str} {pos:Pos} {ta:TE}
end
section
variable {prog:Program} {w:World} {A:Around} {E:VS} {s:Shared} {K:Fg0} {e C:Addr} {oe:Obj} {od:Option Obj}
end
def XDk (H:Hp):Option Addr->List (Str×V)->Prop
 | some d,gs=>H d=some (XdO d gs)
 | none,gs=>gs=[]
theorem XDk.mono {H H':Hp} (e:∀ b o,H b=some o->H' b=some o):∀ {dx:Option Addr} {gs:List (Str×V)},XDk H dx gs->XDk H' dx gs
 | some _,_,h=>e _ _ h
 | none,_,h=>h
section
variable {X:Cx}
end
end L2
namespace L3
open PySem L2
def JQ (o:Obj) (c:Addr) (q:Str):Prop:=∃ fd,o.data=.func fd/\fd.code=.ref c/\fd.qualname=q
inductive D where
 | non | bl (b:Bool) | int (i:Int) | str (x:Str) | lst (xs:List D) | tup (xs:List D) | ktup (xs:List D) | ins (C:Addr) (ns:Ls) (xs:List D) | scr (ns:Li) | ty (n:String) | adr (a:Addr) | cel (p:Addr) (xs:List D) | exc (C:Addr) (ns:Ls) (xs:List D) | dct | dcs (k:Str) (i:Int) | fn (o:Unit->Obj) (f:Addr) (v:V) (r:D)
mutual
def Rep (K:Fg0) (F:Hp):D->V->Prop
 | .non,v=>v=.non
 | .bl b,v=>v=.bl b
 | .int i,v=>v=.int i
 | .str x,v=>v=.str x
 | .ty n,v=>v=.ty n
 | .adr a,v=>v=.ref a
 | .cel p xs,v=>v=.ref p/\∃ vs,F p=some (.lst vs)/\ar K F xs vs
 | .scr ns,v=>∃ p,v=.ref p/\SqL K F p (ns.map V.int)
 | .lst xs,v=>∃ p vs,v=.ref p/\F p=some (.lst vs)/\ar K F xs vs
 | .tup xs,v=>∃ p vs,v=.ref p/\F p=some (.tup vs)/\ar K F xs vs
 | .ktup xs,v=>∃ p vs,v=.ref p/\SqT K F p vs/\ar K F xs vs
 | .ins C ns xs,v=>∃ p dx gs,v=.ref p/\F p=some (.ins C dx gs)/\gs.map (·.1)=ns/\ar K F xs (gs.map (·.2))
 | .dct,v=>∃ p,v=.ref p/\F p=some (.dK [])
 | .dcs k i,v=>∃ p,v=.ref p/\F p=some (.dK [(.inr k,.int i)])
 | .exc C ns xs,v=>∃ p d gs,v=.ref p/\F p=some (KQ p (.ref C) d)/\XDk F d gs/\gs.map (·.1)=ns/\ar K F xs (gs.map (·.2))
 | .fn o f v r,x=>x=.ref f/\(∃ c q,F f=some (.frz (o ()) (.cod c q))/\JQ (o ()) c q)/\Rep K F r v
def ar (K:Fg0) (F:Hp):List D->List V->Prop
 | [],vs=>vs=[]
 | x::xs,vs=>∃ v ws,vs=v::ws/\Rep K F x v/\ar K F xs ws
end
theorem SqT.same {K:Fg0} {H H':Hp} {a:Addr} {xs:List V} (e:av H H') (h:SqT K H a xs):SqT K H' a xs:=by
 rcases h with (h | ⟨o,h⟩) | h
 ·exact .inl (.inl (e _ _ h))
 ·exact .inl (.inr ⟨o,e _ _ h⟩)
 ·exact .inr h
mutual
theorem Rep.mono {K:Fg0} {F F':Hp} (e:av F F'):∀ {d:D} {v:V},Rep K F d v->Rep K F' d v
 | .non,_,h=>h
 | .bl _,_,h=>h
 | .int _,_,h=>h
 | .str _,_,h=>h
 | .ty _,_,h=>h
 | .adr _,_,h=>h
 | .cel _ _,_,⟨h1,vs,h2,h3⟩=>⟨h1,vs,e _ _ h2,ar.mono e h3⟩
 | .scr _,_,⟨p,h1,h2⟩=>⟨p,h1,e.seq h2⟩
 | .lst _,_,⟨p,vs,h1,h2,h3⟩=>⟨p,vs,h1,e _ _ h2,ar.mono e h3⟩
 | .tup _,_,⟨p,vs,h1,h2,h3⟩=>⟨p,vs,h1,e _ _ h2,ar.mono e h3⟩
 | .ktup _,_,⟨p,vs,h1,h2,h3⟩=>⟨p,vs,h1,SqT.same e h2,ar.mono e h3⟩
 | .ins _ _ _,_,⟨p,dx,gs,h1,h2,h3,h4⟩=>⟨p,dx,gs,h1,e _ _ h2,h3,ar.mono e h4⟩
 | .dct,_,⟨p,h1,h2⟩=>⟨p,h1,e _ _ h2⟩
 | .dcs _ _,_,⟨p,h1,h2⟩=>⟨p,h1,e _ _ h2⟩
 | .exc _ _ _,_,⟨p,dx,gs,h1,h2,h5,h3,h4⟩=>⟨p,dx,gs,h1,e _ _ h2,h5.mono e,h3,ar.mono e h4⟩
 | .fn _ _ _ _,_,⟨h1,⟨c,q,h2,h4⟩,h3⟩=>⟨h1,⟨c,q,e _ _ h2,h4⟩,Rep.mono e h3⟩
theorem ar.mono {K:Fg0} {F F':Hp} (e:av F F'):∀ {xs:List D} {vs:List V},ar K F xs vs->ar K F' xs vs
 | [],_,h=>h
 | _::_,_,⟨v,ws,h1,h2,h3⟩=>⟨v,ws,h1,Rep.mono e h2,ar.mono e h3⟩
end
inductive Sl where
 | fz (d:D) | ow (d:D) | ln (d:D)
abbrev G:=List (Option Sl)
inductive RV where
 | fz (d:D) | fr (d:D) | two (xs ys:List D) | rws (xss:List (List D))
def RV.pl:RV->Bool
 | .fz _=>true
 | .fr _=>true
 | _=>false
def RV.d:RV->D
 | .fz d=>d
 | .fr d=>d
 | .two xs ys=>.tup [.lst xs,.lst ys]
 | .rws xss=>.lst (xss.map .lst)
def RV.sl:RV->Sl
 | .fz d=>.fz d
 | .fr d=>.ow d
 | .two xs ys=>.fz (.tup [.lst xs,.lst ys])
 | .rws xss=>.ow (.lst (xss.map .lst))
structure Bs where
 F:Hp
 H:Hp
 own:List (Nat×Addr)
def Own (K:Fg0) (F H:Hp) (p:Addr):D->Prop
 | .lst xs=>∃ vs,H p=some (.lst vs)/\ar K F xs vs
 | .cel q xs=>p=q/\∃ vs,H p=some (.lst vs)/\ar K F xs vs
 | .ins C ns xs=>∃ dx gs,H p=some (.ins C dx gs)/\gs.map (·.1)=ns/\ar K F xs (gs.map (·.2))
 | _=>False
theorem Own.mono {K:Fg0} {F F' H H':Hp} {p:Addr} (e:av F F') (h:H' p=H p):∀ {d:D},Own K F H p d->Own K F' H' p d
 | .lst _,⟨vs,a,b⟩=>⟨vs,h.trans a,b.mono e⟩
 | .cel _ _,⟨z,vs,a,b⟩=>⟨z,vs,h.trans a,b.mono e⟩
 | .ins _ _ _,⟨dx,gs,a,b,c⟩=>⟨dx,gs,h.trans a,b,c.mono e⟩
theorem Own.some {K:Fg0} {F H:Hp} {p:Addr}:∀ {d:D},Own K F H p d->∃ o,H p=some o
 | .lst _,⟨_,a,_⟩=>⟨_,a⟩
 | .cel _ _,⟨_,_,a,_⟩=>⟨_,a⟩
 | .ins _ _ _,⟨_,_,a,_⟩=>⟨_,a⟩
theorem Own.rep {K:Fg0} {F H:Hp} {p:Addr} {o:HO} (hF:F p=none) (ho:H p=Option.some o):∀ {d:D},Own K F H p d->Rep K (upd F p o) d (.ref p)
 | .lst _,⟨vs,a,b⟩=>by
  rw[ho] at a;cases a;exact⟨p,vs,rfl,ao,b.mono fun x u e=>by rw[af (aE e hF)];exact e⟩
 | .cel _ _,⟨z,vs,a,b⟩=>by
  rw[ho] at a;cases a;subst z;exact⟨rfl,vs,ao,b.mono fun x u e=>by rw[af (aE e hF)];exact e⟩
 | .ins _ _ _,⟨dx,gs,a,b,c⟩=>by
  rw[ho] at a;cases a;exact⟨p,dx,gs,rfl,ao,b,c.mono fun x u e=>by rw[af (aE e hF)];exact e⟩
def Hld (Γ:G) (i:Nat) (d:D):Prop:=Γ[i]?=some (some (Sl.ow d))\/Γ[i]?=some (some (Sl.ln d))
structure En (K:Fg0) (B:Bs) (F:Hp) (σ:St) (H:Hp) (Γ:G):Prop where
 sub:av F H
 len:σ.length=Γ.length
 fz:∀ (i:Nat) (d:D),Γ[i]?=some (some (Sl.fz d))->∃ v,σ[i]?=some (some v)/\Rep K F d v
 hl:∀ (i:Nat) (d:D),Hld Γ i d->∃ p,σ[i]?=some (some (V.ref p))/\F p=none/\Own K F H p d
 ow:∀ (i:Nat) (d:D) (p:Addr),Γ[i]?=some (some (Sl.ow d))->σ[i]?=some (some (V.ref p))->B.H p=none
 ln:∀ (i:Nat) (d:D) (p:Addr),Γ[i]?=some (some (Sl.ln d))->σ[i]?=some (some (V.ref p))->(i,p)∈B.own
 dis:∀ (i j:Nat) (d e:D) (p:Addr),Hld Γ i d->Hld Γ j e->σ[i]?=some (some (V.ref p))->σ[j]?=some (some (V.ref p))->i=j
 par:∀ (i:Nat) (p:Addr),(i,p)∈B.own->σ[i]?=some (some (V.ref p))/\∃ d,Γ[i]?=some (some (Sl.ln d))
 keep:av B.F F
 new:∀ (b:Addr) (o:HO),F b=some o->B.F b=some o\/B.H b=none
 rest:∀ (b:Addr) (o:HO),B.H b=some o->(∀ i,(i,b)∉B.own)->H b=some o
 dom:∀ b,H b=none->B.H b=none
section
variable {K:Fg0} {B:Bs} {F:Hp} {σ:St} {H:Hp} {Γ:G}
theorem En.alloc (e:En K B F σ H Γ) {l:Addr} (hl:H l=none) (o:HO):En K B F σ (upd H l o) Γ where
 sub:=fun b u h=>by rw[af (aE (e.sub b u h) hl)];exact e.sub b u h
 len:=e.len
 fz:=e.fz
 hl:=fun i d h=>by
  obtain⟨p,h1,h2,h3⟩:=e.hl i d h;obtain⟨u,hu⟩:=h3.some;exact⟨p,h1,h2,h3.mono (av.refl F) (af (aE hu hl))⟩
 ow:=e.ow
 ln:=e.ln
 dis:=e.dis
 par:=e.par
 keep:=e.keep
 new:=e.new
 rest:=fun b u h n=>by rw[af (aE (e.rest b u h n) hl)];exact e.rest b u h n
 dom:=fun b h=>by
  by_cases q:b=l
  ·subst q;exact e.dom _ hl
  ·rw[af q] at h;exact e.dom b h
theorem aT {F:Hp} {l:Addr} {o:HO} (h:F l=none):av F (upd F l o):=fun b u e=>by rw[af (aE e h)];exact e
theorem En.freeze (e:En K B F σ H Γ) {l:Addr} {o:HO} (hF:F l=none) (hH:H l=some o) (hB:B.H l=none) (hn:∀ (i:Nat) (d:D),Hld Γ i d->σ[i]?≠some (some (V.ref l))):En K B (upd F l o) σ H Γ where
 sub:=fun b u h=>by
  by_cases q:b=l
  ·subst q;rw[ao] at h;cases h;exact hH
  ·rw[af q] at h;exact e.sub b u h
 len:=e.len
 fz:=fun i d h=>by
  obtain⟨v,h1,h2⟩:=e.fz i d h;exact⟨v,h1,h2.mono (aT hF)⟩
 hl:=fun i d h=>by
  obtain⟨p,h1,h2,h3⟩:=e.hl i d h;have q:p≠l:=fun z=>hn i d h (z ▸ h1);exact⟨p,h1,by rw[af q];exact h2,h3.mono (aT hF) rfl⟩
 ow:=e.ow
 ln:=e.ln
 dis:=e.dis
 par:=e.par
 keep:=e.keep.trans (aT hF)
 new:=fun b u h=>by
  by_cases q:b=l
  ·subst q;exact .inr hB
  ·rw[af q] at h;exact e.new b u h
 rest:=e.rest
 dom:=e.dom
def cZ (K:Fg0) (F H:Hp):La->List (List D)->Prop
 | [],xss=>xss=[]
 | q::qs,xss=>∃ xs xt vs,xss=xs::xt/\H q=some (.lst vs)/\ar K F xs vs/\cZ K F H qs xt
theorem cZ.mono {F F' H H':Hp} (s:av F F'):∀ {qs:La} {xss:List (List D)},(∀ q∈qs,H' q=H q)->cZ K F H qs xss->cZ K F' H' qs xss
 | [],_,_,h=>h
 | q::qs,_,e,⟨xs,xt,vs,h1,h2,h3,h4⟩=>⟨xs,xt,vs,h1,(e q (.head _)).trans h2,h3.mono s,cZ.mono s (fun z hz=>e z (.tail _ hz)) h4⟩
def j6 (K:Fg0) (B:Bs) (F:Hp) (σ:St) (H:Hp) (Γ:G) (v:V):RV->Prop
 | .fz d=>Rep K F d v
 | .fr d=>∃ p,v=.ref p/\F p=none/\Own K F H p d/\B.H p=none/\∀ (i:Nat) (e:D),Hld Γ i e->σ[i]?≠some (some (V.ref p))
 | .rws xss=>∃ p qs,v=.ref p/\H p=some (.lst (qs.map V.ref))/\(p::qs).Nodup/\cZ K F H qs xss/\∀ z,z∈p::qs->F z=none/\B.H z=none/\∀ (i:Nat) (e:D),Hld Γ i e->σ[i]?≠some (some (V.ref z))
 | .two xs ys=>∃ t p q vs ws,v=.ref t/\H t=some (.tup [.ref p,.ref q])/\H p=some (.lst vs)/\H q=some (.lst ws)/\ar K F xs vs/\ar K F ys ws/\p≠q/\∀ z,z=t\/z=p\/z=q->F z=none/\B.H z=none/\∀ (i:Nat) (e:D),Hld Γ i e->σ[i]?≠some (some (V.ref z))
theorem En.xG:∀ {qs:La} {xss:List (List D)} {F:Hp},En K B F σ H Γ->cZ K F H qs xss->qs.Nodup->(∀ z∈qs,F z=none/\B.H z=none/\∀ (i:Nat) (e:D),Hld Γ i e->σ[i]?≠some (some (V.ref z)))->
  ∃ F',av F F'/\En K B F' σ H Γ/\ar K F' (xss.map .lst) (qs.map V.ref)/\∀ z,z∉qs->F' z=F z
 | [],_,F,e,h,_,_=>by cases h;exact⟨F,av.refl F,e,rfl,fun _ _=>rfl⟩
 | q::qs,_,F,e,⟨xs,xt,vs,h1,h2,h3,h4⟩,nd,hn=>by
  subst h1;obtain⟨n1,n2⟩:=List.nodup_cons.mp nd;obtain⟨a1,a2,a3⟩:=hn q (.head _);have e1:=e.freeze a1 h2 a2 a3;have s1:=aT (o:=.lst vs) a1;obtain⟨F',s',e',r',k'⟩:=En.xG (qs:=qs) e1 (h4.mono s1 fun _ _=>rfl) n2 fun z hz=>by
   obtain⟨b1,b2,b3⟩:=hn z (.tail _ hz);exact⟨by rw[af (a:=q) (b:=z) (fun w=>n1 (by rw[<- w];exact hz))];exact b1,b2,b3⟩
  refine⟨F',s1.trans s',e',⟨_,_,rfl,⟨q,vs,rfl,s' _ _ ao,h3.mono (s1.trans s')⟩,r'⟩,fun z hz=>?_⟩;rw[List.mem_cons,not_or] at hz;rw[k' z hz.2,af hz.1]
theorem En.w9 (e:En K B F σ H Γ) {p:Addr} {qs:La} {xss:List (List D)} (hp:H p=some (.lst (qs.map V.ref))) (nd:(p::qs).Nodup) (r:cZ K F H qs xss) (hn:∀ z,z∈p::qs->F z=none/\B.H z=none/\∀ (i:Nat) (e:D),Hld Γ i e->σ[i]?≠some (some (V.ref z))) :
  ∃ F',av F F'/\En K B F' σ H Γ/\F' p=none/\Own K F' H p (.lst (xss.map .lst)):=by
 obtain⟨n1,n2⟩:=List.nodup_cons.mp nd;obtain⟨F',s',e',r',k'⟩:=e.xG r n2 fun z hz=>hn z (.tail _ hz);exact⟨F',s',e',(k' p n1).trans (hn p (.head _)).1,_,hp,r'⟩
theorem En.frozen (e:En K B F σ H Γ) {v:V}:∀ {r:RV},j6 K B F σ H Γ v r->∃ F',av F F'/\En K B F' σ H Γ/\Rep K F' r.d v
 | .fz d,h=>⟨F,av.refl F,e,h⟩
 | .fr d,⟨p,hv,h1,h2,h3,h4⟩=>by
  subst hv;obtain⟨o,ho⟩:=h2.some;exact⟨upd F p o,aT h1,e.freeze h1 ho h3 h4,h2.rep h1 ho⟩
 | .rws xss,⟨p,qs,hv,h1,h2,h3,h4⟩=>by
  subst hv;obtain⟨F',s',e',f',o'⟩:=e.w9 h1 h2 h3 h4;obtain⟨_,b2,b3⟩:=h4 p (.head _);exact⟨_,s'.trans (aT f'),e'.freeze f' h1 b2 b3,o'.rep f' h1⟩
 | .two xs ys,⟨t,p,q,vs,ws,hv,h1,h2,h3,h4,h5,h6,h7⟩=>by
  subst hv;obtain⟨a1,a2,a3⟩:=h7 t (.inl rfl);obtain⟨b1,b2,b3⟩:=h7 p (.inr (.inl rfl));obtain⟨c1,c2,c3⟩:=h7 q (.inr (.inr rfl));have tp:t≠p:=fun z=>by rw[z,h2] at h1;cases h1
  have tq:t≠q:=fun z=>by rw[z,h3] at h1;cases h1
  have e1:=e.freeze b1 h2 b2 b3;have f2:upd F p (.lst vs) q=none:=by rw[af (Ne.symm h6)];exact c1
  have e2:=e1.freeze f2 h3 c2 c3;have f3:upd (upd F p (.lst vs)) q (.lst ws) t=none:=by rw[af tq,af tp];exact a1
  have e3:=e2.freeze f3 h1 a2 a3;have s1:=aT (o:=.lst vs) b1;have s2:=aT (o:=.lst ws) f2;have s3:=aT (o:=.tup [.ref p,.ref q]) f3;exact⟨_,(s1.trans s2).trans s3,e3,t,_,rfl,ao,⟨_,_,rfl,⟨p,vs,rfl,by rw[af (Ne.symm tp),af h6];exact ao,(h4.mono ((s1.trans s2).trans s3))⟩,_,_,rfl,⟨q,ws,rfl,by rw[af (Ne.symm tq)];exact ao,h5.mono ((s1.trans s2).trans s3)⟩,rfl⟩⟩
theorem En.norm (e:En K B F σ H Γ) {v:V}:∀ {r:RV},j6 K B F σ H Γ v r->∃ F' r',av F F'/\En K B F' σ H Γ/\j6 K B F' σ H Γ v r'/\r'.sl=r.sl/\r'.pl=true
 | .fz d,h=>⟨F,.fz d,av.refl F,e,h,rfl,rfl⟩
 | .fr d,h=>⟨F,.fr d,av.refl F,e,h,rfl,rfl⟩
 | .rws xss,⟨p,qs,hv,h1,h2,h3,h4⟩=>by
  subst hv;obtain⟨F',s',e',f',o'⟩:=e.w9 h1 h2 h3 h4;obtain⟨_,b2,b3⟩:=h4 p (.head _);exact⟨F',.fr (.lst (xss.map .lst)),s',e',⟨p,rfl,f',o',b2,b3⟩,rfl,rfl⟩
 | .two xs ys,h=>by
  obtain⟨F',s,e',r⟩:=e.frozen h;exact⟨F',.fz (.tup [.lst xs,.lst ys]),s,e',r,rfl,rfl⟩
def Po (K:Fg0) (B:Bs) (F:Hp) (σ:St) (Q:RV->G->Prop):VK:=fun v H'=>∃ F' Γ' r,av F F'/\En K B F' σ H' Γ'/\j6 K B F' σ H' Γ' v r/\Q r Γ'
abbrev TE3:=G->(RV->G->Prop)->Prop
def Ref (K:Fg0) (t:TE) (t3:TE3):Prop:=∀ (B:Bs) (F:Hp) (σ:St) (H:Hp) (Γ:G) (Q:RV->G->Prop) (QQ:VK),En K B F σ H Γ->t3 Γ Q->(∀ v H',Po K B F σ Q v H'->QQ v H')->t σ H QQ
theorem Po.mono {F F':Hp} {Q:RV->G->Prop} {v:V} {H:Hp} (s:av F F') (h:Po K B F' σ Q v H):Po K B F σ Q v H:=by
 obtain⟨F2,Γ',r,a,b⟩:=h;exact⟨F2,Γ',r,s.trans a,b⟩
theorem gx (e:En K B F σ H Γ) {Q:RV->G->Prop} {v:V} {d:D} (r:Rep K F d v) (q:Q (.fz d) Γ):Po K B F σ Q v H:=⟨F,Γ,.fz d,av.refl F,e,r,q⟩
theorem En.jf (e:En K B F σ H Γ) {l:Addr} (hl:H l=none):∀ (i:Nat) (d:D),Hld Γ i d->σ[i]?≠some (some (V.ref l)):=fun i d h z=>by
 obtain⟨p,h1,h2,h3⟩:=e.hl i d h;rw[h1] at z;cases z;obtain⟨o,ho⟩:=h3.some;rw[hl] at ho;cases ho
theorem En.nof (e:En K B F σ H Γ) {l:Addr} (hl:H l=none):F l=none:=by
 cases q:F l with
 | none=>rfl
 | some o=>have:=e.sub _ _ q;rw[hl] at this;cases this
theorem g_ (e:En K B F σ H Γ) {Q:RV->G->Prop} {l:Addr} {vs:List V} {xs:List D} (hl:H l=none) (r:ar K F xs vs) (q:Q (.fr (.lst xs)) Γ):Po K B F σ Q (.ref l) (upd H l (.lst vs)):=
 ⟨F,Γ,.fr (.lst xs),av.refl F,e.alloc hl _,⟨l,rfl,e.nof hl,⟨vs,ao,r⟩,e.dom _ hl,e.jf hl⟩,q⟩
theorem sX (e:En K B F σ H Γ) {Q:RV->G->Prop} {l:Addr} {vs:List V} {xs:List D} (hl:H l=none) (r:ar K F xs vs) (q:Q (.fz (.tup xs)) Γ):Po K B F σ Q (.ref l) (upd H l (.tup vs)):=
 ⟨upd F l (.tup vs),Γ,.fz (.tup xs),aT (e.nof hl),(e.alloc hl _).freeze (e.nof hl) ao (e.dom _ hl) (e.jf hl),⟨l,vs,rfl,ao,r.mono (aT (e.nof hl))⟩,q⟩
def iO (i:Nat) (Γ:G) (Q:RV->G->Prop):Prop:=match Γ[i]? with
 | some (some (.fz d))=>Q (.fz d) Γ
 | some (some (.ow d))=>Q (.fz d) (Γ.set i (some (Sl.fz d)))
 | _=>False
theorem aU {α:Type} {l:List α} {i j:Nat} {a:α} (h:i≠j):(l.set i a)[j]?=l[j]?:=by rw[List.getElem?_set,if_neg h]
theorem p4 {α:Type} {l:List α} {i:Nat} {a b:α} (h:l[i]?=some b):(l.set i a)[i]?=some a:=by
 rw[List.getElem?_set,if_pos rfl,if_pos (gS0 h).1]
theorem En.give (e:En K B F σ H Γ) {i:Nat} {d:D} (h:Γ[i]?=some (some (Sl.ow d))):∃ F' p,av F F'/\σ[i]?=some (some (V.ref p))/\Rep K F' d (.ref p)/\En K B F' σ H (Γ.set i (some (Sl.fz d))):=by
 obtain⟨p,h1,h2,h3⟩:=e.hl i d (.inl h);obtain⟨o,ho⟩:=h3.some;have hr:=h3.rep h2 ho;have back:∀ {j u},j≠i->(Γ.set i (some (Sl.fz d)))[j]?=u->Γ[j]?=u:=fun hj q=>by rw[aU (Ne.symm hj)] at q;exact q
 have hld:∀ {j x},Hld (Γ.set i (some (Sl.fz d))) j x->j≠i/\Hld Γ j x:=fun {j x} q=>by
  by_cases z:j=i
  ·subst z;rcases q with q | q <;> rw[p4 h] at q <;> cases q
  ·exact⟨z,q.imp (back z) (back z)⟩
 refine⟨upd F p o,p,aT h2,h1,hr,?_,?_,?_,?_,?_,?_,?_,?_,?_,?_,e.rest,e.dom⟩
 ·intro b u q;by_cases z:b=p
  ·subst z;rw[ao] at q;cases q;exact ho
  ·rw[af z] at q;exact e.sub b u q
 ·rw[List.length_set];exact e.len
 ·intro j x q;by_cases z:j=i
  ·subst z;rw[p4 h] at q;cases q;exact⟨_,h1,hr⟩
  ·obtain⟨v,a,b⟩:=e.fz j x (back z q);exact⟨v,a,b.mono (aT h2)⟩
 ·intro j x q;obtain⟨z,q⟩:=hld q;obtain⟨p',a,b,c⟩:=e.hl j x q;have ne:p'≠p:=fun y=>z (e.dis j i x d p q (.inl h) (y ▸ a) h1);exact⟨p',a,by rw[af ne];exact b,c.mono (aT h2) rfl⟩
 ·intro j x p' q a;obtain⟨z,_⟩:=hld (.inl q);exact e.ow j x p' (back z q) a
 ·intro j x p' q a;obtain⟨z,_⟩:=hld (.inr q);exact e.ln j x p' (back z q) a
 ·intro j k x y p' q1 q2;exact e.dis j k x y p' (hld q1).2 (hld q2).2
 ·intro j p' q;obtain⟨a,y,b⟩:=e.par j p' q;have z:j≠i:=fun z=>by subst z;rw[h] at b;cases b
  exact⟨a,y,by rw[aU (Ne.symm z)];exact b⟩
 ·exact e.keep.trans (aT h2)
 ·intro b u q;by_cases z:b=p
  ·subst z;exact .inr (e.ow i d _ h h1)
  ·rw[af z] at q;exact e.new b u q
theorem BX (i:Nat):Ref K (bX i) (iO i):=by
 intro B F σ H Γ Q QQ e h k;unfold iO at h;split at h
 ·rename_i d q;obtain⟨v,h1,h2⟩:=e.fz i d q;exact⟨v,h1,k _ _ (gx e h2 h)⟩
 ·rename_i d q;obtain⟨F',p,s,h1,h2,e'⟩:=e.give q;exact⟨_,h1,k _ _ ⟨F',_,.fz d,s,e',h2,h⟩⟩
 ·exact h.elim
def t3C (d:D) (Γ:G) (Q:RV->G->Prop):Prop:=Q (.fz d) Γ
theorem rB {v:V} {d:D} (h:∀ F,Rep K F d v):Ref K (tC v) (t3C d):=fun B F σ H Γ Q QQ e q k=>k _ _ (gx e (h F) q)
inductive Bo where
 | d (x:D) | v (i:Nat)
def bare:D->D
 | .cel _ xs=>.lst xs
 | .non=>.non
 | .bl b=>.bl b
 | .int i=>.int i
 | .str x=>.str x
 | .lst xs=>.lst xs
 | .tup xs=>.tup xs
 | .ktup xs=>.ktup xs
 | .ins C ns xs=>.ins C ns xs
 | .scr ns=>.scr ns
 | .ty n=>.ty n
 | .adr a=>.adr a
 | .exc C ns xs=>.exc C ns xs
 | .dct=>.dct
 | .dcs k i=>.dcs k i
 | .fn o f v r=>.fn o f v r
def Gat (Γ:G) (i:Nat):Option D:=match Γ[i]? with
 | some (some (.fz d))=>some d
 | some (some (.ow d))=>some (bare d)
 | some (some (.ln d))=>some (bare d)
 | _=>none
def Bo.at (Γ:G):Bo->Option D
 | .d x=>some x
 | .v i=>Gat Γ i
def nQ (K:Fg0) (F:Hp) (σ:St):Bo->V->Prop
 | .d x,v=>Rep K F x v
 | .v i,v=>σ[i]?=some (some v)
def ed (K:Fg0) (F H:Hp):D->V->Prop
 | .lst xs,v=>∃ p vs,v=.ref p/\H p=some (.lst vs)/\ar K F xs vs
 | .cel q xs,v=>v=.ref q/\∃ vs,H q=some (.lst vs)/\ar K F xs vs
 | .ins C ns xs,v=>∃ p dx gs,v=.ref p/\H p=some (.ins C dx gs)/\gs.map (·.1)=ns/\ar K F xs (gs.map (·.2))
 | d,v=>Rep K F d v
theorem Rep.b {K:Fg0} {F H:Hp} (s:av F H):∀ {d:D} {v:V},Rep K F d v->ed K F H d v
 | .non,_,h=>h
 | .bl _,_,h=>h
 | .int _,_,h=>h
 | .str _,_,h=>h
 | .ty _,_,h=>h
 | .adr _,_,h=>h
 | .exc _ _ _,_,h=>h
 | .dct,_,h=>h
 | .dcs _ _,_,h=>h
 | .fn _ _ _ _,_,h=>h
 | .cel _ _,_,⟨h1,vs,h2,h3⟩=>⟨h1,vs,s _ _ h2,h3⟩
 | .scr _,_,h=>h
 | .tup _,_,h=>h
 | .ktup _,_,h=>h
 | .lst _,_,⟨p,vs,h1,h2,h3⟩=>⟨p,vs,h1,s _ _ h2,h3⟩
 | .ins _ _ _,_,⟨p,dx,gs,h1,h2,h3,h4⟩=>⟨p,dx,gs,h1,s _ _ h2,h3,h4⟩
theorem Own.b {K:Fg0} {F H:Hp} {p:Addr}:∀ {d:D},Own K F H p d->ed K F H (bare d) (.ref p)
 | .lst _,⟨vs,h1,h2⟩=>⟨p,vs,rfl,h1,h2⟩
 | .cel _ _,⟨z,vs,h1,h2⟩=>by subst z;exact⟨_,vs,rfl,h1,h2⟩
 | .ins _ _ _,⟨dx,gs,h1,h2,h3⟩=>⟨p,dx,gs,rfl,h1,h2,h3⟩
theorem nQ.mono {F F':Hp} (s:av F F'):∀ {bo:Bo} {v:V},nQ K F σ bo v->nQ K F' σ bo v
 | .d _,_,h=>Rep.mono s h
 | .v _,_,h=>h
theorem En.get (e:En K B F σ H Γ) {i:Nat} {d:D} (h:Gat Γ i=some d):∃ v,σ[i]?=some (some v)/\ed K F H d v:=by
 unfold Gat at h;split at h
 ·cases h;rename_i q;obtain⟨v,h1,h2⟩:=e.fz i _ q;exact⟨v,h1,h2.b e.sub⟩
 ·cases h;rename_i q;obtain⟨p,h1,h2,h3⟩:=e.hl i _ (.inl q);exact⟨_,h1,h3.b⟩
 ·cases h;rename_i q;obtain⟨p,h1,h2,h3⟩:=e.hl i _ (.inr q);exact⟨_,h1,h3.b⟩
 ·cases h
theorem En.bo (e:En K B F σ H Γ):∀ {bo:Bo} {v:V} {d:D},nQ K F σ bo v->bo.at Γ=some d->ed K F H d v
 | .d x,v,d,h,q=>by cases q;exact Rep.b e.sub h
 | .v i,v,d,h,q=>by
  obtain⟨u,h1,h2⟩:=e.get q;rw[show σ[i]?=some (some v) from h] at h1;cases h1;exact h2
abbrev TB3:=G->(Bo->G->Prop)->Prop
def PoB (K:Fg0) (B:Bs) (F:Hp) (σ:St) (Q:Bo->G->Prop):VK:=fun v H'=>∃ F' Γ' bo,av F F'/\En K B F' σ H' Γ'/\nQ K F' σ bo v/\Q bo Γ'
def qw (K:Fg0) (t:TE) (t3:TB3):Prop:=∀ (B:Bs) (F:Hp) (σ:St) (H:Hp) (Γ:G) (Q:Bo->G->Prop) (QQ:VK),En K B F σ H Γ->t3 Γ Q->(∀ v H',PoB K B F σ Q v H'->QQ v H')->t σ H QQ
def bor (i:Nat) (Γ:G) (Q:Bo->G->Prop):Prop:=(∃ d,Gat Γ i=some d)/\Q (.v i) Γ
def bof (a3:TE3) (Γ:G) (Q:Bo->G->Prop):Prop:=a3 Γ fun x Γ1=>Q (.d x.d) Γ1
theorem zD (i:Nat):qw K (bX i) (bor i):=by
 intro B F σ H Γ Q QQ e ⟨⟨d,hd⟩,q⟩ k;obtain⟨v,h1,_⟩:=e.get hd;exact⟨v,h1,k _ _ ⟨F,Γ,.v i,av.refl F,e,h1,q⟩⟩
theorem BW {t:TE} {a3:TE3} (h:Ref K t a3):qw K t (bof a3):=by
 intro B F σ H Γ Q QQ e q k;refine h B F σ H Γ _ _ e q (fun v H1 ⟨F1,Γ1,x,s1,e1,r1,q1⟩=>?_);obtain⟨F1',s1',e1',r1'⟩:=e1.frozen r1;exact k _ _ ⟨F1',Γ1,.d x.d,s1.trans s1',e1',r1',q1⟩
def jG (K:Fg0) (r:R2) (op:D->D->TE3):Prop:=∀ (B:Bs) (F:Hp) (σ:St) (H:Hp) (Γ:G) (x y:V) (dx dy:D) (Q:RV->G->Prop) (QQ:VK),En K B F σ H Γ->ed K F H dx x->ed K F H dy y->op dx dy Γ Q->(∀ v H',Po K B F σ Q v H'->QQ v H')->r x y H QQ
def cJ (op:D->D->TE3) (a3 b3:TB3) (Γ:G) (Q:RV->G->Prop):Prop:=a3 Γ fun x Γ1=>b3 Γ1 fun y Γ2=>∃ dx dy,x.at Γ2=some dx/\y.at Γ2=some dy/\op dx dy Γ2 Q
theorem fG {r:R2} {ta tb:TE} {a3 b3:TB3} {op:D->D->TE3} (h:jG K r op) (ha:qw K ta a3) (hb:qw K tb b3):Ref K (tOp r ta tb) (cJ op a3 b3):=by
 intro B F σ H Γ Q QQ e q k;refine ha B F σ H Γ _ _ e q (fun v H1 ⟨F1,Γ1,x,s1,e1,r1,q1⟩=>?_);refine hb B F1 σ H1 Γ1 _ _ e1 q1 (fun u H2 ⟨F2,Γ2,y,s2,e2,r2,dx,dy,h1,h2,q2⟩=>?_);exact h B F2 σ H2 Γ2 v u dx dy Q QQ e2 (e2.bo (r1.mono s2) h1) (e2.bo r2 h2) q2 fun z H3 p=>k z H3 (p.mono (s1.trans s2))
def yc (op:D->TE3) (a3:TB3) (Γ:G) (Q:RV->G->Prop):Prop:=a3 Γ fun x Γ1=>∃ dx,x.at Γ1=some dx/\op dx Γ1 Q
def JL (K:Fg0) (r:V->Hp->VK->Prop) (op:D->TE3):Prop:=∀ (B:Bs) (F:Hp) (σ:St) (H:Hp) (Γ:G) (x:V) (dx:D) (Q:RV->G->Prop) (QQ:VK),En K B F σ H Γ->ed K F H dx x->op dx Γ Q->(∀ v H',Po K B F σ Q v H'->QQ v H')->r x H QQ
theorem vH {r:V->Hp->VK->Prop} {ta:TE} {a3:TB3} {op:D->TE3} (h:JL K r op) (ha:qw K ta a3):Ref K (fun σ H Q=>ta σ H fun x H1=>r x H1 Q) (yc op a3):=by
 intro B F σ H Γ Q QQ e q k;refine ha B F σ H Γ _ _ e q (fun v H1 ⟨F1,Γ1,x,s1,e1,r1,dx,h1,q1⟩=>?_);exact h B F1 σ H1 Γ1 v dx Q QQ e1 (e1.bo r1 h1) q1 fun z H3 p=>k z H3 (p.mono s1)
end
open PySem L2 PySem.Spec PyProof.Rows
structure P3 (K:Fg0) (X:Cx) (e:Expr) (t:TE) (t3:TE3):Prop where
 pe:PE X e t
 rf:Ref K t t3
structure P3B (K:Fg0) (X:Cx) (e:Expr) (t:TE) (t3:TB3):Prop where
 pe:PE X e t
 rf:qw K t t3
section
variable {K:Fg0} {X:Cx} {a b c:Expr} {ta tb tc:TE} {a3 b3 c3:TB3} {pos:Pos}
theorem P3.opd {e3:TE3} (h:P3 K X a ta e3):P3B K X a ta (bof e3):=⟨h.pe,BW h.rf⟩
theorem bv (i:Nat) {x:Str} {pos:Pos} (hN:X.N[i]?=some x:=by rfl) (hv:Vis X.env.scope x:=by first | exact Or.inl rfl | exact Or.inr (Or.inl rfl) | exact Or.inr (Or.inr rfl)) (hd:(x == ("__debug__":Str))=false:=by decide)
  (hcd:(x == ("__classdict__":Str))=false:=by decide):P3B K X (.Name x pos) (bX i) (bor i):=⟨pA hN hv hd hcd,zD i⟩
theorem gg {B:Bs} {F:Hp} {σ:L2.St} {H:Hp} {Γ:G} {Q:RV->G->Prop} {i:Int} (e:En K B F σ H Γ) (q:Q (.fz (.int i)) Γ):Po K B F σ Q (.int i) H:=gx (d:=.int i) e rfl q
theorem i8 {B:Bs} {F:Hp} {σ:L2.St} {H:Hp} {Γ:G} {Q:RV->G->Prop} {i:Str} (e:En K B F σ H Γ) (q:Q (.fz (.str i)) Γ):Po K B F σ Q (.str i) H:=gx (d:=.str i) e rfl q
theorem rE {B:Bs} {F:Hp} {σ:L2.St} {H:Hp} {Γ:G} {Q:RV->G->Prop} {i:Bool} (e:En K B F σ H Γ) (q:Q (.fz (.bl i)) Γ):Po K B F σ Q (.bl i) H:=gx (d:=.bl i) e rfl q
theorem p3v (i:Nat) {x:Str} {pos:Pos} (hN:X.N[i]?=some x:=by rfl) (hv:Vis X.env.scope x:=by first | exact Or.inl rfl | exact Or.inr (Or.inl rfl) | exact Or.inr (Or.inr rfl)) (hd:(x == ("__debug__":Str))=false:=by decide)
  (hcd:(x == ("__classdict__":Str))=false:=by decide):P3 K X (.Name x pos) (bX i) (iO i):=⟨pA hN hv hd hcd,BX i⟩
theorem ag {i j pos}:P3 K X (.Constant (.int i) j pos) (tC (.int i)) (t3C (.int i)):=⟨vO,rB fun _=>rfl⟩
theorem fJ {i j pos}:P3 K X (.Constant (.bool i) j pos) (tC (.bl i)) (t3C (.bl i)):=⟨HX,rB fun _=>rfl⟩
theorem a_ {x j pos}:P3 K X (.Constant (.str x) j pos) (tC (.str x)) (t3C (.str x)):=⟨Fi,rB fun _=>rfl⟩
theorem tu {x:Str} {i:Int} {pos:Pos} (hg:Gl X x) (hm:∃ t,X.mg x=some (.int i t)) (hd:(x == ("__debug__":Str))=false:=by decide):P3 K X (.Name x pos) (tC (.int i)) (t3C (.int i)):=
 ⟨let ⟨t,hm⟩:=hm;s_ (v:=.int i) hg hm ⟨t,rfl⟩ hd,rB fun _=>rfl⟩
theorem Ft {x y v:Int} {j k:Nat} {pos pos' pos'':Pos} (h:x ^ y.toNat=v) (hc:By x y):P3 K X (.BinOp (.Constant (.int x) j pos') .Pow (.Constant (.int y) k pos'') pos) (tOp (rI By fun i j=>.int (i ^ j.toNat)) (tC (.int x)) (tC (.int y))) (t3C (.int v)):=
 ⟨lF Am vO vO,fun B F σ H Γ Q QQ e q k=>⟨x,y,rfl,rfl,hc,by show QQ (.int (x ^ y.toNat)) H;rw[h];exact k _ _ (gg e q)⟩⟩
def i2 (C:Int->Int->Prop) (f:Int->Int->D) (x y:D) (Γ:G) (Q:RV->G->Prop):Prop:=match x,y with
 | .int i,.int j=>C i j/\Q (.fz (f i j)) Γ
 | _,_=>False
def i2' (f:Int->Int->D) (x y:D) (Γ:G) (Q:RV->G->Prop):Prop:=match x,y with
 | .int i,.int j=>Q (.fz (f i j)) Γ
 | _,_=>False
theorem opI {C:Int->Int->Prop} {f:Int->Int->D} {g:Int->Int->V} (h:∀ F i j,Rep K F (f i j) (g i j)):jG K (rI C g) (i2 C f):=by
 intro B F σ H Γ x y dx dy Q QQ e rx ry q k;unfold i2 at q;split at q
 ·cases rx;cases ry;exact⟨_,_,rfl,rfl,q.1,k _ _ (gx e (h F _ _) q.2)⟩
 ·exact q.elim
theorem tD {f:Int->Int->D} {g:Int->Int->V} (h:∀ F i j,Rep K F (f i j) (g i j)):jG K (rI0 g) (i2' f):=by
 intro B F σ H Γ x y dx dy Q QQ e rx ry q k;unfold i2' at q;split at q
 ·cases rx;cases ry;exact⟨_,_,rfl,rfl,k _ _ (gx e (h F _ _) q)⟩
 ·exact q.elim
def t_ (x y:D) (Γ:G) (Q:RV->G->Prop):Prop:=match x,y with
 | .int i,.int j=>Q (.fz (.int (i + j))) Γ
 | .lst xs,.lst ys=>xs.length + ys.length<=sizeLine/\Q (.fr (.lst (xs++ys))) Γ
 | .str i,.str j=>i.length + j.length<=sizeLine/\Q (.fz (.str (i++j))) Γ
 | _,_=>False
theorem ar.length {F:Hp}:∀ {xs:List D} {vs:List V},ar K F xs vs->vs.length=xs.length
 | [],_,h=>by cases h;rfl
 | _::_,_,⟨v,ws,h1,h2,h3⟩=>by subst h1;simp [h3.length]
theorem ar.append {F:Hp}:∀ {xs ys:List D} {vs ws:List V},ar K F xs vs->ar K F ys ws->ar K F (xs++ys) (vs++ws)
 | [],_,_,_,h,h'=>by cases h;exact h'
 | _::_,_,_,_,⟨v,ws,h1,h2,h3⟩,h'=>by subst h1;exact⟨v,_,rfl,h2,h3.append h'⟩
theorem ar.get {F:Hp}:∀ {xs:List D} {vs:List V},ar K F xs vs->∀ {i:Nat} {d:D},xs[i]?=some d->∃ v,vs[i]?=some v/\Rep K F d v
 | [],_,_,i,d,e=>by simp at e
 | x::xs,_,⟨v,ws,h1,h2,h3⟩,0,d,e=>by subst h1;simp at e;subst e;exact⟨v,rfl,h2⟩
 | x::xs,_,⟨v,ws,h1,h2,h3⟩,i + 1,d,e=>by
  subst h1;obtain⟨u,a,b⟩:=h3.get (i:=i) (d:=d) (by simpa using e);exact⟨u,by simpa using a,b⟩
theorem ar.GC {F:Hp}:∀ {xs:List D} {vs:List V},ar K F xs vs->∀ {i:Nat} {v:V},vs[i]?=some v->∃ d,xs[i]?=some d/\Rep K F d v:=fun {xs vs} h {i v} e=>by
 have hi:i < vs.length:=(gS0 e).1;rw[h.length] at hi;obtain⟨u,a,b⟩:=h.get (gE0 hi);rw[e] at a;cases a;exact⟨_,gE0 hi,b⟩
theorem ar.take {F:Hp}:∀ {xs:List D} {vs:List V} (n:Nat),ar K F xs vs->ar K F (xs.take n) (vs.take n)
 | _,_,0,_=>by simp [ar]
 | [],_,n + 1,h=>by cases h;simp [ar]
 | x::xs,_,n + 1,⟨v,ws,h1,h2,h3⟩=>by subst h1;exact⟨v,_,rfl,h2,ar.take n h3⟩
theorem ar.drop {F:Hp}:∀ {xs:List D} {vs:List V} (n:Nat),ar K F xs vs->ar K F (xs.drop n) (vs.drop n)
 | _,_,0,h=>h
 | [],_,n + 1,h=>by cases h;simp [ar]
 | x::xs,_,n + 1,⟨v,ws,h1,h2,h3⟩=>by subst h1;exact ar.drop n h3
theorem ar.set {F:Hp} {d:D} {v:V} (r:Rep K F d v):∀ {xs:List D} {vs:List V} (n:Nat),ar K F xs vs->ar K F (xs.set n d) (vs.set n v)
 | [],_,_,h=>by cases h;simp [ar]
 | x::xs,_,0,⟨u,ws,h1,h2,h3⟩=>by subst h1;exact⟨v,ws,rfl,r,h3⟩
 | x::xs,_,n + 1,⟨u,ws,h1,h2,h3⟩=>by subst h1;exact⟨u,_,rfl,h2,ar.set r n h3⟩
theorem ar.ints {F:Hp}:∀ (ns:Li),ar K F (ns.map D.int) (ns.map V.int)
 | []=>rfl
 | n::ns=>⟨_,_,rfl,rfl,ar.ints ns⟩
abbrev E4:R2:=fun x y H Q=>rI0 (fun i j=>.int (i + j)) x y H Q\/HI x y H Q\/(∃ i j,x=.str i/\y=.str j/\i.length + j.length<=sizeLine/\Q (.str (i++j)) H)
theorem Cy:OpR X (binaryOp .Add) E4:=FH.or (FF.or vR)
theorem addRef:jG K E4 t_:=by
 intro B F σ H Γ x y dx dy Q QQ e rx ry q k;unfold t_ at q;split at q
 ·cases rx;cases ry;exact .inl ⟨_,_,rfl,rfl,k _ _ (gg e q)⟩
 ·obtain⟨p,vs,rfl,h1,h2⟩:=rx;obtain⟨p',ws,rfl,h3,h4⟩:=ry;refine .inr (.inl ⟨p,p',vs,ws,rfl,rfl,h1,h3,by rw[h2.length,h4.length];exact q.1,fun l hl=>k _ _ (g_ e hl (h2.append h4) q.2)⟩)
 ·cases rx;cases ry;exact .inr (.inr ⟨_,_,rfl,rfl,q.1,k _ _ (i8 e q.2)⟩)
 ·exact q.elim
theorem aL (ha:P3B K X a ta a3) (hb:P3B K X b tb b3):P3 K X (.BinOp a .Add b pos) (tOp E4 ta tb) (cJ t_ a3 b3):=⟨lF Cy ha.pe hb.pe,fG addRef ha.rf hb.rf⟩
theorem kM (ha:P3B K X a ta a3) (hb:P3B K X b tb b3):P3 K X (.BinOp a .Sub b pos) (tOp (rI0 fun i j=>.int (i - j)) ta tb) (cJ (i2' fun i j=>.int (i - j)) a3 b3):=⟨lF Fy ha.pe hb.pe,fG (tD fun _ _ _=>rfl) ha.rf hb.rf⟩
theorem kN (ha:P3B K X a ta a3) (hb:P3B K X b tb b3):P3 K X (.BinOp a .Mult b pos) (tOp (rI Bz fun i j=>.int (i * j)) ta tb) (cJ (i2 Bz fun i j=>.int (i * j)) a3 b3):=⟨lF FC ha.pe hb.pe,fG (opI fun _ _ _=>rfl) ha.rf hb.rf⟩
theorem cG (ha:P3B K X a ta a3) (hb:P3B K X b tb b3):P3 K X (.BinOp a .FloorDiv b pos) (tOp (rI BA fun i j=>.int (i / j)) ta tb) (cJ (i2 BA fun i j=>.int (i / j)) a3 b3):=⟨lF Cw ha.pe hb.pe,fG (opI fun _ _ _=>rfl) ha.rf hb.rf⟩
theorem mJ (ha:P3B K X a ta a3) (hb:P3B K X b tb b3):P3 K X (.BinOp a .Mod b pos) (tOp (rI (fun _ j=>0 < j) fun i j=>.int (i % j)) ta tb) (cJ (i2 (fun _ j=>0 < j) fun i j=>.int (i % j)) a3 b3):=⟨lF FD ha.pe hb.pe,fG (opI fun _ _ _=>rfl) ha.rf hb.rf⟩
theorem xh (ha:P3B K X a ta a3) (hb:P3B K X b tb b3):P3 K X (.BinOp a .Pow b pos) (tOp (rI By fun i j=>.int (i ^ j.toNat)) ta tb) (cJ (i2 By fun i j=>.int (i ^ j.toNat)) a3 b3):=⟨lF Am ha.pe hb.pe,fG (opI fun _ _ _=>rfl) ha.rf hb.rf⟩
def C6 (f:Int->Int->Bool) (x y:D) (Γ:G) (Q:RV->G->Prop):Prop:=i2' (fun i j=>.bl (f i j)) x y Γ Q
abbrev qS (i j:Int):Bool:=decide (i < j)
abbrev va (i j:Int):Bool:=decide (i<=j)
abbrev Ks (i j:Int):Bool:=decide (j < i)
structure C3 (K:Fg0) (X:Cx) (op:CmpOp) (r:R2) (o3:D->D->TE3):Prop where
 op:OpR X (compareOp op) r
 rf:jG K r o3
theorem r8:C3 K X .Lt (rI0 fun i j=>.bl (decide (i < j))) (C6 qS):=⟨Ig,tD fun _ _ _=>rfl⟩
theorem xT:C3 K X .LtE (rI0 fun i j=>.bl (decide (i<=j))) (C6 va):=⟨Ih,tD fun _ _ _=>rfl⟩
theorem Bi:C3 K X .Gt (rI0 fun i j=>.bl (decide (j < i))) (C6 Ks):=⟨Ii,tD fun _ _ _=>rfl⟩
theorem i_ {op:CmpOp} {r:R2} {o3:D->D->TE3} (h:C3 K X op r o3) (ha:P3B K X a ta a3) (hb:P3B K X b tb b3) (hm:behindInMarks op b=false):P3 K X (.Compare a [op] [b] pos) (tOp r ta tb) (cJ o3 a3 b3):=⟨Ck h.op ha.pe hb.pe hm,fG h.rf ha.rf hb.rf⟩
def sy (o3 o3':D->D->TE3) (a3 b3 c3:TB3) (Γ:G) (Q:RV->G->Prop):Prop:=a3 Γ fun x Γ1=>b3 Γ1 fun y Γ2=>∃ dx dy,x.at Γ2=some dx/\y.at Γ2=some dy/\o3 dx dy Γ2 fun z Γ3=>match z with
 | .fz (.bl true)=>c3 Γ3 fun w Γ4=>∃ dy dw,y.at Γ4=some dy/\w.at Γ4=some dw/\o3' dy dw Γ4 Q
 | .fz (.bl false)=>Q (.fz (.bl false)) Γ3
 | _=>False
theorem yj {r r':R2} {o3 o3':D->D->TE3} (h:jG K r o3) (h':jG K r' o3') (ha:qw K ta a3) (hb:qw K tb b3) (hc:qw K tc c3):Ref K (vC r r' ta tb tc) (sy o3 o3' a3 b3 c3):=by
 intro B F σ H Γ Q QQ e q k;refine ha B F σ H Γ _ _ e q (fun v H1 ⟨F1,Γ1,x,s1,e1,r1,q1⟩=>?_);refine hb B F1 σ H1 Γ1 _ _ e1 q1 (fun u H2 ⟨F2,Γ2,y,s2,e2,r2,dx,dy,h1,h2,q2⟩=>?_);refine h B F2 σ H2 Γ2 v u dx dy _ _ e2 (e2.bo (r1.mono s2) h1) (e2.bo r2 h2) q2 fun z H3 ⟨F3,Γ3,z3,s3,e3,r3,q3⟩=>?_;have sall:=(s1.trans s2).trans s3
 revert r3 q3
 split
 ·intro r3 q3;refine⟨true,r3,?_⟩;rw[if_pos rfl];refine hc B F3 σ H3 Γ3 _ _ e3 q3 (fun w H4 ⟨F4,Γ4,w3,s4,e4,r4,dy,dw,h3,h4,q4⟩=>?_);exact h' B F4 σ H4 Γ4 u w dy dw Q QQ e4 (e4.bo (r2.mono (s3.trans s4)) h3) (e4.bo r4 h4) q4 fun z H5 p=>k z H5 (p.mono (sall.trans s4))
 ·intro r3 q3;refine⟨false,r3,?_⟩;rw[if_neg (by simp)];exact k _ _ (Po.mono sall (rE e3 q3))
 ·intro _ q3;exact q3.elim
theorem uJ {op op':CmpOp} {r r':R2} {o3 o3':D->D->TE3} (h:C3 K X op r o3) (h':C3 K X op' r' o3') (ha:P3B K X a ta a3) (hb:P3B K X b tb b3) (hc:P3B K X c tc c3) (hm:lastMarks [op,op'] [b,c]=false:=by with_unfolding_all rfl) :
  P3 K X (.Compare a [op,op'] [b,c] pos) (vC r r' ta tb tc) (sy o3 o3' a3 b3 c3):=⟨z8 h.op h'.op ha.pe hb.pe hc.pe hm,yj h.rf h'.rf ha.rf hb.rf hc.rf⟩
def FO (x:D) (Γ:G) (Q:RV->G->Prop):Prop:=match x with
 | .int i=>Q (.fz (.int (-i))) Γ
 | _=>False
theorem Fu (ha:P3B K X a ta a3):P3 K X (.UnaryOp .USub a pos) (tUn (rU fun i=>.int (-i)) ta) (yc FO a3):=⟨HU Ew ha.pe,vH (r:=rU fun i=>.int (-i)) (ta:=ta) (by
 intro B F σ H Γ x dx Q QQ e rx q k;unfold FO at q;split at q
 ·cases rx;exact⟨_,rfl,k _ _ (gg e q)⟩
 ·exact q.elim) ha.rf⟩
end
abbrev TT3:=G->(Bool->G->Prop)->Prop
def PoT (K:Fg0) (B:Bs) (F:Hp) (σ:L2.St) (Q:Bool->G->Prop):Bool->Hp->Prop:=fun b H'=>∃ F' Γ',av F F'/\En K B F' σ H' Γ'/\Q b Γ'
def om (K:Fg0) (t:TT) (t3:TT3):Prop:=∀ (B:Bs) (F:Hp) (σ:L2.St) (H:Hp) (Γ:G) (Q:Bool->G->Prop) (QQ:Bool->Hp->Prop),En K B F σ H Γ->t3 Γ Q->(∀ b H',PoT K B F σ Q b H'->QQ b H')->t σ H QQ
structure P3T (K:Fg0) (X:Cx) (e:Expr) (t:TT) (t3:TT3):Prop where
 pe:PT X e t
 rf:om K t t3
structure P3W (K:Fg0) (X:Cx) (e:Expr) (t:TT) (t3:TT3):Prop where
 pe:PW X e t
 rf:om K t t3
section
variable {K:Fg0} {X:Cx} {a b c:Expr} {ta tb tc:TE} {a3 b3 c3:TE3} {a3' b3' c3':TB3} {pos:Pos} {tA tB':TT} {A3 B3:TT3} {rest:List Expr}
def tst (a3:TE3) (Γ:G) (Q:Bool->G->Prop):Prop:=a3 Γ fun x Γ1=>match x.d with
 | .bl k=>Q k Γ1
 | _=>False
theorem PoT.mono {B:Bs} {F F':Hp} {σ:L2.St} {H:Hp} {Q:Bool->G->Prop} {k:Bool} (s:av F F') (h:PoT K B F' σ Q k H):PoT K B F σ Q k H:=by
 obtain⟨F2,Γ',a,b⟩:=h;exact⟨F2,Γ',s.trans a,b⟩
theorem DG (h:Ref K ta a3):om K (fun σ H Q=>ta σ H fun x H1=>∃ c,x=.bl c/\Q c H1) (tst a3):=by
 intro B F σ H Γ Q QQ e q k;refine h B F σ H Γ _ _ e q (fun v H1 ⟨F1,Γ1,x,s1,e1,r1,q1⟩=>?_);obtain⟨F1',s1',e1',r1'⟩:=e1.frozen r1
 revert r1' q1
 split
 ·rename_i hz;intro q1 r1';rw[hz] at r1';exact⟨_,r1',k _ _ ⟨F1',Γ1,s1.trans s1',e1',q1⟩⟩
 ·intro q1;exact q1.elim
theorem dM {e:Expr} {t:TE} {e3:TE3} (h:P3 K X e t e3) (he:∀ whole,isTrue e X.env whole=(do let v <- whole;standAt e.pos;holding [v] (truthy v)):=by intro _;rfl):P3T K X e (tB t) (tst e3):=⟨E7 h.pe he,DG h.rf⟩
theorem aO {op:CmpOp} {r:R2} {o3:D->D->TE3} (h:C3 K X op r o3) (ha:P3B K X a ta a3') (hb:P3B K X b tb b3') (hm:behindInMarks op b=false):P3T K X (.Compare a [op] [b] pos) (Du (tOp r ta tb)) (tst (cJ o3 a3' b3')):=
 ⟨B7 h.op ha.pe hb.pe hm,DG (fG h.rf ha.rf hb.rf)⟩
def GZ (A3 B3:TT3) (Γ:G) (Q:Bool->G->Prop):Prop:=A3 Γ fun c Γ1=>match c with
 | true=>B3 Γ1 Q
 | false=>Q false Γ1
def or3 (A3 B3:TT3) (Γ:G) (Q:Bool->G->Prop):Prop:=A3 Γ fun c Γ1=>match c with
 | true=>Q true Γ1
 | false=>B3 Γ1 Q
def FL (A3:TT3) (Γ:G) (Q:Bool->G->Prop):Prop:=A3 Γ fun c Γ1=>Q (!c) Γ1
theorem B2 (ha:om K tA A3) (hb:om K tB' B3):om K (EI tA tB') (GZ A3 B3):=by
 intro B F σ H Γ Q QQ e q k;refine ha B F σ H Γ _ _ e q (fun c H1 ⟨F1,Γ1,s1,e1,q1⟩=>?_);cases c with
 | true=>exact wb (hb B F1 σ H1 Γ1 _ _ e1 q1 fun c H2 p=>k _ _ (p.mono s1))
 | false=>exact wc (k _ _ ⟨F1,Γ1,s1,e1,q1⟩)
theorem EX (ha:om K tA A3) (hb:om K tB' B3):om K (tOr tA tB') (or3 A3 B3):=by
 intro B F σ H Γ Q QQ e q k;refine ha B F σ H Γ _ _ e q (fun c H1 ⟨F1,Γ1,s1,e1,q1⟩=>?_);cases c with
 | true=>exact wb (k _ _ ⟨F1,Γ1,s1,e1,q1⟩)
 | false=>exact wc (hb B F1 σ H1 Γ1 _ _ e1 q1 fun c H2 p=>k _ _ (p.mono s1))
theorem BY (ha:om K tA A3):om K (ED tA) (FL A3):=by
 intro B F σ H Γ Q QQ e q k;exact ha B F σ H Γ _ _ e q (fun c H1 ⟨F1,Γ1,s1,e1,q1⟩=>k _ _ ⟨F1,Γ1,s1,e1,q1⟩)
theorem lG (ha:P3T K X a tA A3):P3W K X (.BoolOp .And [a] pos) tA A3:=⟨B5 ha.pe,ha.rf⟩
theorem oy (ha:P3T K X a tA A3):P3W K X (.BoolOp .Or [a] pos) tA A3:=⟨E5 ha.pe,ha.rf⟩
theorem oz (ha:P3T K X a tA A3) (hb:P3W K X (.BoolOp .And (b::rest) pos) tB' B3):P3W K X (.BoolOp .And (a::b::rest) pos) (EI tA tB') (GZ A3 B3):=⟨E6 ha.pe hb.pe,B2 ha.rf hb.rf⟩
theorem tm (ha:P3T K X a tA A3) (hb:P3W K X (.BoolOp .Or (b::rest) pos) tB' B3):P3W K X (.BoolOp .Or (a::b::rest) pos) (tOr tA tB') (or3 A3 B3):=⟨HK ha.pe hb.pe,EX ha.rf hb.rf⟩
theorem P3W.pt {e:Expr} (h:P3W K X e tA A3):P3T K X e tA A3:=⟨h.pe.pt,h.rf⟩
theorem hX (ha:P3T K X a tA A3):P3T K X (.UnaryOp .Not a pos) (ED tA) (FL A3):=⟨E8 ha.pe,BY ha.rf⟩
def El (a3 b3'':TE3) (Γ:G) (Q:RV->G->Prop):Prop:=a3 Γ fun x Γ1=>match x.d with
 | .bl true=>b3'' Γ1 Q
 | .bl false=>Q (.fz (.bl false)) Γ1
 | _=>False
def H_ (a3 b3'':TE3) (Γ:G) (Q:RV->G->Prop):Prop:=a3 Γ fun x Γ1=>match x.d with
 | .bl true=>Q (.fz (.bl true)) Γ1
 | .bl false=>b3'' Γ1 Q
 | _=>False
theorem fI {op} (h:P3 K X a ta a3):P3 K X (.BoolOp op [a] pos) ta a3:=⟨Fj h.pe,h.rf⟩
theorem cV (ha:P3 K X a ta a3) (hb:P3 K X (.BoolOp .And (b::rest) pos) tb b3):P3 K X (.BoolOp .And (a::b::rest) pos) (Dx ta tb) (El a3 b3):=⟨Fs ha.pe hb.pe,by
 intro B F σ H Γ Q QQ e q k;refine ha.rf B F σ H Γ _ _ e q (fun v H1 ⟨F1,Γ1,x,s1,e1,r1,q1⟩=>?_);obtain⟨F1',s1',e1',r1'⟩:=e1.frozen r1
 revert r1' q1
 split
 ·rename_i hz;intro q1 r1';rw[hz] at r1';exact⟨true,r1',wb (hb.rf B F1' σ H1 Γ1 _ _ e1' q1 fun v H2 p=>k _ _ (p.mono (s1.trans s1')))⟩
 ·rename_i hz;intro q1 r1';rw[hz] at r1';exact⟨false,r1',wc (k _ _ (Po.mono (s1.trans s1') (rE e1' q1)))⟩
 ·intro q1;exact q1.elim⟩
theorem H9 (ha:P3 K X a ta a3) (hb:P3 K X (.BoolOp .Or (b::rest) pos) tb b3):P3 K X (.BoolOp .Or (a::b::rest) pos) (Hk ta tb) (H_ a3 b3):=⟨HV ha.pe hb.pe,by
 intro B F σ H Γ Q QQ e q k;refine ha.rf B F σ H Γ _ _ e q (fun v H1 ⟨F1,Γ1,x,s1,e1,r1,q1⟩=>?_);obtain⟨F1',s1',e1',r1'⟩:=e1.frozen r1
 revert r1' q1
 split
 ·rename_i hz;intro q1 r1';rw[hz] at r1';exact⟨true,r1',wb (k _ _ (Po.mono (s1.trans s1') (rE e1' q1)))⟩
 ·rename_i hz;intro q1 r1';rw[hz] at r1';exact⟨false,r1',wc (hb.rf B F1' σ H1 Γ1 _ _ e1' q1 fun v H2 p=>k _ _ (p.mono (s1.trans s1')))⟩
 ·intro q1;exact q1.elim⟩
def if3 (A3:TT3) (a3 b3:TE3) (Γ:G) (Q:RV->G->Prop):Prop:=A3 Γ fun c Γ1=>match c with
 | true=>a3 Γ1 Q
 | false=>b3 Γ1 Q
theorem uG {c:Expr} (hc:P3T K X c tA A3) (ha:P3 K X a ta a3) (hb:P3 K X b tb b3):P3 K X (.IfExp c a b pos) (tIf tA ta tb) (if3 A3 a3 b3):=⟨z7 hc.pe ha.pe hb.pe,by
 intro B F σ H Γ Q QQ e q k;refine hc.rf B F σ H Γ _ _ e q (fun c H1 ⟨F1,Γ1,s1,e1,q1⟩=>?_);cases c with
 | true=>exact wb (ha.rf B F1 σ H1 Γ1 _ _ e1 q1 fun v H2 p=>k _ _ (p.mono s1))
 | false=>exact wc (hb.rf B F1 σ H1 Γ1 _ _ e1 q1 fun v H2 p=>k _ _ (p.mono s1))⟩
end
abbrev TA3:=G->(List D->G->Prop)->Prop
def PoA (K:Fg0) (B:Bs) (F:Hp) (σ:L2.St) (Q:List D->G->Prop):List V->Hp->Prop:=fun vs H'=>∃ F' Γ' ds,av F F'/\En K B F' σ H' Γ'/\ar K F' ds vs/\Q ds Γ'
def JO (K:Fg0) (t:TA) (t3:TA3):Prop:=∀ (B:Bs) (F:Hp) (σ:L2.St) (H:Hp) (Γ:G) (Q:List D->G->Prop) (QQ:List V->Hp->Prop),En K B F σ H Γ->t3 Γ Q->(∀ vs H',PoA K B F σ Q vs H'->QQ vs H')->t σ H QQ
structure P3A (K:Fg0) (X:Cx) (es:List Expr) (t:TA) (t3:TA3):Prop where
 pe:PA X es t
 rf:JO K t t3
section
variable {K:Fg0} {X:Cx} {e:Expr} {es:List Expr} {te:TE} {e3:TE3} {t:TA} {t3:TA3} {pos:Pos}
def pP (Γ:G) (Q:List D->G->Prop):Prop:=Q [] Γ
def dz (e3:TE3) (t3:TA3) (Γ:G) (Q:List D->G->Prop):Prop:=e3 Γ fun x Γ1=>t3 Γ1 fun xs Γ2=>Q (x.d::xs) Γ2
theorem ak:P3A K X [] nW pP:=⟨pC,fun B F σ H Γ Q QQ e q k=>k _ _ ⟨F,Γ,[],av.refl F,e,rfl,q⟩⟩
theorem aa (ha:P3 K X e te e3) (hr:P3A K X es t t3) (hs:starEach (e::es) X.env=(false,eval e X.env)::starEach es X.env:=by rfl):P3A K X (e::es) (k9 te t) (dz e3 t3):=⟨jK ha.pe hr.pe hs,by
 intro B F σ H Γ Q QQ e q k;refine ha.rf B F σ H Γ _ _ e q (fun v H1 ⟨F1,Γ1,x,s1,e1,r1,q1⟩=>?_);obtain⟨F1',s1',e1',r1'⟩:=e1.frozen r1;refine hr.rf B F1' σ H1 Γ1 _ _ e1' q1 (fun vs H2 ⟨F2,Γ2,ds,s2,e2,r2,q2⟩=>?_);exact k _ _ ⟨F2,Γ2,x.d::ds,(s1.trans s1').trans s2,e2,⟨v,vs,rfl,r1'.mono s2,r2⟩,q2⟩⟩
def CJ (t3:TA3) (Γ:G) (Q:RV->G->Prop):Prop:=t3 Γ fun xs Γ1=>xs.length<=sizeLine/\Q (.fr (.lst xs)) Γ1
def za (t3:TA3) (Γ:G) (Q:RV->G->Prop):Prop:=t3 Γ fun xs Γ1=>xs.length<=sizeLine/\Q (.fz (.tup xs)) Γ1
theorem bw (h:P3A K X es t t3):P3 K X (.List es pos) (Hl t) (CJ t3):=⟨Fm h.pe,by
 intro B F σ H Γ Q QQ e q k;refine h.rf B F σ H Γ _ _ e q (fun vs H1 ⟨F1,Γ1,ds,s1,e1,r1,q1⟩=>?_);exact⟨by rw[r1.length];exact q1.1,fun p hp=>k _ _ (Po.mono s1 (g_ e1 hp r1 q1.2))⟩⟩
theorem bC {x1} (h:P3A K X es t t3):P3 K X (.Tuple es x1 pos) (EB t) (za t3):=⟨zY h.pe,by
 intro B F σ H Γ Q QQ e q k;refine h.rf B F σ H Γ _ _ e q (fun vs H1 ⟨F1,Γ1,ds,s1,e1,r1,q1⟩=>?_);exact⟨by rw[r1.length];exact q1.1,fun p hp=>k _ _ (Po.mono s1 (sX e1 hp r1 q1.2))⟩⟩
end
abbrev cY:=G->(List Bo->G->Prop)->Prop
def aZ (K:Fg0) (F:Hp) (σ:L2.St):List Bo->List V->Prop
 | [],vs=>vs=[]
 | b::bs,vs=>∃ v ws,vs=v::ws/\nQ K F σ b v/\aZ K F σ bs ws
def kA (K:Fg0) (F H:Hp):List D->List V->Prop
 | [],vs=>vs=[]
 | d::ds,vs=>∃ v ws,vs=v::ws/\ed K F H d v/\kA K F H ds ws
def ats (Γ:G):List Bo->Option (List D)
 | []=>some []
 | b::bs=>match b.at Γ,ats Γ bs with
  | some d,some ds=>some (d::ds)
  | _,_=>none
def KP (K:Fg0) (B:Bs) (F:Hp) (σ:L2.St) (Q:List Bo->G->Prop):List V->Hp->Prop:=fun vs H'=>∃ F' Γ' bs,av F F'/\En K B F' σ H' Γ'/\aZ K F' σ bs vs/\Q bs Γ'
def qx (K:Fg0) (t:TA) (t3:cY):Prop:=∀ (B:Bs) (F:Hp) (σ:L2.St) (H:Hp) (Γ:G) (Q:List Bo->G->Prop) (QQ:List V->Hp->Prop),En K B F σ H Γ->t3 Γ Q->(∀ vs H',KP K B F σ Q vs H'->QQ vs H')->t σ H QQ
structure oo (K:Fg0) (X:Cx) (es:List Expr) (t:TA) (t3:cY):Prop where
 pe:PA X es t
 rf:qx K t t3
section
variable {K:Fg0} {X:Cx} {e:Expr} {es:List Expr} {te:TE} {e3:TB3} {t:TA} {t3:cY} {pos:Pos} {B:Bs} {F H:Hp} {σ:L2.St} {Γ:G}
theorem En.bos (e:En K B F σ H Γ):∀ {bs:List Bo} {vs:List V} {ds:List D},aZ K F σ bs vs->ats Γ bs=some ds->kA K F H ds vs
 | [],_,_,h,q=>by cases q;exact h
 | b::bs,_,_,⟨v,ws,h1,h2,h3⟩,q=>by
  unfold ats at q;split at q
  ·rename_i d ds hd hds;cases q;exact⟨v,ws,h1,e.bo h2 hd,e.bos h3 hds⟩
  ·cases q
def uT (Γ:G) (Q:List Bo->G->Prop):Prop:=Q [] Γ
def nL (e3:TB3) (t3:cY) (Γ:G) (Q:List Bo->G->Prop):Prop:=e3 Γ fun x Γ1=>t3 Γ1 fun xs Γ2=>Q (x::xs) Γ2
theorem aj:oo K X [] nW uT:=⟨pC,fun B F σ H Γ Q QQ e q k=>k _ _ ⟨F,Γ,[],av.refl F,e,rfl,q⟩⟩
theorem ae (ha:P3B K X e te e3) (hr:oo K X es t t3) (hs:starEach (e::es) X.env=(false,eval e X.env)::starEach es X.env:=by rfl):oo K X (e::es) (k9 te t) (nL e3 t3):=⟨jK ha.pe hr.pe hs,by
 intro B F σ H Γ Q QQ e q k;refine ha.rf B F σ H Γ _ _ e q (fun v H1 ⟨F1,Γ1,x,s1,e1,r1,q1⟩=>?_);refine hr.rf B F1 σ H1 Γ1 _ _ e1 q1 (fun vs H2 ⟨F2,Γ2,ds,s2,e2,r2,q2⟩=>?_);exact k _ _ ⟨F2,Γ2,x::ds,s1.trans s2,e2,⟨v,vs,rfl,r1.mono s2,r2⟩,q2⟩⟩
def xY (K:Fg0) (r:List V->Hp->VK->Prop) (c3:List D->TE3):Prop:=∀ (B:Bs) (F:Hp) (σ:L2.St) (H:Hp) (Γ:G) (vs:List V) (ds:List D) (Q:RV->G->Prop) (QQ:VK),En K B F σ H Γ->kA K F H ds vs->c3 ds Γ Q->(∀ v H',Po K B F σ Q v H'->QQ v H')->r vs H QQ
def qo (c3:List D->TE3) (t3:cY) (Γ:G) (Q:RV->G->Prop):Prop:=t3 Γ fun bs Γ1=>∃ ds,ats Γ1 bs=some ds/\c3 ds Γ1 Q
theorem zH {r:List V->Hp->VK->Prop} {c3:List D->TE3} (h:xY K r c3) (ha:qx K t t3):Ref K (tCB r t) (qo c3 t3):=by
 intro B F σ H Γ Q QQ e q k;refine ha B F σ H Γ _ _ e q (fun vs H1 ⟨F1,Γ1,bs,s1,e1,r1,ds,hd,q1⟩=>?_);exact h B F1 σ H1 Γ1 vs ds Q QQ e1 (e1.bos r1 hd) q1 fun v H2 p=>k _ _ (p.mono s1)
structure B3 (K:Fg0) (X:Cx) (f:Value) (r:List V->Hp->VK->Prop) (c3:List D->TE3):Prop where
 op:cj X f r
 rf:xY K r c3
variable {x:Str} {p:Pos} {id T:String} {r:List V->Hp->VK->Prop} {c3:List D->TE3}
theorem a8 (hc:B3 K X (.builtin id) r c3) (hg:Gl X x) (hm:X.mg x=none) (hv:bootBuiltins x=some (.builtin id)) (ha:oo K X (e::es) t t3) (hn:x≠"__name__":=by decide) (hdb:(x == ("__debug__":Str))=false:=by decide)
  (he:starEach (e::es) X.env=(false,eval e X.env)::starEach es X.env:=by rfl) (hpl:(backTo pos (starEach es X.env)).any (·.1)=false:=by rfl):P3 K X (.Call (.Name x p) (e::es) [] pos) (tCB r t) (qo c3 t3):=
 ⟨Aa hc.op hg hm hv ha.pe hn hdb he hpl,zH hc.rf ha.rf⟩
theorem gz (hc:B3 K X (.type T) r c3) (hg:Gl X x) (hm:X.mg x=none) (hv:bootBuiltins x=some (.type T)) (ha:oo K X (e::es) t t3) (hn:x≠"__name__":=by decide) (hdb:(x == ("__debug__":Str))=false:=by decide)
  (he:starEach (e::es) X.env=(false,eval e X.env)::starEach es X.env:=by rfl) (hpl:(backTo pos (starEach es X.env)).any (·.1)=false:=by rfl):P3 K X (.Call (.Name x p) (e::es) [] pos) (tCB r t) (qo c3 t3):=
 ⟨yw hc.op hg hm hv ha.pe hn hdb he hpl,zH hc.rf ha.rf⟩
def KN (ds:List D) (Γ:G) (Q:RV->G->Prop):Prop:=match ds with
 | [.int i]=>Q (.fz (.int (if i < 0 then -i else i))) Γ
 | _=>False
def mx3 (f:Int->Int->Int) (ds:List D) (Γ:G) (Q:RV->G->Prop):Prop:=match ds with
 | [.int i,.int j]=>Q (.fz (.int (f i j))) Γ
 | _=>False
theorem kA.one {d:D} {vs:List V} (h:kA K F H [d] vs):∃ v,vs=[v]/\ed K F H d v:=by
 obtain⟨v,ws,rfl,h1,h2⟩:=h;cases h2;exact⟨v,rfl,h1⟩
theorem kA.two {d e:D} {vs:List V} (h:kA K F H [d,e] vs):∃ v w,vs=[v,w]/\ed K F H d v/\ed K F H e w:=by
 obtain⟨v,ws,rfl,h1,h2⟩:=h;obtain⟨w,rfl,h3⟩:=kA.one h2;exact⟨v,w,rfl,h1,h3⟩
abbrev fmax (i j:Int):Int:=if j > i then j else i
abbrev fmin (i j:Int):Int:=if j < i then j else i
theorem Ek (hc:X.calm=true):B3 K X (.builtin "max") (fun xs H Q=>∃ i j,xs=[.int i,.int j]/\Q (.int (if j > i then j else i)) H) (mx3 fmax):=⟨yT hc,by
 intro B F σ H Γ vs ds Q QQ e r q k;unfold mx3 at q;split at q
 ·obtain⟨v,w,rfl,h,h'⟩:=r.two;cases h;cases h';exact⟨_,_,rfl,k _ _ (gg e q)⟩
 ·exact q.elim⟩
theorem Ej (hc:X.calm=true):B3 K X (.builtin "min") (fun xs H Q=>∃ i j,xs=[.int i,.int j]/\Q (.int (if j < i then j else i)) H) (mx3 fmin):=⟨yS hc,by
 intro B F σ H Γ vs ds Q QQ e r q k;unfold mx3 at q;split at q
 ·obtain⟨v,w,rfl,h,h'⟩:=r.two;cases h;cases h';exact⟨_,_,rfl,k _ _ (gg e q)⟩
 ·exact q.elim⟩
def AD (ds:List D) (Γ:G) (Q:RV->G->Prop):Prop:=match ds with
 | [.int i]=>Q (.fz (.int i)) Γ
 | [.bl k]=>Q (.fz (.int (if k then 1 else 0))) Γ
 | _=>False
theorem xS:B3 K X (.type "int") (fun xs H Q=>(∃ i,xs=[.int i]/\Q (.int i) H)\/∃ k,xs=[.bl k]/\Q (.int (if k then 1 else 0)) H) AD:=⟨yU,by
 intro B F σ H Γ vs ds Q QQ e r q k;unfold AD at q;split at q
 ·obtain⟨v,rfl,h⟩:=r.one;cases h;exact .inl ⟨_,rfl,k _ _ (gg e q)⟩
 ·obtain⟨v,rfl,h⟩:=r.one;cases h;exact .inr ⟨_,rfl,k _ _ (gg e q)⟩
 ·exact q.elim⟩
def CN:D->Option Nat
 | .lst xs=>some xs.length
 | .tup xs=>some xs.length
 | .ktup xs=>some xs.length
 | .scr ns=>some ns.length
 | _=>none
def FU (ds:List D) (Γ:G) (Q:RV->G->Prop):Prop:=match ds with
 | [.str z]=>z.length<=sizeLine/\Q (.fz (.int z.length)) Γ
 | [d]=>∃ n,CN d=some n/\Q (.fz (.int n)) Γ
 | _=>False
abbrev J1 (K:Fg0):List V->Hp->VK->Prop:=fun xs H Q=>(∃ p ys,xs=[.ref p]/\(SqL K H p ys\/SqT K H p ys)/\Q (.int ys.length) H)\/(∃ z,xs=[.str z]/\z.length<=sizeLine/\Q (.int z.length) H)
theorem cj.or' {f:Value} {r r':List V->Hp->VK->Prop} (h:cj X f r) (h':cj X f r'):cj X f (fun xs H Q=>r xs H Q\/r' xs H Q):=by
 intro pins s σ H xs us Q I rx q;rcases q with q | q
 ·exact h pins s σ H xs us Q I rx q
 ·exact h' pins s σ H xs us Q I rx q
theorem CM {d:D} {v:V} {n:Nat} (s:av F H) (h:ed K F H d v) (hn:CN d=some n):∃ p ys,v=.ref p/\(SqL K H p ys\/SqT K H p ys)/\ys.length=n:=by
 unfold CN at hn;split at hn
 ·cases hn;obtain⟨p,vs,rfl,h1,h2⟩:=h;exact⟨p,vs,rfl,.inl (SqL.of h1),h2.length⟩
 ·cases hn;obtain⟨p,vs,rfl,h1,h2⟩:=h;exact⟨p,vs,rfl,.inr (.inl (.inl (s _ _ h1))),h2.length⟩
 ·cases hn;obtain⟨p,vs,rfl,h1,h2⟩:=h;exact⟨p,vs,rfl,.inr (SqT.same s h1),h2.length⟩
 ·cases hn;obtain⟨p,rfl,h1⟩:=h;exact⟨p,_,rfl,.inl (s.seq h1),by simp⟩
 ·cases hn
theorem mi (hK:X.K=K):B3 K X (.builtin "len") (J1 K) FU:=⟨by subst hK;exact cj.or' tY tX,by
 intro B F σ H Γ vs ds Q QQ e r q k;unfold FU at q;split at q
 ·obtain⟨v,rfl,h⟩:=r.one;cases h;exact .inr ⟨_,rfl,q.1,k _ _ (gg e q.2)⟩
 ·obtain⟨v,rfl,h⟩:=r.one;obtain⟨n,hn,q⟩:=q;obtain⟨p,ys,rfl,hs,hl⟩:=CM e.sub h hn;subst hl;exact .inl ⟨p,ys,rfl,hs,k _ _ (gg e q)⟩
 ·exact q.elim⟩
end
section
variable {K:Fg0} {X:Cx} {a b c:Expr} {ta tb tc:TE} {a3 b3 c3:TB3} {pos:Pos} {B:Bs} {F H:Hp} {σ:L2.St} {Γ:G}
theorem ar.atI {xs:List D} {vs:List V} (h:ar K F xs vs) {i:Int} {d:D} (e:atI xs i=some d):∃ v,L2.atI vs i=some v/\Rep K F d v:=by
 unfold L2.atI at e ⊢;rw[h.length];cases q:ixN xs.length i with
 | none=>rw[q] at e;cases e
 | some j=>
  rw[q] at e;exact h.get e
def ix3 (x y:D) (Γ:G) (Q:RV->G->Prop):Prop:=match x,y with
 | .lst xs,.int i=>∃ d,atI xs i=some d/\Q (.fz d) Γ
 | .tup xs,.int i=>∃ d,atI xs i=some d/\Q (.fz d) Γ
 | .ktup xs,.int i=>∃ d,atI xs i=some d/\Q (.fz d) Γ
 | .scr ns,.int i=>∃ n,atI ns i=some n/\Q (.fz (.int n)) Γ
 | .str z,.int i=>z.length<=sizeLine/\∃ c,atI z.cps.toList i=some c/\Q (.fz (.str ⟨#[c]⟩)) Γ
 | _,_=>False
theorem xV {α β:Type} {f:α->β} {xs:List α} {i:Int} {d:α} (e:atI xs i=some d):atI (xs.map f) i=some (f d):=by
 unfold L2.atI at e ⊢;rw[lM0];cases q:ixN xs.length i with
 | none=>rw[q] at e;cases e
 | some j=>
  rw[q] at e;show (xs.map f)[j]?=_;rw[List.getElem?_map,show xs[j]?=some d from e]
  rfl
theorem IM:jG K (rIx K) ix3:=by
 intro B F σ H Γ x y dx dy Q QQ e rx ry q k;unfold ix3 at q;split at q
 ·obtain⟨d,hd,q⟩:=q;obtain⟨p,vs,rfl,h1,h2⟩:=rx;cases ry;obtain⟨v,hv,r⟩:=h2.atI hd;exact .inl ⟨p,vs,_,v,rfl,rfl,SqL.of h1,hv,k _ _ (gx e r q)⟩
 ·obtain⟨d,hd,q⟩:=q;obtain⟨p,vs,rfl,h1,h2⟩:=rx;cases ry;obtain⟨v,hv,r⟩:=h2.atI hd;exact .inr (.inl ⟨p,vs,_,v,rfl,rfl,.inl (.inl (e.sub _ _ h1)),hv,k _ _ (gx e r q)⟩)
 ·obtain⟨d,hd,q⟩:=q;obtain⟨p,vs,rfl,h1,h2⟩:=rx;cases ry;obtain⟨v,hv,r⟩:=h2.atI hd;exact .inr (.inl ⟨p,vs,_,v,rfl,rfl,SqT.same e.sub h1,hv,k _ _ (gx e r q)⟩)
 ·obtain⟨d,hd,q⟩:=q;obtain⟨p,rfl,h1⟩:=rx;cases ry;exact .inl ⟨p,_,_,.int d,rfl,rfl,e.sub.seq h1,xV hd,k _ _ (gg e q)⟩
 ·cases rx;cases ry;obtain⟨hz,c,hc,q⟩:=q;exact .inr (.inr ⟨_,_,c,rfl,rfl,hz,hc,k _ _ (i8 e q)⟩)
 ·exact q.elim
theorem aS (hK:X.K=K) (ha:P3B K X a ta a3) (hb:P3B K X b tb b3) (hs:xW b):P3 K X (.Subscript a b pos) (tOp (rIx K) ta tb) (cJ ix3 a3 b3):=⟨HW (by subst hK;exact Gh) ha.pe hb.pe hs,fG IM ha.rf hb.rf⟩
def cut {α:Type} (xs:List α) (lo hi:Option Int):List α:=(xs.drop (HT.sIx xs.length 0 lo)).take (HT.sIx xs.length xs.length hi - HT.sIx xs.length 0 lo)
def pk {α:Type} (xs:List α) (lo hi st:Option Int):List α:=(sliceRange (sliceBounds lo hi st xs.length).1 (sliceBounds lo hi st xs.length).2.1 (sliceBounds lo hi st xs.length).2.2).filterMap (xs[·]?)
theorem ar.cut {xs:List D} {vs:List V} (h:ar K F xs vs) (lo hi:Option Int):ar K F (cut xs lo hi) (qT vs lo hi):=by
 unfold L3.cut qT;rw[h.length];exact(h.drop _).take _
theorem ar.places {xs:List D} {vs:List V} (h:ar K F xs vs):∀ js:List Nat,ar K F (js.filterMap (xs[·]?)) (js.filterMap (vs[·]?))
 | []=>rfl
 | j::js=>by
  have ih:=h.places js;cases hn:xs[j]? with
  | some x=>
   obtain⟨u,hu,r⟩:=h.get hn;simp only[List.filterMap_cons,hn,hu];exact⟨u,_,rfl,r,ih⟩
  | none=>
   have hv:vs[j]?=none:=by
    rw[List.getElem?_eq_none_iff] at hn ⊢;rw[h.length];exact hn
   simp only[List.filterMap_cons,hn,hv];exact ih
theorem ar.pk {xs:List D} {vs:List V} (h:ar K F xs vs) (lo hi st:Option Int):ar K F (pk xs lo hi st) (i9 vs lo hi st):=by
 unfold L3.pk i9;rw[h.length];exact h.places _
abbrev TO3:=G->(Option Int->G->Prop)->Prop
def KO (K:Fg0) (t:TO) (t3:TO3):Prop:=∀ (B:Bs) (F:Hp) (σ:L2.St) (H:Hp) (Γ:G) (Q:Option Int->G->Prop) (QQ:Option Int->Hp->Prop),En K B F σ H Γ->t3 Γ Q->(∀ o H',(∃ F' Γ',av F F'/\En K B F' σ H' Γ'/\Q o Γ')->QQ o H')->t σ H QQ
structure P3O (K:Fg0) (X:Cx) (e:Option Expr) (t:TO) (t3:TO3):Prop where
 pe:PO X e t
 rf:KO K t t3
def xl (Γ:G) (Q:Option Int->G->Prop):Prop:=Q none Γ
def wY (a3:TB3) (Γ:G) (Q:Option Int->G->Prop):Prop:=a3 Γ fun x Γ1=>∃ i,x.at Γ1=some (.int i)/\Q (some i) Γ1
theorem bK:P3O K X none wW xl:=⟨Cb,fun B F σ H Γ Q QQ e q k=>k _ _ ⟨F,Γ,av.refl F,e,q⟩⟩
theorem ba (h:P3B K X a ta a3):P3O K X (some a) (Dv ta) (wY a3):=⟨Ca h.pe,by
 intro B F σ H Γ Q QQ e q k;refine h.rf B F σ H Γ _ _ e q (fun v H1 ⟨F1,Γ1,x,s1,e1,r1,i,h1,q1⟩=>?_);have:v=.int i:=e1.bo r1 h1;exact⟨i,this,k _ _ ⟨F1,Γ1,s1,e1,q1⟩⟩⟩
def sl3 (a3:TB3) (l3 h3:TO3) (Γ:G) (Q:RV->G->Prop):Prop:=a3 Γ fun x Γ1=>l3 Γ1 fun lo Γ2=>h3 Γ2 fun hi Γ3=>∃ xs,x.at Γ3=some (.lst xs)/\Q (.fr (.lst (cut xs lo hi))) Γ3
theorem dZ {lo hi:Option Expr} {tl th:TO} {l3 h3:TO3} {p2:Pos} (hK:X.K=K) (ha:P3B K X a ta a3) (hl:P3O K X lo tl l3) (hh:P3O K X hi th h3):P3 K X (.Subscript a (.Slice lo hi none p2) pos) (tSl (HE K) ta tl th) (sl3 a3 l3 h3):=
 ⟨uD (by subst hK;exact BL) ha.pe hl.pe hh.pe,by
 intro B F σ H Γ Q QQ e q k;refine ha.rf B F σ H Γ _ _ e q (fun v H1 ⟨F1,Γ1,x,s1,e1,r1,q1⟩=>?_);refine hl.rf B F1 σ H1 Γ1 _ _ e1 q1 (fun lo H2 ⟨F2,Γ2,s2,e2,q2⟩=>?_);refine hh.rf B F2 σ H2 Γ2 _ _ e2 q2 (fun hi H3 ⟨F3,Γ3,s3,e3,xs,h3,q3⟩=>?_);obtain⟨p,vs,rfl,h4,h5⟩:=e3.bo (r1.mono (s2.trans s3)) h3;exact⟨p,vs,rfl,SqL.of h4,fun l hl=>k _ _ (Po.mono ((s1.trans s2).trans s3) (g_ e3 hl (h5.cut lo hi) q3))⟩⟩
def Hq (a3:TB3) (l3 h3:TO3) (Γ:G) (Q:RV->G->Prop):Prop:=a3 Γ fun x Γ1=>l3 Γ1 fun lo Γ2=>h3 Γ2 fun hi Γ3=>∃ xs,x.at Γ3=some (.tup xs)/\¬ (HT.sIx xs.length 0 lo=0/\HT.sIx xs.length xs.length hi=xs.length)/\Q (.fz (.tup (cut xs lo hi))) Γ3
theorem yx {lo hi:Option Expr} {tl th:TO} {l3 h3:TO3} {p2:Pos} (hK:X.K=K) (ha:P3B K X a ta a3) (hl:P3O K X lo tl l3) (hh:P3O K X hi th h3):P3 K X (.Subscript a (.Slice lo hi none p2) pos) (tSl (HD K) ta tl th) (Hq a3 l3 h3):=
 ⟨uD (by subst hK;exact EK) ha.pe hl.pe hh.pe,by
 intro B F σ H Γ Q QQ e q k;refine ha.rf B F σ H Γ _ _ e q (fun v H1 ⟨F1,Γ1,x,s1,e1,r1,q1⟩=>?_);refine hl.rf B F1 σ H1 Γ1 _ _ e1 q1 (fun lo H2 ⟨F2,Γ2,s2,e2,q2⟩=>?_);refine hh.rf B F2 σ H2 Γ2 _ _ e2 q2 (fun hi H3 ⟨F3,Γ3,s3,e3,xs,h3,hn,q3⟩=>?_);obtain⟨p,vs,rfl,h4,h5⟩:=e3.bo (r1.mono (s2.trans s3)) h3;exact⟨p,vs,rfl,.inl (.inl (e3.sub _ _ h4)),by rw[h5.length];exact hn,fun l hl=>k _ _ (Po.mono ((s1.trans s2).trans s3) (sX e3 hl (h5.cut lo hi) q3))⟩⟩
def Hr (a3:TB3) (l3 h3 s3:TO3) (Γ:G) (Q:RV->G->Prop):Prop:=a3 Γ fun x Γ1=>l3 Γ1 fun lo Γ2=>h3 Γ2 fun hi Γ3=>s3 Γ3 fun st Γ4=>st≠some 0/\∃ xs,x.at Γ4=some (.lst xs)/\Q (.fr (.lst (pk xs lo hi st))) Γ4
theorem gy {lo hi:Option Expr} {st:Expr} {tl th ts:TO} {l3 h3 s3:TO3} {p2:Pos} (hK:X.K=K) (ha:P3B K X a ta a3) (hl:P3O K X lo tl l3) (hh:P3O K X hi th h3) (hs:P3O K X (some st) ts s3):P3 K X (.Subscript a (.Slice lo hi (some st) p2) pos) (Hi K ta tl th ts) (Hr a3 l3 h3 s3):=
 ⟨by subst hK;exact yr ha.pe hl.pe hh.pe hs.pe,by
 intro B F σ H Γ Q QQ e q k;refine ha.rf B F σ H Γ _ _ e q (fun v H1 ⟨F1,Γ1,x,s1,e1,r1,q1⟩=>?_);refine hl.rf B F1 σ H1 Γ1 _ _ e1 q1 (fun lo H2 ⟨F2,Γ2,s2,e2,q2⟩=>?_);refine hh.rf B F2 σ H2 Γ2 _ _ e2 q2 (fun hi H3 ⟨F3,Γ3,s3,e3,q3⟩=>?_);refine hs.rf B F3 σ H3 Γ3 _ _ e3 q3 (fun st H4 ⟨F4,Γ4,s4,e4,hst,xs,h4,q4⟩=>?_);obtain⟨p,vs,rfl,h5,h6⟩:=e4.bo (r1.mono ((s2.trans s3).trans s4)) h4;exact⟨hst,p,vs,rfl,SqL.of h5,fun l hl=>k _ _ (Po.mono (((s1.trans s2).trans s3).trans s4) (g_ e4 hl (h6.pk lo hi st) q4))⟩⟩
def pX:D->Option (List D)
 | .lst xs=>some xs
 | .tup xs=>some xs
 | .ktup xs=>some xs
 | .scr ns=>some (ns.map .int)
 | _=>none
theorem yK {d:D} {v:V} {xs:List D} (s:av F H) (h:ed K F H d v) (hn:pX d=some xs):∃ p ys,v=.ref p/\(SqL K H p ys\/SqT K H p ys)/\ar K F xs ys:=by
 unfold pX at hn;split at hn
 ·cases hn;obtain⟨p,vs,rfl,h1,h2⟩:=h;exact⟨p,vs,rfl,.inl (SqL.of h1),h2⟩
 ·cases hn;obtain⟨p,vs,rfl,h1,h2⟩:=h;exact⟨p,vs,rfl,.inr (.inl (.inl (s _ _ h1))),h2⟩
 ·cases hn;obtain⟨p,vs,rfl,h1,h2⟩:=h;exact⟨p,vs,rfl,.inr (SqT.same s h1),h2⟩
 ·cases hn;obtain⟨p,rfl,h1⟩:=h;exact⟨p,_,rfl,.inl (s.seq h1),ar.ints _⟩
 ·cases hn
def II (ds:List D) (Γ:G) (Q:RV->G->Prop):Prop:=match ds with
 | [d]=>∃ xs,pX d=some xs/\Q (.fr (.lst xs)) Γ
 | _=>False
def vA (ds:List D) (Γ:G) (Q:RV->G->Prop):Prop:=match ds with
 | [.lst xs]=>Q (.fz (.tup xs)) Γ
 | _=>False
theorem C9 (hK:X.K=K):B3 K X (.type "tuple") (fun xs H Q=>∃ p ys,xs=[.ref p]/\((SqL K H p ys/\∀ l,H l=none->Q (.ref l) (upd H l (.tup ys)))\/(SqT K H p ys/\Q (.ref p) H))) vA:=⟨by subst hK;exact qV,by
 intro B F σ H Γ vs ds Q QQ e r q k;unfold vA at q;split at q
 ·obtain⟨v,rfl,p,ys,rfl,h1,h2⟩:=r.one;exact⟨p,ys,rfl,.inl ⟨SqL.of h1,fun l hf=>k _ _ (sX e hf h2 q)⟩⟩
 ·exact q.elim⟩
def knD:D->Bool
 | .non=>true | .bl _=>true | .int _=>true | .str _=>true | .lst _=>true | .tup _=>true | .dct=>true | .dcs _ _=>true | _=>false
theorem F_ {d:D} {v:V} (s:av F H) (h:ed K F H d v) (hk:knD d=true):Kn H v:=by
 unfold knD at hk;split at hk
 ·cases h;exact .non
 ·cases h;exact .bl _
 ·cases h;exact .int _
 ·cases h;exact .str _
 ·obtain⟨p,vs,rfl,h1,_⟩:=h;exact .lst h1
 ·obtain⟨p,vs,rfl,h1,_⟩:=h;exact .tup (s _ _ h1)
 ·obtain⟨p,rfl,h1⟩:=h;exact .dK (s _ _ h1)
 ·obtain⟨p,rfl,h1⟩:=h;exact .dK (s _ _ h1)
 ·cases hk
def dB:D->Bool
 | .bl _=>true | _=>false
def dI:D->Bool
 | .bl _=>true | .int _=>true | _=>false
def dL:D->Bool
 | .lst _=>true | _=>false
def dT:D->Bool
 | .tup _=>true | _=>false
def is3 (t:String) (f:D->Bool) (ds:List D) (Γ:G) (Q:RV->G->Prop):Prop:=match ds with
 | [d,.ty t']=>t'=t/\knD d=true/\Q (.fz (.bl (f d))) Γ
 | _=>False
theorem GW {t:String} {f:D->Bool} {g:Hp->V->Bool} (h:cj X (.builtin "isinstance") (fun xs H Q=>∃ x,xs=[x,.ty t]/\Kn H x/\Q (.bl (g H x)) H))
  (hg:∀ {F H:Hp} {d:D} {v:V},av F H->ed K F H d v->knD d=true->g H v=f d):B3 K X (.builtin "isinstance") (fun xs H Q=>∃ x,xs=[x,.ty t]/\Kn H x/\Q (.bl (g H x)) H) (is3 t f):=⟨h,by
 intro B F σ H Γ vs ds Q QQ e r q k;unfold is3 at q;split at q
 ·obtain⟨v,w,rfl,h1,h2⟩:=r.two;obtain⟨rfl,hk,q⟩:=q;cases h2;exact⟨v,rfl,F_ e.sub h1 hk,by rw[hg e.sub h1 hk];exact k _ _ (rE e q)⟩
 ·exact q.elim⟩
theorem Jx (T:mq X.K):B3 K X (.builtin "isinstance") (fun xs H Q=>∃ x,xs=[x,.ty "bool"]/\Kn H x/\Q (.bl (isB x)) H) (is3 "bool" dB):=GW (g:=fun _ v=>isB v) (Bf T) fun s h hk=>by
 unfold knD at hk;split at hk
 ·cases h;rfl
 ·cases h;rfl
 ·cases h;rfl
 ·cases h;rfl
 ·obtain⟨p,vs,rfl,h1,_⟩:=h;rfl
 ·obtain⟨p,vs,rfl,h1,_⟩:=h;rfl
 ·obtain⟨p,rfl,h1⟩:=h;rfl
 ·obtain⟨p,rfl,h1⟩:=h;rfl
 ·cases hk
theorem Jw (T:mq X.K):B3 K X (.builtin "isinstance") (fun xs H Q=>∃ x,xs=[x,.ty "int"]/\Kn H x/\Q (.bl (isI x)) H) (is3 "int" dI):=GW (g:=fun _ v=>isI v) (Be T) fun s h hk=>by
 unfold knD at hk;split at hk
 ·cases h;rfl
 ·cases h;rfl
 ·cases h;rfl
 ·cases h;rfl
 ·obtain⟨p,vs,rfl,h1,_⟩:=h;rfl
 ·obtain⟨p,vs,rfl,h1,_⟩:=h;rfl
 ·obtain⟨p,rfl,h1⟩:=h;rfl
 ·obtain⟨p,rfl,h1⟩:=h;rfl
 ·cases hk
def KJ (ds:List D) (Γ:G) (Q:RV->G->Prop):Prop:=match ds with
 | [.lst xs]=>∃ bs:List Bool,xs=bs.map .bl/\Q (.fz (.bl (bs.all id))) Γ
 | _=>False
theorem ar.mj:∀ {bs:List Bool} {vs:List V},ar K F (bs.map D.bl) vs->vs=bs.map V.bl
 | [],_,h=>h
 | n::ns,_,⟨v,ws,h1,h2,h3⟩=>by
  rw[h1,ar.mj h3];have:v=.bl n:=h2;rw[this];rfl
def flD:D->Bool
 | .non=>true | .bl _=>true | .int _=>true | .str _=>true | _=>false
def toV:D->V
 | .bl b=>.bl b | .int i=>.int i | .str x=>.str x | _=>.non
theorem Ea {d:D} {v:V} (h:ed K F H d v) (hk:flD d=true):v=toV d/\kb v=true:=by
 unfold flD at hk;split at hk
 ·cases h;exact⟨rfl,rfl⟩
 ·cases h;exact⟨rfl,rfl⟩
 ·cases h;exact⟨rfl,rfl⟩
 ·cases h;exact⟨rfl,rfl⟩
 ·cases hk
theorem D_ (s:av F H):∀ {xs:List D} {vs:List V},ar K F xs vs->xs.all flD=true->vs=xs.map toV/\vs.all kb=true
 | [],_,h,_=>by cases h;exact⟨rfl,rfl⟩
 | x::xs,_,⟨v,ws,h1,h2,h3⟩,hk=>by
  rw[List.all_cons,Bool.and_eq_true] at hk;obtain⟨a,b⟩:=D_ s h3 hk.2;obtain⟨c,d⟩:=Ea (Rep.b s h2) hk.1;subst h1 a c;refine⟨rfl,?_⟩;rw[List.all_cons,d,b];rfl
def in3 (neg:Bool) (x y:D) (Γ:G) (Q:RV->G->Prop):Prop:=∃ xs,pX y=some xs/\flD x=true/\xs.all flD=true/\Q (.fz (.bl (if neg then !inV (toV x) (xs.map toV) else inV (toV x) (xs.map toV)))) Γ
theorem IT (neg:Bool):jG K (rIn K neg) (in3 neg):=by
 intro B F σ H Γ x y dx dy Q QQ e rx ry q k;obtain⟨xs,hn,f1,f2,q⟩:=q;obtain⟨p,ys,rfl,hs,hl⟩:=yK e.sub ry hn;obtain⟨a,b⟩:=D_ e.sub hl f2;obtain⟨c,d⟩:=Ea rx f1;subst a c;exact⟨p,_,rfl,hs,d,b,k _ _ (rE e q)⟩
theorem ku (hK:X.K=K):C3 K X .In (rIn K false) (in3 false):=⟨by subst hK;exact yy,IT false⟩
theorem ar.lookup:∀ {ns:Ls} {xs:List D} {gs:List (Str×V)} {f:Str} {d:D},gs.map (·.1)=ns->ar K F xs (gs.map (·.2))->(ns.zip xs).lookup f=some d->∃ v,gs.lookup f=some v/\Rep K F d v
 | [],_,[],f,d,_,_,h=>by simp at h
 | n::ns,xs,(m,u)::gs,f,d,h1,h2,h3=>by
  simp only[List.map_cons,List.cons.injEq] at h1;obtain⟨rfl,h1⟩:=h1;cases xs with
  | nil=>simp at h3
  | cons x xs=>
   obtain⟨v,ws,e,r,h2⟩:=h2;simp only[List.map_cons,List.cons.injEq] at e;obtain⟨rfl,rfl⟩:=e;rw[List.zip_cons_cons,List.lookup_cons] at h3;rw[List.lookup_cons];cases q:f == m with
   | true=>rw[q] at h3;cases h3;exact⟨_,rfl,r⟩
   | false=>rw[q] at h3;exact ar.lookup h1 h2 h3
end
structure E3 where
 nx:G->Prop
 rt:RV->G->Prop
 bk:G->Prop:=fun _=>False
 ct:G->Prop:=fun _=>False
abbrev TS3:=E3->G->Prop
structure xX (K:Fg0) (B:Bs) (F:Hp) (D:Ends) (D3:E3):Prop where
 nx:∀ F' σ' H' Γ',av F F'->En K B F' σ' H' Γ'->D3.nx Γ'->D.nx σ' H'
 rt:∀ F' σ' H' Γ' v r,av F F'->En K B F' σ' H' Γ'->j6 K B F' σ' H' Γ' v r->D3.rt r Γ'->D.rt v H'
 bk:∀ F' σ' H' Γ',av F F'->En K B F' σ' H' Γ'->D3.bk Γ'->D.bk σ' H'
 ct:∀ F' σ' H' Γ',av F F'->En K B F' σ' H' Γ'->D3.ct Γ'->D.ct σ' H'
theorem xX.mono {K:Fg0} {B:Bs} {F F1:Hp} {D:Ends} {D3:E3} (h:xX K B F D D3) (s:av F F1):xX K B F1 D D3:=
 ⟨fun F' σ' H' Γ' s'=>h.nx F' σ' H' Γ' (s.trans s'),fun F' σ' H' Γ' v r s'=>h.rt F' σ' H' Γ' v r (s.trans s'),fun F' σ' H' Γ' s'=>h.bk F' σ' H' Γ' (s.trans s'),fun F' σ' H' Γ' s'=>h.ct F' σ' H' Γ' (s.trans s')⟩
def Dq (K:Fg0) (t:TS) (t3:TS3):Prop:=∀ (B:Bs) (F:Hp) (σ:L2.St) (H:Hp) (Γ:G) (D:Ends) (D3:E3),En K B F σ H Γ->xX K B F D D3->t3 D3 Γ->t D σ H
structure P3S (K:Fg0) (X:Cx) (st:Stmt) (t:TS) (t3:TS3):Prop where
 pe:PS X st t
 rf:Dq K t t3
structure qY (K:Fg0) (X:Cx) (st:List Stmt) (t:TS) (t3:TS3):Prop where
 pe:PSs X st t
 rf:Dq K t t3
section
variable {K:Fg0} {X:Cx} {B:Bs} {F H:Hp} {σ:L2.St} {Γ:G} {pos:Pos}
def bW (Γ:G) (i:Nat):Prop:=match Γ[i]? with
 | some (some (.ln _))=>False
 | some _=>True
 | none=>False
theorem lQ {i:Nat} (h:bW Γ i):i < Γ.length:=by
 unfold bW at h;split at h
 ·exact h.elim
 ·rename_i q;exact(gS0 q).1
 ·exact h.elim
theorem aB {α:Type} {l:List α} {i:Nat} {a:α} (h:i < l.length):(l.set i a)[i]?=some a:=by
 rw[List.getElem?_set,if_pos rfl,if_pos h]
theorem En.set (e:En K B F σ H Γ) {i:Nat} (hi:bW Γ i) {v:V} {r:RV} (hr:j6 K B F σ H Γ v r) (hn:r.pl=true:=by rfl):En K B F (σ.set i (some v)) H (Γ.set i (some r.sl)):=by
 have il:=lQ hi;have is:i < σ.length:=by rw[e.len];exact il
 have nl:∀ d,Γ[i]?≠some (some (Sl.ln d)):=fun d q=>by unfold bW at hi;rw[q] at hi;exact hi
 have ne:∀ {j:Nat},j≠i->(Γ.set i (some r.sl))[j]?=Γ[j]?/\(σ.set i (some v))[j]?=σ[j]?:=fun h=>⟨aU (Ne.symm h),aU (Ne.symm h)⟩;have hld:∀ {j x},Hld (Γ.set i (some r.sl)) j x->(j=i/\r=.fr x)\/(j≠i/\Hld Γ j x):=fun {j x} q=>by
  by_cases z:j=i
  ·subst z
   left
   refine⟨rfl,?_⟩;rcases q with q | q <;> rw[aB il] at q <;> cases r <;> first | (cases hn;done) | (cases q;done) | (cases q;rfl)
  ·right
   exact⟨z,by unfold Hld at q ⊢;rw[(ne z).1] at q;exact q⟩
 refine⟨e.sub,by rw[List.length_set,List.length_set];exact e.len,?_,?_,?_,?_,?_,?_,e.keep,e.new,e.rest,e.dom⟩
 ·intro j d q;by_cases z:j=i
  ·subst z;rw[aB il] at q;cases r with
   | fz x=>cases q;exact⟨v,aB is,hr⟩
   | fr x=>cases q
   | two xs ys=>cases hn
   | rws xss=>cases hn
  ·rw[(ne z).1] at q;rw[(ne z).2];exact e.fz j d q
 ·intro j d q;rcases hld q with ⟨rfl,rfl⟩ | ⟨z,q⟩
  ·obtain⟨p,rfl,h1,h2,h3,h4⟩:=hr;exact⟨p,aB is,h1,h2⟩
  ·rw[(ne z).2];exact e.hl j d q
 ·intro j d p q a;rcases hld (.inl q) with ⟨rfl,rfl⟩ | ⟨z,_⟩
  ·obtain⟨p',rfl,h1,h2,h3,h4⟩:=hr;rw[aB is] at a;cases a;exact h3
  ·rw[(ne z).1] at q;rw[(ne z).2] at a;exact e.ow j d p q a
 ·intro j d p q a;rcases hld (.inr q) with ⟨rfl,rfl⟩ | ⟨z,_⟩
  ·rw[aB il] at q;cases q
  ·rw[(ne z).1] at q;rw[(ne z).2] at a;exact e.ln j d p q a
 ·intro j k d d' p q1 q2 a1 a2;rcases hld q1 with ⟨rfl,rfl⟩ | ⟨z1,w1⟩
  ·rcases hld q2 with ⟨rfl,h⟩ | ⟨z2,w2⟩
   ·rfl
   ·obtain⟨p',rfl,h1,h2,h3,h4⟩:=hr;rw[aB is] at a1;cases a1;rw[(ne z2).2] at a2;exact absurd a2 (h4 k _ w2)
  ·rcases hld q2 with ⟨rfl,h⟩ | ⟨z2,w2⟩
   ·subst h;obtain⟨p',rfl,h1,h2,h3,h4⟩:=hr;rw[aB is] at a2;cases a2;rw[(ne z1).2] at a1;exact absurd a1 (h4 j _ w1)
   ·rw[(ne z1).2] at a1;rw[(ne z2).2] at a2;exact e.dis j k d d' p w1 w2 a1 a2
 ·intro j p q;obtain⟨a,d,b⟩:=e.par j p q;have z:j≠i:=fun z=>by subst z;exact nl d b
  rw[(ne z).1,(ne z).2];exact⟨a,d,b⟩
theorem En.forget (e:En K B F σ H Γ) {i:Nat} (hi:bW Γ i):En K B F σ H (Γ.set i none):=by
 have nl:∀ d,Γ[i]?≠some (some (Sl.ln d)):=fun d q=>by unfold bW at hi;rw[q] at hi;exact hi
 have il:=lQ hi;have ne:∀ {j:Nat} {s:Sl},(Γ.set i none)[j]?=some (some s)->j≠i/\Γ[j]?=some (some s):=fun {j s} q=>by
  by_cases z:j=i
  ·subst z;rw[aB il] at q;cases q
  ·exact⟨z,by rw[aU (Ne.symm z)] at q;exact q⟩
 have hld:∀ {j x},Hld (Γ.set i none) j x->Hld Γ j x:=fun q=>q.imp (fun q=>(ne q).2) (fun q=>(ne q).2);exact⟨e.sub,by rw[List.length_set];exact e.len,fun j d q=>e.fz j d (ne q).2,fun j d q=>e.hl j d (hld q),fun j d p q=>e.ow j d p (ne q).2,fun j d p q=>e.ln j d p (ne q).2,fun j k d d' p q1 q2=>e.dis j k d d' p (hld q1) (hld q2),
  fun j p q=>by
   obtain⟨a,d,b⟩:=e.par j p q;have z:i≠j:=fun z=>by subst z;exact nl d b
   exact⟨a,d,by rw[aU z];exact b⟩,e.keep,e.new,e.rest,e.dom⟩
def BH (i:Nat) (Γ:G) (Q:RV->G->Prop):Prop:=match Γ[i]? with
 | some (some (.fz d))=>Q (.fz d) Γ
 | some (some (.ow d))=>Q (.fr d) (Γ.set i none)
 | _=>False
theorem EY (i:Nat):Ref K (bX i) (BH i):=by
 intro B F σ H Γ Q QQ e h k;unfold BH at h;split at h
 ·rename_i d q;obtain⟨v,h1,h2⟩:=e.fz i d q;exact⟨v,h1,k _ _ (gx e h2 h)⟩
 ·rename_i d q;obtain⟨p,h1,h2,h3⟩:=e.hl i d (.inl q);have hf:bW Γ i:=by unfold bW;rw[q];trivial
  have e':=e.forget hf;refine⟨_,h1,k _ _ ⟨F,_,.fr d,av.refl F,e',⟨p,rfl,h2,h3,e.ow i d p q h1,fun j x hj=>?_⟩,h⟩⟩;intro a;have hj':j≠i/\Hld Γ j x:=by
   by_cases z:j=i
   ·subst z;rcases hj with hj | hj <;> rw[aB (lQ hf)] at hj <;> cases hj
   ·exact⟨z,by unfold Hld at hj ⊢;rw[aU (Ne.symm z)] at hj;exact hj⟩
  exact hj'.1 (e.dis j i x d p hj'.2 (.inl q) a h1)
 ·exact h.elim
theorem pE (i:Nat) {x:Str} {pos:Pos} (hN:X.N[i]?=some x:=by rfl) (hv:Vis X.env.scope x:=by first | exact Or.inl rfl | exact Or.inr (Or.inl rfl) | exact Or.inr (Or.inr rfl)) (hd:(x == ("__debug__":Str))=false:=by decide)
  (hcd:(x == ("__classdict__":Str))=false:=by decide):P3 K X (.Name x pos) (bX i) (BH i):=⟨pA hN hv hd hcd,EY i⟩
variable {st:Stmt} {rest:List Stmt} {t u:TS} {t3 u3:TS3} {e:Expr} {te:TE} {e3:TE3}
def DJ (D:E3) (Γ:G):Prop:=D.nx Γ
def Hy (t u:TS3) (D:E3) (Γ:G):Prop:=t { D with nx:=u D } Γ
def HA (e3:TE3) (D:E3) (Γ:G):Prop:=e3 Γ D.rt
def Ed (e3:TE3) (D:E3) (Γ:G):Prop:=e3 Γ fun _ Γ1=>D.nx Γ1
theorem bE:qY K X [] zd DJ:=⟨xc,fun B F σ H Γ D D3 e k q=>k.nx F σ H Γ (av.refl F) e q⟩
theorem ai (h1:P3S K X st t t3) (h2:qY K X rest u u3):qY K X (st::rest) (zb t u) (Hy t3 u3):=⟨lD h1.pe h2.pe,fun B F σ H Γ D D3 e k q=>
 h1.rf B F σ H Γ _ { D3 with nx:=u3 D3 } e ⟨fun F' σ' H' Γ' s e' q'=>h2.rf B F' σ' H' Γ' _ D3 e' (k.mono s) q',k.rt,k.bk,k.ct⟩ q⟩
theorem aq (h1:P3S K X st t t3):qY K X [st] t t3:=⟨sU h1.pe,h1.rf⟩
theorem aF (h:P3 K X e te e3):P3S K X (.Return (some e) pos) (EC te) (HA e3):=⟨zK h.pe,fun B F σ H Γ D D3 e k q=>
 h.rf B F σ H Γ _ _ e q fun v H' ⟨F',Γ',r,s,e',rv,q'⟩=>k.rt F' σ H' Γ' v r s e' rv q'⟩
theorem g8 (h:P3 K X e te e3) (hs:swapsWith e none pos.line X.env=pure false:=by rfl):P3S K X (.Expr e pos) (Dw te) (Ed e3):=⟨B_ h.pe hs,fun B F σ H Γ D D3 e k q=>
 h.rf B F σ H Γ _ _ e q fun v H' ⟨F',Γ',r,s,e',rv,q'⟩=>k.nx F' σ H' Γ' s e' q'⟩
def IW (A3:TT3) (t u:TS3) (D:E3) (Γ:G):Prop:=A3 Γ fun c Γ1=>match c with
 | true=>t D Γ1
 | false=>u D Γ1
theorem cp {c:Expr} {a b:List Stmt} {tc:TT} {A3:TT3} (hc:P3T K X c tc A3) (ha:qY K X a t t3) (hb:qY K X b u u3):P3S K X (.If c a b pos) (EF tc t u) (IW A3 t3 u3):=⟨DH hc.pe ha.pe hb.pe,fun B F σ H Γ D D3 e k q=>
 hc.rf B F σ H Γ _ _ e q fun c H' ⟨F',Γ',s,e',q'⟩=>by
  cases c with
  | true=>exact wb (ha.rf B F' σ H' Γ' D D3 e' (k.mono s) q')
  | false=>exact wc (hb.rf B F' σ H' Γ' D D3 e' (k.mono s) q')⟩
theorem iY:P3S K X st ze (fun _ _=>False):=⟨zL,fun B F σ H Γ D D3 e k q=>q⟩
def yd (i:Nat) (e3:TE3) (D:E3) (Γ:G):Prop:=e3 Γ fun r Γ1=>bW Γ1 i/\D.nx (Γ1.set i (some r.sl))
theorem xa {i:Nat} (h:Ref K te e3):Dq K (fm te (ka i)) (yd i e3):=fun B F σ H Γ D D3 e k q=>
 h B F σ H Γ _ _ e q fun v H' ⟨F',Γ',r,s,e',rv,hf,q'⟩=>by
  obtain⟨F2,r2,s2,e2,rv2,h2,hn⟩:=e'.norm rv;exact k.nx F2 _ H' _ (s.trans s2) (by have:=e2.set hf rv2 hn;rw[h2] at this;exact this) q'
theorem aH {i:Nat} {x:Str} {pos':Pos} (hN:X.N.Nodup) (hi:X.N[i]?=some x) (hx:Loc X.env.scope x) (he:P3 K X e te e3) (hs:swapsWith e (some (.Name x pos')) pos.line X.env=pure false:=by rfl) (hf:X.fn x=true\/X.env.scope.names.lookup x=some .local:=by first | exact .inl rfl | exact .inr rfl | assumption) :
  P3S K X (.Assign [.Name x pos'] e pos) (fm te (ka i)) (yd i e3):=⟨E9 hN hi hx he.pe hs hf,xa he.rf⟩
def H8 (i j:Nat) (t3:TA3) (D:E3) (Γ:G):Prop:=t3 Γ fun ds Γ1=>∃ d d',ds=[d,d']/\bW Γ1 i/\bW (Γ1.set i (some (.fz d))) j/\D.nx ((Γ1.set i (some (.fz d))).set j (some (.fz d')))
theorem zv {i j:Nat} {x y:Str} {a b:Expr} {ta:TA} {a3:TA3} {px py pt:Pos} {kt k2 pt2} (hc:X.calm=true) (hN:X.N.Nodup) (hi:X.N[i]?=some x) (hj:X.N[j]?=some y) (hij:i≠j)
  (hx:X.env.scope.names.lookup x=some .local) (hy:X.env.scope.names.lookup y=some .local) (ha:P3A K X [a,b] ta a3)
  (hw:swappedStores [.Tuple [.Name x px,.Name y py] kt pt] (.Tuple [a,b] k2 pt2) X.env=pure (some [x,y]))
  (hs:swapsWithSole [.Tuple [.Name x px,.Name y py] kt pt] (.Tuple [a,b] k2 pt2) pos.line X.env=pure false:=by rfl) :
  P3S K X (.Assign [.Tuple [.Name x px,.Name y py] kt pt] (.Tuple [a,b] k2 pt2) pos) (Hj i j ta) (H8 i j a3):=⟨E_ hc hN hi hj hij hx hy ha.pe hw hs,fun B F σ H Γ D D3 e k q=>
 ha.rf B F σ H Γ _ _ e q fun vs H' ⟨F',Γ',ds,s,e',rv,d,d',h1,h2,h3,q'⟩=>by
  subst h1;obtain⟨v,ws,rfl,r1,w,ws',rfl,r2,r3⟩:=rv;cases r3;refine⟨v,w,rfl,k.nx F' _ H' _ s ?_ q'⟩;exact(e'.set (r:=.fz d) h2 r1).set (r:=.fz d') h3 r2⟩
def gives (Γ:G):List Nat->List D->Option G
 | [],[]=>some Γ
 | i::is,d::ds=>gives (Γ.set i (some (.fz d))) is ds
 | _,_=>none
def frees (Γ:G):List Nat->List D->Prop
 | [],_=>True
 | i::is,d::ds=>bW Γ i/\frees (Γ.set i (some (.fz d))) is ds
 | _,_=>True
def eB:List Nat->TGs
 | []=>Jk
 | i::is=>D7 (ka i) (eB is)
theorem kP {is:List Nat}:∀ {Γ:G} {σ:L2.St} {vs:List V} {ds:List D} {Γ':G} {QQ:L2.St->Hp->Prop},En K B F σ H Γ->ar K F ds vs->gives Γ is ds=some Γ'->frees Γ is ds->(∀ σ',En K B F σ' H Γ'->QQ σ' H)->eB is vs σ H QQ:=by
 induction is with
 | nil=>
  intro Γ σ vs ds Γ' QQ e r g f k;cases ds with
  | nil=>cases g;cases r;exact⟨rfl,k σ e⟩
  | cons d ds=>cases g
 | cons i is ih=>
  intro Γ σ vs ds Γ' QQ e r g f k;cases ds with
  | nil=>cases g
  | cons d ds=>
   obtain⟨v,ws,rfl,r1,r2⟩:=r;exact⟨v,ws,rfl,ih (e.set (r:=.fz d) f.1 r1) r2 g f.2 k⟩
def Dy (is:List Nat) (e3:TE3) (D:E3) (Γ:G):Prop:=e3 Γ fun r Γ1=>∃ ds Γ',r.d=.tup ds/\gives Γ1 is ds=some Γ'/\frees Γ1 is ds/\D.nx Γ'
theorem rP {is:List Nat}:∀ {Γ Γ':G} {ds:List D},gives Γ is ds=some Γ'->ds.length=is.length:=by
 induction is with
 | nil=>intro Γ Γ' ds h;cases ds with | nil=>rfl | cons=>cases h
 | cons i is ih=>intro Γ Γ' ds h;cases ds with | nil=>cases h | cons d ds=>simp [ih h]
theorem eV {es:List Expr} {kt:Nat} {pt:Pos} {is:List Nat} (hK:X.K=K) (he:P3 K X e te e3) (hg:PGs X es (eB is)) (hc:X.calm=true) (hn:(assignEach es X.env).length=is.length:=by rfl) (hst:(assignEach es X.env).findIdx? (·.1)=none:=by rfl)
  (hs:swapsWithSole [.Tuple es kt pt] e pos.line X.env=pure false:=by rfl) (hw:swappedStores [.Tuple es kt pt] e X.env=pure none:=by rfl) (h1:(assignEach [.Tuple es kt pt] X.env).map (·.2)=[assign (.Tuple es kt pt) X.env]:=by rfl) :
  P3S K X (.Assign [.Tuple es kt pt] e pos) (fm te (wm K is.length (eB is))) (Dy is e3):=⟨by subst hK;exact sV he.pe (vM hc hg hn hst) hs hw h1,fun B F σ H Γ D D3 e k q=>
 he.rf B F σ H Γ _ _ e q fun v H' ⟨F',Γ',r,s,e',rv,ds,Γ2,h1,h2,h3,q'⟩=>by
  obtain⟨F2,s2,e2,r2⟩:=e'.frozen rv;rw[h1] at r2;obtain⟨p,vs,rfl,h4,h5⟩:=r2;refine⟨p,vs,rfl,.inl (.inl (e2.sub _ _ h4)),by rw[h5.length,rP h2],kP e2 h5 h2 h3 fun σ' e3=>k.nx F2 σ' _ Γ2 (s.trans s2) e3 q'⟩⟩
def putD (Γ:G) (i:Nat) (d:D):G:=match Γ[i]? with
 | some (some (.ow _))=>Γ.set i (some (.ow d))
 | some (some (.ln _))=>Γ.set i (some (.ln d))
 | _=>Γ
def cf (Γ:G) (i:Nat):Option (List D):=match Γ[i]? with
 | some (some (.ow (.lst xs)))=>some xs
 | some (some (.ln (.lst xs)))=>some xs
 | _=>none
theorem rM {i:Nat} {xs:List D} (h:cf Γ i=some xs):Hld Γ i (.lst xs):=by
 unfold cf at h;split at h
 ·cases h;rename_i q;exact .inl q
 ·cases h;rename_i q;exact .inr q
 ·cases h
theorem En.Ip (e:En K B F σ H Γ) {i:Nat} {d0 d1:D} (hh:Hld Γ i d0) {p:Addr} (hp:σ[i]?=some (some (V.ref p))) {o1:HO} (r:Own K F (upd H p o1) p d1):En K B F σ (upd H p o1) (putD Γ i d1):=by
 obtain⟨p0,a0,b0,c0⟩:=e.hl i _ hh;rw[hp] at a0;cases a0;obtain⟨o,ho⟩:=c0.some;have hput:(Γ[i]?=some (some (Sl.ow d0))/\putD Γ i d1=Γ.set i (some (.ow d1)))\/(Γ[i]?=some (some (Sl.ln d0))/\putD Γ i d1=Γ.set i (some (.ln d1))):=by
  rcases hh with q | q
  ·exact .inl ⟨q,by unfold putD;rw[q]⟩
  ·exact .inr ⟨q,by unfold putD;rw[q]⟩
 have il:i < Γ.length:=by rcases hput with ⟨q,_⟩ | ⟨q,_⟩ <;> exact(gS0 q).1
 have other:∀ {j:Nat},j≠i->(putD Γ i d1)[j]?=Γ[j]?:=fun z=>by
  rcases hput with ⟨_,q⟩ | ⟨_,q⟩ <;> rw[q,aU (Ne.symm z)]
 have same:∀ {s:Sl},(putD Γ i d1)[i]?=some (some s)->(s=.ow d1/\Γ[i]?=some (some (Sl.ow d0)))\/(s=.ln d1/\Γ[i]?=some (some (Sl.ln d0))):=fun {s} q=>by
  rcases hput with ⟨a,b⟩ | ⟨a,b⟩
  ·rw[b,aB il] at q;cases q;exact .inl ⟨rfl,a⟩
  ·rw[b,aB il] at q;cases q;exact .inr ⟨rfl,a⟩
 have hld:∀ {j x},Hld (putD Γ i d1) j x->(j=i/\x=d1)\/(j≠i/\Hld Γ j x):=fun {j x} q=>by
  by_cases z:j=i
  ·subst z
   left
   rcases q with q | q <;> rcases same q with ⟨h,_⟩ | ⟨h,_⟩ <;> cases h <;> exact⟨rfl,rfl⟩
  ·right;exact⟨z,by unfold Hld at q ⊢;rw[other z] at q;exact q⟩
 have hld':∀ {j x},Hld (putD Γ i d1) j x->∃ y,Hld Γ j y:=fun q=>by
  rcases hld q with ⟨rfl,_⟩ | ⟨_,q⟩
  ·exact⟨_,hh⟩
  ·exact⟨_,q⟩
 refine⟨?_,?_,?_,?_,?_,?_,?_,?_,e.keep,e.new,?_,?_⟩
 ·intro b u q;have z:b≠p:=fun z=>by subst z;rw[b0] at q;cases q
  rw[af z];exact e.sub b u q
 ·rcases hput with ⟨_,q⟩ | ⟨_,q⟩ <;> rw[q,List.length_set] <;> exact e.len
 ·intro j d q;by_cases z:j=i
  ·subst z;rcases same q with ⟨h,_⟩ | ⟨h,_⟩ <;> cases h
  ·rw[other z] at q;exact e.fz j d q
 ·intro j d q;rcases hld q with ⟨rfl,rfl⟩ | ⟨z,q⟩
  ·exact⟨p,hp,b0,r⟩
  ·obtain⟨p',a,b,c⟩:=e.hl j d q;have ne:p'≠p:=fun y=>z (e.dis j i _ _ p q hh (y ▸ a) hp);exact⟨p',a,b,c.mono (av.refl F) (af ne)⟩
 ·intro j d p' q a;by_cases z:j=i
  ·subst z;rcases same q with ⟨h,g⟩ | ⟨h,g⟩
   ·exact e.ow j _ p' g a
   ·cases h
  ·rw[other z] at q;exact e.ow j d p' q a
 ·intro j d p' q a;by_cases z:j=i
  ·subst z;rcases same q with ⟨h,g⟩ | ⟨h,g⟩
   ·cases h
   ·exact e.ln j _ p' g a
  ·rw[other z] at q;exact e.ln j d p' q a
 ·intro j k d d' p' q1 q2;obtain⟨y1,h1⟩:=hld' q1;obtain⟨y2,h2⟩:=hld' q2;exact e.dis j k y1 y2 p' h1 h2
 ·intro j p' q;obtain⟨a,d,b⟩:=e.par j p' q;refine⟨a,?_⟩;by_cases z:j=i
  ·subst z;rcases hput with ⟨c,_⟩ | ⟨_,c⟩
   ·rw[b] at c;cases c
   ·exact⟨_,by rw[c,aB il]⟩
  ·exact⟨d,by rw[other z];exact b⟩
 ·intro b u q n;have z:b≠p:=fun z=>by
   subst z;rcases hh with g | g
   ·rw[e.ow i _ _ g hp] at q;cases q
   ·exact n i (e.ln i _ _ g hp)
  rw[af z];exact e.rest b u q n
 ·intro b q;by_cases z:b=p
  ·subst z;rw[ao] at q;cases q
  ·rw[af z] at q;exact e.dom b q
theorem En.mut (e:En K B F σ H Γ) {i:Nat} {xs xs':List D} (h:cf Γ i=some xs) {p:Addr} (hp:σ[i]?=some (some (V.ref p))) {vs':List V} (r:ar K F xs' vs'):En K B F σ (upd H p (.lst vs')) (putD Γ i (.lst xs')):=
 e.Ip (rM h) hp ⟨vs',ao,r⟩
end
section
variable {K:Fg0} {X:Cx} {B:Bs} {F H:Hp} {σ:L2.St} {Γ:G} {pos:Pos}
def newD:On->G->Nat->Option D
 | some j'::ls,s::cs,j=>if j'=j then (match s with
   | some (.ln d)=>some d
   | _=>newD ls cs j) else newD ls cs j
 | none::ls,_::cs,j=>newD ls cs j
 | _,_,_=>none
theorem fc:∀ {ls:On} {cs:G} {j:Nat} {d:D},newD ls cs j=some d->∃ k:Nat,ls[k]?=some (some j)/\cs[k]?=some (some (Sl.ln d))
 | some j'::ls,s::cs,j,d,h=>by
  unfold newD at h;split at h
  ·rename_i e;subst e;split at h
   ·cases h;exact⟨0,rfl,rfl⟩
   ·obtain⟨k,a,b⟩:=fc h;exact⟨k + 1,by simpa using a,by simpa using b⟩
  ·obtain⟨k,a,b⟩:=fc h;exact⟨k + 1,by simpa using a,by simpa using b⟩
 | none::ls,_::cs,j,d,h=>by
  unfold newD at h;obtain⟨k,a,b⟩:=fc h;exact⟨k + 1,by simpa using a,by simpa using b⟩
 | [],_,_,_,h=>by unfold newD at h;cases h
 | some _::_,[],_,_,h=>by unfold newD at h;cases h
 | none::_,[],_,_,h=>by unfold newD at h;cases h
theorem oB:∀ {ls:On} {cs:G} {j k:Nat} {d:D},ls[k]?=some (some j)->cs[k]?=some (some (Sl.ln d))->∃ d',newD ls cs j=some d'
 | [],_,_,_,_,h,_=>by simp at h
 | _::_,[],_,_,_,_,h=>by simp at h
 | some j'::ls,s::cs,j,0,d,h,h'=>by
  simp at h h';subst h h';exact⟨d,by unfold newD;rw[if_pos rfl]⟩
 | none::ls,s::cs,j,0,d,h,h'=>by simp at h
 | some j'::ls,s::cs,j,k + 1,d,h,h'=>by
  unfold newD;split
  ·split
   ·exact⟨_,rfl⟩
   ·exact oB (k:=k) (by simpa using h) (by simpa using h')
  ·exact oB (k:=k) (by simpa using h) (by simpa using h')
 | none::ls,s::cs,j,k + 1,d,h,h'=>by
  unfold newD;exact oB (k:=k) (by simpa using h) (by simpa using h')
def iB (n:Option D):Option Sl->Option Sl
 | some (.ow d)=>some (.ow (n.getD d))
 | some (.ln d)=>some (.ln (n.getD d))
 | s=>s
def bB (ls:On) (Γ cs:G):G:=Γ.mapIdx fun j s=>iB (newD ls cs j) s
theorem c6 {ls:On} {cs:G} {j:Nat}:(bB ls Γ cs)[j]?=(Γ[j]?).map (iB (newD ls cs j)):=by
 unfold bB;rw[List.getElem?_mapIdx]
theorem En.back {F1 H1:Hp} {own':List (Nat×Addr)} {σc:L2.St} {Γc:G} {ls:On} (e:En K B F1 σ H1 Γ) (e2:En K ⟨F1,H1,own'⟩ F σc H Γc)
  (h1:∀ k p,(k,p)∈own'->∃ j d,ls[k]?=some (some j)/\Hld Γ j d/\σ[j]?=some (some (V.ref p))):En K B F σ H (bB ls Γ Γc):=by
 have gfz:∀ {j d},(bB ls Γ Γc)[j]?=some (some (Sl.fz d))->Γ[j]?=some (some (Sl.fz d)):=fun {j d} q=>by
  rw[c6] at q;cases w:Γ[j]? with
  | none=>rw[w] at q;cases q
  | some s=>
   rw[w] at q;cases s with
   | none=>cases q
   | some s=>cases s <;> cases q;rfl
 have gow:∀ {j d},(bB ls Γ Γc)[j]?=some (some (Sl.ow d))->∃ d0,Γ[j]?=some (some (Sl.ow d0))/\d=(newD ls Γc j).getD d0:=fun {j d} q=>by
  rw[c6] at q;cases w:Γ[j]? with
  | none=>rw[w] at q;cases q
  | some s=>
   rw[w] at q;cases s with
   | none=>cases q
   | some s=>cases s <;> cases q;exact⟨_,rfl,rfl⟩
 have gln:∀ {j d},(bB ls Γ Γc)[j]?=some (some (Sl.ln d))->∃ d0,Γ[j]?=some (some (Sl.ln d0))/\d=(newD ls Γc j).getD d0:=fun {j d} q=>by
  rw[c6] at q;cases w:Γ[j]? with
  | none=>rw[w] at q;cases q
  | some s=>
   rw[w] at q;cases s with
   | none=>cases q
   | some s=>cases s <;> cases q;exact⟨_,rfl,rfl⟩
 have gh:∀ {j d},Hld (bB ls Γ Γc) j d->∃ d0,Hld Γ j d0/\d=(newD ls Γc j).getD d0:=fun {j d} q=>by
  rcases q with q | q
  ·obtain⟨d0,a,b⟩:=gow q;exact⟨d0,.inl a,b⟩
  ·obtain⟨d0,a,b⟩:=gln q;exact⟨d0,.inr a,b⟩
 refine⟨e2.sub,by unfold bB;rw[List.length_mapIdx];exact e.len,?_,?_,?_,?_,?_,?_,e.keep.trans e2.keep,?_,?_,?_⟩
 ·intro j d q;obtain⟨v,a,b⟩:=e.fz j d (gfz q);exact⟨v,a,b.mono e2.keep⟩
 ·intro j d q;obtain⟨d0,w0,rfl⟩:=gh q;obtain⟨p,a,b,c⟩:=e.hl j d0 w0;obtain⟨o,ho⟩:=c.some;have fp:F p=none:=by
   cases w:F p with
   | none=>rfl
   | some u=>
    rcases e2.new p u w with z | z
    ·rw[show F1 p=some u from z] at b;cases b
    ·rw[show H1 p=none from z] at ho;cases ho
  refine⟨p,a,fp,?_⟩;cases w:newD ls Γc j with
  | some d'=>
   obtain⟨k,x,y⟩:=fc w;obtain⟨p',a',b',c'⟩:=e2.hl k d' (.inr y);obtain⟨j2,d2,x2,_,a2⟩:=h1 k p' (e2.ln k d' p' y a');rw[x] at x2;cases x2;rw[a] at a2;cases a2;exact c'
  | none=>
   have hk:∀ k,(k,p)∉own':=fun k hk=>by
    obtain⟨j2,d2,x2,q2,a2⟩:=h1 k p hk;obtain⟨_,d3,y⟩:=e2.par k p hk;have:j2=j:=e.dis j2 j d2 d0 p q2 w0 a2 a;subst this;obtain⟨d4,z⟩:=oB x2 y;rw[w] at z;cases z
   have hp:H p=H1 p:=by rw[ho];exact e2.rest p o ho hk
   exact c.mono e2.keep hp
 ·intro j d p q a;obtain⟨d0,q,_⟩:=gow q;exact e.ow j d0 p q a
 ·intro j d p q a;obtain⟨d0,q,_⟩:=gln q;exact e.ln j d0 p q a
 ·intro i j d d' p q1 q2;obtain⟨d0,q1,_⟩:=gh q1;obtain⟨d1,q2,_⟩:=gh q2;exact e.dis i j d0 d1 p q1 q2
 ·intro j p q;obtain⟨a,d,b⟩:=e.par j p q;exact⟨a,_,by rw[c6,b];rfl⟩
 ·intro b o q;rcases e2.new b o q with z | z
  ·exact e.new b o z
  ·exact .inr (e.dom b z)
 ·intro b o q n;have q1:=e.rest b o q n;refine e2.rest b o q1 fun k hk=>?_;obtain⟨j,d,x,y,a⟩:=h1 k b hk;rcases y with y | y
  ·rw[e.ow j d b y a] at q;cases q
  ·exact n j (e.ln j d b y a)
 ·intro b q;exact e.dom b (e2.dom b q)
structure ItR (K:Fg0) (F:Hp) (J:It) (xs:List D):Prop where
 go:∀ i H',av F H'->i < xs.length->J.go i H'
 stop:∀ i H',av F H'->i=xs.length->J.stop i H'
 yld:∀ i H' x H'' d,av F H'->xs[i]?=some d->J.yld i H' x H''->(H''=H'/\Rep K F d x)\/∃ t vs ds,H' t=none/\H''=upd H' t (.tup vs)/\x=.ref t/\ar K F ds vs/\d=.tup ds
abbrev TI3:=G->(List D->G->Prop)->Prop
def Bw (K:Fg0) (t:TI) (i3:TI3):Prop:=∀ (B:Bs) (F:Hp) (σ:L2.St) (H:Hp) (Γ:G) (Q:List D->G->Prop) (R:It->Hp->Prop),En K B F σ H Γ->i3 Γ Q->(∀ J H1 F1 Γ1 xs,av F F1->En K B F1 σ H1 Γ1->ItR K F1 J xs->Q xs Γ1->R J H1)->t σ H R
structure P3I (K:Fg0) (X:Cx) (tg iter:Expr) (t:TI) (i3:TI3):Prop where
 pe:PI X tg iter t
 rf:Bw K t i3
abbrev TG3:=D->G->(G->Prop)->Prop
def yX (K:Fg0) (g:TG) (g3:TG3):Prop:=∀ (B:Bs) (F:Hp) (σ:L2.St) (H:Hp) (Γ:G) (v:V) (d:D) (Q:G->Prop) (QQ:L2.St->Hp->Prop),En K B F σ H Γ->Rep K F d v->g3 d Γ Q->(∀ σ' Γ',En K B F σ' H Γ'->Q Γ'->QQ σ' H)->g v σ H QQ
structure P3G (K:Fg0) (X:Cx) (tg:Expr) (g:TG) (g3:TG3):Prop where
 pe:PG X tg g
 rf:yX K g g3
def tgN (i:Nat) (d:D) (Γ:G) (Q:G->Prop):Prop:=bW Γ i/\Q (Γ.set i (some (.fz d)))
def tgT (is:List Nat) (d:D) (Γ:G) (Q:G->Prop):Prop:=∃ ds Γ',d=.tup ds/\gives Γ is ds=some Γ'/\frees Γ is ds/\Q Γ'
theorem aP {i:Nat} {x:Str} (hN:X.N.Nodup) (hi:X.N[i]?=some x) (hx:Loc X.env.scope x) (hf:X.fn x=true\/X.env.scope.names.lookup x=some .local:=by first | exact .inl rfl | exact .inr rfl | assumption):P3G K X (.Name x pos) (ka i) (tgN i):=
 ⟨aA hN hi hx hf,fun B F σ H Γ v d Q QQ e r q k=>k _ _ (e.set (r:=.fz d) q.1 r) q.2⟩
theorem gj {es:List Expr} {kt:Nat} {is:List Nat} (hK:X.K=K) (hg:PGs X es (eB is)) (hc:X.calm=true) (hn:(assignEach es X.env).length=is.length:=by rfl) (hst:(assignEach es X.env).findIdx? (·.1)=none:=by rfl) :
  P3G K X (.Tuple es kt pos) (wm K is.length (eB is)) (tgT is):=⟨by subst hK;exact vM hc hg hn hst,fun B F σ H Γ v d Q QQ e r q k=>by
 obtain⟨ds,Γ',rfl,h1,h2,q⟩:=q;obtain⟨p,vs,rfl,h4,h5⟩:=r;exact⟨p,vs,rfl,.inl (.inl (e.sub _ _ h4)),by rw[h5.length,rP h1],kP e h5 h1 h2 fun σ' e'=>k σ' Γ' e' q⟩⟩
theorem ItR.turn {J:It} {xs:List D} (R:ItR K F J xs) {F' H' H'':Hp} (s:av F F') (e:En K B F' σ H' Γ) {i:Nat} {d:D} {x:V} (hd:xs[i]?=some d) (y:J.yld i H' x H''):∃ F2,av F' F2/\En K B F2 σ H'' Γ/\Rep K F2 d x:=by
 rcases R.yld i H' x H'' d (s.trans e.sub) hd y with ⟨rfl,r⟩ | ⟨t,vs,ds,h1,rfl,rfl,r,rfl⟩
 ·exact⟨F',av.refl F',e,r.mono s⟩
 ·exact⟨upd F' t (.tup vs),aT (e.nof h1),(e.alloc h1 _).freeze (e.nof h1) ao (e.dom _ h1) (e.jf h1),t,vs,rfl,ao,r.mono (s.trans (aT (e.nof h1)))⟩
def GO (i3:TI3) (g3:TG3) (b3:TS3) (D:E3) (Γ:G):Prop:=i3 Γ fun xs Γ1=>∃ Iv:Nat->G->Prop,Iv 0 Γ1/\(∀ k d Γ,xs[k]?=some d->Iv k Γ->g3 d Γ fun Γ'=>b3 { D with nx:=Iv (k + 1),ct:=Iv (k + 1),bk:=D.nx } Γ')/\∀ Γ,Iv xs.length Γ->D.nx Γ
theorem fF {tg iter:Expr} {body:List Stmt} {wi:TI} {i3:TI3} {g:TG} {g3:TG3} {tb:TS} {b3:TS3} (hp:PassesOwn (model X.prog X.w) X.A X.env X.xe) (hc:X.calm=true) (hi:P3I K X tg iter wi i3) (hg:P3G K X tg g g3) (hb:qY K X body tb b3) (hs:∀ x,foldedSetIterable iter X.env x=pure x:=by intro _;rfl) :
  P3S K X (.For tg iter body [] pos) (EG wi g tb) (GO i3 g3 b3):=⟨zN hp hc hi.pe hg.pe hb.pe hs,fun B F σ H Γ D D3 e k q=>by
 refine hi.rf B F σ H Γ _ _ e q fun J H1 F1 Γ1 xs s1 e1 R ⟨Iv,i0,it,ie⟩=>?_;refine⟨fun i m σ H=>m=xs.length - i/\i<=xs.length/\∃ F' Γ',av F1 F'/\En K B F' σ H Γ'/\Iv i Γ',⟨_,rfl,Nat.zero_le _,F1,Γ1,av.refl _,e1,i0⟩,?_⟩;rintro i m σ2 H2 ⟨rfl,hi',F2,Γ2,s2,e2,iv⟩;by_cases lt:i < xs.length
 ·refine .inr ⟨R.go i H2 (s2.trans e2.sub) lt,fun σ' H'=>∃ F' Γ',av F1 F'/\En K B F' σ' H' Γ'/\Iv (i + 1) Γ',fun σ' H' ⟨F',Γ',a,b,c⟩=>⟨xs.length - (i + 1),by omega,rfl,lt,F',Γ',a,b,c⟩,fun x H3 y=>?_⟩;have hd:xs[i]?=some xs[i]:=gE0 lt;obtain⟨F3,s3,e3,r3⟩:=R.turn s2 e2 hd y;refine hg.rf B F3 σ2 H3 Γ2 x _ _ _ e3 r3 (it i _ Γ2 hd iv) fun σ' Γ' e4 q4=>?_;have s4:=s2.trans s3;refine hb.rf B F3 σ' H3 Γ' _ { D3 with nx:=Iv (i + 1),ct:=Iv (i + 1),bk:=D3.nx } e4 ⟨fun F' σ' H' Γ' s e q=>⟨F',Γ',s4.trans s,e,q⟩,fun F' σ' H' Γ' v r s e rv q=>k.rt F' σ' H' Γ' v r ((s1.trans s4).trans s) e rv q,fun F' σ' H' Γ' s e q=>k.nx F' σ' H' Γ' ((s1.trans s4).trans s) e q,fun F' σ' H' Γ' s e q=>⟨F',Γ',s4.trans s,e,q⟩⟩ q4
 ·have z:i=xs.length:=by omega
  subst z;exact .inl ⟨R.stop _ H2 (s2.trans e2.sub) rfl,k.nx F2 σ2 H2 Γ2 (s1.trans s2) e2 (ie Γ2 iv)⟩⟩
def iL3 (a3:TE3) (Γ:G) (Q:List D->G->Prop):Prop:=a3 Γ fun r Γ1=>∃ xs,r.d=.lst xs/\Q xs Γ1
theorem cu {tg l:Expr} {tl:TE} {l3:TE3} (hK:X.K=K) (h:P3 K X l tl l3):P3I K X tg l (DT K tl) (iL3 l3):=⟨by subst hK;exact Ce h.pe,fun B F σ H Γ Q R e q k=>
 h.rf B F σ H Γ _ _ e q fun v H' ⟨F',Γ',r,s,e',rv,xs,hx,q'⟩=>by
  obtain⟨F2,s2,e2,r2⟩:=e'.frozen rv;rw[hx] at r2;obtain⟨p,vs,rfl,h1,h2⟩:=r2;refine⟨p,rfl,⟨vs,SqL.of (e2.sub _ _ h1)⟩,k _ H' F2 Γ' xs (s.trans s2) e2 ⟨fun i H'' sm lt=>?_,fun i H'' sm ei=>?_,fun i H'' x H3 d sm hd y=>?_⟩ q'⟩
  ·rw[<- h2.length] at lt;exact⟨vs,vs[i],SqL.of (sm _ _ h1),by simp [lt]⟩
  ·exact⟨vs,SqL.of (sm _ _ h1),by rw[h2.length];omega⟩
  ·obtain⟨e1,y⟩:=y;obtain⟨d',hd',r⟩:=h2.GC (y vs (SqL.of (sm _ _ h1)));rw[hd] at hd';cases hd';exact .inl ⟨e1,r⟩⟩
def rng (lo:Int) (n:Nat):List D:=(List.range n).map fun (k:Nat)=>D.int (lo + (k:Int))
theorem DB {lo:Int} {n:Nat}:ItR K F (Itr lo n) (rng lo n):=by
 have hl:(rng lo n).length=n:=by simp [rng]
 refine⟨fun i H' _ lt=>by rw[hl] at lt;exact lt,fun i H' _ e=>by rw[hl] at e;exact Nat.le_of_eq e.symm,fun i H' x H'' d _ hd y=>?_⟩;obtain⟨e1,e2⟩:=y;subst e1 e2;refine .inl ⟨rfl,?_⟩;have hi:i < n:=by have:=(gS0 hd).1;rw[hl] at this;exact this
 have:(rng lo n)[i]?=some (.int (lo + i)):=by unfold rng;rw[List.getElem?_map,List.getElem?_range hi];rfl
 rw[this] at hd;cases hd
 rfl
def iR1 (t3:TA3) (Γ:G) (Q:List D->G->Prop):Prop:=t3 Γ fun ds Γ1=>∃ j:Int,ds=[.int j]/\-(2 ^ 62)<=j/\j < 2 ^ 62/\Q (rng 0 j.toNat) Γ1
def iR2 (t3:TA3) (Γ:G) (Q:List D->G->Prop):Prop:=t3 Γ fun ds Γ1=>∃ i j:Int,ds=[.int i,.int j]/\(-(2 ^ 62)<=i/\i < 2 ^ 62/\-(2 ^ 62)<=j/\j < 2 ^ 62)/\Q (rng i (j - i).toNat) Γ1
theorem bI {tg a:Expr} {ta:TA} {a3:TA3} {p pos:Pos} (hg:Gl X "range") (hm:X.mg "range"=none) (ha:P3A K X [a] ta a3) (hs:starEach [a] X.env=[(false,eval a X.env)]:=by rfl):P3I K X tg (.Call (.Name "range" p) [a] [] pos) (DS ta) (iR1 a3):=⟨yq hg hm ha.pe hs,fun B F σ H Γ Q R e q k=>
 ha.rf B F σ H Γ _ _ e q fun vs H' ⟨F',Γ',ds,s,e',rv,j,h1,h2,h3,q'⟩=>by
  subst h1;obtain⟨v,ws,rfl,r1,r2⟩:=rv;cases r1;cases r2;exact⟨j,rfl,h2,h3,k _ H' F' Γ' _ s e' DB q'⟩⟩
theorem jQ {tg a b:Expr} {ta:TA} {a3:TA3} {p pos:Pos} (hg:Gl X "range") (hm:X.mg "range"=none) (ha:P3A K X [a,b] ta a3) (hs:starEach [a,b] X.env=[(false,eval a X.env),(false,eval b X.env)]:=by rfl) (hs2:starEach [b] X.env=[(false,eval b X.env)]:=by rfl) :
  P3I K X tg (.Call (.Name "range" p) [a,b] [] pos) (DR ta) (iR2 a3):=⟨yp hg hm ha.pe hs hs2,fun B F σ H Γ Q R e q k=>
 ha.rf B F σ H Γ _ _ e q fun vs H' ⟨F',Γ',ds,s,e',rv,i,j,h1,h2,q'⟩=>by
  subst h1;obtain⟨v,ws,rfl,r1,w,ws',rfl,r2,r3⟩:=rv;cases r1;cases r2;cases r3;exact⟨i,j,rfl,h2,k _ H' F' Γ' _ s e' DB q'⟩⟩
def nV (xs ys:List D):List D:=(xs.zip ys).map fun p=>.tup [p.1,p.2]
def iZ3 (t3:TA3) (Γ:G) (Q:List D->G->Prop):Prop:=t3 Γ fun ds Γ1=>∃ xs ys,ds=[.lst xs,.lst ys]/\Q (nV xs ys) Γ1
theorem kU {xs ys:List D} {i:Nat} {d:D} (h:(nV xs ys)[i]?=some d):∃ x y,xs[i]?=some x/\ys[i]?=some y/\d=.tup [x,y]:=by
 unfold nV at h;rw[List.getElem?_map] at h;cases q:(xs.zip ys)[i]? with
 | none=>rw[q] at h;cases h
 | some p=>
  rw[q] at h;cases h;rw[List.getElem?_zip_eq_some] at q;exact⟨_,_,q.1,q.2,rfl⟩
theorem AF {a b:Expr} {ta:TA} {a3:TA3} {es:List Expr} {kt:Nat} {tp p pos:Pos} (hg:Gl X "zip") (hm:X.mg "zip"=none) (ha:P3A K X [a,b] ta a3) (hs:starEach [a,b] X.env=[(false,eval a X.env),(false,eval b X.env)]:=by rfl) (hs2:starEach [b] X.env=[(false,eval b X.env)]:=by rfl) :
  P3I K X (.Tuple es kt tp) (.Call (.Name "zip" p) [a,b] [] pos) (IX ta) (iZ3 a3):=⟨Ff hg hm ha.pe hs hs2,fun B F σ H Γ Q R e q k=>
 ha.rf B F σ H Γ _ _ e q fun vs H' ⟨F',Γ',ds,s,e',rv,xs,ys,h1,q'⟩=>by
  subst h1;obtain⟨v,ws,rfl,⟨p1,vs1,rfl,g1,r1⟩,w,ws',rfl,⟨p2,vs2,rfl,g2,r2⟩,r3⟩:=rv;cases r3;refine⟨p1,p2,vs1,vs2,rfl,e'.sub _ _ g1,e'.sub _ _ g2,k _ H' F' Γ' _ s e' ⟨fun i H'' sm lt=>?_,fun i H'' sm ei=>?_,fun i H'' x H3 d sm hd y=>?_⟩ q'⟩
  ·obtain⟨x,y,hx,hy,_⟩:=kU (gE0 lt);obtain⟨v,hv,_⟩:=r1.get hx;obtain⟨w,hw,_⟩:=r2.get hy;exact⟨vs1,vs2,v,w,sm _ _ g1,sm _ _ g2,hv,hw⟩
  ·refine⟨vs1,vs2,sm _ _ g1,sm _ _ g2,?_⟩;subst ei;unfold nV;rw[lM0,List.length_zip,r1.length,r2.length];omega
  ·obtain⟨t,zs1,zs2,x1,y1,ht,a1,a2,b1,b2,rfl,rfl⟩:=y;rw[sm _ _ g1] at a1;cases a1;rw[sm _ _ g2] at a2;cases a2;obtain⟨dx,dy,hx,hy,rfl⟩:=kU hd;obtain⟨v,hv,rv⟩:=r1.get hx;obtain⟨w,hw,rw'⟩:=r2.get hy;rw[b1] at hv;cases hv;rw[b2] at hw;cases hw;exact .inr ⟨t,_,[dx,dy],ht,rfl,rfl,⟨_,_,rfl,rv,_,_,rfl,rw',rfl⟩,rfl⟩⟩
def qg (xs:List D):List D:=xs.mapIdx fun i x=>.tup [.int i,x]
def iE3 (t3:TA3) (Γ:G) (Q:List D->G->Prop):Prop:=t3 Γ fun ds Γ1=>∃ xs,ds=[.lst xs]/\Q (qg xs) Γ1
theorem mW {xs:List D} {i:Nat} {d:D} (h:(qg xs)[i]?=some d):∃ x,xs[i]?=some x/\d=.tup [.int i,x]:=by
 unfold qg at h;rw[List.getElem?_mapIdx] at h;cases q:xs[i]? with
 | none=>rw[q] at h;cases h
 | some p=>rw[q] at h;cases h;exact⟨_,rfl,rfl⟩
theorem xA {a:Expr} {ta:TA} {a3:TA3} {es:List Expr} {kt:Nat} {tp p pos:Pos} (hg:Gl X "enumerate") (hm:X.mg "enumerate"=none) (ha:P3A K X [a] ta a3) (hs:starEach [a] X.env=[(false,eval a X.env)]:=by rfl) :
  P3I K X (.Tuple es kt tp) (.Call (.Name "enumerate" p) [a] [] pos) (DU ta) (iE3 a3):=⟨Cf hg hm ha.pe hs,fun B F σ H Γ Q R e q k=>
 ha.rf B F σ H Γ _ _ e q fun vs H' ⟨F',Γ',ds,s,e',rv,xs,h1,q'⟩=>by
  subst h1;obtain⟨v,ws,rfl,⟨p1,vs1,rfl,g1,r1⟩,r3⟩:=rv;cases r3;refine⟨p1,vs1,rfl,e'.sub _ _ g1,k _ H' F' Γ' _ s e' ⟨fun i H'' sm lt=>?_,fun i H'' sm ei=>?_,fun i H'' x H3 d sm hd y=>?_⟩ q'⟩
  ·obtain⟨x,hx,_⟩:=mW (gE0 lt);obtain⟨v,hv,_⟩:=r1.get hx;exact⟨vs1,v,sm _ _ g1,hv⟩
  ·refine⟨vs1,sm _ _ g1,?_⟩;subst ei;unfold qg;rw[List.length_mapIdx,r1.length];exact Nat.le_refl _
  ·obtain⟨t,zs1,x1,ht,a1,b1,rfl,rfl⟩:=y;rw[sm _ _ g1] at a1;cases a1;obtain⟨dx,hx,rfl⟩:=mW hd;obtain⟨v,hv,rv⟩:=r1.get hx;rw[b1] at hv;cases hv;exact .inr ⟨t,_,[.int i,dx],ht,rfl,rfl,⟨_,_,rfl,rfl,_,_,rfl,rv,rfl⟩,rfl⟩⟩
theorem sv {p:Addr} {vs:List V} (h:H p=some (.lst vs)):tyV K "list" (.ref p) H:=.inl ⟨rfl,_,SqL.of h⟩
theorem En.cf (e:En K B F σ H Γ) {i:Nat} {xs:List D} (h:cf Γ i=some xs):∃ p vs,σ[i]?=some (some (V.ref p))/\H p=some (.lst vs)/\ar K F xs vs:=by
 obtain⟨p,a,b,vs,c,d⟩:=e.hl i _ (rM h);exact⟨p,vs,a,c,d⟩
def GY (i:Nat) (e3:TE3) (Γ:G) (Q:RV->G->Prop):Prop:=(∃ xs,cf Γ i=some xs)/\e3 Γ fun r Γ1=>∃ xs,cf Γ1 i=some xs/\xs.length < sizeLine/\Q (.fz .non) (putD Γ1 i (.lst (xs++[r.d])))
theorem B1 {te:TE} {e3:TE3} (i:Nat) (h:Ref K te e3):Ref K (tBM K "list" sQ (bX i) (k9 te nW)) (GY i e3):=by
 intro B F σ H Γ Q QQ e ⟨⟨xs0,h0⟩,q⟩ k;obtain⟨p,vs0,a0,b0,_⟩:=e.cf h0;refine⟨_,a0,sv b0,h B F σ H Γ _ _ e q fun v H' ⟨F',Γ',r,s,e',rv,xs,hx,hz,q'⟩=>?_⟩;obtain⟨F2,s2,e2,r2⟩:=e'.frozen rv;obtain⟨p',vs,a,b,c⟩:=e2.cf hx;rw[a0] at a;cases a;exact⟨p,vs,v,rfl,rfl,b,by rw[c.length];exact hz,k _ _ ⟨F2,_,.fz .non,s.trans s2,e2.mut hx a0 (ar.append (ys:=[r.d]) c ⟨v,[],rfl,r2,rfl⟩),rfl,q'⟩⟩
def ext3 (i:Nat) (b3:TB3) (Γ:G) (Q:RV->G->Prop):Prop:=(∃ xs,cf Γ i=some xs)/\b3 Γ fun r Γ1=>∃ xs ys,cf Γ1 i=some xs/\r.at Γ1=some (.lst ys)/\xs.length + ys.length<=sizeLine/\Q (.fz .non) (putD Γ1 i (.lst (xs++ys)))
theorem B0 {te:TE} {e3:TB3} (i:Nat) (h:qw K te e3):Ref K (tBM K "list" sP (bX i) (k9 te nW)) (ext3 i e3):=by
 intro B F σ H Γ Q QQ e ⟨⟨xs0,h0⟩,q⟩ k;obtain⟨p,vs0,a0,b0,_⟩:=e.cf h0;refine⟨_,a0,sv b0,h B F σ H Γ _ _ e q fun v H' ⟨F2,Γ',r,s,e2,rv,xs,ys,hx,hy,hz,q'⟩=>?_⟩;obtain⟨p2,ws,rfl,b2,c2⟩:=e2.bo rv hy;obtain⟨p',vs,a,b,c⟩:=e2.cf hx;rw[a0] at a;cases a;exact⟨p,p2,vs,ws,rfl,rfl,b,b2,by rw[c.length,c2.length];exact hz,k _ _ ⟨F2,_,.fz .non,s,e2.mut hx a0 (c.append c2),rfl,q'⟩⟩
def Et (i:Nat) (f:List D->List D) (Γ:G) (Q:RV->G->Prop):Prop:=∃ xs,cf Γ i=some xs/\Q (.fz .non) (putD Γ i (.lst (f xs)))
theorem yi (i:Nat):Ref K (EH K "list" vJ (bX i)) (Et i fun _=>[]):=by
 intro B F σ H Γ Q QQ e ⟨xs0,h0,q⟩ k;obtain⟨p,vs0,a0,b0,c0⟩:=e.cf h0;exact⟨_,a0,sv b0,p,vs0,rfl,rfl,b0,k _ _ ⟨F,_,.fz .non,av.refl F,e.mut h0 a0 (xs':=[]) rfl,rfl,q⟩⟩
variable {o e:Expr} {te:TE} {e3:TE3} {eb:TB3} {apos cpos:Pos}
theorem jM (i:Nat) {x:Str} {px:Pos} (hK:X.K=K) (hx:P3B K X (.Name x px) (bX i) (bor i)) (he:P3 K X e te e3) (hbase:attributeBase (.Name x px) "append" X.env (eval (.Name x px) X.env)=eval (.Name x px) X.env:=by rfl)
  (hfew:((backTo cpos (starEach [e] X.env)).all (fun x=>!x.1) && (backToKw cpos (keywordEach [] X.env)).all (fun x=>x.1.isSome)
   && decide ([e].length + ([]:List Keyword).length + (if ([]:List Keyword).isEmpty then 0 else 1) < 30))=true:=by rfl)
  (hline:(apos.endLine == cpos.line)=true:=by rfl) (hs:starEach [e] X.env=(false,eval e X.env)::starEach [] X.env:=by rfl) (hplain:(backTo cpos (starEach [] X.env)).any (·.1)=false:=by rfl) :
  P3 K X (.Call (.Attribute (.Name x px) "append" apos) [e] [] cpos) (tBM K "list" sQ (bX i) (k9 te nW)) (GY i e3):=
 ⟨by subst hK;exact DI PySem.F.plainAttrs_list PySem.F.slot_list_append PySem.F.type_list_append yD hx.pe (jK he.pe pC hs) hbase hfew hline hs hplain,B1 i he.rf⟩
theorem rF (i:Nat) {x:Str} {px:Pos} (hK:X.K=K) (hx:P3B K X (.Name x px) (bX i) (bor i)) (he:P3B K X e te eb) (hbase:attributeBase (.Name x px) "extend" X.env (eval (.Name x px) X.env)=eval (.Name x px) X.env:=by rfl)
  (hfew:((backTo cpos (starEach [e] X.env)).all (fun x=>!x.1) && (backToKw cpos (keywordEach [] X.env)).all (fun x=>x.1.isSome)
   && decide ([e].length + ([]:List Keyword).length + (if ([]:List Keyword).isEmpty then 0 else 1) < 30))=true:=by rfl)
  (hline:(apos.endLine == cpos.line)=true:=by rfl) (hs:starEach [e] X.env=(false,eval e X.env)::starEach [] X.env:=by rfl) (hplain:(backTo cpos (starEach [] X.env)).any (·.1)=false:=by rfl) :
  P3 K X (.Call (.Attribute (.Name x px) "extend" apos) [e] [] cpos) (tBM K "list" sP (bX i) (k9 te nW)) (ext3 i eb):=
 ⟨by subst hK;exact DI PySem.F.plainAttrs_list PySem.F.slot_list_extend PySem.F.type_list_extend yC hx.pe (jK he.pe pC hs) hbase hfew hline hs hplain,B0 i he.rf⟩
theorem Ag (i:Nat) {x:Str} {px:Pos} (hK:X.K=K) (hx:P3B K X (.Name x px) (bX i) (bor i)) (hbase:attributeBase (.Name x px) "clear" X.env (eval (.Name x px) X.env)=eval (.Name x px) X.env:=by rfl) (hline:(apos.endLine == cpos.line)=true:=by rfl) :
  P3 K X (.Call (.Attribute (.Name x px) "clear" apos) [] [] cpos) (EH K "list" vJ (bX i)) (Et i fun _=>[]):=
 ⟨by subst hK;exact Fq PySem.F.plainAttrs_list PySem.F.slot_list_clear PySem.F.type_list_clear Ao hx.pe hbase hline,yi i⟩
def wZ (i:Nat) (k3:TB3) (e3:TE3) (D:E3) (Γ:G):Prop:=e3 Γ fun r Γ1=>(∃ xs,cf Γ1 i=some xs)/\k3 Γ1 fun b Γ2=>∃ xs k j,cf Γ2 i=some xs/\b.at Γ2=some (.int k)/\ixN xs.length k=some j/\D.nx (putD Γ2 i (.lst (xs.set j r.d)))
theorem BR (i:Nat) {x:Str} {px p2:Pos} {k:Expr} {tk:TE} {k3:TB3} (hx:P3B K X (.Name x px) (bX i) (bor i)) (hk:P3B K X k tk k3) (he:P3 K X e te e3) (pe:PS X (.Assign [.Subscript (.Name x px) k p2] e pos) (fm te (p7 (bX i) tk i5))) :
  P3S K X (.Assign [.Subscript (.Name x px) k p2] e pos) (fm te (p7 (bX i) tk i5)) (wZ i k3 e3):=⟨pe,fun B F σ H Γ D D3 e k q=>
 he.rf B F σ H Γ _ _ e q fun v H' ⟨F',Γ',r,s,e',rv,⟨xs0,h0⟩,q'⟩=>by
  obtain⟨F2,s2,e2,r2⟩:=e'.frozen rv;obtain⟨p,vs0,a0,b0,_⟩:=e2.cf h0;refine⟨_,a0,hk.rf B F2 σ H' Γ' _ _ e2 q' fun u H2 ⟨F3,Γ3,bo,s3,e3,rb,xs,kk,j,hx,hb,hj,q3⟩=>?_⟩;obtain⟨p',vs,a,b,c⟩:=e3.cf hx;rw[a0] at a;cases a;have hu:u=.int kk:=e3.bo rb hb;exact⟨p,vs,kk,j,rfl,hu,b,by rw[c.length];exact hj,k.nx F3 σ _ _ ((s.trans s2).trans s3) (e3.mut hx a0 (ar.set (r2.mono s3) j c)) q3⟩⟩
end
section
variable {K:Fg0} {X:Cx} {B:Bs} {F H:Hp} {σ:L2.St} {Γ:G} {pos:Pos}
def gL:Option (Option Sl)->Option Sl
 | some (some (.fz d))=>some (.fz d)
 | some (some (.ow d))=>some (.ln d)
 | some (some (.ln d))=>some (.ln d)
 | _=>none
def qX (Γ:G):Bo->Option Sl
 | .d x=>some (.fz x)
 | .v i=>gL Γ[i]?
def bZ:Option Bo->Option Nat
 | some (.v i)=>some i
 | _=>none
def Ak (Γ:G) (σ:L2.St) (k:Nat):Option Bo->Option (Nat×Addr)
 | some (.v i)=>match Γ[i]?,σ[i]? with
  | some (some (.ow _)),some (some (.ref p))=>some (k,p)
  | some (some (.ln _)),some (some (.ref p))=>some (k,p)
  | _,_=>none
 | _=>none
def ownOf (Γ:G) (σ:L2.St) (bs:List (Option Bo)):List (Nat×Addr):=(List.range bs.length).filterMap fun k=>(bs[k]?).bind (Ak Γ σ k)
theorem jN {bs:List (Option Bo)} {k:Nat} {p:Addr}:(k,p)∈ownOf Γ σ bs↔∃ i d,bs[k]?=some (some (Bo.v i))/\Hld Γ i d/\σ[i]?=some (some (V.ref p)):=by
 unfold ownOf;rw[List.mem_filterMap];constructor
 ·rintro⟨k',_,h⟩;cases q:bs[k']? with
  | none=>rw[q] at h;cases h
  | some o=>
   rw[q] at h;change Ak Γ σ k' o=some (k,p) at h;unfold Ak at h;split at h
   ·rename_i i;split at h
    ·rename_i d p' h1 h2;cases h;exact⟨i,d,q,.inl h1,h2⟩
    ·rename_i d p' h1 h2;cases h;exact⟨i,d,q,.inr h1,h2⟩
    ·cases h
   ·cases h
 ·rintro⟨i,d,h1,h2,h3⟩;refine⟨k,List.mem_range.mpr (gS0 h1).1,?_⟩;rw[h1];show Ak Γ σ k (some (Bo.v i))=_;unfold Ak;rcases h2 with h2 | h2
  ·simp only[h2,h3]
  ·simp only[h2,h3]
def du (Γ:G) (bs:List (Option Bo)):G:=bs.map fun o=>o.bind (qX Γ)
theorem gM {bs:List (Option Bo)} {k:Nat} {s:Sl}:(du Γ bs)[k]?=some (some s)↔∃ bo,bs[k]?=some (some bo)/\qX Γ bo=some s:=by
 unfold du;rw[List.getElem?_map];constructor
 ·intro h;cases q:bs[k]? with
  | none=>rw[q] at h;cases h
  | some o=>
   rw[q] at h;cases o with
   | none=>cases h
   | some bo=>exact⟨bo,rfl,by simpa using h⟩
 ·rintro⟨bo,h1,h2⟩;rw[h1];simp [h2]
theorem Dj {bo:Bo} {d:D} (h:qX Γ bo=some (.ln d)):∃ i,bo=.v i/\Hld Γ i d:=by
 cases bo with
 | d x=>cases h
 | v i=>
  change gL Γ[i]?=_ at h;unfold gL at h;split at h
  ·cases h
  ·cases h;rename_i q;exact⟨i,rfl,.inl q⟩
  ·cases h;rename_i q;exact⟨i,rfl,.inr q⟩
  ·cases h
theorem Dk {bo:Bo} {d:D} (h:qX Γ bo=some (.fz d)):bo=.d d\/∃ i,bo=.v i/\Γ[i]?=some (some (Sl.fz d)):=by
 cases bo with
 | d x=>cases h;exact .inl rfl
 | v i=>
  change gL Γ[i]?=_ at h;unfold gL at h;split at h
  ·cases h;rename_i q;exact .inr ⟨i,rfl,q⟩
  ·cases h
  ·cases h
  ·cases h
theorem t7 {bo:Bo} {d:D}:qX Γ bo≠some (.ow d):=by
 intro h;cases bo with
 | d x=>cases h
 | v i=>change gL Γ[i]?=_ at h;unfold gL at h;split at h <;> cases h
theorem jS {bs:List (Option Bo)}:∀ (k:Nat) (d:D),(du Γ bs)[k]?≠some (some (Sl.ow d)):=fun k d h=>by
 obtain⟨bo,_,h⟩:=gM.mp h;exact t7 h
theorem En.inner (e:En K B F σ H Γ) {bs:List (Option Bo)} {σc:L2.St} (hl:σc.length=bs.length) (hσ:∀ (k:Nat) (bo:Bo) (s:Sl),bs[k]?=some (some bo)->qX Γ bo=some s->∃ v,σc[k]?=some (some v)/\nQ K F σ bo v)
  (nd:∀ (k k' i:Nat),bs[k]?=some (some (Bo.v i))->bs[k']?=some (some (Bo.v i))->k=k'):En K ⟨F,H,ownOf Γ σ bs⟩ F σc H (du Γ bs):=by
 have held:∀ {k d},Hld (du Γ bs) k d->∃ i p,bs[k]?=some (some (Bo.v i))/\Hld Γ i d/\σ[i]?=some (some (V.ref p))/\σc[k]?=some (some (V.ref p)):=fun {k d} q=>by
  rcases q with q | q
  ·obtain⟨bo,h1,h2⟩:=gM.mp q;exact absurd h2 t7
  ·obtain⟨bo,h1,h2⟩:=gM.mp q;obtain⟨v,h3,h4⟩:=hσ k bo _ h1 h2;obtain⟨i,rfl,h5⟩:=Dj h2;obtain⟨p,h6,_⟩:=e.hl i d h5;rw[show σ[i]?=some (some v) from h4] at h6;cases h6;exact⟨i,p,h1,h5,h4,h3⟩
 refine⟨e.sub,by unfold du;rw[lM0];exact hl,?_,?_,?_,?_,?_,?_,av.refl F,fun b o h=>.inl h,fun b o h _=>h,fun b h=>h⟩
 ·intro k d q;obtain⟨bo,h1,h2⟩:=gM.mp q;obtain⟨v,h3,h4⟩:=hσ k bo _ h1 h2;refine⟨v,h3,?_⟩;rcases Dk h2 with rfl | ⟨i,rfl,h5⟩
  ·exact h4
  ·obtain⟨u,h6,h7⟩:=e.fz i d h5;rw[show σ[i]?=some (some v) from h4] at h6;cases h6;exact h7
 ·intro k d q;obtain⟨i,p,h1,h2,h3,h4⟩:=held q;obtain⟨p',h5,h6,h7⟩:=e.hl i d h2;rw[h3] at h5;cases h5;exact⟨p,h4,h6,h7⟩
 ·intro k d p q;obtain⟨bo,h1,h2⟩:=gM.mp q;exact absurd h2 t7
 ·intro k d p q a;obtain⟨i,p',h1,h2,h3,h4⟩:=held (.inr q);rw[a] at h4;cases h4;exact jN.mpr ⟨i,d,h1,h2,h3⟩
 ·intro k k' d d' p q1 q2 a1 a2;obtain⟨i,p1,h1,h2,h3,h4⟩:=held q1;obtain⟨i',p2,h1',h2',h3',h4'⟩:=held q2;rw[a1] at h4;cases h4;rw[a2] at h4';cases h4';have:=e.dis i i' d d' p h2 h2' h3 h3';subst this;exact nd k k' i h1 h1'
 ·intro k p q;obtain⟨i,d,h1,h2,h3⟩:=jN.mp q;have ha:qX Γ (.v i)=some (.ln d):=by
   show gL Γ[i]?=_;rcases h2 with h2 | h2 <;> rw[h2] <;> rfl
  obtain⟨v,h4,h5⟩:=hσ k _ _ h1 ha;rw[show σ[i]?=some (some v) from h5] at h3;cases h3;exact⟨h4,d,gM.mpr ⟨_,h1,ha⟩⟩
theorem lI {bs:List (Option Bo)}:∀ k p,(k,p)∈ownOf Γ σ bs->∃ j d,(bs.map bZ)[k]?=some (some j)/\Hld Γ j d/\σ[j]?=some (some (V.ref p)):=fun k p h=>by
 obtain⟨i,d,h1,h2,h3⟩:=jN.mp h;exact⟨i,d,by rw[List.getElem?_map,h1];rfl,h2,h3⟩
def cO (fr:On):List (Option Bo):=fr.map fun o=>o.map Bo.v
def rY (fr:On) (i3:TI3) (g3:TG3) (e3:TE3) (Γ:G) (Q:RV->G->Prop):Prop:=i3 Γ fun xs Γ1=>xs.length < sizeLine/\∃ Iv:Nat->List D->G->Prop,Iv 0 [] (du Γ1 (cO fr))/\
 (∀ k d ys Γc,xs[k]?=some d->ys.length=k->Iv k ys Γc->g3 d Γc fun Γ2=>e3 Γ2 fun r Γ3=>Iv (k + 1) (ys++[r.d]) Γ3)/\∀ ys Γc,ys.length=xs.length->Iv xs.length ys Γc->Q (.fr (.lst ys)) (bB fr Γ1 Γc)
theorem Bl {fr:On} (h:(fr.filterMap id).Nodup):∀ (k k' i:Nat),(cO fr)[k]?=some (some (Bo.v i))->(cO fr)[k']?=some (some (Bo.v i))->k=k':=by
 unfold cO;have go:∀ (l:On),(l.filterMap id).Nodup->∀ (k k' i:Nat),l[k]?=some (some i)->l[k']?=some (some i)->k=k':=by
  intro l
  induction l with
  | nil=>intro _ k k' i h;simp at h
  | cons o l ih=>
   intro hn k k' i h h';cases o with
   | none=>
    rw[List.filterMap_cons_none rfl] at hn;cases k with
    | zero=>simp at h
    | succ k=>
     cases k' with
     | zero=>simp at h'
     | succ k'=>rw[ih hn k k' i (by simpa using h) (by simpa using h')]
   | some j=>
    rw[show List.filterMap id (some j::l)=j::List.filterMap id l from rfl,List.nodup_cons] at hn;have mem:∀ {k:Nat},l[k]?=some (some i)->i∈l.filterMap id:=fun q=>List.mem_filterMap.mpr ⟨some i,List.mem_of_getElem? q,rfl⟩;cases k with
    | zero=>
     simp at h;subst h;cases k' with
     | zero=>rfl
     | succ k'=>exact absurd (mem (by simpa using h')) hn.1
    | succ k=>
     cases k' with
     | zero=>
      simp at h';subst h';exact absurd (mem (by simpa using h)) hn.1
     | succ k'=>rw[ih hn.2 k k' i (by simpa using h) (by simpa using h')]
 intro k k' i h1 h2;refine go fr h k k' i ?_ ?_
 ·rw[List.getElem?_map] at h1;cases q:fr[k]? with
  | none=>rw[q] at h1;cases h1
  | some o=>rw[q] at h1;cases o with | none=>cases h1 | some j=>cases h1;rfl
 ·rw[List.getElem?_map] at h2;cases q:fr[k']? with
  | none=>rw[q] at h2;cases h2
  | some o=>rw[q] at h2;cases o with | none=>cases h2 | some j=>cases h2;rfl
theorem pW {fr:On}:(cO fr).map bZ=fr:=by
 unfold cO;rw[List.map_map]
 conv=>rhs;rw[<- List.map_id fr]
 refine List.map_congr_left fun o _=>?_;cases o <;> rfl
theorem En.blk (e:En K B F σ H Γ) {fr:On} (nd:(fr.filterMap id).Nodup):En K ⟨F,H,ownOf Γ σ (cO fr)⟩ F (jF fr σ) H (du Γ (cO fr)):=by
 refine e.inner (by unfold jF cO;simp) (fun k bo s h1 h2=>?_) (Bl nd);unfold cO at h1;rw[List.getElem?_map] at h1;cases q:fr[k]? with
 | none=>rw[q] at h1;cases h1
 | some o=>
  rw[q] at h1;cases o with
  | none=>cases h1
  | some j=>
   cases h1;have:∃ d,Gat Γ j=some d:=by
    change gL Γ[j]?=_ at h2;unfold gL at h2;unfold Gat
    split at h2 <;> first | (cases h2;done) | (rename_i w;rw[w];exact⟨_,rfl⟩) | exact⟨_,rfl⟩
   obtain⟨d,hd⟩:=this;obtain⟨v,hv,_⟩:=e.get hd;refine⟨v,?_,hv⟩;unfold jF;rw[List.getElem?_map,q];simp [hv]
theorem uw {fr:On} {wi:TI} {i3:TI3} {g:TG} {g3:TG3} {te:TE} {e3:TE3} (nd:(fr.filterMap id).Nodup) (hi:Bw K wi i3) (hg:yX K g g3) (he:Ref K te e3):Ref K (oV fr wi g te) (rY fr i3 g3 e3):=by
 intro B F σ H Γ Q QQ e q k;refine hi B F σ H Γ _ _ e q fun J H1 F1 Γ1 xs s1 e1 R ⟨hz,Iv,i0,it,ie⟩=>?_;have eb:=e1.blk nd;refine⟨fun i m ys σc H=>m=xs.length - i/\i<=xs.length/\∃ F' Γc ds,av F1 F'/\En K ⟨F1,H1,ownOf Γ1 σ (cO fr)⟩ F' σc H Γc/\ar K F' ds ys/\ds.length=i/\Iv i ds Γc,⟨_,rfl,Nat.zero_le _,F1,_,[],av.refl _,eb,rfl,rfl,i0⟩,?_⟩;rintro i m ys σc H2 ⟨rfl,hi',F2,Γ2,ds,s2,e2,r2,hl,iv⟩;refine⟨by rw[r2.length,hl];omega,?_⟩;by_cases lt:i < xs.length
 ·refine .inr ⟨R.go i H2 (s2.trans e2.sub) lt,fun x H3 y=>?_⟩;have hd:xs[i]?=some xs[i]:=gE0 lt;obtain⟨F3,s3,e3',r3⟩:=R.turn s2 e2 hd y;refine hg _ F3 σc H3 Γ2 x _ _ _ e3' r3 (it i _ ds Γ2 hd hl iv) fun σ2 Γ4 e4 q4=>?_;refine⟨fun y H5=>∃ F5 Γ5 r,av F3 F5/\En K ⟨F1,H1,ownOf Γ1 σ (cO fr)⟩ F5 σ2 H5 Γ5/\j6 K ⟨F1,H1,ownOf Γ1 σ (cO fr)⟩ F5 σ2 H5 Γ5 y r/\Iv (i + 1) (ds++[r.d]) Γ5,fun y H5 ⟨F5,Γ5,r,s5,e5,rv,iv5⟩=>?_,he _ F3 σ2 H3 Γ4 _ _ e4 q4 fun v H' p=>p⟩;obtain⟨F6,s6,e6,r6⟩:=e5.frozen rv;refine⟨xs.length - (i + 1),by omega,rfl,lt,F6,Γ5,ds++[r.d],((s2.trans s3).trans s5).trans s6,e6,?_,by simp [hl],iv5⟩;exact ar.append (ys:=[r.d]) (r2.mono ((s3.trans s5).trans s6)) ⟨y,[],rfl,r6,rfl⟩
 ·have z:i=xs.length:=by omega
  subst z;refine .inl ⟨R.stop _ H2 (s2.trans e2.sub) rfl,fun l hl'=>k _ _ ?_⟩;have eo:En K B F2 σ H2 (bB fr Γ1 Γ2):=e1.back (ls:=fr) e2 (by have:=lI (Γ:=Γ1) (σ:=σ) (bs:=cO fr);rw[pW] at this;exact this);exact Po.mono (s1.trans s2) (g_ eo hl' r2 (ie ds Γ2 hl iv))
theorem dP {elt iter tg:Expr} {sc:Scope} {Nc:Ls} {fr:On} {wi:TI} {i3:TI3} {g:TG} {g3:TG3} {te:TE} {e3:TE3} (hc:X.calm=true) (hi:P3I K X tg iter wi i3) (Bk:Blk X.N X.env.scope sc Nc fr)
  (hg:∀ s₀ H₀ C ex pn,P3G K (aY X sc Nc s₀ H₀ C ex pn) tg g g3) (he:∀ s₀ H₀ C ex pn,P3 K (aY X sc Nc s₀ H₀ C ex pn) elt te e3) (nd:(fr.filterMap id).Nodup:=by decide) (hs:∀ x,foldedSetIterable iter X.env x=pure x:=by intro _;rfl) :
  P3 K X (.ListComp elt [⟨tg,iter,[],0⟩] sc pos) (oV fr wi g te) (rY fr i3 g3 e3):=
 ⟨xf hc hi.pe Bk (fun a b c d e=>(hg a b c d e).pe) (fun a b c d e=>(he a b c d e).pe) hs,uw nd hi.rf (hg X.s₀ X.H₀ 0 [] []).rf (he X.s₀ X.H₀ 0 [] []).rf⟩
theorem fE {i:Nat} {x:Str} {px spos:Pos} {elt iter tg:Expr} {sc:Scope} {Nc:Ls} {fr:On} {wi:TI} {i3:TI3} {g:TG} {g3:TG3} {te:TE} {e3:TE3} (hN:X.N.Nodup) (hi':X.N[i]?=some x) (hx:X.env.scope.names.lookup x=some .local)
  (hc:X.calm=true) (hi:P3I K X tg iter wi i3) (Bk:Blk X.N X.env.scope sc Nc fr)
  (hg:∀ s₀ H₀ C ex pn,P3G K (aY X sc Nc s₀ H₀ C ex pn) tg g g3) (he:∀ s₀ H₀ C ex pn,P3 K (aY X sc Nc s₀ H₀ C ex pn) elt te e3) (nd:(fr.filterMap id).Nodup:=by decide)
  (hsw:swapsWith (.ListComp elt [⟨tg,iter,[],0⟩] sc pos) (some (.Name x px)) spos.line X.env=pure true:=by rfl) (hs:∀ x,foldedSetIterable iter X.env x=pure x:=by intro _;rfl) :
  P3S K X (.Assign [.Name x px] (.ListComp elt [⟨tg,iter,[],0⟩] sc pos) spos) (fm (oV fr wi g te) (ka i)) (yd i (rY fr i3 g3 e3)):=
 ⟨vK hN hi' hx hc hi.pe Bk (fun a b c d e=>(hg a b c d e).pe) (fun a b c d e=>(he a b c d e).pe) hsw hs,xa (uw nd hi.rf (hg X.s₀ X.H₀ 0 [] []).rf (he X.s₀ X.H₀ 0 [] []).rf)⟩
abbrev S3:=G->(RV->G->Prop)->Prop
def sp3 (K:Fg0) (n:Nat) (S:S3):Sp:=fun vs H Q _=>vs.length=n/\∃ F own Γa Q3,En K ⟨F,H,own⟩ F (vs.map some) H Γa/\(∀ (k:Nat) (d:D),Γa[k]?≠some (some (Sl.ow d)))/\S Γa Q3/\∀ r Γ',Q3 r Γ'->∀ v H' F',En K ⟨F,H,own⟩ F' (vs.map some) H' Γ'->j6 K ⟨F,H,own⟩ F' (vs.map some) H' Γ' v r->Q v H'
def bN:List Bo->List Nat
 | []=>[]
 | .d _::bs=>bN bs
 | .v i::bs=>i::bN bs
def m4 (n:Nat) (S:S3) (t3:cY) (Γ:G) (Q:RV->G->Prop):Prop:=t3 Γ fun bs Γ1=>bs.length=n/\(bN bs).Nodup/\S (du Γ1 (bs.map some)) fun r Γa=>Q r (bB ((bs.map some).map bZ) Γ1 Γa)
theorem Ay:∀ {bs:List Bo},(bN bs).Nodup->∀ (k k' i:Nat),(bs.map some)[k]?=some (some (Bo.v i))->(bs.map some)[k']?=some (some (Bo.v i))->k=k':=by
 intro bs h k k' i h1 h2;have key:((((bs.map some).map bZ)).filterMap id)=bN bs:=by
  clear h h1 h2
  induction bs with
  | nil=>rfl
  | cons b bs ih=>cases b with
   | d x=>simpa [bZ,bN] using ih
   | v j=>simpa [bZ,bN] using ih
 rw[<- key] at h;refine Bl h k k' i ?_ ?_
 ·unfold cO;rw[List.getElem?_map,List.getElem?_map,h1];rfl
 ·unfold cO;rw[List.getElem?_map,List.getElem?_map,h2];rfl
theorem aZ.get {F:Hp}:∀ {bs:List Bo} {vs:List V},aZ K F σ bs vs->∀ {k:Nat} {bo:Bo},bs[k]?=some bo->∃ v,vs[k]?=some v/\nQ K F σ bo v
 | [],_,_,k,bo,e=>by simp at e
 | x::xs,_,⟨v,ws,h1,h2,h3⟩,0,d,e=>by subst h1;simp at e;subst e;exact⟨v,rfl,h2⟩
 | x::xs,_,⟨v,ws,h1,h2,h3⟩,i + 1,d,e=>by
  subst h1;obtain⟨u,a,b⟩:=aZ.get h3 (k:=i) (bo:=d) (by simpa using e);exact⟨u,by simpa using a,b⟩
theorem aZ.length {F:Hp}:∀ {bs:List Bo} {vs:List V},aZ K F σ bs vs->vs.length=bs.length
 | [],_,h=>by cases h;rfl
 | _::_,_,⟨v,ws,h1,h2,h3⟩=>by subst h1;simp [aZ.length h3]
theorem En.args (e:En K B F σ H Γ) {bs:List Bo} {vs:List V} (r:aZ K F σ bs vs) (nd:(bN bs).Nodup):En K ⟨F,H,ownOf Γ σ (bs.map some)⟩ F (vs.map some) H (du Γ (bs.map some)):=by
 refine e.inner (by simp [r.length]) (fun k bo s h1 h2=>?_) (Ay nd);rw[List.getElem?_map] at h1;cases q:bs[k]? with
 | none=>rw[q] at h1;cases h1
 | some b=>
  rw[q] at h1;cases h1;obtain⟨v,a,b⟩:=r.get q;exact⟨v,by rw[List.getElem?_map,a];rfl,b⟩
theorem En.called (e:En K B F σ H Γ) {F' H':Hp} {bs:List (Option Bo)} {σc:L2.St} {Γa:G} {v:V} {r:RV} (e2:En K ⟨F,H,ownOf Γ σ bs⟩ F' σc H' Γa) (rv:j6 K ⟨F,H,ownOf Γ σ bs⟩ F' σc H' Γa v r) :
  av F F'/\En K B F' σ H' (bB (bs.map bZ) Γ Γa)/\j6 K B F' σ H' (bB (bs.map bZ) Γ Γa) v r:=by
 have eo:=e.back e2 lI;refine⟨e2.keep,eo,?_⟩;have nw:∀ {p:Addr},H p=none->∀ (i:Nat) (x:D),Hld (bB (bs.map bZ) Γ Γa) i x->σ[i]?≠some (some (V.ref p)):=fun {p} h4' i x hx hp=>by
  obtain⟨d0,w⟩:∃ d0,Hld Γ i d0:=by
   rcases hx with hx | hx <;> rw[c6] at hx
   ·cases w:Γ[i]? with
    | none=>rw[w] at hx;cases hx
    | some s=>rw[w] at hx;cases s with
     | none=>cases hx
     | some s=>cases s with
      | fz d=>cases hx
      | ow d=>exact⟨d,.inl w⟩
      | ln d=>cases hx
   ·cases w:Γ[i]? with
    | none=>rw[w] at hx;cases hx
    | some s=>rw[w] at hx;cases s with
     | none=>cases hx
     | some s=>cases s with
      | fz d=>cases hx
      | ow d=>cases hx
      | ln d=>exact⟨d,.inr w⟩
  obtain⟨p',a,b,c⟩:=e.hl i d0 w;rw[hp] at a;cases a;obtain⟨o,ho⟩:=c.some;rw[h4'] at ho;cases ho
 cases r with
 | fz d=>exact rv
 | fr d=>
  obtain⟨p,h1,h2,h3,h4,h5⟩:=rv;exact⟨p,h1,h2,h3,e.dom p h4,nw h4⟩
 | two xs ys=>
  obtain⟨t,p,q,vs,ws,h1,h2,h3,h4,h5,h6,h7,h8⟩:=rv;exact⟨t,p,q,vs,ws,h1,h2,h3,h4,h5,h6,h7,fun z hz=>⟨(h8 z hz).1,e.dom z (h8 z hz).2.1,nw (h8 z hz).2.1⟩⟩
 | rws xss=>
  obtain⟨p,qs,h1,h2,h3,h4,h8⟩:=rv;exact⟨p,qs,h1,h2,h3,h4,fun z hz=>⟨(h8 z hz).1,e.dom z (h8 z hz).2.1,nw (h8 z hz).2.1⟩⟩
theorem ux {t:TA} {t3:cY} {S:S3} {n:Nat} {E:XK} (h:qx K t t3):Ref K (ug (sp3 K n S) [] E t) (m4 n S t3):=by
 intro B F σ H Γ Q QQ e q k;refine h B F σ H Γ _ _ e q fun vs H1 ⟨F1,Γ1,bs,s1,e1,r1,hn,nd,q1⟩=>?_;show sp3 K n S (vs++[]) H1 QQ E;rw[List.append_nil];refine⟨by rw[r1.length];exact hn,F1,_,_,_,e1.args r1 nd,jS,q1,fun r Γa q v H' F' e2 rv=>?_⟩;obtain⟨a,b,c⟩:=e1.called e2 rv;exact k v H' ⟨F',_,r,s1.trans a,b,c,q⟩
def iD (Γa Γ':G):G:=Γa.mapIdx fun k s=>match s with
 | some (.ln d)=>(match Γ'[k]? with
  | some (some (.ln d'))=>some (.ln d')
  | _=>some (.ln d))
 | s=>s
theorem Ct {Γa Γ':G} {k:Nat} {d:D} (h:Γa[k]?=some (some (Sl.ln d))) {d':D} (h':Γ'[k]?=some (some (Sl.ln d'))):(iD Γa Γ')[k]?=some (some (Sl.ln d')):=by
 unfold iD;rw[List.getElem?_mapIdx,h];simp [h']
theorem lJ {Γa Γ':G} {k:Nat} {s:Sl} (h:(iD Γa Γ')[k]?=some (some s)):(∃ d d',Γa[k]?=some (some (Sl.ln d))/\s=.ln d')\/(Γa[k]?=some (some s)/\∀ d,s≠.ln d):=by
 unfold iD at h;rw[List.getElem?_mapIdx] at h;cases w:Γa[k]? with
 | none=>rw[w] at h;cases h
 | some o=>
  rw[w] at h;cases o with
  | none=>cases h
  | some s'=>
   cases s' with
   | fz d=>cases h;exact .inr ⟨rfl,fun d z=>by cases z⟩
   | ow d=>cases h;exact .inr ⟨rfl,fun d z=>by cases z⟩
   | ln d=>
    left
    simp only[Option.map_some,Option.some.injEq] at h;split at h
    ·cases h;exact⟨d,_,rfl,rfl⟩
    ·cases h;exact⟨d,_,rfl,rfl⟩
theorem En.out {F0 H0 F' H':Hp} {own:List (Nat×Addr)} {σa σ':L2.St} {Γa Γ':G} (e0:En K ⟨F0,H0,own⟩ F0 σa H0 Γa) (hno:∀ (k:Nat) (d:D),Γa[k]?≠some (some (Sl.ow d))) (e1:En K ⟨F0,H0,own⟩ F' σ' H' Γ') {v:V} {r:RV} (rv:j6 K ⟨F0,H0,own⟩ F' σ' H' Γ' v r) :
  En K ⟨F0,H0,own⟩ F' σa H' (iD Γa Γ')/\j6 K ⟨F0,H0,own⟩ F' σa H' (iD Γa Γ') v r:=by
 have lnk:∀ {k:Nat} {d:D},Γa[k]?=some (some (Sl.ln d))->∃ p d',(k,p)∈own/\σa[k]?=some (some (V.ref p))/\σ'[k]?=some (some (V.ref p))/\Γ'[k]?=some (some (Sl.ln d'))/\(iD Γa Γ')[k]?=some (some (Sl.ln d')):=fun {k d} h=>by
  obtain⟨p,a,b,c⟩:=e0.hl k d (.inr h);have m:=e0.ln k d p h a;obtain⟨a',d',b'⟩:=e1.par k p m;exact⟨p,d',m,a,a',b',Ct h b'⟩
 have hld:∀ {k:Nat} {d:D},Hld (iD Γa Γ') k d->∃ p d0,Γa[k]?=some (some (Sl.ln d0))/\(k,p)∈own/\σa[k]?=some (some (V.ref p))/\σ'[k]?=some (some (V.ref p))/\Γ'[k]?=some (some (Sl.ln d)):=fun {k d} h=>by
  rcases h with h | h
  ·rcases lJ h with ⟨d1,d2,_,z⟩ | ⟨z,_⟩
   ·cases z
   ·exact absurd z (hno k d)
  ·rcases lJ h with ⟨d1,d2,z,_⟩ | ⟨_,z⟩
   ·obtain⟨p,d',m,a,a',b',c'⟩:=lnk z;rw[h] at c';cases c';exact⟨p,d1,z,m,a,a',b'⟩
   ·exact absurd rfl (z d)
 refine⟨⟨e1.sub,?_,?_,?_,?_,?_,?_,?_,e1.keep,e1.new,e1.rest,e1.dom⟩,?_⟩
 ·unfold iD;rw[List.length_mapIdx];exact e0.len
 ·intro k d q;rcases lJ q with ⟨d1,d2,_,z⟩ | ⟨z,_⟩
  ·cases z
  ·obtain⟨u,a,b⟩:=e0.fz k d z;exact⟨u,a,b.mono e1.keep⟩
 ·intro k d q;obtain⟨p,d0,_,m,a,a',b⟩:=hld q;obtain⟨p',x,y,z⟩:=e1.hl k d (.inr b);rw[a'] at x;cases x;exact⟨p,a,y,z⟩
 ·intro k d p q;rcases lJ q with ⟨d1,d2,_,z⟩ | ⟨z,_⟩
  ·cases z
  ·exact absurd z (hno k d)
 ·intro k d p q a;obtain⟨p',d0,_,m,a',_⟩:=hld (.inr q);rw[a] at a';cases a';exact m
 ·intro k k' d d' p q1 q2 a1 a2;obtain⟨p1,d1,z1,_⟩:=hld q1;obtain⟨p2,d2,z2,_⟩:=hld q2;exact e0.dis k k' d1 d2 p (.inr z1) (.inr z2) a1 a2
 ·intro k p q;obtain⟨a,d,b⟩:=e0.par k p q;obtain⟨p',d',m,a',_,_,c⟩:=lnk b;exact⟨a,d',c⟩
 ·cases r with
  | fz d=>exact rv
  | fr d=>
   obtain⟨p,h1,h2,h3,h4,h5⟩:=rv;refine⟨p,h1,h2,h3,h4,fun k x hx a=>?_⟩;obtain⟨p',d0,_,m,a',b',c'⟩:=hld hx;rw[a] at a';cases a';exact h5 k x (.inr c') b'
  | two xs ys=>
   obtain⟨t,p,q,vs,ws,h1,h2,h3,h4,h5,h6,h7,h8⟩:=rv;refine⟨t,p,q,vs,ws,h1,h2,h3,h4,h5,h6,h7,fun z hz=>⟨(h8 z hz).1,(h8 z hz).2.1,fun k x hx a=>?_⟩⟩;obtain⟨p',d0,_,m,a',b',c'⟩:=hld hx;rw[a] at a';cases a';exact(h8 z hz).2.2 k x (.inr c') b'
  | rws xss=>
   obtain⟨p,qs,h1,h2,h3,h4,h8⟩:=rv;refine⟨p,qs,h1,h2,h3,h4,fun z hz=>⟨(h8 z hz).1,(h8 z hz).2.1,fun k x hx a=>?_⟩⟩;obtain⟨p',d0,_,m,a',b',c'⟩:=hld hx;rw[a] at a';cases a';exact(h8 z hz).2.2 k x (.inr c') b'
end
def fu (N:Ls) (Γa:G):G:=Γa++List.replicate (N.length - Γa.length) none
section
variable {P:Program} {w:World} {K:Fg0} {mg:SV} {base:Heap}
theorem En.start {B:Bs} {F H:Hp} {vs:List V} {Γa:G} {N:Ls} (e:En K B F (vs.map some) H Γa) (hl:Γa.length<=N.length):En K B F (L2.start N vs) H (fu N Γa):=by
 have len:=e.len;rw[lM0] at len;have hs:∀ {i:Nat},i < Γa.length->(L2.start N vs)[i]?=(vs.map some)[i]?:=fun {i} h=>by
  unfold L2.start;rw[List.getElem?_append_left (by rw[lM0];omega)]
 have hg:∀ {i:Nat} {s:Sl},(fu N Γa)[i]?=some (some s)->i < Γa.length/\Γa[i]?=some (some s):=fun {i s} h=>by
  unfold fu at h;by_cases lt:i < Γa.length
  ·rw[List.getElem?_append_left lt] at h;exact⟨lt,h⟩
  ·rw[List.getElem?_append_right (by omega)] at h;have:=List.mem_of_getElem? h;rw[List.mem_replicate] at this;cases this.2
 have hh:∀ {i:Nat} {d:D},Hld (fu N Γa) i d->i < Γa.length/\Hld Γa i d:=fun h=>by
  rcases h with h | h
  ·exact⟨(hg h).1,.inl (hg h).2⟩
  ·exact⟨(hg h).1,.inr (hg h).2⟩
 refine⟨e.sub,?_,?_,?_,?_,?_,?_,?_,e.keep,e.new,e.rest,e.dom⟩
 ·unfold L2.start fu;simp only[List.length_append,lM0,List.length_replicate];omega
 ·intro i d q;obtain⟨lt,q⟩:=hg q;rw[hs lt];exact e.fz i d q
 ·intro i d q;obtain⟨lt,q⟩:=hh q;rw[hs lt];exact e.hl i d q
 ·intro i d p q a;obtain⟨lt,q⟩:=hg q;rw[hs lt] at a;exact e.ow i d p q a
 ·intro i d p q a;obtain⟨lt,q⟩:=hg q;rw[hs lt] at a;exact e.ln i d p q a
 ·intro i j d d' p q1 q2 a1 a2;obtain⟨l1,q1⟩:=hh q1;obtain⟨l2,q2⟩:=hh q2;rw[hs l1] at a1;rw[hs l2] at a2;exact e.dis i j d d' p q1 q2 a1 a2
 ·intro i p q;obtain⟨a,d,b⟩:=e.par i p q;have lt:i < Γa.length:=(gS0 b).1;refine⟨by rw[hs lt];exact a,d,?_⟩;unfold fu;rw[List.getElem?_append_left lt];exact b
theorem ok3 {x qual:Str} {st:Stmt} {f:Addr} {fd:FuncData} {N ps:Ls} {k:Nat} {S:S3} (F:Fun K x qual st f fd) (Sc:aC N ps (ah st)) (hN:ps.length<=N.length:=by decide)
  (hbody:∀ (cdv:Value) (A:Around) (outer:List Env) (s:Shared) (H:Hp) (E:XK),bJ k (A.deeper (envOfC qual (ah st) s.heap.objs.size f cdv))->
   ∃ t t3,qY K (vf CX0 P w K mg base N qual (ah st) f cdv A outer s H E).nox (cT st) t t3/\∀ Γa Q,S Γa Q->Γa.length=ps.length->t3 { nx:=fun Γ'=>Q (.fz .non) (iD Γa Γ'),rt:=fun r Γ'=>Q r (iD Γa Γ') } (fu N Γa)) :
  aM P w K mg base CX0 (k + 1) f fd ps (sp3 K ps.length S):=by
 refine F.ok Sc (fun vs H Q E h=>h.1) fun cdv A outer s H vs Q E hr h=>?_;obtain⟨hl,F0,own,Γa,Q3,e,hno,hS,hQ⟩:=h;obtain⟨t,t3,ht,rd⟩:=hbody cdv A outer s H E hr;have hla:Γa.length=ps.length:=by rw[<- e.len,lM0];exact hl
 refine⟨t,ht.pe,ht.rf ⟨F0,H,own⟩ F0 _ H _ _ { nx:=fun Γ'=>Q3 (.fz .non) (iD Γa Γ'),rt:=fun r Γ'=>Q3 r (iD Γa Γ') } (e.start (N:=N) (by rw[hla];exact hN)) ⟨?_,?_,fun _ _ _ _ _ _ z=>False.elim z,fun _ _ _ _ _ _ z=>False.elim z⟩ (rd Γa Q3 hS hla)⟩
 ·intro F' σ' H' Γ' s' e' q;obtain⟨a,b⟩:=e.out hno e' (v:=.non) (r:=.fz .non) rfl;exact hQ _ _ q _ _ _ a b
 ·intro F' σ' H' Γ' v r s' e' rv q;obtain⟨a,b⟩:=e.out hno e' rv;exact hQ _ _ q _ _ _ a b
end
section
variable {K:Fg0} {X:Cx} {k:Nat} {f C:Addr} {fd:FuncData} {ps:Ls} {x m:Str} {p pos apos:Pos} {e o:Expr} {es:List Expr} {ta:TE} {t:TA} {t3:cY} {o3:TB3} {n:Nat} {S:S3}
theorem aD (hK:X.K=K) (F:aM X.prog X.w X.K X.mg X.base CX0 k f fd ps (sp3 K n S)) (hr:bJ k X.A) (hg:Gl X x) (hm:X.mg x=some (.ref f)) (hk:PySem.W.keepIn X.K (.ref f)=true) (hb:Binds X.K fd ps [])
  (ha:oo K X (e::es) t t3) (hdb:(x == ("__debug__":Str))=false:=by decide) (he:starEach (e::es) X.env=(false,eval e X.env)::starEach es X.env:=by rfl) (hpl:(backTo pos (starEach es X.env)).any (·.1)=false:=by rfl) :
  P3 K X (.Call (.Name x p) (e::es) [] pos) (ug (sp3 K n S) [] E0 t) (m4 n S t3):=⟨Cm F hr hg hm hk hb .nil pB ha.pe hdb he hpl,ux ha.rf⟩
theorem Aj (hK:X.K=K) (F:aM X.prog X.w X.K X.mg X.base CX0 k f fd ps (sp3 K n S)) (hr:bJ k X.A) (hg:Gl X x) (hm:X.mg x=some (.ref f)) (hk:PySem.W.keepIn X.K (.ref f)=true) (hb:Binds X.K fd ps [])
  (hdb:(x == ("__debug__":Str))=false:=by decide) :
  P3 K X (.Call (.Name x p) [] [] pos) (ug (sp3 K n S) [] E0 nW) (m4 n S uT):=⟨Ac F hr hg hm hk hb .nil pB hdb,ux (aj (X:=X)).rf⟩
def gB (C:Addr) (m:Str) (n:Nat) (S:S3) (o3:TB3) (t3:cY) (Γ:G) (Q:RV->G->Prop):Prop:=o3 Γ fun x Γ1=>(∃ ns xs,x.at Γ1=some (.ins C ns xs)/\m∉ns)/\t3 Γ1 fun bs Γ2=>bs.length + 1=n/\(bN (x::bs)).Nodup/\S (du Γ2 ((x::bs).map some)) fun r Γa=>Q r (bB (((x::bs).map some).map bZ) Γ2 Γa)
theorem yG {ns:Ls}:∀ {gs:List (Str×V)} {m:Str},gs.map (·.1)=ns->m∉ns->gs.lookup m=none:=by
 induction ns with
 | nil=>intro gs m h _;cases gs with | nil=>rfl | cons=>cases h
 | cons a ns ih=>
  intro gs m h hn;cases gs with
  | nil=>cases h
  | cons g gs=>
   simp only[List.map_cons,List.cons.injEq] at h;obtain⟨rfl,h⟩:=h;rw[List.mem_cons,not_or] at hn;obtain⟨g1,g2⟩:=g;rw[List.lookup_cons,show (m == g1)=false from beq_eq_false_iff_ne.mpr hn.1];exact ih h hn.2
theorem uu (ho:qw K ta o3) (ha:qx K t t3):Ref K (ue C m (sp3 K n S) [] E0 ta t) (gB C m n S o3 t3):=by
 intro B F σ H Γ Q QQ e q kk;refine ho B F σ H Γ _ _ e q fun v H0 ⟨F0,Γ0,bo,s0,e0,r0,⟨ns,xs,hx,hm⟩,q0⟩=>?_;obtain⟨p,dx,gs,rfl,h1,h2,h3⟩:=e0.bo r0 hx;refine⟨p,dx,gs,rfl,h1,yG h2 hm,ha B F0 σ H0 Γ0 _ _ e0 q0 fun vs H1 ⟨F1,Γ1,bs,s1,e1,r1,hn,nd,q1⟩=>?_⟩;show sp3 K n S (V.ref p::(vs++[])) H1 QQ E0;rw[List.append_nil];have rr:aZ K F1 σ (bo::bs) (V.ref p::vs):=⟨_,_,rfl,r0.mono s1,r1⟩;refine⟨by rw[rr.length];exact hn,F1,_,_,_,e1.args rr nd,jS,q1,fun r Γa q v H' F' e2 rv=>?_⟩;obtain⟨a,b,c⟩:=e1.called e2 rv;exact kk v H' ⟨F',_,r,(s0.trans s1).trans a,b,c,q⟩
theorem xi {pl:Sem Bool} (hK:X.K=K) (he:P3B K X o ta o3) (c:Cls X.K C) (hm:Meth X.K C m f) (F:aM X.prog X.w X.K X.mg X.base CX0 k f fd ps (sp3 K n S)) (hr:bJ k X.A) (hb:Binds X.K fd ps []) (ha:oo K X (e::es) t t3)
  (hst:starEach (e::es) X.env=(false,eval e X.env)::starEach es X.env:=by rfl) (hpl:(backTo pos (starEach es X.env)).any (·.1)=false:=by rfl)
  (ht:eval (.Call (.Attribute o m apos) (e::es) [] pos) X.env=(do
   let ov <- eval o X.env
   standAt apos.atName
   let (f,first) <- holding [ov] (getMethod ov m pl)
   callWith pos f first (backTo pos (starEach (e::es) X.env)) (backToKw pos (keywordEach [] X.env))):=by rfl) :
  P3 K X (.Call (.Attribute o m apos) (e::es) [] pos) (ue C m (sp3 K n S) [] E0 ta t) (gB C m n S o3 t3):=⟨Cg he.pe c hm F hr hb .nil pB ha.pe hst hpl ht,uu he.rf ha.rf⟩
theorem aX {pl:Sem Bool} (hK:X.K=K) (he:P3B K X o ta o3) (c:Cls X.K C) (hm:Meth X.K C m f) (F:aM X.prog X.w X.K X.mg X.base CX0 k f fd ps (sp3 K n S)) (hr:bJ k X.A) (hb:Binds X.K fd ps [])
  (ht:eval (.Call (.Attribute o m apos) [] [] pos) X.env=(do
   let ov <- eval o X.env
   standAt apos.atName
   let (f,first) <- holding [ov] (getMethod ov m pl)
   callWith pos f first (backTo pos (starEach [] X.env)) (backToKw pos (keywordEach [] X.env))):=by rfl) :
  P3 K X (.Call (.Attribute o m apos) [] [] pos) (ue C m (sp3 K n S) [] E0 ta nW) (gB C m n S o3 uT):=⟨zZ he.pe c hm F hr hb .nil pB ht,uu he.rf (aj (X:=X)).rf⟩
theorem P3.or {e:Expr} {t t':TE} {a3 b3:TE3} (h:P3 K X e t a3) (h':P3 K X e t' b3):P3 K X e (fun σ H Q=>t σ H Q\/t' σ H Q) (fun Γ Q=>a3 Γ Q\/b3 Γ Q):=
 ⟨fun pins s σ H Q I q=>q.elim (h.pe pins s σ H Q I) (h'.pe pins s σ H Q I),fun B F σ H Γ Q QQ e q k=>q.imp (fun q=>h.rf B F σ H Γ Q QQ e q k) (fun q=>h'.rf B F σ H Γ Q QQ e q k)⟩
theorem jL (M:Mk0 X.K C) (hg:Gl X x) (hm:X.mg x=some (.ref C)) (hdb:(x == ("__debug__":Str))=false:=by decide):P3 K X (.Call (.Name x p) [] [] pos) (wX C) (fun Γ Q=>Q (.fr (.ins C [] [])) Γ):=
 ⟨yu M hg hm hdb,fun B F σ H Γ Q QQ e q k=>fun y dy hy hdy ne=>k _ _ (by
  have e1:=e.alloc hdy (.own y);have hy':(upd H dy (.own y)) y=none:=by rw[af (Ne.symm ne)];exact hy
  exact⟨F,Γ,.fr (.ins C [] []),av.refl F,e1.alloc hy' _,⟨y,rfl,e1.nof hy',⟨dy,[],ao,rfl,rfl⟩,e.dom _ hy,e1.jf hy'⟩,q⟩)⟩
end
section
variable {K:Fg0} {X:Cx} {B:Bs} {F H:Hp} {σ:L2.St} {Γ:G} {pos p:Pos} {x:Str}
theorem Ae {n:String} (hg:Gl X x) (hm:X.mg x=none) (hv:bootBuiltins x=some (.type n)) (hn:x≠"__name__":=by decide) (hd:(x == ("__debug__":Str))=false:=by decide):P3 K X (.Name x pos) (tC (.ty n)) (t3C (.ty n)):=
 ⟨Cn (v:=.ty n) hg hm hv rfl hn hd,rB fun _=>rfl⟩
theorem pj (i:Nat) {y:Str} {px p2:Pos} {k e:Expr} {tk te:TE} {k3:TB3} {e3:TE3} (hx:P3B K X (.Name y px) (bX i) (bor i)) (hk:P3B K X k tk k3) (he:P3 K X e te e3)
  (ha:∀ v,assign (.Subscript (.Name y px) k p2) X.env v=(do
   let ov <- holding [v] (eval (.Name y px) X.env)
   let iv <- holding [v,ov] (eval k X.env)
   standAt p2
   holding [v,ov,iv] (setItem ov iv v)
   release [v,ov,iv] []):=by intro _;rfl)
  (hs:swapsWithSole [.Subscript (.Name y px) k p2] e pos.line X.env=pure false:=by rfl) (hw:swappedStores [.Subscript (.Name y px) k p2] e X.env=pure none:=by rfl)
  (h1:(assignEach [.Subscript (.Name y px) k p2] X.env).map (·.2)=[assign (.Subscript (.Name y px) k p2) X.env]:=by rfl) :
  P3S K X (.Assign [.Subscript (.Name y px) k p2] e pos) (fm te (p7 (bX i) tk i5)) (wZ i k3 e3):=BR i hx hk he (sV he.pe (zX hx.pe hk.pe set_list ha) hs hw h1)
theorem En.grow (e:En K B F σ H Γ) {H':Hp} (s:av H H') (S:Addr) (hS:H S=none):∃ F',av F F'/\En K B F' σ H' Γ/\F' S=none/\∀ b o,b≠S->H b=none->H' b=some o->F' b=some o:=by
 refine⟨fun b=>if H b=none/\b≠S then H' b else F b,?_,?_,?_,?_⟩
 ·intro b o h;show (if _ then _ else _)=_;have:=e.sub b o h;rw[if_neg (by rw[this];simp)];exact h
 ·refine⟨?_,e.len,?_,?_,e.ow,e.ln,e.dis,e.par,?_,?_,fun b o h n=>s b o (e.rest b o h n),fun b h=>e.dom b (s.free h)⟩
  ·intro b o h;change (if _ then _ else _)=_ at h;split at h
   ·exact h
   ·exact s b o (e.sub b o h)
  ·intro i d h;obtain⟨v,a,b⟩:=e.fz i d h;refine⟨v,a,b.mono fun b o h=>?_⟩;show (if _ then _ else _)=_;have:=e.sub b o h;rw[if_neg (by rw[this];simp)];exact h
  ·intro i d h;obtain⟨q,a,b,c⟩:=e.hl i d h;obtain⟨o,ho⟩:=c.some;refine⟨q,a,?_,c.mono (fun b o h=>?_) (by rw[ho];exact s _ _ ho)⟩
   ·show (if _ then _ else _)=_;rw[if_neg (by rw[ho];simp)];exact b
   ·show (if _ then _ else _)=_;have:=e.sub b o h;rw[if_neg (by rw[this];simp)];exact h
  ·intro b o h;have h':=e.keep b o h;show (if _ then _ else _)=_;have:=e.sub b o h';rw[if_neg (by rw[this];simp)];exact h'
  ·intro b o h;change (if _ then _ else _)=_ at h;split at h
   ·rename_i q;exact .inr (e.dom b q.1)
   ·exact e.new b o h
 ·show (if _ then _ else _)=_;rw[if_neg (by simp)];exact e.nof hS
 ·intro b o n h h';show (if _ then _ else _)=_;rw[if_pos ⟨h,n⟩];exact h'
def lz3 (t3:cY) (Γ:G) (Q:RV->G->Prop):Prop:=t3 Γ fun bs Γ1=>∃ xs ys,ats Γ1 bs=some [.lst xs,.lst ys]/\min xs.length ys.length < sizeLine/\Q (.fr (.lst (nV xs ys))) Γ1
theorem sN {F:Hp}:∀ {ds:List D} {vs:List V},vs.length=ds.length->(∀ (i:Nat) d v,ds[i]?=some d->vs[i]?=some v->Rep K F d v)->ar K F ds vs
 | [],vs,h,_=>by cases vs with | nil=>rfl | cons=>simp at h
 | d::ds,vs,h,k=>by
  cases vs with
  | nil=>simp at h
  | cons v vs=>exact⟨v,vs,rfl,k 0 d v rfl rfl,sN (by simpa using h) fun i d v h1 h2=>k (i + 1) d v (by simpa using h1) (by simpa using h2)⟩
theorem ua {xs ys:List D}:(nV xs ys).length=min xs.length ys.length:=by unfold nV;rw[lM0,List.length_zip]
theorem vQ {a b:Expr} {ta:TA} {t3:cY} {p p2 pos pos2:Pos} (hc:X.calm=true) (hg:Gl X "list") (hm:X.mg "list"=none) (hg2:Gl X "zip") (hm2:X.mg "zip"=none) (ha:oo K X [a,b] ta t3)
  (hs:starEach [a,b] X.env=[(false,eval a X.env),(false,eval b X.env)]:=by rfl) (hs2:starEach [b] X.env=[(false,eval b X.env)]:=by rfl) (hs3:starEach [Expr.Call (.Name "zip" p2) [a,b] [] pos2] X.env=[(false,eval (.Call (.Name "zip" p2) [a,b] [] pos2) X.env)]:=by rfl) :
  P3 K X (.Call (.Name "list" p) [.Call (.Name "zip" p2) [a,b] [] pos2] [] pos) (uf ta) (lz3 t3):=⟨vN hc hg hm hg2 hm2 ha.pe hs hs2 hs3,by
 intro B F σ H Γ Q QQ e q k;refine ha.rf B F σ H Γ _ _ e q fun vs H1 ⟨F1,Γ1,bs,s1,e1,r0,xs,ys,hd,hz,q1⟩=>?_;obtain⟨v,w,rfl,⟨p1,vs1,rfl,g1,r1⟩,⟨p2,vs2,rfl,g2,r2⟩⟩:=(e1.bos r0 hd).two;refine⟨p1,p2,vs1,vs2,rfl,g1,g2,by rw[r1.length,r2.length];exact hz,fun S ts H' hS sm h1 h2 h3 h4=>k _ _ ?_⟩;obtain⟨F2,s2,e2,f2,g⟩:=e1.grow sm S hS;have hS':∀ t∈ts,t≠S:=fun t ht z=>by
  subst z;obtain⟨j,hj,hjt⟩:=List.getElem_of_mem ht;have hx:j < vs1.length:=by rw[h2] at hj;omega
  have hy:j < vs2.length:=by rw[h2] at hj;omega
  have:=h3 j t _ _ (by rw[<- hjt];exact gE0 hj) (gE0 hx) (gE0 hy);rw[h1] at this;cases this
 refine⟨F2,Γ1,.fr (.lst (nV xs ys)),s1.trans s2,e2,⟨S,rfl,f2,⟨_,h1,?_⟩,e1.dom _ hS,e1.jf hS⟩,q1⟩;refine sN (by rw[lM0,h2,ua,r1.length,r2.length]) fun i d v hd hv=>?_;obtain⟨dx,dy,hx,hy,rfl⟩:=kU hd;rw[List.getElem?_map] at hv;cases ht:ts[i]? with
 | none=>rw[ht] at hv;cases hv
 | some t=>
  rw[ht] at hv;cases hv;obtain⟨v,hv,rv⟩:=r1.get hx;obtain⟨w,hw,rw'⟩:=r2.get hy;have m:=List.mem_of_getElem? ht;exact⟨t,_,rfl,g t _ (hS' t m) (h4 t m) (h3 i t v w ht hv hw),⟨_,_,rfl,rv.mono s2,_,_,rfl,rw'.mono s2,rfl⟩⟩⟩
theorem wL {ls:On} {cs:G} (h:ls.all (·.isNone)=true):bB ls Γ cs=Γ:=by
 have hn:∀ j,newD ls cs j=none:=by
  intro j;cases q:newD ls cs j with
  | none=>rfl
  | some d=>
   obtain⟨k,a,_⟩:=fc q;have:=List.all_eq_true.mp h _ (List.mem_of_getElem? a);cases this
 refine List.ext_getElem? fun i=>?_;rw[c6,hn];cases q:Γ[i]? with
 | none=>rfl
 | some s=>cases s with
  | none=>rfl
  | some s=>cases s <;> rfl
end
theorem JI {α:Type} {a:α} {l:List α}:atI (a::l) 0=some a:=by
 unfold L2.atI ixN;simp
theorem JH {α:Type} {a b:α} {l:List α}:atI (a::b::l) 1=some b:=by
 have:ixN (a::b::l).length 1=some 1:=by
  unfold ixN;rw[if_pos (by decide),if_pos (by simp;omega)];rfl
 unfold L2.atI;rw[this];rfl
theorem JG {α:Type} {a b c:α} {l:List α}:atI (a::b::c::l) 2=some c:=by
 have:ixN (a::b::c::l).length 2=some 2:=by
  unfold ixN;rw[if_pos (by decide),if_pos (by simp;omega)];rfl
 unfold L2.atI;rw[this];rfl
theorem JF {α:Type} {a b c d:α} {l:List α}:atI (a::b::c::d::l) 3=some d:=by
 have:ixN (a::b::c::d::l).length 3=some 3:=by
  unfold ixN;rw[if_pos (by decide),if_pos (by simp;omega)];rfl
 unfold L2.atI;rw[this];rfl
theorem Gk:ixN 3 0=some 0:=rfl
theorem Gj:ixN 3 1=some 1:=rfl
theorem Gi:ixN 3 2=some 2:=rfl
theorem b9 {α:Type} {xs:List α} {k:Int} {d:α} (h:0<=k) (e:xs[k.toNat]?=some d):atI xs k=some d:=by
 obtain⟨j,rfl⟩:∃ j:Nat,k=(j:Int):=⟨k.toNat,by omega⟩;exact Dh (by simpa using e)
theorem JT {ns:Li} {k:Int} (h0:0<=k) (h1:k < (ns.length:Int)):atI (ns.map D.int) k=some (.int (ns.getD k.toNat 0)):=by
 refine b9 h0 ?_;have:k.toNat < ns.length:=by omega
 rw[List.getElem?_map,gE0 this];simp [List.getD,this]
theorem Df {ns:Li} {k:Int} (h0:0<=k) (h1:k < (ns.length:Int)):atI ns k=some (ns.getD k.toNat 0):=by
 refine b9 h0 ?_;have:k.toNat < ns.length:=by omega
 rw[gE0 this];simp [List.getD,this]
theorem Di {α:Type} {xs:List α} {k:Int} (h0:0<=k) (h1:k < (xs.length:Int)):∃ d,atI xs k=some d/\d∈xs:=by
 have:k.toNat < xs.length:=by omega
 exact⟨xs[k.toNat],b9 h0 (gE0 this),List.getElem_mem this⟩
section
variable {K:Fg0} {P:Program} {w:World} {mg:SV} {base:Heap}
def DP (n:Nat):S3:=fun Γ Q=>∃ ns:Li,Γ=[some (.fz (.scr ns))]/\ns.length<=n/\∀ Γ',Q (.fz (.bl true)) Γ'
theorem FV {k n:Nat} {f:Addr} {fd:FuncData} {ps:Ls} (F:aM P w K mg base CX0 k f fd ps (sp3 K 1 (DP n))) :
  aM P w K mg base CX0 k f fd ps (fun vs H Q _=>∃ (p:Addr) (ns:Li),vs=[.ref p]/\SqL K H p (ns.map V.int)/\ns.length<=n/\∀ H',Q (.bl true) H'):=by
 refine F.imp fun vs H Q E h=>?_;obtain⟨p,ns,rfl,hs,hn,q⟩:=h;have go1:∀ {i:Nat} {s:Sl},([some (Sl.fz (.scr ns))]:G)[i]?=some (some s)->i=0/\s=.fz (.scr ns):=fun {i s} h=>by
  cases i with
  | zero=>cases h;exact⟨rfl,rfl⟩
  | succ i=>cases h
 refine⟨rfl,H,[],[some (.fz (.scr ns))],fun r _=>r=.fz (.bl true),⟨av.refl H,rfl,?_,?_,?_,?_,?_,?_,av.refl H,fun b o h=>.inl h,fun b o h _=>h,fun b h=>h⟩,?_,⟨ns,rfl,hn,fun _=>rfl⟩,?_⟩
 ·intro i d h;obtain⟨rfl,e⟩:=go1 h;cases e;exact⟨_,rfl,p,rfl,hs⟩
 ·intro i d h;rcases h with h | h <;> cases (go1 h).2
 ·intro i d p h;cases (go1 h).2
 ·intro i d p h;cases (go1 h).2
 ·intro i j d e p h;rcases h with h | h <;> cases (go1 h).2
 ·intro i p h;cases h
 ·intro k d h;cases (go1 h).2
 ·intro r Γ' e v H' F' _ rv;subst e;have:v=.bl true:=rv;subst this;exact q H'
end
open PySem L2 PySem.Spec PySem.SeqAt
def b2 (b:Bool):Int:=if b then 1 else 0
mutual
def eqN:Nat->D->D->Option Bool
 | _,.non,.non=>some true
 | _,.bl a,.bl b=>some (a == b)
 | _,.int a,.int b=>some (a == b)
 | _,.str a,.str b=>some (a == b)
 | n + 1,.lst xs,.lst ys=>eZ n xs ys
 | n + 1,.tup xs,.tup ys=>eZ n xs ys
 | _,_,_=>none
def eZ:Nat->List D->List D->Option Bool
 | _,[],[]=>some true
 | n,x::xs,y::ys=>match eqN n x y,eZ n xs ys with
  | some a,some b=>some (a && b)
  | _,_=>none
 | _,_,_=>some false
end
section
variable {K:Fg0} {F H:Hp}
theorem qf {n:Nat}:∀ {xs ys:List D} {k:Bool},eZ n xs ys=some k->xs.length≠ys.length->k=false
 | [],[],_,_,h=>absurd rfl h
 | x::xs,[],_,e,_=>by unfold eZ at e;cases e;rfl
 | [],y::ys,_,e,_=>by unfold eZ at e;cases e;rfl
 | x::xs,y::ys,k,e,h=>by
  unfold eZ at e;split at e
  ·rename_i a b ha hb;cases e;rw[qf hb (by simpa using h),Bool.and_false]
  ·cases e
theorem ju {n:Nat}:∀ {xs ys:List D} {k:Bool},eZ n xs ys=some k->∃ e:Nat->Bool,(∀ (j:Nat) x y,xs[j]?=some x->ys[j]?=some y->eqN n x y=some (e j))/\k=((List.range (min xs.length ys.length)).all e && xs.length == ys.length)
 | [],[],k,h=>by unfold eZ at h;cases h;exact⟨fun _=>true,fun j x y h=>by simp at h,by simp⟩
 | x::xs,[],k,h=>by unfold eZ at h;cases h;exact⟨fun _=>true,fun j x y _ h=>by simp at h,by simp⟩
 | [],y::ys,k,h=>by unfold eZ at h;cases h;exact⟨fun _=>true,fun j x y h=>by simp at h,by simp⟩
 | x::xs,y::ys,k,h=>by
  unfold eZ at h;split at h
  ·rename_i a b ha hb;cases h;obtain⟨e,h1,h2⟩:=ju hb;refine⟨fun j=>match j with | 0=>a | j + 1=>e j,fun j x' y' hx hy=>?_,?_⟩
   ·cases j with
    | zero=>simp at hx hy;subst hx hy;exact ha
    | succ j=>exact h1 j x' y' (by simpa using hx) (by simpa using hy)
   ·subst h2;have hm:min (x::xs).length (y::ys).length=min xs.length ys.length + 1:=by simp [Nat.succ_min_succ]
    rw[hm,List.range_succ_eq_map,List.all_cons,List.all_map];simp only[List.length_cons,Function.comp_def,Bool.and_assoc]
    congr 1
    congr 1
    simp
  ·cases h
mutual
theorem tR:∀ {n:Nat} {d d':D} {v:V} {k:Bool},Rep K F d v->Rep K F d' v->eqN n d d'=some k->k=true
 | n,d,d',v,k,h,h',e=>by
  unfold eqN at e;split at e <;> first
   | (cases e;rfl)
   | (cases e;cases h;cases h';simp;done)
   | (cases e;cases h;cases h';done)
   | (cases e;cases h;obtain⟨_,_,z,_⟩:=h';cases z;done)
   | (cases e;cases h';obtain⟨_,_,z,_⟩:=h;cases z;done)
   | (obtain⟨p,vs,rfl,a,b⟩:=h;obtain⟨p',vs',q,a',b'⟩:=h';cases q;rw[a] at a';cases a';exact rV b b' e)
   | (obtain⟨p,vs,rfl,a,b⟩:=h;obtain⟨p',vs',q,a',b'⟩:=h';cases q;rw[a] at a';cases a';done)
   | (cases e;done)
theorem rV:∀ {n:Nat} {xs ys:List D} {vs:List V} {k:Bool},ar K F xs vs->ar K F ys vs->eZ n xs ys=some k->k=true
 | n,[],[],_,k,_,_,e=>by unfold eZ at e;cases e;rfl
 | n,x::xs,[],_,k,⟨v,ws,h1,_⟩,h',e=>by cases h';cases h1
 | n,[],y::ys,_,k,h,⟨v,ws,h1,_⟩,e=>by cases h;cases h1
 | n,x::xs,y::ys,_,k,⟨v,ws,h1,h2,h3⟩,⟨v',ws',h1',h2',h3'⟩,e=>by
  subst h1;cases h1';unfold eZ at e;split at e
  ·rename_i a b ha hb;cases e;rw[tR h2 h2' ha,rV h3 h3' hb];rfl
  ·cases e
end
end
section
variable {K:Fg0} {X:Cx} {F H:Hp} {pins:Pn} {σ:L2.St} {s:Shared}
theorem Vals.at' {xs:List V} {us:Lv} (r:Vals xs us) {j:Nat} (h:j < us.toArray.size):∃ v,xs[j]?=some v/\RelV v (us.toArray[j]):=by
 have h1:j < xs.length:=by rw[r.length];simpa using h
 obtain⟨u,hu,ru⟩:=r.get (gE0 h1);refine⟨_,gE0 h1,?_⟩;have:us.toArray[j]=u:=by
  have h2:j < us.length:=by simpa using h
  have h3:us[j]?=some us[j]:=gE0 h2;rw[hu] at h3;cases h3;simp
 rw[this];exact ru
theorem tO (I:Inv X pins σ H s) {p:Addr} {vs:List V} (h:H p=some (.lst vs)):∃ its:Lv,Vals vs its/\s.heap.IsList p its.toArray:=by
 obtain⟨its,n,r,e,_⟩:=I.lst h;exact⟨its,r,_,e,rfl,n,rfl⟩
theorem tN (I:Inv X pins σ H s) {p:Addr} {vs:List V} (h:H p=some (.tup vs)):∃ its:Lv,Vals vs its/\s.heap.IsTuple p its.toArray:=by
 obtain⟨its,r,⟨o,e,hc,n,d⟩,_⟩:=I.tuple (a:=p) (xs:=vs) (.inl (.inl h));exact⟨its,r,o,e,hc,n,d⟩
theorem tT {n:Nat} {A:Around} {xs ys:List D} {vs ws:List V} {us zs:Lv} {e:Nat->Bool} (ih:∀ {d d':D} {v v':V} {u u':Value} {k:Bool},Rep K F d v->Rep K F d' v'->RelV v u->RelV v' u'->eqN n d d'=some k->EqAt A s u u' k)
  (r1:ar K F xs vs) (r2:ar K F ys ws) (q1:Vals vs us) (q2:Vals ws zs) (he:∀ (j:Nat) x y,xs[j]?=some x->ys[j]?=some y->eqN n x y=some (e j)) :
  ∀ j (h1:j < us.toArray.size) (h2:j < zs.toArray.size),EqAt A s us.toArray[j] zs.toArray[j] (e j):=fun j h1 h2=>by
 obtain⟨v,hv,rv⟩:=Vals.at' q1 h1;obtain⟨w,hw,rw'⟩:=Vals.at' q2 h2;obtain⟨d,hd,rd⟩:=r1.GC hv;obtain⟨d',hd',rd'⟩:=r2.GC hw;exact ih rd rd' rv rw' (he j d d' hd hd')
theorem uy {n:Nat} {A:Around} {p q:Addr} {xs ys:List D} {vs ws:List V} {k:Bool} (I:Inv X pins σ H s) (ih:∀ {d d':D} {v v':V} {u u':Value} {k:Bool},Rep K F d v->Rep K F d' v'->RelV v u->RelV v' u'->eqN n d d'=some k->EqAt A.in1 s u u' k)
  (h1:H p=some (.lst vs)) (h2:H q=some (.lst ws)) (r1:ar K F xs vs) (r2:ar K F ys ws) (he:eZ n xs ys=some k) (hu:A.units < cLine):RcAt A s (.ref p) (.ref q) k:=by
 obtain⟨us,q1,l1⟩:=tO I h1;obtain⟨zs,q2,l2⟩:=tO I h2;have n1:us.toArray.size=xs.length:=by rw[<- r1.length,q1.length];simp
 have n2:zs.toArray.size=ys.length:=by rw[<- r2.length,q2.length];simp
 by_cases hl:xs.length=ys.length
 ·obtain⟨e,g,rfl⟩:=ju he;have:=RcAt.lists l1 l2 (by rw[n1,n2,hl]) hu (tT ih r1 r2 q1 q2 g);rw[n1] at this;rw[hl,Nat.min_self,beq_self_eq_true,Bool.and_true];rw[hl] at this;exact this
 ·rw[qf he hl];refine RcAt.lists_lengths l1 l2 ?_ hu;rw[n1,n2,bne_iff_ne];exact hl
theorem rC {n:Nat} {A:Around} {p q:Addr} {xs ys:List D} {vs ws:List V} {k:Bool} (I:Inv X pins σ H s) (ih:∀ {d d':D} {v v':V} {u u':Value} {k:Bool},Rep K F d v->Rep K F d' v'->RelV v u->RelV v' u'->eqN n d d'=some k->EqAt A.in1 s u u' k)
  (h1:H p=some (.tup vs)) (h2:H q=some (.tup ws)) (r1:ar K F xs vs) (r2:ar K F ys ws) (he:eZ n xs ys=some k) (hu:A.units < cLine):RcAt A s (.ref p) (.ref q) k:=by
 obtain⟨us,q1,l1⟩:=tN I h1;obtain⟨zs,q2,l2⟩:=tN I h2;have n1:us.toArray.size=xs.length:=by rw[<- r1.length,q1.length];simp
 have n2:zs.toArray.size=ys.length:=by rw[<- r2.length,q2.length];simp
 obtain⟨e,g,rfl⟩:=ju he;have:=RcAt.tuples l1 l2 hu (tT ih r1 r2 q1 q2 g);rw[n1,n2] at this;exact this
theorem tS (I:Inv X pins σ H s) (sm:av F H):∀ (n:Nat) {A:Around} {d d':D} {v v':V} {u u':Value} {k:Bool},A.units + n < cLine->Rep K F d v->Rep K F d' v'->RelV v u->RelV v' u'->eqN n d d'=some k->EqAt A s u u' k:=by
 intro n
 induction n with
 | zero=>
  intro A d d' v v' u u' k hu r r' q q' e;unfold eqN at e;split at e <;> (try (cases e;done)) <;> (try (rename_i hn;cases hn;done)) <;> cases r <;> cases r'
  ·cases e;cases q;cases q';exact EqAt.same _
  ·cases e;cases q;cases q';exact .bool_bool _ _
  ·cases e;obtain⟨t,rfl⟩:=q;obtain⟨t',rfl⟩:=q';exact .int_int _ _ _ _
  ·cases e;obtain⟨t,rfl⟩:=q;obtain⟨t',rfl⟩:=q';exact .str_str _ _ _ _
 | succ n ih=>
  intro A d d' v v' u u' k hu r r' q q' e;have hu0:A.units < cLine:=by omega
  have hu1:A.in1.units + n < cLine:=by show A.units + 1 + n < cLine;omega
  have e0:=e;unfold eqN at e;split at e
  ·cases r;cases r';cases e;cases q;cases q';exact EqAt.same _
  ·cases r;cases r';cases e;cases q;cases q';exact .bool_bool _ _
  ·cases r;cases r';cases e;obtain⟨t,rfl⟩:=q;obtain⟨t',rfl⟩:=q';exact .int_int _ _ _ _
  ·cases r;cases r';cases e;obtain⟨t,rfl⟩:=q;obtain⟨t',rfl⟩:=q';exact .str_str _ _ _ _
  ·
   rename_i n' xs ys hn;cases hn;have r0:=r;have r0':=r';obtain⟨p,vs,rfl,a1,b1⟩:=r;obtain⟨p',vs',rfl,a2,b2⟩:=r';cases q;cases q';by_cases z:p=p'
   ·subst z;rw[tR r0 r0' e0];exact EqAt.same _
   ·exact .of_refs z (uy I (fun r r' q q' e=>ih hu1 r r' q q' e) (sm _ _ a1) (sm _ _ a2) b1 b2 e hu0)
  ·
   rename_i n' xs ys hn;cases hn;have r0:=r;have r0':=r';obtain⟨p,vs,rfl,a1,b1⟩:=r;obtain⟨p',vs',rfl,a2,b2⟩:=r';cases q;cases q';by_cases z:p=p'
   ·subst z;rw[tR r0 r0' e0];exact EqAt.same _
   ·exact .of_refs z (rC I (fun r r' q q' e=>ih hu1 r r' q q' e) (sm _ _ a1) (sm _ _ a2) b1 b2 e hu0)
  ·cases e
def zI (K:Fg0) (n:Nat) (neg:Bool):R2:=fun x y H Q=>∃ F d d' k,av F H/\ed K F H d x/\ed K F H d' y/\eqN (n + 1) d d'=some k/\Q (.bl (neg ^^ k)) H
theorem HC (I:Inv X pins σ H s) (sm:av F H) (n:Nat) {A:Around} {d d':D} {v v':V} {u u':Value} {k:Bool} (hu:A.units + n + 1 < cLine) (r:ed K F H d v) (r':ed K F H d' v') (q:RelV v u) (q':RelV v' u') (e:eqN (n + 1) d d'=some k):RcAt A s u u' k:=by
 have hu0:A.units < cLine:=by omega
 have hu1:A.in1.units + n < cLine:=by show A.units + 1 + n < cLine;omega
 unfold eqN at e;split at e
 ·cases r;cases r';cases e;cases q;cases q';exact .none_none
 ·cases r;cases r';cases e;cases q;cases q';exact .bool_bool _ _
 ·cases r;cases r';cases e;obtain⟨t,rfl⟩:=q;obtain⟨t',rfl⟩:=q';exact .int_int _ _ _ _
 ·cases r;cases r';cases e;obtain⟨t,rfl⟩:=q;obtain⟨t',rfl⟩:=q';exact .str_str _ _ _ _
 ·rename_i n' xs ys hn;cases hn;obtain⟨p,vs,rfl,a1,b1⟩:=r;obtain⟨p',vs',rfl,a2,b2⟩:=r';cases q;cases q';exact uy I (fun r r' q q' e=>tS I sm _ hu1 r r' q q' e) a1 a2 b1 b2 e hu0
 ·rename_i n' xs ys hn;cases hn;obtain⟨p,vs,rfl,a1,b1⟩:=r;obtain⟨p',vs',rfl,a2,b2⟩:=r';cases q;cases q';exact rC I (fun r r' q q' e=>tS I sm _ hu1 r r' q q' e) (sm _ _ a1) (sm _ _ a2) b1 b2 e hu0
 ·cases e
theorem FE (hK:X.K=K) {n:Nat} (hu:X.A.units + n + 1 < cLine):OpR X (compareOp .Eq) (zI K n false):=by
 intro pins s σ H x y v u Q I rx ry h;obtain⟨F,d,d',k,sm,r,r',e,q⟩:=h;refine HC I sm n hu r r' rx ry e _ _ _ _ (AY I q (by simp))
def vd (n:Nat) (neg:Bool) (x y:D) (Γ:G) (Q:RV->G->Prop):Prop:=∃ k,eqN (n + 1) x y=some k/\Q (.fz (.bl (neg ^^ k))) Γ
theorem A2 {n:Nat} {neg:Bool}:jG K (zI K n neg) (vd n neg):=by
 intro B F σ H Γ x y dx dy Q QQ e rx ry q k;obtain⟨b,hb,q⟩:=q;exact⟨F,dx,dy,b,e.sub,rx,ry,hb,k _ _ (rE e q)⟩
theorem cW (hK:X.K=K) {k:Nat} (hr:bJ k X.A):C3 K X .Eq (zI K 20 false) (vd 20 false):=⟨FE hK (by have:=hr.un;omega),A2⟩
theorem zB {n:Nat} {A:Around} {p q:Addr} {xs ys:List D} {vs ws:List V} {k:Bool} (I:Inv X pins σ H s) (ih:∀ {d d':D} {v v':V} {u u':Value} {k:Bool},Rep K F d v->Rep K F d' v'->RelV v u->RelV v' u'->eqN n d d'=some k->EqAt A.in1 s u u' k)
  (h1:H p=some (.lst vs)) (h2:H q=some (.lst ws)) (r1:ar K F xs vs) (r2:ar K F ys ws) (he:eZ n xs ys=some k) (hu:A.units < cLine):RcNeAt A s (.ref p) (.ref q) (!k):=by
 obtain⟨us,q1,l1⟩:=tO I h1;obtain⟨zs,q2,l2⟩:=tO I h2;have n1:us.toArray.size=xs.length:=by rw[<- r1.length,q1.length];simp
 have n2:zs.toArray.size=ys.length:=by rw[<- r2.length,q2.length];simp
 by_cases hl:xs.length=ys.length
 ·obtain⟨e,g,rfl⟩:=ju he;have:=RcNeAt.lists l1 l2 (by rw[n1,n2,hl]) hu (tT ih r1 r2 q1 q2 g);rw[n1] at this;rw[hl,Nat.min_self,beq_self_eq_true,Bool.and_true];rw[hl] at this;exact this
 ·rw[qf he hl];refine RcNeAt.lists_lengths l1 l2 ?_ hu;rw[n1,n2,bne_iff_ne];exact hl
theorem yg {n:Nat} {A:Around} {p q:Addr} {xs ys:List D} {vs ws:List V} {k:Bool} (I:Inv X pins σ H s) (ih:∀ {d d':D} {v v':V} {u u':Value} {k:Bool},Rep K F d v->Rep K F d' v'->RelV v u->RelV v' u'->eqN n d d'=some k->EqAt A.in1 s u u' k)
  (h1:H p=some (.tup vs)) (h2:H q=some (.tup ws)) (r1:ar K F xs vs) (r2:ar K F ys ws) (he:eZ n xs ys=some k) (hu:A.units < cLine):RcNeAt A s (.ref p) (.ref q) (!k):=by
 obtain⟨us,q1,l1⟩:=tN I h1;obtain⟨zs,q2,l2⟩:=tN I h2;have n1:us.toArray.size=xs.length:=by rw[<- r1.length,q1.length];simp
 have n2:zs.toArray.size=ys.length:=by rw[<- r2.length,q2.length];simp
 obtain⟨e,g,rfl⟩:=ju he;have:=RcNeAt.tuples l1 l2 hu (tT ih r1 r2 q1 q2 g);rw[n1,n2] at this;exact this
theorem Hz (I:Inv X pins σ H s) (sm:av F H) (n:Nat) {A:Around} {d d':D} {v v':V} {u u':Value} {k:Bool} (hu:A.units + n + 1 < cLine) (r:ed K F H d v) (r':ed K F H d' v') (q:RelV v u) (q':RelV v' u') (e:eqN (n + 1) d d'=some k):RcNeAt A s u u' (!k):=by
 have hu0:A.units < cLine:=by omega
 have hu1:A.in1.units + n < cLine:=by show A.units + 1 + n < cLine;omega
 unfold eqN at e;split at e
 ·cases r;cases r';cases e;cases q;cases q';exact .none_none
 ·cases r;cases r';cases e;cases q;cases q';exact .bool_bool _ _
 ·cases r;cases r';cases e;obtain⟨t,rfl⟩:=q;obtain⟨t',rfl⟩:=q';exact .int_int _ _ _ _
 ·cases r;cases r';cases e;obtain⟨t,rfl⟩:=q;obtain⟨t',rfl⟩:=q';exact .str_str _ _ _ _
 ·rename_i n' xs ys hn;cases hn;obtain⟨p,vs,rfl,a1,b1⟩:=r;obtain⟨p',vs',rfl,a2,b2⟩:=r';cases q;cases q';exact zB I (fun r r' q q' e=>tS I sm _ hu1 r r' q q' e) a1 a2 b1 b2 e hu0
 ·rename_i n' xs ys hn;cases hn;obtain⟨p,vs,rfl,a1,b1⟩:=r;obtain⟨p',vs',rfl,a2,b2⟩:=r';cases q;cases q';exact yg I (fun r r' q q' e=>tS I sm _ hu1 r r' q q' e) (sm _ _ a1) (sm _ _ a2) b1 b2 e hu0
 ·cases e
theorem FA (hK:X.K=K) {n:Nat} (hu:X.A.units + n + 1 < cLine):OpR X (compareOp .NotEq) (zI K n true):=by
 intro pins s σ H x y v u Q I rx ry h;obtain⟨F,d,d',k,sm,r,r',e,q⟩:=h;refine Hz I sm n hu r r' rx ry e _ _ _ _ (AY I q (by simp))
theorem wI (hK:X.K=K) {k:Nat} (hr:bJ k X.A):C3 K X .NotEq (zI K 20 true) (vd 20 true):=⟨FA hK (by have:=hr.un;omega),A2⟩
theorem rW {n:Nat}:∀ (xs ys:Li),eZ n (xs.map .int) (ys.map .int)=some (decide (xs=ys))
 | [],[]=>by simp [eZ]
 | x::xs,[]=>by simp [eZ]
 | [],y::ys=>by simp [eZ]
 | x::xs,y::ys=>by
  simp only[List.map_cons,eZ,rW xs ys,eqN]
  congr 1
  rw[Bool.eq_iff_iff];simp
theorem vc {n:Nat} (xs ys:Li):eqN (n + 1) (.lst (xs.map .int)) (.lst (ys.map .int))=some (decide (xs=ys)):=by
 unfold eqN;exact rW xs ys
end
end L3
namespace L2
open PySem PySem.Spec PyProof.Rows
structure Acc (Y:Cx) (D:Addr) (pl:Pn) (ys:List V) (σ:St) (H:Hp) (s:Shared):Prop where
 us:∃ us,Inv Y ((D,a9 us us.length)::pl) σ H s/\Vals ys us
 exD:D∈Y.ex
 nd:∀ p∈Y.pn++pl,p.1≠D
abbrev TB:=List V->St->Hp->(List V->St->Hp->Prop)->Prop
def PB (Y:Cx) (D:Addr) (m:Sem Fin->Sem Fin) (t:TB):Prop:=
 ∀ (k:Sem Fin) (pl:Pn) (s:Shared) (ys:List V) (σ:St) (H:Hp) (Q:List V->St->Hp->Prop) (R:Fin->Shared->Prop),Acc Y D pl ys σ H s->t ys σ H Q->
  (∀ ys' σ' H' s',Acc Y D pl ys' σ' H' s'->Q ys' σ' H'->wpAny (model Y.prog Y.w) Y.A k R (fun _ _=>False) s')->wpAny (model Y.prog Y.w) Y.A (m k) R (fun _ _=>False) s
section
variable {Y:Cx} {D:Addr}
def vo (te:TE):TB:=fun ys σ H Q=>ys.length < sizeLine/\te σ H fun y H'=>Q (ys++[y]) σ H'
abbrev xI (elt:Expr) (D:Addr) (env:Env) (k:Sem Fin):Sem Fin:=(eval elt env >>= fun x=>call (.builtin "list.append") [.ref D,x] >>= fun _=>pure ()) >>= fun _=>k
theorem Acc.pins {pl:Pn} {ys:List V} {σ σ':St} {H H':Hp} {s s':Shared} {us:Lv} (a:Acc Y D pl ys σ H s) (I:Inv Y ((D,a9 us us.length)::pl) σ' H' s') (r:Vals ys us):Acc Y D pl ys σ' H' s':=⟨⟨us,I,r⟩,a.exD,a.nd⟩
theorem xg {elt:Expr} {te:TE} (hx:Y.xe=fun _ _=>False) (he:PE Y elt te):PB Y D (xI elt D Y.env) (vo te):=by
 intro k pl s ys σ H Q R a ⟨hz,q⟩ hk;obtain⟨us,I,rv⟩:=a.us;have he':=he _ s σ H _ I q;rw[hx] at he';refine wpAny_bind (wpAny_bind (thn he' fun y s7 ⟨yv,H7,I7,r7,q7⟩=>wpAny_bind ?_));obtain⟨pD,pH,pL,pF,pc⟩:=I7.pin (D,a9 us us.length) (List.mem_append_right _ List.mem_cons_self);have hlen:us.length=ys.length:=rv.length.symm;refine append_at (hsz:=by rw[List.size_toArray,hlen];exact Nat.le_of_lt hz) pD fun h8 sb8 hD8=>wpAny_pure ?_;have I7n:Inv Y pl σ H7 s7:=I7.hU fun p z=>I7.pin p (List.mem_append_right _ (List.mem_cons_of_mem _ z));have I8:Inv Y pl σ H7 { s7 with heap:=h8 }:=I7n.turned (t':=s7.toks) (it:=D) (fun b o hb e=>(sb8.2 b hb).trans e) pH pL (.inl a.exD) (fun x c e=>(I7.ok.exf D a.exD).2 x c e) a.nd;have e8:h8.get? D=some (a9 (us++[y]) (us++[y]).length):=by
  rw[hD8];simp
 refine hk (ys++[yv]) σ H7 _ ⟨⟨us++[y],I8.hU fun p z=>?_,rv.append (.cons r7 .nil)⟩,a.exD,a.nd⟩ q7;rcases List.mem_cons.mp z with e | z
 ·subst e;exact⟨e8,pH,pL,pF,fun v z=>by cases z⟩
 ·exact I8.pin p (List.mem_append_right _ z)
def bIf (tc:TT) (t:TB):TB:=fun ys σ H Q=>tc σ H fun b H'=>if b=true then t ys σ H' Q else Q ys σ H'
abbrev ifK (c:Expr) (env:Env) (m:Sem Fin->Sem Fin) (k:Sem Fin):Sem Fin:=(forIn [c] true fun c r=>if r=true then do let ok <- isTrue c env (eval c env);pure (ForInStep.yield ok) else pure (ForInStep.yield r)) >>= fun ok=>if ok=true then m k else k
theorem HY {c:Expr} {tc:TT} {m:Sem Fin->Sem Fin} {t:TB} (hx:Y.xe=fun _ _=>False) (hc:PT Y c tc) (hm:PB Y D m t):PB Y D (ifK c Y.env m) (bIf tc t):=by
 intro k pl s ys σ H Q R a q hk;obtain⟨us,I,rv⟩:=a.us;have hc':=hc _ s σ H _ I q;rw[hx] at hc';refine wpAny_bind (wpAny_tests_one (thn hc' fun b s1 ⟨H1,I1,q1⟩=>?_));cases b with
 | true=>exact hm k pl s1 ys σ H1 Q R (a.pins I1 rv) (by simpa using q1) hk
 | false=>exact hk ys σ H1 s1 (a.pins I1 rv) (by simpa using q1)
def vm (J:It) (g:TG) (t:TB):TB:=fun ys σ H Q=>∃ W:Nat->Nat->List V->St->Hp->Prop,(∃ m,W 0 m ys σ H)/\∀ i m ys σ H,W i m ys σ H->
 (J.stop i H/\Q ys σ H)\/(J.go i H/\∀ x H',J.yld i H x H'->g x σ H' fun σ2 H2=>t ys σ2 H2 fun ys' σ' H''=>∃ m',m' < m/\W (i + 1) m' ys' σ' H'')
theorem DO {elt:Expr} {gens:List Comprehension} {sc:Scope} {pos p0:Pos} {d:Nat} {tg:Expr} {it:Addr} {fp:La} {tn:Nat->Heap->Prop} {J:It} {g:TG} {m:Sem Fin->Sem Fin} {t:TB}
  (hx:Y.xe=fun _ _=>False) (hc:Y.calm=true) (T:Turn Y.prog Y.w Y.K tg J fp it tn) (hg:PG Y tg g) (hm:PB Y D m t)
  (hturn:compTurn (.ListComp elt gens sc pos) d (.ref it) (.ref D) Y.env=(standAt p0 >>= fun _=>pyNext (.ref it) >>= fun r=>match r with
   | none=>pure (.done .next)
   | some v=>letOwnedTupleGo tg (.ref it) v >>= fun _=>assign tg Y.env v >>= fun _=>m (again (.compLoop (.ListComp elt gens sc pos) d (.ref it) (.ref D) Y.env))))
  {pl:Pn} {ys:List V} {σ:St} {H:Hp} {s:Shared} {Q:List V->St->Hp->Prop} {R:Result->Shared->Prop} (a:Acc Y D pl ys σ H s) (st:tn 0 s.heap) (f:∀ b∈fp,c5 Y pl H b/\D≠b) (q:vm J g t ys σ H Q)
  (hR:∀ ys' σ' H' s',Acc Y D pl ys' σ' H' s'->Q ys' σ' H'->R (.ok .next) s'):codeAny (model Y.prog Y.w) Y.A (.compLoop (.ListComp elt gens sc pos) d (.ref it) (.ref D) Y.env) R s:=by
 obtain⟨W,⟨m0,w0⟩,turn⟩:=q;have stat:∀ {H':Hp} {o:Obj},(∀ b∈fp,H' b=none)->∀ b∈fp,c5 Y ((D,o)::pl) H' b:=fun hn b hb=>by
  obtain⟨⟨_,f1,f2,f3,f4,f5⟩,f6⟩:=f b hb;refine⟨hn b hb,f1,f2,f3,f4,fun p hp=>?_⟩;rcases List.mem_append.mp hp with hp | hp
  ·exact f5 p (List.mem_append_left _ hp)
  ·rcases List.mem_cons.mp hp with e | hp
   ·subst e;exact f6
   ·exact f5 p (List.mem_append_right _ hp)
 refine codeAny_loop rfl (fun n s'=>∃ i ys' σ' H',Acc Y D pl ys' σ' H' s'/\tn i s'.heap/\(∀ b∈fp,H' b=none)/\W i n ys' σ' H') (fun n s3 hI=>?_) m0 ⟨0,ys,σ,H,a,st,fun b hb=>(f b hb).1.1,w0⟩;show wpAny _ _ ((compTurn (.ListComp elt gens sc pos) d (.ref it) (.ref D) Y.env).onRaise (fun x=>do noteFrame x Y.env;theTreesLotGoes x)) _ _ s3;refine wpAny_noted ?_;rw[hturn];obtain⟨i,ys3,σ3,H3,a3,st3,fr3,w3⟩:=hI;obtain⟨us3,I3,rv3⟩:=a3.us;have noE:∀ {M:Model} {A:Around} {α:Type} {t:Sem α} {Q:α->Shared->Prop} {E:VS} {s:Shared},wpAny M A t Q (fun _ _=>False) s->wpAny M A t Q E s:=fun h=>wpAny_mono h (fun _ _ x=>x) fun _ _ x=>x.elim;refine wpAny_bind (wpAny_standAt (wpAny_bind ?_));rcases turn i n ys3 σ3 H3 w3 with ⟨stop,qn⟩ | ⟨go,step⟩
 ·refine noE (thn (T.done Y rfl rfl rfl hc i _ s3 σ3 H3 _ I3 (stat fr3) st3 stop) fun r s4 ⟨hr,I4⟩=>?_);subst hr;exact wpAny_pure (hR ys3 σ3 H3 s4 (a3.pins I4 rv3) qn)
 ·refine noE (thn (T.item Y rfl rfl rfl hc i _ s3 σ3 H3 _ I3 (stat fr3) st3 go) fun r s4 ⟨u,hr,h4⟩=>?_);subst hr;refine wpAny_bind (noE (thn h4 fun _ s5 ⟨x,H5,I5,r5,y5,st5,fr5⟩=>?_));have I5':=I5.pinned (stat fr5) (T.obj _ _ st5);have hg':=hg _ s5 σ3 H5 x u _ I5' r5 (step x H5 y5);rw[hx] at hg';refine wpAny_bind (noE (thn hg' fun _ s6 ⟨σ6,H6,I6,q6⟩=>?_));have a6:Acc Y D (pl++pz fp s5.heap) ys3 σ6 H6 s6:=⟨⟨us3,I6,rv3⟩,a.exD,fun p hp=>by
   rcases List.mem_append.mp hp with hp | hp
   ·exact a.nd p (List.mem_append_left _ hp)
   ·rcases List.mem_append.mp hp with hp | hp
    ·exact a.nd p (List.mem_append_right _ hp)
    ·exact fun z=>(f p.1 (rJ hp).1).2 z.symm⟩
  refine noE (hm _ _ s6 ys3 σ6 H6 _ _ a6 q6 fun ys7 σ7 H7 s7 a7 ⟨m',hlt,w7⟩=>wpAny_pure ⟨rfl,m',hlt,i + 1,ys7,σ7,H7,?_,?_,?_,w7⟩)
  ·obtain⟨us7,I7,rv7⟩:=a7.us;exact⟨⟨us7,I7.hU fun p hp=>I7.pin p (List.mem_append_right _ (by
    rcases List.mem_cons.mp hp with e | hp
    ·subst e;exact List.mem_cons_self
    ·exact List.mem_cons_of_mem _ (List.mem_append_left _ hp))),rv7⟩,a.exD,a.nd⟩
  ·obtain⟨us7,I7,rv7⟩:=a7.us;exact T.keep _ _ _ st5 fun b hb o e=>(I7.pin (b,o) (List.mem_append_right _ (List.mem_cons_of_mem _ (List.mem_append_right _ (dC hb e))))).1
  ·intro b hb;obtain⟨us7,I7,rv7⟩:=a7.us;obtain⟨o,e,d⟩:=T.obj _ _ st5 b hb;exact(I7.pin (b,o) (List.mem_append_right _ (List.mem_cons_of_mem _ (List.mem_append_right _ (dC hb e))))).2.1
end
theorem mf {prog:Program} {w:World} {A:Around} {R:Result->Shared->Prop} {s:Shared} {elt:Expr} {gens:List Comprehension} {sc:Scope} {pos:Pos} {d:Nat} {it acc:Value} {env:Env} {tg iter:Expr} {ifs:List Expr} (hcl:gens[d]?=some ⟨tg,iter,ifs,0⟩)
  (same:codeAny (model prog w) A (.compLoop (.ListComp elt gens sc pos) d it acc env) R s)
  (anew:wpAny (model prog w) A (pyIter it) (fun it2 s2=>codeAny (model prog w) A (.compLoop (.ListComp elt gens sc pos) d it2 acc env) R s2) (notedBy (model prog w) A env fun x s2=>R (.error x) s2) s) :
  codeAny (model prog w) A (.compStart (.ListComp elt gens sc pos) d it acc env) R s:=by
 have cl:(clausesOf (.ListComp elt gens sc pos))[d]?=some ⟨tg,iter,ifs,0⟩:=hcl;apply codeAny_of_tree;apply wpAny_notedAt (pos:=theWindowsPlace) (m:=compStart (.ListComp elt gens sc pos) d it acc env);simp only[compStart,cl];apply wpAny_bind;apply wpAny_askSetting;apply wpAny_ite;split
 ·exact wpAny_pure ⟨rfl,same⟩
 ·apply wpAny_bind;apply wpAny_rule;apply wpAny_bind;apply wpAny_standAt;exact wpAny_bind (wpAny_mono anew (fun _ _ q=>wpAny_pure ⟨rfl,q⟩) fun _ _ q=>q)
section
variable {Y:Cx} {D:Addr}
def Br (wi:TI) (g:TG) (t:TB):TB:=fun ys σ H Q=>wi σ H fun J H1=>vm J g t ys σ H1 Q
abbrev DC (elt:Expr) (gens:List Comprehension) (sc:Scope) (pos:Pos) (d:Nat) (iter:Expr) (D:Addr) (env:Env) (k:Sem Fin):Sem Fin:=
 eval iter env >>= fun x=>standAt iter.pos >>= fun _=>foldedSetIterable iter env x >>= fun x=>holding [x] (pyIter x) >>= fun itv=>runOwn (.compStart (.ListComp elt gens sc pos) d itv (.ref D) env) env >>= fun _=>k
theorem Co {elt:Expr} {gens:List Comprehension} {sc:Scope} {pos p0:Pos} {d:Nat} {tg iter:Expr} {ifs:List Expr} {wi:TI} {g:TG} {m:Sem Fin->Sem Fin} {t:TB} (hx:Y.xe=fun _ _=>False) (hc:Y.calm=true) (hcl:gens[d]?=some ⟨tg,iter,ifs,0⟩)
  (hi:PI Y tg iter wi) (hg:PG Y tg g) (hm:PB Y D m t)
  (hturn:∀ it,compTurn (.ListComp elt gens sc pos) d (.ref it) (.ref D) Y.env=(standAt p0 >>= fun _=>pyNext (.ref it) >>= fun r=>match r with
   | none=>pure (.done .next)
   | some v=>letOwnedTupleGo tg (.ref it) v >>= fun _=>assign tg Y.env v >>= fun _=>m (again (.compLoop (.ListComp elt gens sc pos) d (.ref it) (.ref D) Y.env))))
  (hs:∀ x,foldedSetIterable iter Y.env x=pure x:=by intro _;rfl):PB Y D (DC elt gens sc pos d iter D Y.env) (Br wi g t):=by
 intro k pl s ys σ H Q R a q hk;obtain⟨us,I,rv⟩:=a.us;have hi':=hi _ s σ H _ I q;rw[hx] at hi';refine wpAny_bind (thn hi' fun v s1 h1=>wpAny_bind (wpAny_standAt (wpAny_bind ?_)));rw[hs];refine wpAny_pure (wpAny_bind (wpAny_holding (thn h1 fun itv s2 h2=>?_)));obtain⟨it,fp,tn,J,H2,e,I2,T,st2,f2,cw⟩:=h2;subst e;have a2:=a.pins I2 rv;refine wpAny_bind (wpAny_runOwn ?_);have lp:∀ {R:Result->Shared->Prop},(∀ ys' σ' H' s',Acc Y D pl ys' σ' H' s'->Q ys' σ' H'->R (.ok .next) s')->codeAny (model Y.prog Y.w) Y.A (.compLoop (.ListComp elt gens sc pos) d (.ref it) (.ref D) Y.env) R s2:=fun hR=>
  DO hx hc T hg hm (hturn it) a2 st2 (fun b hb=>by
   obtain⟨f0,f1,f3,f4,f5,f6⟩:=f2 b hb;exact⟨⟨f0,f1,f3,f4,f5,fun p hp=>f6 p (by
    rcases List.mem_append.mp hp with hp | hp
    ·exact List.mem_append_left _ hp
    ·exact List.mem_append_right _ (List.mem_cons_of_mem _ hp))⟩,f6 (D,_) (List.mem_append_right _ List.mem_cons_self)⟩) cw hR
 have fin:=lp (R:=fun r s'=>match r with | .ok f=>wpAny (model Y.prog Y.w) Y.A k R (fun _ _=>False) s' | .error e=>False) fun ys' σ' H' s' a' q'=>hk ys' σ' H' s' a' q';have fin2:codeAny (model Y.prog Y.w) Y.A (.compLoop (.ListComp elt gens sc pos) d (.ref it) (.ref D) Y.env) (fun r s'=>match r with | .ok f=>wpAny (model Y.prog Y.w) Y.A k R (fun _ _=>False) s' | .error e=>cameBackBy (model Y.prog Y.w) Y.A Y.env (fun _ _=>False) e s') s2:=
  codeAny_mono fin fun r s' h=>by cases r with | ok f=>exact h | error e=>exact h.elim
 exact mf hcl fin2 (wpAny_mono (T.self Y.A 0 _ _ (fun _ _=>False) st2 fin2) (fun _ _ h=>h) fun _ _ h=>h.elim)
end
section
variable {X:Cx}
theorem vg {elt iter tg:Expr} {gens:List Comprehension} {ifs:List Expr} {sc:Scope} {pos p0:Pos} {Nc:Ls} {fr:On} {g:TG} {m:Addr->Env->Sem Fin->Sem Fin} {t:TB} (hcl:gens[0]?=some ⟨tg,iter,ifs,0⟩) (B:Blk X.N X.env.scope sc Nc fr) (hc:X.calm=true)
  (hg:∀ s₀ H₀ C ex pn,PG (aY X sc Nc s₀ H₀ C ex pn) tg g) (hm:∀ s₀ H₀ C ex pn D,PB (aY X sc Nc s₀ H₀ C ex pn) D (m D (aY X sc Nc s₀ H₀ C ex pn).env) t)
  (hturn:∀ (it D:Addr) (env:Env),compTurn (.ListComp elt gens sc pos) 0 (.ref it) (.ref D) env=(standAt p0 >>= fun _=>pyNext (.ref it) >>= fun r=>match r with
   | none=>pure (.done .next)
   | some v=>letOwnedTupleGo tg (.ref it) v >>= fun _=>assign tg env v >>= fun _=>m D env (again (.compLoop (.ListComp elt gens sc pos) 0 (.ref it) (.ref D) env))))
  {pins:Pn} {σ:St} {s2:Shared} {H2:Hp} {it:Addr} {fp:La} {tn:Nat->Heap->Prop} {J:It} (I2:Inv X pins σ H2 s2) (T:Turn X.prog X.w X.K tg J fp it tn) (st2:tn 0 s2.heap) (f2:∀ b∈fp,c5 X pins H2 b)
  {Q:VK} (cw:vm J g t [] (jF fr σ) H2 fun ys _ H'=>ys.length < sizeLine/\∀ l,H' l=none->Q (.ref l) (upd H' l (.lst ys))) {RR:Value->Addr->Result->Shared->Prop} {E:VS}
  (hRR:∀ D C s' H',Inv X pins σ H' s'->(∃ m,s'.heap.Ns C m)->c5 X pins H' C->Q (.ref D) H'->RR (.ref D) C (.ok .next) s') :
  wpAny (model X.prog X.w) X.A (newList []) (fun acc s₃=>wpAny (model X.prog X.w) X.A (newFunctionEnv sc X.env.globals (takes X.env.cells sc.names []) [] X.env.qual none .none (some X.env)) (fun cenv s₄=>
   codeAny (model X.prog X.w) X.A (.compStart (.ListComp elt gens sc pos) 0 (.ref it) acc { cenv with scope:=relabel sc X.env }) (RR acc cenv.locals) s₄) E s₃) E s2:=by
 refine wpAny_newObj_type (rK fun h₁ hns₁ old₁ cl₁=>?_);dsimp only at hns₁ old₁ cl₁ ⊢;generalize hH2:s2.heap.push { cls:=.type "list",dict:=none,data:=.seq ([]:Lv).toArray }=hp at hns₁ old₁ cl₁ ⊢;have hCs:hp.objs.size=s2.heap.objs.size + 1:=by rw[<- hH2,Heap.size_push]
 generalize hCe:hp.objs.size=C at hns₁ cl₁ ⊢;generalize hDe:s2.heap.objs.size=D at hCs ⊢;have hDC:D≠C:=by rw[<- hCe,hCs];exact Nat.ne_of_lt (Nat.lt_succ_self _)
 have up:∀ b o,s2.heap.get? b=some o->hp.get? b=some o:=fun b o e=>by rw[<- hH2];exact Heap.get?_push_of_some _ e
 have hDp:hp.get? D=some (a9 [] 0):=by rw[<- hH2,<- hDe];exact Heap.get?_push_size _ rfl
 have I3:Inv X pins σ H2 { s2 with heap:=hp }:=I2.kept (t':=s2.toks) up;have hD0:H2 D=none:=I2.hok.fresh (by rw[hDe];exact Nat.le_refl _);have fD:c5 X pins H2 D:=I2.lR (by rw[hDe];exact Nat.le_refl _) hD0;have fpo:∀ b∈fp,∃ o,s2.heap.get? b=some o/\∀ v,o.data≠.cell v:=T.obj 0 _ st2;have fplt:∀ b∈fp,b < D:=fun b hb=>by obtain⟨o,e,_⟩:=fpo b hb;rw[<- hDe];exact Heap.lt_size e
 have hDfp:D∉fp:=fun hb=>Nat.lt_irrefl _ (fplt D hb);have hCfp:C∉fp:=fun hb=>by have:=fplt C hb;rw[<- hCe,hCs] at this;exact absurd (Nat.lt_of_succ_lt this) (Nat.lt_irrefl _)
 have nobase:∀ b,(b∈X.ex\/X.s₀.heap.objs.size<=b)->∀ o,X.base.get? b≠some o:=fun b h o e=>by
  rcases h with h | h
  ·exact I2.ok.noex b o e h
  ·exact absurd (Nat.lt_of_lt_of_le (Heap.lt_size e) (Nat.le_trans I2.ok.bsz h)) (Nat.lt_irrefl _)
 have hex:∀ b∈D::fp,b < hp.objs.size/\b∉X.fs/\b≠X.env.locals/\(∀ x c,X.env.cells.lookup x=some c->c≠b)/\∀ o,X.base.get? b≠some o:=fun b hb=>by
  have fb:c5 X pins H2 b:=by
   rcases List.mem_cons.mp hb with e | hb
   ·rw[e];exact fD
   ·exact f2 b hb
  refine⟨?_,fb.2.2.1,fb.2.1,fb.2.2.2.2.1,nobase b fb.2.2.2.1⟩;rcases List.mem_cons.mp hb with e | hb
  ·rw[e,hCs];exact Nat.lt_succ_self _
  ·rw[hCs];exact Nat.lt_succ_of_lt (fplt b hb)
 have hCle:hp.objs.size<=C:=by rw[hCe];exact Nat.le_refl _
 have ok:(aY X sc Nc { s2 with heap:=hp } H2 C (D::fp) (X.pn++pins)).Ok:=Bj B I3 hCle hex;have old:∀ b u,hp.get? b=some u->h₁.get? b=some u:=old₁;have J0:Inv (aY X sc Nc { s2 with heap:=hp } H2 C (D::fp) (X.pn++pins)) [(D,a9 [] 0)] (jF fr σ) H2 { s2 with heap:=h₁ }:=
  xU B ok I3 hCle rfl rfl old hns₁ cl₁ hDp hD0 fD.2.1 fD.2.2.1 (fun v z=>by cases z)
 have a0:Acc (aY X sc Nc { s2 with heap:=hp } H2 C (D::fp) (X.pn++pins)) D [] [] (jF fr σ) H2 { s2 with heap:=h₁ }:=
  ⟨⟨[],J0,.nil⟩,List.mem_cons_self,fun p hp'=>fD.2.2.2.2.2 p (by simpa using hp')⟩
 have fpY:∀ b∈fp,c5 (aY X sc Nc { s2 with heap:=hp } H2 C (D::fp) (X.pn++pins)) [] H2 b/\D≠b:=fun b hb=>
  ⟨⟨(f2 b hb).1,fun e=>hCfp (by have e':b=C:=e;rw[<- e'];exact hb),ok.exfs b (List.mem_cons_of_mem _ hb),.inl (List.mem_cons_of_mem _ hb),(ok.exf b (List.mem_cons_of_mem _ hb)).2,fun p hp'=>(f2 b hb).2.2.2.2.2 p (by simpa using hp')⟩,fun z=>hDfp (by rw[z];exact hb)⟩
 have loop:codeAny (model X.prog X.w) X.A (.compLoop (.ListComp elt gens sc pos) 0 (.ref it) (.ref D) (compEnvC sc (bcl X.env.cells sc C) C X.env)) (RR (.ref D) C) { s2 with heap:=h₁ }:=by
  refine DO (Y:=aY X sc Nc { s2 with heap:=hp } H2 C (D::fp) (X.pn++pins)) (D:=D) rfl hc T (hg _ _ _ _ _) (hm _ _ _ _ _ D) (hturn it D _) a0 (T.keep _ _ _ st2 (fun b _ o e=>old b o (up b o e))) fpY cw fun ys σ4 H3 s4 a4 hq=>?_;obtain⟨us,I4,rv⟩:=a4.us;obtain⟨hsz,qn⟩:=hq;obtain⟨pD,pH,_,_,_⟩:=I4.pin (D,a9 us us.length) (List.mem_append_right _ List.mem_cons_self);obtain⟨mC',hnC,_⟩:=I4.loc;have un:Un (frs X.stack) fp H2 (upd H3 D (.lst ys)) s2.heap s4.heap:=by
   have u0:Un (frs X.stack) (D::fp) H2 H3 hp s4.heap:=I4.base;have neD:∀ {b:Addr} {o:Obj},s2.heap.get? b=some o->b≠D:=fun e=>by rw[<- hDe];exact Nat.ne_of_lt (Heap.lt_size e)
   have nx:∀ {b:Addr} {o:Obj},s2.heap.get? b=some o->b∉fp->b∉D::fp:=fun e h1 h2=>by
    rcases List.mem_cons.mp h2 with z | z
    ·exact neD e z
    ·exact h1 z
   have neT:∀ {b:Addr} {o:HO},H2 b=some o->b≠D:=fun e z=>by rw[z,hD0] at e;cases e
   exact⟨fun b o e n hb hx=>u0.keep b o (up b o e) n hb (nx e hx),fun b o e n hb hx=>u0.slot b o (up b o e) n hb (nx e hx),fun b o e n hx=>by rw[af (neD e)];exact u0.free b o (up b o e) n (nx e hx),
    fun b o e hx=>u0.there b o (up b o e) (nx e hx),fun b xs e=>by rw[af (neT e)];exact u0.tups b xs e,fun b o xs e=>by rw[af (neT e)];exact u0.frzs b o xs e,fun b ps e=>by rw[af (neT e)];exact u0.tbls b ps e⟩
  have hok:HOk X.prog X.w (upd H3 D (.lst ys)) s4.heap:=fun b u e=>by
   by_cases hb:b=D
   ·subst hb;rw[ao] at e;cases e;exact⟨Nat.le_of_lt hsz,us,us.length,rv,pD⟩
   ·rw[af hb] at e;refine(I4.hok b u e).nY (fun c v _ q=>q) (fun c q=>?_) fun c xs q=>?_
    ·rw[af (fun z=>by rw[z] at q;rw[show H3 D=none from pH] at q;cases q)];exact q
    ·rw[af (fun z=>by rw[z] at q;rw[show H3 D=none from pH] at q;cases q)];exact q
  have I5:Inv X pins σ (upd H3 D (.lst ys)) s4:=I2.Ei I4.os un hok I4.bare fun b hb=>⟨(f2 b hb).2.2.2.1,(f2 b hb).2.1,(f2 b hb).2.2.2.2.1,(f2 b hb).2.2.2.2.2⟩;refine hRR D C s4 _ I5 ⟨mC',hnC⟩ ?_ (qn D pH);have hC2:s2.heap.objs.size<=C:=by rw[hDe,<- hCe,hCs];exact Nat.le_succ _
  refine I2.lR hC2 ?_;rw[af (Ne.symm hDC)];exact I4.free
 exact mf hcl loop (wpAny_mono (T.self X.A 0 _ _ (fun _ _=>False) (T.keep _ _ _ st2 (fun b _ o e=>old b o (up b o e))) loop) (fun _ _ h=>h) fun _ _ h=>h.elim)
def sx (fr:On) (wi:TI) (g:TG) (t:TB):TE:=fun σ H Q=>wi σ H fun J H1=>vm J g t [] (jF fr σ) H1 fun ys _ H'=>ys.length < sizeLine/\∀ l,H' l=none->Q (.ref l) (upd H' l (.lst ys))
theorem uF {elt iter tg:Expr} {ifs:List Expr} {rest:List Comprehension} {sc:Scope} {pos p0:Pos} {Nc:Ls} {fr:On} {wi:TI} {g:TG} {m:Addr->Env->Sem Fin->Sem Fin} {t:TB} (hc:X.calm=true) (hi:PI X tg iter wi) (B:Blk X.N X.env.scope sc Nc fr)
  (hg:∀ s₀ H₀ C ex pn,PG (aY X sc Nc s₀ H₀ C ex pn) tg g) (hm:∀ s₀ H₀ C ex pn D,PB (aY X sc Nc s₀ H₀ C ex pn) D (m D (aY X sc Nc s₀ H₀ C ex pn).env) t)
  (hturn:∀ (it D:Addr) (env:Env),compTurn (.ListComp elt (⟨tg,iter,ifs,0⟩::rest) sc pos) 0 (.ref it) (.ref D) env=(standAt p0 >>= fun _=>pyNext (.ref it) >>= fun r=>match r with
   | none=>pure (.done .next)
   | some v=>letOwnedTupleGo tg (.ref it) v >>= fun _=>assign tg env v >>= fun _=>m D env (again (.compLoop (.ListComp elt (⟨tg,iter,ifs,0⟩::rest) sc pos) 0 (.ref it) (.ref D) env)))) (hs:∀ x,foldedSetIterable iter X.env x=pure x:=by intro _;rfl) :
  PE X (.ListComp elt (⟨tg,iter,ifs,0⟩::rest) sc pos) (sx fr wi g t):=by
 intro pins s σ H Q I h;rw[eval_ListComp];refine wpAny_comprehension_free (use:=none) rfl hs (tW B I) B.kind B.locs (thn (hi pins s σ H _ I h) fun v s1 h1=>thn h1 fun itv s2 h2=>?_);obtain⟨it,fp,tn,J,H2,e,I2,T,st2,f2,cw⟩:=h2;subst e;refine vg (RR:=fun acc C=>compPost (model X.prog X.w) X.A X.xe none (EP X pins σ Q) acc C) rfl B hc hg hm hturn I2 T st2 f2 cw fun D C s' H' I' hn fC q=>?_;obtain⟨m,hn⟩:=hn;exact⟨m,hn,fun h' sb=>⟨.ref D,H',I'.turned (t':=s'.toks) (fun b o hb e=>(sb.2 b hb).trans e) fC.1 fC.2.1 fC.2.2.2.1 fC.2.2.2.2.1 fC.2.2.2.2.2,rfl,q⟩⟩
end
end L2
namespace L3
open PySem L2 PySem.Spec
abbrev j5:=List D->G->(List D->G->Prop)->Prop
def PoL (K:Fg0) (B:Bs) (F:Hp) (Q:List D->G->Prop):List V->L2.St->Hp->Prop:=fun ys' σ' H'=>∃ F' Γ' ds',av F F'/\En K B F' σ' H' Γ'/\ar K F' ds' ys'/\Q ds' Γ'
def nR (K:Fg0) (t:TB) (b3:j5):Prop:=∀ (B:Bs) (F:Hp) (σ:L2.St) (H:Hp) (Γ:G) (ys:List V) (ds:List D) (Q:List D->G->Prop) (QQ:List V->L2.St->Hp->Prop),En K B F σ H Γ->ar K F ds ys->b3 ds Γ Q->(∀ ys' σ' H',PoL K B F Q ys' σ' H'->QQ ys' σ' H')->t ys σ H QQ
structure G4 (K:Fg0) (Y:Cx) (D:Addr) (m:Sem Fin->Sem Fin) (t:TB) (b3:j5):Prop where
 pe:PB Y D m t
 rf:nR K t b3
def ve (e3:TE3) (ys:List D) (Γ:G) (Q:List D->G->Prop):Prop:=ys.length < sizeLine/\e3 Γ fun r Γ1=>Q (ys++[r.d]) Γ1
def C_ (c3:TT3) (b3:j5) (ys:List D) (Γ:G) (Q:List D->G->Prop):Prop:=c3 Γ fun b Γ1=>match b with
 | true=>b3 ys Γ1 Q
 | false=>Q ys Γ1
def xq (xs:List D) (g3:TG3) (b3:j5) (ys:List D) (Γ:G) (Q:List D->G->Prop):Prop:=∃ Iv:Nat->List D->G->Prop,Iv 0 ys Γ/\(∀ k d ys Γ,xs[k]?=some d->Iv k ys Γ->g3 d Γ fun Γ'=>b3 ys Γ' (Iv (k + 1)))/\∀ ys Γ,Iv xs.length ys Γ->Q ys Γ
def zC (i3:TI3) (g3:TG3) (b3:j5) (ys:List D) (Γ:G) (Q:List D->G->Prop):Prop:=i3 Γ fun xs Γ1=>xq xs g3 b3 ys Γ1 Q
def qj (fr:On) (i3:TI3) (g3:TG3) (b3:j5) (Γ:G) (Q:RV->G->Prop):Prop:=i3 Γ fun xs Γ1=>xq xs g3 b3 [] (du Γ1 (cO fr)) fun ys Γc=>ys.length < sizeLine/\Q (.fr (.lst ys)) (bB fr Γ1 Γc)
section
variable {K:Fg0} {X Y:Cx} {Da:Addr} {pos p0:Pos}
theorem pq {te:TE} {e3:TE3} (h:Ref K te e3):nR K (vo te) (ve e3):=by
 intro B F σ H Γ ys ds Q QQ e r ⟨hz,q⟩ k;refine⟨by rw[r.length];exact hz,h B F σ H Γ _ _ e q fun v H' ⟨F',Γ',rv,s,e',rr,q'⟩=>k _ _ _ ?_⟩;obtain⟨F2,s2,e2,r2⟩:=e'.frozen rr;exact⟨F2,Γ',ds++[rv.d],s.trans s2,e2,ar.append (ys:=[rv.d]) (r.mono (s.trans s2)) ⟨v,[],rfl,r2,rfl⟩,q'⟩
theorem xb {tc:TT} {c3:TT3} {t:TB} {b3:j5} (hc:om K tc c3) (h:nR K t b3):nR K (bIf tc t) (C_ c3 b3):=by
 intro B F σ H Γ ys ds Q QQ e r q k;refine hc B F σ H Γ _ _ e q fun b H' ⟨F',Γ',s,e',q'⟩=>?_;cases b with
 | true=>exact wb (h B F' σ H' Γ' ys ds Q QQ e' (r.mono s) q' fun ys' σ' H2 ⟨F2,Γ2,d2,s2,rest⟩=>k _ _ _ ⟨F2,Γ2,d2,s.trans s2,rest⟩)
 | false=>exact wc (k _ _ _ ⟨F',Γ',ds,s,e',r.mono s,q'⟩)
theorem uv {J:It} {xs:List D} {g:TG} {g3:TG3} {t:TB} {b3:j5} (hg:yX K g g3) (h:nR K t b3) {B:Bs} {F:Hp} {σ:L2.St} {H:Hp} {Γ:G} {ys:List V} {ds:List D} {Q:List D->G->Prop} {QQ:List V->L2.St->Hp->Prop}
  (R:ItR K F J xs) (e:En K B F σ H Γ) (r:ar K F ds ys) (q:xq xs g3 b3 ds Γ Q) (k:∀ ys' σ' H',PoL K B F Q ys' σ' H'->QQ ys' σ' H'):vm J g t ys σ H QQ:=by
 obtain⟨Iv,i0,it,ie⟩:=q;refine⟨fun i m ys σ H=>m=xs.length - i/\i<=xs.length/\∃ F' Γ' ds,av F F'/\En K B F' σ H Γ'/\ar K F' ds ys/\Iv i ds Γ',⟨_,rfl,Nat.zero_le _,F,Γ,ds,av.refl F,e,r,i0⟩,?_⟩;rintro i m ys2 σ2 H2 ⟨rfl,hi,F2,Γ2,ds2,s2,e2,r2,iv⟩;by_cases lt:i < xs.length
 ·refine .inr ⟨R.go i H2 (s2.trans e2.sub) lt,fun x H3 y=>?_⟩;have hd:xs[i]?=some xs[i]:=gE0 lt;obtain⟨F3,s3,e3,r3⟩:=R.turn s2 e2 hd y;refine hg B F3 σ2 H3 Γ2 x _ _ _ e3 r3 (it i _ ds2 Γ2 hd iv) fun σ' Γ' e4 q4=>?_;exact h B F3 σ' H3 Γ' ys2 ds2 _ _ e4 (r2.mono s3) q4 fun ys' σ'' H4 ⟨F4,Γ4,d4,s4,e5,r5,iv5⟩=>⟨xs.length - (i + 1),by omega,rfl,lt,F4,Γ4,d4,(s2.trans s3).trans s4,e5,r5,iv5⟩
 ·have z:i=xs.length:=by omega
  subst z;exact .inl ⟨R.stop _ H2 (s2.trans e2.sub) rfl,k _ _ _ ⟨F2,Γ2,ds2,s2,e2,r2,ie ds2 Γ2 iv⟩⟩
theorem zF {wi:TI} {i3:TI3} {g:TG} {g3:TG3} {t:TB} {b3:j5} (hi:Bw K wi i3) (hg:yX K g g3) (h:nR K t b3):nR K (Br wi g t) (zC i3 g3 b3):=by
 intro B F σ H Γ ys ds Q QQ e r q k;refine hi B F σ H Γ _ _ e q fun J H1 F1 Γ1 xs s1 e1 R q1=>?_;exact uv hg h R e1 (r.mono s1) q1 fun ys' σ' H2 ⟨F2,Γ2,d2,s2,rest⟩=>k _ _ _ ⟨F2,Γ2,d2,s1.trans s2,rest⟩
theorem rA {fr:On} {wi:TI} {i3:TI3} {g:TG} {g3:TG3} {t:TB} {b3:j5} (nd:(fr.filterMap id).Nodup) (hi:Bw K wi i3) (hg:yX K g g3) (h:nR K t b3):Ref K (sx fr wi g t) (qj fr i3 g3 b3):=by
 intro B F σ H Γ Q QQ e q k;refine hi B F σ H Γ _ _ e q fun J H1 F1 Γ1 xs s1 e1 R q1=>?_;refine uv hg h R (e1.blk nd) (ds:=[]) rfl q1 fun ys σ' H2 ⟨F2,Γ2,d2,s2,e2,r2,hz,q2⟩=>⟨by rw[r2.length];exact hz,fun l hl'=>k _ _ ?_⟩;have eo:En K B F2 σ H2 (bB fr Γ1 Γ2):=e1.back (ls:=fr) e2 (by have:=lI (Γ:=Γ1) (σ:=σ) (bs:=cO fr);rw[pW] at this;exact this);exact Po.mono (s1.trans s2) (g_ eo hl' r2 q2)
theorem Dc {elt:Expr} {te:TE} {e3:TE3} (hx:Y.xe=fun _ _=>False) (he:P3 K Y elt te e3):G4 K Y Da (xI elt Da Y.env) (vo te) (ve e3):=⟨xg hx he.pe,pq he.rf⟩
theorem JA {c:Expr} {tc:TT} {c3:TT3} {m:Sem Fin->Sem Fin} {t:TB} {b3:j5} (hx:Y.xe=fun _ _=>False) (hc:P3T K Y c tc c3) (hm:G4 K Y Da m t b3):G4 K Y Da (ifK c Y.env m) (bIf tc t) (C_ c3 b3):=⟨HY hx hc.pe hm.pe,xb hc.rf hm.rf⟩
theorem pI {elt iter tg c:Expr} {sc:Scope} {Nc:Ls} {fr:On} {wi:TI} {i3:TI3} {g:TG} {g3:TG3} {te:TE} {e3:TE3} {tc:TT} {c3:TT3} (hc:X.calm=true) (hi:P3I K X tg iter wi i3) (Bk:Blk X.N X.env.scope sc Nc fr)
  (hg:∀ s₀ H₀ C ex pn,P3G K (aY X sc Nc s₀ H₀ C ex pn) tg g g3) (ht:∀ s₀ H₀ C ex pn,P3T K (aY X sc Nc s₀ H₀ C ex pn) c tc c3) (he:∀ s₀ H₀ C ex pn,P3 K (aY X sc Nc s₀ H₀ C ex pn) elt te e3) (nd:(fr.filterMap id).Nodup:=by decide) (hs:∀ x,foldedSetIterable iter X.env x=pure x:=by intro _;rfl) :
  P3 K X (.ListComp elt [⟨tg,iter,[c],0⟩] sc pos) (sx fr wi g (bIf tc (vo te))) (qj fr i3 g3 (C_ c3 (ve e3))):=
 ⟨uF (m:=fun D env=>ifK c env (xI elt D env)) hc hi.pe Bk (fun a b c d e=>(hg a b c d e).pe) (fun a b c d e D=>(JA rfl (ht a b c d e) (Dc rfl (he a b c d e))).pe) (fun _ _ _=>rfl) hs,rA nd hi.rf (hg X.s₀ X.H₀ 0 [] []).rf (xb (ht X.s₀ X.H₀ 0 [] []).rf (pq (he X.s₀ X.H₀ 0 [] []).rf))⟩
theorem uI {elt i0 t0 i1 t1:Expr} {sc:Scope} {Nc:Ls} {fr:On} {wi:TI} {i3:TI3} {g:TG} {g3:TG3} {wi1:TI} {j3:TI3} {g1:TG} {h3:TG3} {te:TE} {e3:TE3} (hc:X.calm=true) (hi:P3I K X t0 i0 wi i3) (Bk:Blk X.N X.env.scope sc Nc fr)
  (hg:∀ s₀ H₀ C ex pn,P3G K (aY X sc Nc s₀ H₀ C ex pn) t0 g g3) (hj:∀ s₀ H₀ C ex pn,P3I K (aY X sc Nc s₀ H₀ C ex pn) t1 i1 wi1 j3) (hh:∀ s₀ H₀ C ex pn,P3G K (aY X sc Nc s₀ H₀ C ex pn) t1 g1 h3)
  (he:∀ s₀ H₀ C ex pn,P3 K (aY X sc Nc s₀ H₀ C ex pn) elt te e3) (hs1:∀ s₀ H₀ C ex pn x,foldedSetIterable i1 (aY X sc Nc s₀ H₀ C ex pn).env x=pure x:=by intros;rfl) (nd:(fr.filterMap id).Nodup:=by decide) (hs:∀ x,foldedSetIterable i0 X.env x=pure x:=by intro _;rfl) :
  P3 K X (.ListComp elt [⟨t0,i0,[],0⟩,⟨t1,i1,[],0⟩] sc pos) (sx fr wi g (Br wi1 g1 (vo te))) (qj fr i3 g3 (zC j3 h3 (ve e3))):=
 ⟨uF (m:=fun D env=>DC elt [⟨t0,i0,[],0⟩,⟨t1,i1,[],0⟩] sc pos 1 i1 D env) hc hi.pe Bk (fun a b c d e=>(hg a b c d e).pe)
  (fun a b c d e D=>Co (m:=xI elt D _) rfl hc (by rfl) (hj a b c d e).pe (hh a b c d e).pe (xg rfl (he a b c d e).pe) (fun _=>rfl) (hs1 a b c d e)) (fun _ _ _=>rfl) hs,
  rA nd hi.rf (hg X.s₀ X.H₀ 0 [] []).rf (zF (hj X.s₀ X.H₀ 0 [] []).rf (hh X.s₀ X.H₀ 0 [] []).rf (pq (he X.s₀ X.H₀ 0 [] []).rf))⟩
end
theorem Jo {n:Nat} {a b:Int}:eqN n (.int a) (.int b)=some (a == b):=by cases n <;> rfl
theorem Jn {n:Nat} {a b:Str}:eqN n (.str a) (.str b)=some (a == b):=by cases n <;> rfl
theorem Jp {n:Nat} {a b:Bool}:eqN n (.bl a) (.bl b)=some (a == b):=by cases n <;> rfl
def fo (s:Option D):Option Sl:=s.map Sl.fz
theorem GI {s:Option Sl} {Γ:G} {i:Nat}:bW (s::Γ) (i + 1)=bW Γ i:=rfl
theorem GK {Γ:G}:bW (none::Γ) 0=True:=rfl
theorem GF {d:D} {Γ:G}:bW (some (.fz d)::Γ) 0=True:=rfl
theorem GG {d:D} {Γ:G}:bW (some (.ow d)::Γ) 0=True:=rfl
theorem GJ {s:Option D} {Γ:G}:bW (fo s::Γ) 0=True:=by cases s <;> rfl
end L3
universe u
namespace L3
open PySem L2 PySem.Spec
structure Tag {α:Sort u} (q:α):Type where
def m1 (o:Option D) (k:D->Prop) (_:Tag k):Prop:=match o with
 | some d=>k d
 | none=>False
theorem xp {d:D} {k:D->Prop} {t:Tag k}:m1 (some d) k t=k d:=rfl
theorem cq {o:Option D} {k:D->Prop} {t:Tag k}:m1 o k t↔∃ d,o=some d/\k d:=by
 cases o with
 | none=>exact⟨fun h=>h.elim,fun ⟨_,h,_⟩=>by cases h⟩
 | some d=>exact⟨fun h=>⟨d,rfl,h⟩,fun ⟨_,h,q⟩=>by cases h;exact q⟩
def Eg (fr:On) (i3:TI3) (g3:TG3) (e3:TE3) (Γ:G) (Q:RV->G->Prop) (_:Tag (fr,i3,g3,e3)) (_:Tag Q):Prop:=rY fr i3 g3 e3 Γ Q
def GL (i3:TI3) (g3:TG3) (b3:TS3) (D:E3) (Γ:G) (_:Tag (i3,g3,b3)) (_:Tag D):Prop:=GO i3 g3 b3 D Γ
def A_ (fr:On) (i3:TI3) (g3:TG3) (b3:j5) (Γ:G) (Q:RV->G->Prop) (_:Tag (fr,i3,g3,b3)) (_:Tag Q):Prop:=qj fr i3 g3 b3 Γ Q
theorem Ba {fr:On} {i3:TI3} {g3:TG3} {b3:j5} {Γ:G} {Q:RV->G->Prop}:qj fr i3 g3 b3 Γ Q=A_ fr i3 g3 b3 Γ Q ⟨⟩ ⟨⟩:=rfl
theorem C4 {fr:On} {i3:TI3} {g3:TG3} {e3:TE3} {Γ:G} {Q:RV->G->Prop}:rY fr i3 g3 e3 Γ Q=Eg fr i3 g3 e3 Γ Q ⟨⟩ ⟨⟩:=rfl
theorem GN {i3:TI3} {g3:TG3} {b3:TS3} {D:E3} {Γ:G}:GO i3 g3 b3 D Γ=GL i3 g3 b3 D Γ ⟨⟩ ⟨⟩:=rfl
section
variable {op:D->D->TE3} {a3 b3:TB3} {Γ:G} {Q:RV->G->Prop}
theorem zh:cJ op a3 b3 Γ Q=(a3 Γ fun x Γ1=>b3 Γ1 fun y Γ2=>m1 (x.at Γ2) (fun dx=>m1 (y.at Γ2) (fun dy=>op dx dy Γ2 Q) ⟨⟩) ⟨⟩):=by
 unfold cJ
 congr;funext x Γ1;congr;funext y Γ2
 refine propext ⟨fun ⟨dx,dy,h1,h2,h3⟩=>by rw[h1,h2];exact h3,fun h=>?_⟩;obtain⟨dx,h1,h⟩:=cq.mp h;obtain⟨dy,h2,h⟩:=cq.mp h;exact⟨dx,dy,h1,h2,h⟩
theorem EJ {op:D->TE3}:yc op a3 Γ Q=(a3 Γ fun x Γ1=>m1 (x.at Γ1) (fun dx=>op dx Γ1 Q) ⟨⟩):=by
 unfold yc
 congr;funext x Γ1
 exact propext cq.symm
theorem DQ {xs:List D} {i:Int}:ix3 (.lst xs) (.int i) Γ Q=m1 (atI xs i) (fun d=>Q (.fz d) Γ) ⟨⟩:=propext cq.symm
theorem IL {xs:List D} {i:Int}:ix3 (.tup xs) (.int i) Γ Q=m1 (atI xs i) (fun d=>Q (.fz d) Γ) ⟨⟩:=propext cq.symm
def mL (o:Option (List D)) (k:List D->Prop) (_:Tag k):Prop:=match o with
 | some d=>k d
 | none=>False
theorem CG {d:List D} {k:List D->Prop} {t:Tag k}:mL (some d) k t=k d:=rfl
theorem C8 {c3:List D->TE3} {t3:cY}:qo c3 t3 Γ Q=(t3 Γ fun bs Γ1=>mL (ats Γ1 bs) (fun ds=>c3 ds Γ1 Q) ⟨⟩):=by
 unfold qo
 congr;funext bs Γ1
 refine propext ⟨fun ⟨ds,h,q⟩=>by rw[h];exact q,fun h=>?_⟩;cases e:ats Γ1 bs with
 | none=>rw[e] at h;exact h.elim
 | some ds=>rw[e] at h;exact⟨ds,rfl,h⟩
def mN (o:Option Nat) (k:Nat->Prop) (_:Tag k):Prop:=match o with
 | some d=>k d
 | none=>False
theorem CF {d:Nat} {k:Nat->Prop} {t:Tag k}:mN (some d) k t=k d:=rfl
def mI (o:Option D) (k:Int->Prop) (_:Tag k):Prop:=match o with
 | some (.int d)=>k d
 | _=>False
theorem CH {d:Int} {k:Int->Prop} {t:Tag k}:mI (some (.int d)) k t=k d:=rfl
theorem BO {i:Nat} {k3:TB3} {e3:TE3} {D:E3}:wZ i k3 e3 D Γ=(e3 Γ fun r Γ1=>(∃ xs,cf Γ1 i=some xs)/\k3 Γ1 fun b Γ2=>mL (cf Γ2 i) (fun xs=>mI (b.at Γ2) (fun k=>mN (ixN xs.length k) (fun j=>D.nx (putD Γ2 i (.lst (xs.set j r.d)))) ⟨⟩) ⟨⟩) ⟨⟩):=by
 unfold wZ
 congr;funext r Γ1;congr;funext b Γ2
 refine propext ⟨fun ⟨xs,k,j,h1,h2,h3,q⟩=>?_,fun h=>?_⟩
 ·rw[h1,h2];show mN (ixN xs.length k) _ ⟨⟩;rw[h3];exact q
 ·cases e:cf Γ2 i with
  | none=>rw[e] at h;exact h.elim
  | some xs=>
   rw[e] at h;replace h:mI (b.at Γ2) (fun k=>mN (ixN xs.length k) (fun j=>D.nx (putD Γ2 i (.lst (xs.set j r.d)))) ⟨⟩) ⟨⟩:=h;cases e2:b.at Γ2 with
   | none=>rw[e2] at h;exact h.elim
   | some d=>
    rw[e2] at h;cases d with
    | int k=>
     replace h:mN (ixN xs.length k) (fun j=>D.nx (putD Γ2 i (.lst (xs.set j r.d)))) ⟨⟩:=h;cases e3:ixN xs.length k with
     | none=>rw[e3] at h;exact h.elim
     | some j=>rw[e3] at h;exact⟨xs,k,j,rfl,rfl,e3,h⟩
    | _=>exact h.elim
end
section
variable {K:Fg0} {B:Bs} {F:Hp} {σ:L2.St} {H:Hp} {Γ:G}
theorem u7 {α:Type} {l:List α} {a b:α} {i:Nat} (h:(l++[a])[i]?=some b):l[i]?=some b\/(i=l.length/\b=a):=by
 rcases Nat.lt_or_ge i l.length with q | q
 ·rw[List.getElem?_append_left q] at h;exact .inl h
 ·have q2:i=l.length:=by
   have:=(gS0 h).1;rw[List.length_append,List.length_singleton] at this;omega
  subst q2;rw[List.getElem?_append_right (Nat.le_refl _),Nat.sub_self] at h;exact .inr ⟨rfl,(Option.some.inj h).symm⟩
theorem fK {α:Type} {l:List α} {a b:α} {i:Nat} (h:l[i]?=some b):(l++[a])[i]?=some b:=by
 rw[List.getElem?_append_left (gS0 h).1];exact h
theorem ji {α:Type} {l:List α} {a:α}:(l++[a])[l.length]?=some a:=by
 rw[List.getElem?_append_right (Nat.le_refl _),Nat.sub_self];rfl
theorem En.push (e:En K B F σ H Γ) {x:Addr} {d:D} (rv:j6 K B F σ H Γ (.ref x) (.fr d)):En K B F (σ++[some (V.ref x)]) H (Γ++[some (Sl.ow d)]):=by
 obtain⟨p,e1,hF,ho,hB,hn⟩:=rv;cases e1;have hl:=e.len;have hG:∀ {i:Nat} {s:Sl},(Γ++[some (Sl.ow d)])[i]?=some (some s)->Γ[i]?=some (some s)\/(i=Γ.length/\s=.ow d):=fun h=>by
  rcases u7 h with q | ⟨q,q2⟩
  ·exact .inl q
  ·cases q2;exact .inr ⟨q,rfl⟩
 have hS:∀ {i:Nat} {s:Option Sl},Γ[i]?=some s->(σ++[some (V.ref x)])[i]?=σ[i]?:=fun h=>by
  have lt:=(gS0 h).1;rw[List.getElem?_append_left (by omega)]
 have hat:(σ++[some (V.ref x)])[Γ.length]?=some (some (V.ref x)):=by rw[<- hl];exact ji
 have hH:∀ {i:Nat} {c:D},Hld (Γ++[some (Sl.ow d)]) i c->Hld Γ i c\/(i=Γ.length/\c=d):=fun h=>by
  rcases h with h | h
  ·rcases hG h with q | ⟨q,q2⟩
   ·exact .inl (.inl q)
   ·cases q2;exact .inr ⟨q,rfl⟩
  ·rcases hG h with q | ⟨q,q2⟩
   ·exact .inl (.inr q)
   ·cases q2
 have hHS:∀ {i:Nat} {c:D},Hld Γ i c->(σ++[some (V.ref x)])[i]?=σ[i]?:=fun h=>by
  rcases h with h | h <;> exact hS h
 refine⟨e.sub,by simp [hl],?_,?_,?_,?_,?_,?_,e.keep,e.new,e.rest,e.dom⟩
 ·intro i c h;rcases hG h with q | ⟨_,q⟩
  ·rw[hS q];exact e.fz i c q
  ·cases q
 ·intro i c h;rcases hH h with q | ⟨rfl,rfl⟩
  ·rw[hHS q];exact e.hl i c q
  ·exact⟨x,hat,hF,ho⟩
 ·intro i c q h a;rcases hG h with z | ⟨rfl,z⟩
  ·rw[hS z] at a;exact e.ow i c q z a
  ·rw[hat] at a;cases a;exact hB
 ·intro i c q h a;rcases hG h with z | ⟨_,z⟩
  ·rw[hS z] at a;exact e.ln i c q z a
  ·cases z
 ·intro i j c c' q h h' a a';rcases hH h with z | ⟨rfl,rfl⟩
  ·rw[hHS z] at a;rcases hH h' with z' | ⟨rfl,rfl⟩
   ·rw[hHS z'] at a';exact e.dis i j c c' q z z' a a'
   ·rw[hat] at a';cases a';exact absurd a (hn i c z)
  ·rw[hat] at a;cases a;rcases hH h' with z' | ⟨rfl,rfl⟩
   ·rw[hHS z'] at a';exact absurd a' (hn j c' z')
   ·rfl
 ·intro i q h;obtain⟨a,c,b⟩:=e.par i q h;exact⟨by rw[hS b];exact a,c,fK b⟩
theorem En.pop {x:Addr} {d:D} (e:En K B F (σ++[some (V.ref x)]) H (Γ++[some (Sl.ow d)])):En K B F σ H Γ/\j6 K B F σ H Γ (.ref x) (.fr d):=by
 have hl:σ.length=Γ.length:=by have:=e.len;simpa using this
 have hat:(σ++[some (V.ref x)])[Γ.length]?=some (some (V.ref x)):=by rw[<- hl];exact ji
 have hS:∀ {i:Nat} {s:Option Sl},Γ[i]?=some s->(σ++[some (V.ref x)])[i]?=σ[i]?:=fun h=>by
  have lt:=(gS0 h).1;rw[List.getElem?_append_left (by omega)]
 have hL:Hld (Γ++[some (Sl.ow d)]) Γ.length d:=.inl ji;have up:∀ {i:Nat} {c:D},Hld Γ i c->Hld (Γ++[some (Sl.ow d)]) i c:=fun h=>h.imp fK fK;have hHS:∀ {i:Nat} {c:D},Hld Γ i c->(σ++[some (V.ref x)])[i]?=σ[i]?:=fun h=>by
  rcases h with h | h <;> exact hS h
 obtain⟨p,a,b,c⟩:=e.hl _ _ hL;rw[hat] at a;cases a;refine⟨⟨e.sub,hl,?_,?_,?_,?_,?_,?_,e.keep,e.new,e.rest,e.dom⟩,x,rfl,b,c,e.ow _ _ _ ji hat,?_⟩
 ·intro i c h;have:=e.fz i c (fK h)
  rwa [hS h] at this
 ·intro i c h;have:=e.hl i c (up h)
  rwa [hHS h] at this
 ·intro i c q h a;exact e.ow i c q (fK h) (by rw[hS h];exact a)
 ·intro i c q h a;exact e.ln i c q (fK h) (by rw[hS h];exact a)
 ·intro i j c c' q h h' a a';exact e.dis i j c c' q (up h) (up h') (by rw[hHS h];exact a) (by rw[hHS h'];exact a')
 ·intro i q h;obtain⟨a,c,b'⟩:=e.par i q h;rcases u7 b' with z | ⟨_,z⟩
  ·exact⟨by rw[<- hS z];exact a,c,z⟩
  ·cases z
 ·intro i c h q;have lt:i < Γ.length:=by rcases h with h | h <;> exact(gS0 h).1
  have:=e.dis i _ c d x (up h) hL (by rw[hHS h];exact q) hat
  omega
theorem En.Kf (e:En K B F σ H Γ) {i:Nat} {d0 d1:D} (hh:Hld Γ i d0) {p:Addr} (hp:σ[i]?=some (some (V.ref p))) {o1:HO} (r:Own K F (upd H p o1) p d1):En K B F σ (upd H p o1) (putD Γ i d1):=by
 obtain⟨p0,a0,b0,c0⟩:=e.hl i _ hh;rw[hp] at a0;cases a0;obtain⟨o,ho⟩:=c0.some;have hput:(Γ[i]?=some (some (Sl.ow d0))/\putD Γ i d1=Γ.set i (some (.ow d1)))\/(Γ[i]?=some (some (Sl.ln d0))/\putD Γ i d1=Γ.set i (some (.ln d1))):=by
  rcases hh with q | q
  ·exact .inl ⟨q,by unfold putD;rw[q]⟩
  ·exact .inr ⟨q,by unfold putD;rw[q]⟩
 have il:i < Γ.length:=by rcases hput with ⟨q,_⟩ | ⟨q,_⟩ <;> exact(gS0 q).1
 have other:∀ {j:Nat},j≠i->(putD Γ i d1)[j]?=Γ[j]?:=fun z=>by
  rcases hput with ⟨_,q⟩ | ⟨_,q⟩ <;> rw[q,aU (Ne.symm z)]
 have same:∀ {s:Sl},(putD Γ i d1)[i]?=some (some s)->(s=.ow d1/\Γ[i]?=some (some (Sl.ow d0)))\/(s=.ln d1/\Γ[i]?=some (some (Sl.ln d0))):=fun {s} q=>by
  rcases hput with ⟨a,b⟩ | ⟨a,b⟩
  ·rw[b,aB il] at q;cases q;exact .inl ⟨rfl,a⟩
  ·rw[b,aB il] at q;cases q;exact .inr ⟨rfl,a⟩
 have hld:∀ {j x},Hld (putD Γ i d1) j x->(j=i/\x=d1)\/(j≠i/\Hld Γ j x):=fun {j x} q=>by
  by_cases z:j=i
  ·subst z
   left
   rcases q with q | q <;> rcases same q with ⟨h,_⟩ | ⟨h,_⟩ <;> cases h <;> exact⟨rfl,rfl⟩
  ·right;exact⟨z,by unfold Hld at q ⊢;rw[other z] at q;exact q⟩
 have hld':∀ {j x},Hld (putD Γ i d1) j x->∃ y,Hld Γ j y:=fun q=>by
  rcases hld q with ⟨rfl,_⟩ | ⟨_,q⟩
  ·exact⟨_,hh⟩
  ·exact⟨_,q⟩
 refine⟨?_,?_,?_,?_,?_,?_,?_,?_,e.keep,e.new,?_,?_⟩
 ·intro b u q;have z:b≠p:=fun z=>by subst z;rw[b0] at q;cases q
  rw[af z];exact e.sub b u q
 ·rcases hput with ⟨_,q⟩ | ⟨_,q⟩ <;> rw[q,List.length_set] <;> exact e.len
 ·intro j d q;by_cases z:j=i
  ·subst z;rcases same q with ⟨h,_⟩ | ⟨h,_⟩ <;> cases h
  ·rw[other z] at q;exact e.fz j d q
 ·intro j d q;rcases hld q with ⟨rfl,rfl⟩ | ⟨z,q⟩
  ·exact⟨p,hp,b0,r⟩
  ·obtain⟨p',a,b,c⟩:=e.hl j d q;have ne:p'≠p:=fun y=>z (e.dis j i _ _ p q hh (y ▸ a) hp);exact⟨p',a,b,c.mono (av.refl F) (af ne)⟩
 ·intro j d p' q a;by_cases z:j=i
  ·subst z;rcases same q with ⟨h,g⟩ | ⟨h,g⟩
   ·exact e.ow j _ p' g a
   ·cases h
  ·rw[other z] at q;exact e.ow j d p' q a
 ·intro j d p' q a;by_cases z:j=i
  ·subst z;rcases same q with ⟨h,g⟩ | ⟨h,g⟩
   ·cases h
   ·exact e.ln j _ p' g a
  ·rw[other z] at q;exact e.ln j d p' q a
 ·intro j k d d' p' q1 q2;obtain⟨y1,h1⟩:=hld' q1;obtain⟨y2,h2⟩:=hld' q2;exact e.dis j k y1 y2 p' h1 h2
 ·intro j p' q;obtain⟨a,d,b⟩:=e.par j p' q;refine⟨a,?_⟩;by_cases z:j=i
  ·subst z;rcases hput with ⟨c,_⟩ | ⟨_,c⟩
   ·rw[b] at c;cases c
   ·exact⟨_,by rw[c,aB il]⟩
  ·exact⟨d,by rw[other z];exact b⟩
 ·intro b u q n;have z:b≠p:=fun z=>by
   subst z;rcases hh with g | g
   ·rw[e.ow i _ _ g hp] at q;cases q
   ·exact n i (e.ln i _ _ g hp)
  rw[af z];exact e.rest b u q n
 ·intro b q;by_cases z:b=p
  ·subst z;rw[ao] at q;cases q
  ·rw[af z] at q;exact e.dom b q
def pZ (Γ:G) (i:Nat):Option (Addr×Ls×List D):=match Γ[i]? with
 | some (some (.ow (.ins C ns xs)))=>some (C,ns,xs)
 | some (some (.ln (.ins C ns xs)))=>some (C,ns,xs)
 | _=>none
theorem rN {i:Nat} {C:Addr} {ns:Ls} {xs:List D} (h:pZ Γ i=some (C,ns,xs)):Hld Γ i (.ins C ns xs):=by
 unfold pZ at h;split at h
 ·cases h;rename_i q;exact .inl q
 ·cases h;rename_i q;exact .inr q
 ·cases h
theorem uA {f:Str} {v:V}:∀ {fs:List (Str×V)},f∉fs.map (·.1)->i6 f v fs=fs++[(f,v)]
 | [],_=>rfl
 | (g,x)::r,h=>by
  simp only[List.map_cons,List.mem_cons,not_or] at h;show (if g=f then _ else _)=_;rw[if_neg (Ne.symm h.1),uA h.2];rfl
theorem ar.snoc {xs:List D} {vs:List V} (r:ar K F xs vs) {d:D} {v:V} (q:Rep K F d v):ar K F (xs++[d]) (vs++[v]):=r.append ⟨v,[],rfl,q,rfl⟩
def oI (o:Option (Addr×Ls×List D)) (k:Addr->Ls->List D->Prop):Prop:=match o with
 | some (C,ns,xs)=>k C ns xs
 | none=>False
def zm (C0:Addr) (i:Nat) (f:Str) (e3:TE3) (D:E3) (Γ:G):Prop:=e3 Γ fun r Γ1=>oI (pZ Γ1 i) fun C ns xs=>C=C0/\(f∉ns/\ns.length < 1000)/\D.nx (putD Γ1 i (.ins C (ns++[f]) (xs++[r.d])))
variable {X:Cx} {e:Expr} {te:TE} {e3:TE3} {pos:Pos}
theorem zE {C0:Addr} {i:Nat} {f:Str} (hC:Cls K C0) (hn:dG K C0 f) (h:Ref K te e3):Dq K (ES K (bX i) te f) (zm C0 i f e3):=by
 intro B F σ H Γ D D3 en k q;refine h B F σ H Γ _ _ en q fun v H1 ⟨F1,Γ1,r,s1,e1,rv,q1⟩=>?_;obtain⟨F2,s2,e2,rp⟩:=e1.frozen rv;have q2:oI (pZ Γ1 i) fun C ns xs=>C=C0/\(f∉ns/\ns.length < 1000)/\D3.nx (putD Γ1 i (.ins C (ns++[f]) (xs++[r.d]))):=q1;cases w:pZ Γ1 i with
 | none=>rw[w] at q2;exact q2.elim
 | some t=>
  obtain⟨C,ns,xs⟩:=t;rw[w] at q2;obtain⟨rfl,⟨hf,hl⟩,q2⟩:=q2;obtain⟨p,a,b,dx,gs,c1,c2,c3⟩:=e2.hl i _ (rN w);refine⟨_,a,p,C,dx,gs,rfl,c1,hC,hn,?_,?_⟩
  ·have:=congrArg List.length c2;rw[lM0] at this;omega
  ·have hf':f∉gs.map (·.1):=by rw[c2];exact hf
   rw[uA hf'];have ow:Own K F2 (upd H1 p (.ins C dx (gs++[(f,v)]))) p (.ins C (ns++[f]) (xs++[r.d])):=⟨dx,gs++[(f,v)],ao,by rw[List.map_append,c2];rfl,by rw[List.map_append];exact c3.snoc rp⟩;exact k.nx F2 σ _ _ (s1.trans s2) (e2.Kf (rN w) a ow) q2
theorem sM {C0:Addr} (i:Nat) {x f:Str} {px p2:Pos} (hK:X.K=K) (hC:Cls K C0) (hn:dG K C0 f) (hx:P3B K X (.Name x px) (bX i) (bor i)) (he:P3 K X e te e3) (hs:swapsWith e (some (.Attribute (.Name x px) f p2)) pos.line X.env=pure false:=by rfl) :
  P3S K X (.Assign [.Attribute (.Name x px) f p2] e pos) (ES K (bX i) te f) (zm C0 i f e3):=⟨by subst hK;exact Fb hx.pe he.pe hs,zE hC hn he.rf⟩
end
section
variable {K:Fg0} {B:Bs} {F:Hp} {σ:L2.St} {H:Hp} {Γ:G} {X:Cx}
theorem aZ.push {x:V}:∀ {bs:List Bo} {vs:List V},aZ K F σ bs vs->aZ K F (σ++[some x]) bs vs
 | [],_,h=>h
 | .d d::bs,_,⟨v,ws,h1,h2,h3⟩=>⟨v,ws,h1,h2,aZ.push h3⟩
 | .v i::bs,_,⟨v,ws,h1,h2,h3⟩=>⟨v,ws,h1,fK h2,aZ.push h3⟩
theorem aZ.ds:∀ {ds:List D} {vs:List V},ar K F ds vs->aZ K F σ (ds.map Bo.d) vs
 | [],_,h=>h
 | _::_,_,⟨v,ws,h1,h2,h3⟩=>⟨v,ws,h1,h2,aZ.ds h3⟩
theorem uZ:∀ ds:List D,bN (ds.map Bo.d)=[]
 | []=>rfl
 | _::ds=>uZ ds
theorem Dl (ds:List D) (Γ:G):du Γ ((ds.map Bo.d).map some)=ds.map fun d=>some (Sl.fz d):=by
 unfold du;rw[List.map_map,List.map_map];rfl
theorem xm {cs:G} {j:Nat}:∀ ds:List D,newD (((ds.map Bo.d).map some).map bZ) cs j=none
 | []=>by cases cs <;> rfl
 | _::ds=>by
  cases cs with
  | nil=>rfl
  | cons c cs=>exact xm (cs:=cs) ds
def Jl (Γa:G) (k:D->Prop):Prop:=match Γa with
 | some (.ln d)::_=>k d
 | _=>False
def Ar (C:Addr) (n:Nat) (S:S3) (t3:TA3) (Γ:G) (Q:RV->G->Prop):Prop:=t3 Γ fun ds Γ1=>ds.length + 1=n/\
 S (some (.ln (.ins C [] []))::ds.map fun d=>some (.fz d)) fun r Γa=>r=.fz .non/\Jl Γa fun d=>Q (.fr d) Γ1
theorem zG {C:Addr} {n:Nat} {S:S3} {E:XK} {t:TA} {t3:TA3} (h:JO K t t3):Ref K (zg C (sp3 K n S) [] E t) (Ar C n S t3):=by
 intro B F σ H Γ Q QQ e q k;refine h B F σ H Γ _ _ e q fun vs H1 ⟨F1,Γ1,ds,s1,e1,r1,hn,q1⟩=>?_;intro y dy hy hdy ne;rw[List.append_nil];have a1:=e1.alloc hdy (.own y);have hy':(upd H1 dy (.own y)) y=none:=by rw[af (Ne.symm ne)];exact hy
 have e2:En K B F1 σ (upd (upd H1 dy (.own y)) y (.ins C dy [])) Γ1:=a1.alloc hy' _;have rv:j6 K B F1 σ (upd (upd H1 dy (.own y)) y (.ins C dy [])) Γ1 (.ref y) (.fr (.ins C [] [])):=⟨y,rfl,a1.nof hy',⟨dy,[],ao,rfl,rfl⟩,e1.dom _ hy,a1.jf hy'⟩;have ep:=e2.push rv;have hl:σ.length=Γ1.length:=e1.len;have rb:aZ K F1 (σ++[some (V.ref y)]) (Bo.v Γ1.length::ds.map Bo.d) (.ref y::vs):=⟨_,_,rfl,by rw[<- hl];exact ji,(aZ.ds r1).push⟩;have nd:(bN (Bo.v Γ1.length::ds.map Bo.d)).Nodup:=by
  show (Γ1.length::bN (ds.map Bo.d)).Nodup;rw[uZ];simp
 have eG:du (Γ1++[some (Sl.ow (.ins C [] []))]) ((Bo.v Γ1.length::ds.map Bo.d).map some)=some (.ln (.ins C [] []))::ds.map fun d=>some (.fz d):=by
  rw[List.map_cons,<- Dl ds (Γ1++[some (Sl.ow (.ins C [] []))])];show (some (Bo.v Γ1.length)).bind (qX _)::_=_
  congr 1
  show gL (Γ1++[some (Sl.ow (.ins C [] []))])[Γ1.length]?=_;rw[ji];rfl
 have len:(V.ref y::vs).length=n:=by rw[<- hn,List.length_cons,r1.length]
 refine⟨len,F1,_,_,_,ep.args rb nd,jS,by rw[eG];exact q1,fun r Γa q2 v H' F' e3 rv'=>?_⟩;obtain⟨rfl,q2⟩:=q2;obtain⟨sm,eb,_⟩:=ep.called e3 rv';have ev:v=.non:=rv';cases Γa with
 | nil=>exact q2.elim
 | cons s Γr=>
  cases s with
  | none=>exact q2.elim
  | some s=>
   cases s with
   | fz d=>exact q2.elim
   | ow d=>exact q2.elim
   | ln d=>
    have q2:Q (.fr d) Γ1:=q2;have eq:bB (((Bo.v Γ1.length::ds.map Bo.d).map some).map bZ) (Γ1++[some (Sl.ow (.ins C [] []))]) (some (.ln d)::Γr)=Γ1++[some (Sl.ow d)]:=by
     refine List.ext_getElem? fun j=>?_;rw[c6];show Option.map (iB (if Γ1.length=j then some d else newD (((ds.map Bo.d).map some).map bZ) Γr j)) _=_;by_cases hj:Γ1.length=j
     ·subst hj;rw[if_pos rfl,ji,ji];rfl
     ·rw[if_neg hj,xm];have:(Γ1++[some (Sl.ow d)])[j]?=(Γ1++[some (Sl.ow (.ins C [] []))])[j]?:=by
       rcases Nat.lt_or_ge j Γ1.length with z | z
       ·rw[List.getElem?_append_left z,List.getElem?_append_left z]
       ·rw[List.getElem?_eq_none (by simp;omega),List.getElem?_eq_none (by simp;omega)]
      rw[this];cases (Γ1++[some (Sl.ow (.ins C [] []))])[j]? with
      | none=>rfl
      | some s=>cases s with
       | none=>rfl
       | some s=>cases s <;> rfl
    rw[eq] at eb;obtain⟨e5,rv5⟩:=eb.pop;exact⟨ev,k _ _ ⟨F',Γ1,.fr d,s1.trans sm,e5,rv5,q2⟩⟩
end
section
variable {K:Fg0} {B:Bs} {F:Hp} {σ:L2.St} {H:Hp} {Γ:G} {X:Cx} {C f:Addr} {fd:FuncData} {ps:Ls} {x m:Str} {k n:Nat} {S:S3} {p pos:Pos} {e:Expr} {es:List Expr} {t:TA} {t3:TA3} {te:TE} {e3:TE3}
theorem xj (M:Mk X.K C f) (F:aM X.prog X.w X.K X.mg X.base CX0 k f fd ps (sp3 K n S)) (hr:bJ (k + 1) X.A) (hg:Gl X x) (hm:X.mg x=some (.ref C)) (hb:Binds X.K fd ps [])
  (ha:P3A K X (e::es) t t3) (hdb:(x == ("__debug__":Str))=false:=by decide) (he:starEach (e::es) X.env=(false,eval e X.env)::starEach es X.env:=by rfl) (hpl:(backTo pos (starEach es X.env)).any (·.1)=false:=by rfl) :
  P3 K X (.Call (.Name x p) (e::es) [] pos) (zg C (sp3 K n S) [] E0 t) (Ar C n S t3):=⟨Ci M F hr hg hm hb .nil pB ha.pe hdb he hpl,zG ha.rf⟩
end
section
variable {K:Fg0} {B:Bs} {F:Hp} {σ:L2.St} {H:Hp} {Γ:G} {X:Cx}
def signs (z:Str):List D:=z.cps.toList.map fun c=>D.str (sgn c)
def oS (d:D) (k:Str->Prop):Prop:=match d with
 | .str z=>k z
 | _=>False
theorem Ij {d:D} {k:Str->Prop} (h:oS d k):∃ z,d=.str z/\k z:=by
 cases d <;> first | exact h.elim | exact⟨_,rfl,h⟩
def asc (z:Str):Bool:=z.cps.all (· < 128)
def iS3 (a3:TE3) (Γ:G) (Q:List D->G->Prop):Prop:=a3 Γ fun r Γ1=>oS r.d fun z=>asc z=true/\Q (signs z) Γ1
theorem rq (z:Str):(signs z).length=z.cps.size:=by simp [signs]
theorem Ho {z:Str}:ItR K F (Its z) (signs z):=by
 refine⟨fun i H' _ lt=>by rw[rq] at lt;exact lt,fun i H' _ e=>by rw[rq] at e;exact Nat.le_of_eq e.symm,fun i H' x H'' d _ hd y=>?_⟩;obtain⟨e1,c,hc,rfl⟩:=y;refine .inl ⟨e1,?_⟩;unfold signs at hd;rw[List.getElem?_map,Array.getElem?_toList,hc] at hd;cases hd;rfl
theorem wj {tg l:Expr} {tl:TE} {l3:TE3} (h:P3 K X l tl l3):P3I K X tg l (IY tl) (iS3 l3):=⟨Fg h.pe,fun B F σ H Γ Q R e q k=>
 h.rf B F σ H Γ _ _ e q fun v H' ⟨F',Γ',r,s,e',rv,q'⟩=>by
  obtain⟨z,hz,ha,q'⟩:=Ij q';obtain⟨F2,s2,e2,r2⟩:=e'.frozen rv;rw[hz] at r2;exact⟨z,r2,ha,k _ H' F2 Γ' _ (s.trans s2) e2 Ho q'⟩⟩
def qF (lo c:Int) (n:Nat):List D:=(List.range n).map fun (k:Nat)=>D.int (lo + (k:Int) * c)
theorem EV {lo c:Int} {n:Nat}:ItR K F (G9 lo c n) (qF lo c n):=by
 have hl:(qF lo c n).length=n:=by simp [qF]
 refine⟨fun i H' _ lt=>by rw[hl] at lt;exact lt,fun i H' _ e=>by rw[hl] at e;exact Nat.le_of_eq e.symm,fun i H' x H'' d _ hd y=>?_⟩;obtain⟨e1,e2⟩:=y;subst e1 e2;refine .inl ⟨rfl,?_⟩;have hi:i < n:=by have:=(gS0 hd).1;rw[hl] at this;exact this
 have:(qF lo c n)[i]?=some (.int (lo + i * c)):=by unfold qF;rw[List.getElem?_map,List.getElem?_range hi];rfl
 rw[this] at hd;cases hd
 rfl
def I9 (t3:TA3) (Γ:G) (Q:List D->G->Prop):Prop:=t3 Γ fun ds Γ1=>∃ j:Int,ds=[.int j]/\(0<=j/\j < 2 ^ 62)/\Q (qF (j - 1) (-1) j.toNat) Γ1
theorem Gp {tg a:Expr} {ta:TA} {a3:TA3} {p p' pos pos':Pos} (hg':Gl X "reversed") (hm':X.mg "reversed"=none) (hg:Gl X "range") (hm:X.mg "range"=none) (ha:P3A K X [a] ta a3) (hs:starEach [a] X.env=[(false,eval a X.env)]:=by rfl)
  (hs':starEach [.Call (.Name "range" p) [a] [] pos] X.env=[(false,eval (.Call (.Name "range" p) [a] [] pos) X.env)]:=by rfl) :
  P3I K X tg (.Call (.Name "reversed" p') [.Call (.Name "range" p) [a] [] pos] [] pos') (I_ ta) (I9 a3):=⟨Fh hg' hm' hg hm ha.pe hs hs',fun B F σ H Γ Q R e q k=>
 ha.rf B F σ H Γ _ _ e q fun vs H' ⟨F',Γ',ds,s,e',rv,j,h1,⟨h2,h3⟩,q'⟩=>by
  subst h1;obtain⟨v,ws,rfl,r1,r2⟩:=rv;cases r1;cases r2;exact⟨j,rfl,h2,h3,k _ H' F' Γ' _ s e' EV q'⟩⟩
end
section
variable {K:Fg0} {B:Bs} {F:Hp} {σ:L2.St} {H:Hp} {Γ:G} {X:Cx} {a b o e f:Expr} {ta tb te tf to:TE} {a3 b3:TB3} {e3 f3:TE3} {pos apos cpos:Pos}
def Iq (x y:D) (Γ:G) (Q:RV->G->Prop):Prop:=match x,y with
 | .str z,.int n=>(n=0\/n=1)/\z.length<=sizeLine/\Q (.fz (.str (if n=0 then Str.empty else z))) Γ
 | _,_=>False
def dS:D->Bool
 | .str _=>true
 | _=>false
theorem Jv (T:TyS X.K):B3 K X (.builtin "isinstance") (fun xs H Q=>∃ x,xs=[x,.ty "str"]/\Kn H x/\Q (.bl (isS x)) H) (is3 "str" dS):=GW (g:=fun _ v=>isS v) (Bd T) fun s h hk=>by
 rename_i F H d v;cases d <;> first
  | (cases h;rfl)
  | (cases hk;done)
  | (obtain⟨p,vs,rfl,_⟩:=h;rfl)
  | (obtain⟨p,rfl,_⟩:=h;rfl)
  | (obtain⟨p,dx,gs,rfl,_⟩:=h;rfl)
end
mutual
def dt:D->PyData
 | .non=>.none
 | .bl b=>.bool b
 | .int i=>.int i
 | .str x=>.str x
 | .lst xs=>.list (dtL xs)
 | .tup xs=>.tuple (dtL xs)
 | .dct=>.dict []
 | .dcs k i=>.dict [(.str k,.int i)]
 | _=>.none
def dtL:List D->List PyData
 | []=>[]
 | x::xs=>dt x::dtL xs
end
inductive Sh:Nat->Nat->D->Prop where
 | non:Sh 100 1 .non
 | bl (b:Bool):Sh 100 1 (.bl b)
 | int {i:Int} (h:i.natAbs < 10 ^ 60):Sh 100 1 (.int i)
 | str {x:Str} {n:Nat} (h:(PyData.shown (.str x)).length<=n):Sh n 1 (.str x)
 | dct:Sh 100 1 .dct
 | dcs {k:Str} {i:Int} {n:Nat} (h:i.natAbs < 10 ^ 60) (hn:(PyData.shown (.dict [(.str k,.int i)])).length<=n):Sh n 1 (.dcs k i)
 | lst {n k l:Nat} {xs:List D} (h:∀ x∈xs,Sh n k x) (hl:xs.length<=l):Sh (l * (n + 2) + 3) (k + 1) (.lst xs)
 | tup {n k l:Nat} {xs:List D} (h:∀ x∈xs,Sh n k x) (hl:xs.length<=l):Sh (l * (n + 2) + 3) (k + 1) (.tup xs)
 | up {n k n' k':Nat} {d:D} (h:Sh n k d) (h1:n<=n') (h2:k<=k'):Sh n' k' d
structure ShD (n k:Nat) (d:D):Prop where
 sh:(dt d).showable=true
 dp:(dt d).depth<=k
 ln:(dt d).shown.length<=n
 dt:∀ {K:Fg0} {F H:Hp} {v:V},av F H->Rep K F d v->Dt K H v (dt d)
theorem CP {i:Int} (h:i.natAbs < 10 ^ 60):(PyData.shown (.int i)).length<=100:=by
 have e:=int_text_length_le10 (k:=60) (by decide) h;show (Str.ofString (toString i)).length<=100;rw[ofString_length];omega
theorem we {i:Int} (h:i.natAbs < 10 ^ 60):PyData.showable (.int i)=true:=by
 show decide (i.natAbs.log2 < 1920)=true;rw[decide_eq_true_eq];by_cases h0:i.natAbs=0
 ·rw[h0];decide
 ·rw[Nat.log2_lt h0];exact Nat.lt_of_lt_of_le (show i.natAbs < 2 ^ 200 from Nat.lt_trans h (by decide)) (Nat.pow_le_pow_right (by decide) (by decide))
theorem shL {n k:Nat}:∀ {xs:List D},(∀ x∈xs,ShD n k x)->PyData.showableAll (dtL xs)=true/\PyData.depthAll (dtL xs)<=k/\((PyData.shownAll (dtL xs)).map (·.length)).sum<=xs.length * n/\(PyData.shownAll (dtL xs)).length=xs.length/\
  ∀ {K:Fg0} {F H:Hp} {vs:List V},av F H->ar K F xs vs->cE K H vs (dtL xs)
 | [],_=>⟨rfl,by simp [dtL,PyData.depthAll],by simp [dtL,PyData.shownAll],rfl,fun _ r=>by cases r;exact .nil⟩
 | x::xs,h=>by
  obtain⟨h1,h3,h4,h5,h6⟩:=shL (xs:=xs) fun y hy=>h y (List.mem_cons_of_mem _ hy);have e:=h x List.mem_cons_self;have e4:=e.ln;have e3:=e.dp;refine⟨?_,?_,?_,?_,fun s r=>?_⟩
  ·simp only[dtL,PyData.showableAll,e.sh,h1,Bool.and_self]
  ·simp only[dtL,PyData.depthAll];omega
  ·simp only[dtL,PyData.shownAll,List.map_cons,List.sum_cons,List.length_cons,Nat.add_mul,Nat.one_mul];omega
  ·simp only[dtL,PyData.shownAll,List.length_cons,h5]
  ·obtain⟨v,ws,rfl,r1,r2⟩:=r;exact .cons (e.dt s r1) (h6 s r2)
theorem Sh.spec {n k:Nat} {d:D} (h:Sh n k d):ShD n k d:=by
 induction h with
 | non=>exact⟨rfl,by simp [dt,PyData.depth],by decide,fun _ r=>by cases r;exact .non⟩
 | bl b=>exact⟨rfl,by simp [dt,PyData.depth],by cases b <;> decide,fun _ r=>by cases r;exact .bl b⟩
 | @int i h=>exact⟨we h,by simp [dt,PyData.depth],CP h,fun _ r=>by cases r;exact .int i⟩
 | @str x n h=>exact⟨rfl,by simp [dt,PyData.depth],h,fun _ r=>by cases r;exact .str x⟩
 | @lst n k l xs h hl ih=>
  obtain⟨h1,h3,h4,h5,h6⟩:=shL ih;refine⟨by simp only[dt,PyData.showable,h1],by simp only[dt,PyData.depth];omega,?_,fun s r=>?_⟩
  ·have e:=listText_len_le (PyData.shownAll (dtL xs));have e2:(PyData.shown (dt (.lst xs)))=listText (PyData.shownAll (dtL xs)):=by simp only[dt,PyData.shown]
   rw[e2];have e3:xs.length * n<=l * n:=Nat.mul_le_mul_right _ hl;have e4:l * (n + 2)=l * n + l * 2:=Nat.mul_add ..;omega
  ·obtain⟨p,vs,rfl,g,r⟩:=r;exact .lst (SqL.of (s _ _ g)) (h6 s r)
 | @tup n k l xs h hl ih=>
  obtain⟨h1,h3,h4,h5,h6⟩:=shL ih;refine⟨by simp only[dt,PyData.showable,h1],by simp only[dt,PyData.depth];omega,?_,fun s r=>?_⟩
  ·have e:=tupleText_len_le (PyData.shownAll (dtL xs));have e2:(PyData.shown (dt (.tup xs)))=tupleText (PyData.shownAll (dtL xs)):=by simp only[dt,PyData.shown]
   rw[e2];have e3:xs.length * n<=l * n:=Nat.mul_le_mul_right _ hl;have e4:l * (n + 2)=l * n + l * 2:=Nat.mul_add ..;omega
  ·obtain⟨p,vs,rfl,g,r⟩:=r;exact .tup (.inl (.inl (s _ _ g))) (h6 s r)
 | dct=>exact⟨rfl,by simp [dt,PyData.depth,PyData.depthKv],by decide,fun s r=>by obtain⟨p,rfl,h⟩:=r;exact .dct (s _ _ h)⟩
 | @dcs k i n h hn=>exact⟨by have:=we h;simp only[dt,PyData.showable,PyData.showableKv] at this ⊢;simpa using this,by simp [dt,PyData.depth,PyData.depthKv],hn,fun s r=>by obtain⟨p,rfl,h⟩:=r;exact .dcs k i (s _ _ h)⟩
 | up h h1 h2 ih=>exact⟨ih.sh,Nat.le_trans ih.dp h2,Nat.le_trans ih.ln h1,ih.dt⟩
def EM:D->Bool
 | .lst _=>true
 | .tup _=>true
 | _=>false
def shw (d:D):Str:=(dt d).shown
section
variable {K:Fg0} {B:Bs} {F:Hp} {σ:L2.St} {H:Hp} {Γ:G} {X:Cx}
theorem Sh.dtB {n k:Nat} {d:D} (h:Sh n k d) (hs:EM d=true) {v:V} (s:av F H) (r:ed K F H d v):∃ a,v=.ref a/\Dt K H v (dt d):=by
 cases d with
 | lst xs=>
  obtain⟨p,vs,rfl,g,r⟩:=r;refine⟨p,rfl,?_⟩;have go:∀ {n k:Nat} {d:D},Sh n k d->∀ xs,d=.lst xs->∀ x∈xs,∃ n k,Sh n k x:=by
   intro n k d h
   induction h with
   | lst h hl ih=>intro xs e x hx;cases e;exact⟨_,_,h x hx⟩
   | up h h1 h2 ih=>exact ih
   | _=>intro xs e;cases e
  have all:∀ {ys:List D} {ws:List V},(∀ x∈ys,∃ n k,Sh n k x)->ar K F ys ws->cE K H ws (dtL ys):=by
   intro ys
   induction ys with
   | nil=>intro ws _ r;cases r;exact .nil
   | cons y ys ih=>
    intro ws hh r;obtain⟨w,ws',rfl,r1,r2⟩:=r;obtain⟨n',k',hy⟩:=hh y List.mem_cons_self;exact .cons (hy.spec.dt s r1) (ih (fun z hz=>hh z (List.mem_cons_of_mem _ hz)) r2)
  exact .lst (SqL.of g) (all (go h xs rfl) r)
 | tup xs=>
  have r':Rep K F (.tup xs) v:=r;have q:=h.spec.dt s r';obtain⟨p,vs,rfl,_⟩:=r';exact⟨p,rfl,q⟩
 | _=>cases hs
end
section
variable {K:Fg0} {B:Bs} {F:Hp} {σ:L2.St} {H:Hp} {Γ:G} {X:Cx} {a o e f:Expr} {ta te tf:TE} {a3:TB3} {e3 f3:TE3} {pos apos cpos:Pos}
def AX (C0:Addr) (f:Str) (x:D) (Γ:G) (Q:RV->G->Prop):Prop:=match x with
 | .ins C ns xs=>C=C0/\m1 ((ns.zip xs).lookup f) (fun d=>Q (.fz d) Γ) ⟨⟩
 | _=>False
theorem dO {f:Str} {C0:Addr} (hK:X.K=K) (ha:P3B K X a ta a3) (hC:Cls K C0) (hn:dG K C0 f) (hb:attributeBase a f X.env (eval a X.env)=eval a X.env:=by rfl) :
  P3 K X (.Attribute a f pos) (Hm K ta f) (yc (AX C0 f) a3):=⟨by subst hK;exact Fp ha.pe hb,vH (r:=fun x H1 Q=>∃ a C dx fs v,x=.ref a/\H1 a=some (.ins C dx fs)/\Cls K C/\dG K C f/\fs.lookup f=some v/\Q v H1) (ta:=ta) (by
 intro B F σ H Γ x dx Q QQ e rx q k;unfold AX at q;split at q
 ·obtain⟨rfl,q⟩:=q;obtain⟨d,hd,q⟩:=cq.mp q;obtain⟨p,dx,gs,rfl,h1,h2,h3⟩:=rx;obtain⟨v,hv,r⟩:=ar.lookup h2 h3 hd;exact⟨p,_,dx,gs,v,rfl,h1,hC,hn,hv,k _ _ (gx e r q)⟩
 ·exact q.elim) ha.rf⟩
def kt (zs:Ls):D:=.ktup (zs.map .str)
structure G7 (K:Fg0) (mg:SV) (x:Str) (p:Addr) (zs:Ls):Prop where
 mg:mg x=some (.ref p)
 sq:∀ F:Hp,SqT K F p (zs.map V.str)
theorem ar.strs:∀ (zs:Ls),ar K F (zs.map D.str) (zs.map V.str)
 | []=>rfl
 | z::zs=>⟨_,_,rfl,rfl,ar.strs zs⟩
theorem dN {x:Str} {zs:Ls} {p:Addr} {pos:Pos} (hg:Gl X x) (hm:G7 K X.mg x p zs) (hd:(x == ("__debug__":Str))=false:=by decide):P3 K X (.Name x pos) (tC (.ref p)) (t3C (kt zs)):=
 ⟨s_ hg hm.mg rfl hd,rB fun F=>⟨p,_,rfl,hm.sq F,ar.strs zs⟩⟩
end
section
variable {K:Fg0} {B:Bs} {F:Hp} {σ:L2.St} {H:Hp} {Γ:G} {X:Cx} {e:Expr} {te:TE} {e3:TE3} {pos:Pos}
end
def oIt (o:Option (Addr×Ls×List D)) (k:Addr->Ls->List D->Prop) (_:Tag k):Prop:=oI o k
theorem An {C:Addr} {ns:Ls} {xs:List D} {k:Addr->Ls->List D->Prop} {t:Tag k}:oIt (some (C,ns,xs)) k t=k C ns xs:=rfl
def oSt (o:D) (k:Str->Prop) (_:Tag k):Prop:=oS o k
theorem CA {z:Str} {k:Str->Prop} {t:Tag k}:oSt (.str z) k t=k z:=rfl
def D8 (o:G) (k:D->Prop) (_:Tag k):Prop:=Jl o k
theorem CY {d:D} {Γ:G} {k:D->Prop} {t:Tag k}:D8 (some (.ln d)::Γ) k t=k d:=rfl
section
variable {Γ:G} {Q:RV->G->Prop} {QI:List D->G->Prop} {C C0:Addr} {i n:Nat} {f:Str} {S:S3} {e3:TE3} {a3:TB3} {t3:TA3} {D1:E3} {k1 k2:Str} {d1 d2 d0:D} {l3 h3:TO3}
theorem BP:zm C0 i f e3 D1 Γ=(e3 Γ fun r Γ1=>oIt (pZ Γ1 i) (fun C ns xs=>C=C0/\(f∉ns/\ns.length < 1000)/\D1.nx (putD Γ1 i (.ins C (ns++[f]) (xs++[r.d])))) ⟨⟩):=rfl
theorem IZ:iS3 e3 Γ QI=(e3 Γ fun r Γ1=>oSt r.d (fun z=>asc z=true/\QI (signs z) Γ1) ⟨⟩):=rfl
end
def bT (c:Bool) (p q:Prop) (_:Tag p) (_:Tag q):Prop:=match c with
 | true=>p
 | false=>q
theorem Kw {p q:Prop} {s:Tag p} {t:Tag q}:bT true p q s t=p:=rfl
theorem Kx {p q:Prop} {s:Tag p} {t:Tag q}:bT false p q s t=q:=rfl
theorem vj {c:Bool} {p q:Prop} {s:Tag p} {t:Tag q} (h1:c=true->p) (h2:c=false->q):bT c p q s t:=by
 cases c with
 | true=>exact h1 rfl
 | false=>exact h2 rfl
section
variable {Γ:G} {Q:RV->G->Prop} {QB:Bo->G->Prop} {QT:Bool->G->Prop} {QA:List D->G->Prop} {QL:List Bo->G->Prop} {QO:Option Int->G->Prop} {QG:G->Prop} {i j:Nat} {is:List Nat} {D1:E3} {t u:TS3} {e3 f3:TE3} {a3 b3 c3:TB3} {A3 B3:TT3} {t3:TA3} {tb:cY} {d:D} {l3 h3 s3:TO3} {bb:j5} {ys:List D}
theorem DZ:Hy t u D1 Γ=t { D1 with nx:=u D1 } Γ:=rfl
theorem Gx:DJ D1 Γ=D1.nx Γ:=rfl
theorem DY:yd i e3 D1 Γ=(e3 Γ fun r Γ1=>bW Γ1 i/\D1.nx (Γ1.set i (some r.sl))):=rfl
theorem D0:HA e3 D1 Γ=e3 Γ D1.rt:=rfl
theorem Gz:Ed e3 D1 Γ=(e3 Γ fun _ Γ1=>D1.nx Γ1):=rfl
theorem Jc:tst e3 Γ QT=(e3 Γ fun x Γ1=>match x.d with | .bl k=>QT k Γ1 | _=>False):=rfl
theorem D5:bor i Γ QB=((∃ d,Gat Γ i=some d)/\QB (.v i) Γ):=rfl
theorem D6:bof e3 Γ QB=(e3 Γ fun x Γ1=>QB (.d x.d) Γ1):=rfl
theorem xD:nL a3 tb Γ QL=(a3 Γ fun x Γ1=>tb Γ1 fun xs Γ2=>QL (x::xs) Γ2):=rfl
theorem AL:uT Γ QL=QL [] Γ:=rfl
theorem AM:dz e3 t3 Γ QA=(e3 Γ fun x Γ1=>t3 Γ1 fun xs Γ2=>QA (x.d::xs) Γ2):=rfl
theorem D2:pP Γ QA=QA [] Γ:=rfl
theorem h_c:t3C d Γ Q=Q (.fz d) Γ:=rfl
theorem Jh:GZ A3 B3 Γ QT=(A3 Γ fun c Γ1=>bT c (B3 Γ1 QT) (QT false Γ1) ⟨⟩ ⟨⟩):=by
 show (A3 Γ fun c Γ1=>match c with | true=>B3 Γ1 QT | false=>QT false Γ1)=_
 congr 1
theorem Ko:or3 A3 B3 Γ QT=(A3 Γ fun c Γ1=>bT c (QT true Γ1) (B3 Γ1 QT) ⟨⟩ ⟨⟩):=by
 show (A3 Γ fun c Γ1=>match c with | true=>QT true Γ1 | false=>B3 Γ1 QT)=_
 congr 1
theorem Jd:FL A3 Γ QT=(A3 Γ fun c Γ1=>QT (!c) Γ1):=rfl
theorem D4:CJ t3 Γ Q=(t3 Γ fun xs Γ1=>xs.length<=sizeLine/\Q (.fr (.lst xs)) Γ1):=rfl
theorem DX:za t3 Γ Q=(t3 Γ fun xs Γ1=>xs.length<=sizeLine/\Q (.fz (.tup xs)) Γ1):=rfl
theorem Jg:GY i e3 Γ Q=((∃ xs,cf Γ i=some xs)/\e3 Γ fun r Γ1=>∃ xs,cf Γ1 i=some xs/\xs.length < sizeLine/\Q (.fz .non) (putD Γ1 i (.lst (xs++[r.d])))):=rfl
theorem Gs:Dy is e3 D1 Γ=(e3 Γ fun r Γ1=>∃ ds Γ',r.d=.tup ds/\gives Γ1 is ds=some Γ'/\frees Γ1 is ds/\D1.nx Γ'):=rfl
theorem Gr:wY a3 Γ QO=(a3 Γ fun x Γ1=>∃ i,x.at Γ1=some (.int i)/\QO (some i) Γ1):=rfl
theorem Gw:xl Γ QO=QO none Γ:=rfl
abbrev hI (Iv:Nat->G->Prop) (k:Nat) (Γ:G) (_:Tag Iv):Prop:=Iv k Γ
def DN (xs:List D) (Γ1:G) (g3:TG3) (b3:TS3) (E1:E3) (_:Tag (g3,b3,E1)):Prop:=∃ Iv:Nat->G->Prop,Iv 0 Γ1/\(∀ k d Γ,xs[k]?=some d->Iv k Γ->g3 d Γ fun Γ'=>b3 { E1 with nx:=Iv (k + 1),ct:=Iv (k + 1),bk:=E1.nx } Γ')/\∀ Γ,Iv xs.length Γ->E1.nx Γ
theorem Jf {i3:TI3} {g3:TG3} {b3:TS3} {t1:Tag (i3,g3,b3)} {t2:Tag D1}:GL i3 g3 b3 D1 Γ t1 t2=(i3 Γ fun xs Γ1=>DN xs Γ1 g3 b3 D1 ⟨⟩):=rfl
theorem cB {xs:List D} {Γ1:G} {g3:TG3} {b3:TS3} {E1:E3} {t:Tag (g3,b3,E1)} (Iv:Nat->G->Prop) (h0:Iv 0 Γ1) (hs:∀ k d Γ,xs[k]?=some d->Iv k Γ->g3 d Γ fun Γ'=>b3 { E1 with nx:=fun Γ=>hI Iv (k + 1) Γ ⟨⟩,ct:=fun Γ=>hI Iv (k + 1) Γ ⟨⟩,bk:=E1.nx } Γ')
  (he:∀ Γ,Iv xs.length Γ->E1.nx Γ):DN xs Γ1 g3 b3 E1 t:=⟨Iv,h0,hs,he⟩
abbrev hJ (Iv:Nat->List D->G->Prop) (k:Nat) (ys:List D) (Γ:G) (_:Tag Iv):Prop:=Iv k ys Γ
def Ef (xs:List D) (Γ1:G) (fr:On) (g3:TG3) (e3:TE3) (Q:RV->G->Prop) (_:Tag (fr,g3,e3,Q)):Prop:=∃ Iv:Nat->List D->G->Prop,Iv 0 [] (du Γ1 (cO fr))/\
 (∀ k d ys Γc,xs[k]?=some d->ys.length=k->Iv k ys Γc->g3 d Γc fun Γ2=>e3 Γ2 fun r Γ3=>Iv (k + 1) (ys++[r.d]) Γ3)/\∀ ys Γc,ys.length=xs.length->Iv xs.length ys Γc->Q (.fr (.lst ys)) (bB fr Γ1 Γc)
theorem GA {fr:On} {i3:TI3} {g3:TG3} {t1:Tag (fr,i3,g3,e3)} {t2:Tag Q}:Eg fr i3 g3 e3 Γ Q t1 t2=(i3 Γ fun xs Γ1=>xs.length < sizeLine/\Ef xs Γ1 fr g3 e3 Q ⟨⟩):=rfl
theorem bL {xs:List D} {Γ1:G} {fr:On} {g3:TG3} {e3:TE3} {Q:RV->G->Prop} {t:Tag (fr,g3,e3,Q)} (Iv:Nat->List D->G->Prop) (h0:Iv 0 [] (du Γ1 (cO fr)))
  (hs:∀ k d ys Γc,xs[k]?=some d->ys.length=k->Iv k ys Γc->g3 d Γc fun Γ2=>e3 Γ2 fun r Γ3=>hJ Iv (k + 1) (ys++[r.d]) Γ3 ⟨⟩) (he:∀ ys Γc,ys.length=xs.length->Iv xs.length ys Γc->Q (.fr (.lst ys)) (bB fr Γ1 Γc)):Ef xs Γ1 fr g3 e3 Q t:=⟨Iv,h0,hs,he⟩
def A9 (xs:List D) (Γ1:G) (fr:On) (g3:TG3) (b3:j5) (Q:RV->G->Prop) (_:Tag (fr,g3,b3,Q)):Prop:=xq xs g3 b3 [] (du Γ1 (cO fr)) fun ys Γc=>ys.length < sizeLine/\Q (.fr (.lst ys)) (bB fr Γ1 Γc)
theorem CW {fr:On} {i3:TI3} {g3:TG3} {t1:Tag (fr,i3,g3,bb)} {t2:Tag Q}:A_ fr i3 g3 bb Γ Q t1 t2=(i3 Γ fun xs Γ1=>A9 xs Γ1 fr g3 bb Q ⟨⟩):=rfl
theorem dE {xs:List D} {Γ1:G} {fr:On} {g3:TG3} {b3:j5} {Q:RV->G->Prop} {t:Tag (fr,g3,b3,Q)} (Iv:Nat->List D->G->Prop) (h0:Iv 0 [] (du Γ1 (cO fr)))
  (hs:∀ k d ys Γ,xs[k]?=some d->Iv k ys Γ->g3 d Γ fun Γ'=>b3 ys Γ' fun ys Γ=>hJ Iv (k + 1) ys Γ ⟨⟩) (he:∀ ys Γc,Iv xs.length ys Γc->ys.length < sizeLine/\Q (.fr (.lst ys)) (bB fr Γ1 Γc)):A9 xs Γ1 fr g3 b3 Q t:=⟨Iv,h0,hs,he⟩
theorem GP {n:Nat} {xs:List D}:eqN (n + 1) (.lst xs) (.lst [])=some xs.isEmpty:=by cases n <;> cases xs <;> rfl
theorem GQ {n:Nat} {a b c:Int}:eqN (n + 1) (.lst [.int a,.int b,.int c]) (.lst [.int a,.int b,.int c])=some true:=by
 have:=vc (n:=n) [a,b,c] [a,b,c];rw[decide_eq_true rfl] at this;exact this
theorem i28 {a b:Option D}:(if 2=8 then a else b)=b:=if_neg (by decide)
def DV (S:S3) (A:G) (L:On) (Γ1:G) (Q:RV->G->Prop) (_:Tag Q):Prop:=S A (fun r Γa=>Q r (bB L Γ1 Γa))
def Ja (S:S3) (A:G) (Γ1:G) (Q:RV->G->Prop) (_:Tag Q):Prop:=S A (fun r Γa=>r=.fz .non/\D8 Γa (fun d=>Q (.fr d) Γ1) ⟨⟩)
theorem xR {n:Nat} {S:S3} {t3:cY}:m4 n S t3 Γ Q=(t3 Γ fun bs Γ1=>bs.length=n/\(bN bs).Nodup/\DV S (du Γ1 (bs.map some)) ((bs.map some).map bZ) Γ1 Q ⟨⟩):=rfl
theorem FQ {C:Addr} {m:Str} {n:Nat} {S:S3} {o3:TB3} {t3:cY}:gB C m n S o3 t3 Γ Q=(o3 Γ fun x Γ1=>(∃ ns xs,x.at Γ1=some (.ins C ns xs)/\m∉ns)/\t3 Γ1 fun bs Γ2=>bs.length + 1=n/\(bN (x::bs)).Nodup/\DV S (du Γ2 ((x::bs).map some)) (((x::bs).map some).map bZ) Γ2 Q ⟨⟩):=rfl
theorem FR {C:Addr} {n:Nat} {S:S3} {t3:TA3}:Ar C n S t3 Γ Q=(t3 Γ fun ds Γ1=>ds.length + 1=n/\Ja S (some (.ln (.ins C [] []))::ds.map fun d=>some (.fz d)) Γ1 Q ⟨⟩):=rfl
def bG (c:Bool) (t u:TS3) (E1:E3) (Γ:G) (_:Tag (t,u,E1)):Prop:=match c with
 | true=>t E1 Γ
 | false=>u E1 Γ
theorem KD {s:Tag (t,u,D1)}:bG true t u D1 Γ s=t D1 Γ:=rfl
theorem KG {s:Tag (t,u,D1)}:bG false t u D1 Γ s=u D1 Γ:=rfl
theorem kz {c:Bool} {s:Tag (t,u,D1)} (h1:c=true->t D1 Γ) (h2:c=false->u D1 Γ):bG c t u D1 Γ s:=by
 cases c with
 | true=>exact h1 rfl
 | false=>exact h2 rfl
theorem Je:IW A3 t u D1 Γ=(A3 Γ fun c Γ1=>bG c t u D1 Γ1 ⟨⟩):=by
 show (A3 Γ fun c Γ1=>match c with | true=>t D1 Γ1 | false=>u D1 Γ1)=_
 congr 1
theorem Kp {e:D}:dz (t3C e) t3 Γ QA=(t3 Γ fun xs Γ2=>QA (e::xs) Γ2):=rfl
theorem DW {d e:D}:za (dz (t3C d) (dz (t3C e) pP)) Γ Q=Q (.fz (.tup [d,e])) Γ:=by
 show (2<=sizeLine/\Q (.fz (.tup [d,e])) Γ)=_;exact propext ⟨fun h=>h.2,fun h=>⟨by rw[sizeLine_eq];decide,h⟩⟩
theorem Kq {d e:D}:dz (za (dz (t3C d) (dz (t3C e) pP))) t3 Γ QA=(t3 Γ fun xs Γ2=>QA (.tup [d,e]::xs) Γ2):=by
 show za (dz (t3C d) (dz (t3C e) pP)) Γ (fun x Γ1=>t3 Γ1 fun xs Γ2=>QA (x.d::xs) Γ2)=_;rw[DW];rfl
end
theorem ln0 {α:Type} {us:List α} (h:us.length=0):us=[]:=List.eq_nil_of_length_eq_zero h
theorem ln1 {α:Type} {us:List α} (h:us.length=1):∃ a,us=[a]:=by
 match us,h with
 | [a],_=>exact⟨a,rfl⟩
theorem ln2 {α:Type} {us:List α} (h:us.length=2):∃ a b,us=[a,b]:=by
 match us,h with
 | [a,b],_=>exact⟨a,b,rfl⟩
theorem ln3 {α:Type} {us:List α} (h:us.length=3):∃ a b c,us=[a,b,c]:=by
 match us,h with
 | [a,b,c],_=>exact⟨a,b,c,rfl⟩
theorem ln4 {α:Type} {us:List α} (h:us.length=4):∃ a b c d,us=[a,b,c,d]:=by
 match us,h with
 | [a,b,c,d],_=>exact⟨a,b,c,d,rfl⟩
theorem ln5 {α:Type} {us:List α} (h:us.length=5):∃ a b c d e,us=[a,b,c,d,e]:=by
 match us,h with
 | [a,b,c,d,e],_=>exact⟨a,b,c,d,e,rfl⟩
mutual
def gp:D->La
 | .cel p xs=>p::nM xs
 | .lst xs=>nM xs
 | .tup xs=>nM xs
 | .ktup xs=>nM xs
 | .ins _ _ xs=>nM xs
 | .exc _ _ xs=>nM xs
 | _=>[]
def nM:List D->La
 | []=>[]
 | x::xs=>gp x++nM xs
end
def Sl.d:Sl->D
 | .fz d=>d
 | .ow d=>bare d
 | .ln d=>bare d
def qm:G->La
 | []=>[]
 | none::Γ=>qm Γ
 | some s::Γ=>gp s.d++qm Γ
section
variable {K:Fg0} {B:Bs} {F:Hp} {σ:L2.St} {H:Hp} {Γ:G} {X:Cx}
mutual
theorem Rep.gp:∀ {d:D} {v:V},Rep K F d v->∀ {q:Addr},q∈gp d->∃ o,F q=some o
 | .cel p xs,v,⟨_,vs,h2,h3⟩,q,h=>by
  rcases List.mem_cons.mp h with rfl | h
  ·exact⟨_,h2⟩
  ·exact ar.gp h3 h
 | .lst xs,v,⟨p,vs,_,_,h3⟩,q,h=>ar.gp h3 h
 | .tup xs,v,⟨p,vs,_,_,h3⟩,q,h=>ar.gp h3 h
 | .ktup xs,v,⟨p,vs,_,_,h3⟩,q,h=>ar.gp h3 h
 | .ins _ _ xs,v,⟨p,dx,gs,_,_,_,h3⟩,q,h=>ar.gp h3 h
 | .exc _ _ xs,v,⟨p,dx,gs,_,_,_,_,h3⟩,q,h=>ar.gp h3 h
 | .non,_,_,_,h=>nomatch h
 | .dct,_,_,_,h=>nomatch h
 | .dcs _ _,_,_,_,h=>nomatch h
 | .fn _ _ _ _,_,_,_,h=>nomatch h
 | .bl _,_,_,_,h=>nomatch h
 | .int _,_,_,_,h=>nomatch h
 | .str _,_,_,_,h=>nomatch h
 | .scr _,_,_,_,h=>nomatch h
 | .ty _,_,_,_,h=>nomatch h
 | .adr _,_,_,_,h=>nomatch h
theorem ar.gp:∀ {xs:List D} {vs:List V},ar K F xs vs->∀ {q:Addr},q∈nM xs->∃ o,F q=some o
 | [],_,_,_,h=>nomatch h
 | x::xs,_,⟨v,ws,_,h1,h2⟩,q,h=>by
  rcases List.mem_append.mp h with h | h
  ·exact Rep.gp h1 h
  ·exact ar.gp h2 h
end
theorem uK {p:Addr}:∀ {d:D},Own K F H p d->∀ {q:Addr},q∈L3.gp (bare d)->∃ o,F q=some o
 | .lst xs,⟨vs,_,h3⟩,q,h=>ar.gp h3 h
 | .cel _ xs,⟨_,vs,_,h3⟩,q,h=>ar.gp h3 h
 | .ins _ _ xs,⟨dx,gs,_,_,h3⟩,q,h=>ar.gp h3 h
theorem mZ:∀ {Γ:G} {q:Addr},q∈qm Γ->∃ (i:Nat) (s:Sl),Γ[i]?=some (some s)/\q∈gp s.d
 | [],_,h=>nomatch h
 | none::Γ,q,h=>by
  obtain⟨i,s,a,b⟩:=mZ (Γ:=Γ) h;exact⟨i + 1,s,by simpa using a,b⟩
 | some s::Γ,q,h=>by
  rcases List.mem_append.mp h with h | h
  ·exact⟨0,s,rfl,h⟩
  ·obtain⟨i,s,a,b⟩:=mZ (Γ:=Γ) h;exact⟨i + 1,s,by simpa using a,b⟩
theorem En.gp (e:En K B F σ H Γ) {q:Addr} (h:q∈qm Γ):∃ o,F q=some o:=by
 obtain⟨i,s,a,b⟩:=mZ h;cases s with
 | fz d=>obtain⟨v,_,r⟩:=e.fz i d a;exact r.gp b
 | ow d=>obtain⟨p,_,_,r⟩:=e.hl i d (.inl a);exact uK r b
 | ln d=>obtain⟨p,_,_,r⟩:=e.hl i d (.inr a);exact uK r b
theorem En.Im (e:En K B F σ H Γ) {p:Addr} (h:F p=none):p∉qm Γ:=fun q=>by
 obtain⟨o,ho⟩:=e.gp q;rw[h] at ho;cases ho
def Bs.hid (B:Bs) (p:Addr) (o:HO):Bs:=⟨B.F,upd B.H p o,B.own⟩
theorem En.hide (e:En K B F σ H Γ) {p:Addr} {o:HO} (hF:F p=none) (hH:H p=some o) (hn:∀ (i:Nat) (d:D),Hld Γ i d->σ[i]?≠some (some (V.ref p))):En K (B.hid p o) F σ H Γ where
 sub:=e.sub
 len:=e.len
 fz:=e.fz
 hl:=e.hl
 ow:=fun i d p' h a=>by
  have z:p'≠p:=fun z=>hn i d (.inl h) (z ▸ a);show upd B.H p o p'=none;rw[af z];exact e.ow i d p' h a
 ln:=e.ln
 dis:=e.dis
 par:=e.par
 keep:=e.keep
 new:=fun b u h=>by
  rcases e.new b u h with q | q
  ·exact .inl q
  ·have z:b≠p:=fun z=>by subst z;rw[hF] at h;cases h
   exact .inr (by show upd B.H p o b=none;rw[af z];exact q)
 rest:=fun b u h n=>by
  by_cases z:b=p
  ·subst z;have h:upd B.H b o b=some u:=h;rw[ao] at h;cases h;exact hH
  ·have h:upd B.H p o b=some u:=h;rw[af z] at h;exact e.rest b u h n
 dom:=fun b h=>by
  have z:b≠p:=fun z=>by subst z;rw[hH] at h;cases h
  show upd B.H p o b=none;rw[af z];exact e.dom b h
theorem En.y6 {p:Addr} {o:HO} (e:En K (B.hid p o) F σ H Γ) (hB:B.H p=none) (hF:B.F p=none) (hn:∀ i,(i,p)∉B.own) :
  En K B F σ H Γ/\H p=some o/\F p=none/\∀ (i:Nat) (d:D),Hld Γ i d->σ[i]?≠some (some (V.ref p)):=by
 have at_p:(B.hid p o).H p=some o:=ao;have ne:∀ {b:Addr},b≠p->(B.hid p o).H b=B.H b:=fun z=>af z;have un:∀ {b:Addr},(B.hid p o).H b=none->B.H b=none:=fun {b} h=>by
  have z:b≠p:=fun z=>by subst z;rw[at_p] at h;cases h
  rw[<- ne z];exact h
 refine⟨⟨e.sub,e.len,e.fz,e.hl,fun i d q h a=>un (e.ow i d q h a),e.ln,e.dis,e.par,e.keep,fun b u h=>(e.new b u h).imp id un,fun b u h n=>e.rest b u ?_ n,fun b h=>un (e.dom b h)⟩,e.rest p o at_p hn,?_,fun i d h a=>?_⟩
 ·have z:b≠p:=fun z=>by subst z;rw[hB] at h;cases h
  rw[ne z];exact h
 ·cases q:F p with
  | none=>rfl
  | some u=>
   rcases e.new p u q with z | z
   ·rw[show (B.hid p o).F p=B.F p from rfl,hF] at z;cases z
   ·rw[at_p] at z;cases z
 ·rcases h with h | h
  ·have z:=e.ow i d p h a;rw[at_p] at z;cases z
  ·exact hn i (e.ln i d p h a)
def frL (r:RV) (k:List D->Prop):Prop:=match r with
 | .fr (.lst xs)=>k xs
 | _=>False
theorem wo {r:RV} {k:List D->Prop} (h:frL r k):∃ xs,r=.fr (.lst xs)/\k xs:=by
 cases r with
 | fz d=>exact h.elim
 | two _ _=>exact h.elim
 | rws _=>exact h.elim
 | fr d=>cases d <;> first | exact h.elim | exact⟨_,rfl,h⟩
def Hg (a3 b3:TE3) (Γ:G) (Q:RV->G->Prop):Prop:=a3 Γ fun r Γ1=>frL r fun xs=>b3 Γ1 fun r' Γ2=>frL r' fun ys=>Q (.two xs ys) Γ2
variable {a b:Expr} {ta tb:TE} {a3 b3:TE3} {pos:Pos}
theorem Af {x1} (ha:P3 K X a ta a3) (hb:P3 K X b tb b3) (hs:starEach [a,b] X.env=(false,eval a X.env)::starEach [b] X.env:=by rfl) (hs2:starEach [b] X.env=(false,eval b X.env)::starEach [] X.env:=by rfl):P3 K X (.Tuple [a,b] x1 pos) (EB (k9 ta (k9 tb nW))) (Hg a3 b3):=⟨zY (jK ha.pe (jK hb.pe pC hs2) hs),by
 intro B F σ H Γ Q QQ e q k;refine ha.rf B F σ H Γ _ _ e q fun v H1 ⟨F1,Γ1,r,s1,e1,rv,q1⟩=>?_;obtain⟨xs,rfl,q1⟩:=wo q1;obtain⟨p,rfl,f1,⟨vs,h1,r1⟩,b1,n1⟩:=rv;have bf:B.F p=none:=by
  cases z:B.F p with
  | none=>rfl
  | some o=>have:=e1.keep _ _ z;rw[f1] at this;cases this
 have no:∀ i,(i,p)∉B.own:=fun i z=>by
  obtain⟨x,d,y⟩:=e1.par i p z;exact n1 i d (.inr y) x
 refine hb.rf (B.hid p (.lst vs)) F1 σ H1 Γ1 _ _ (e1.hide f1 h1 n1) q1 fun w H2 ⟨F2,Γ2,r',s2,e2,rv2,q2⟩=>?_;obtain⟨ys,rfl,q2⟩:=wo q2;obtain⟨q',rfl,f2,⟨ws,h2,r2⟩,b2,n2⟩:=rv2;have ne:q'≠p:=fun z=>by
  have b2:upd B.H p (.lst vs) q'=none:=b2;rw[z,ao] at b2;cases b2
 have b2':B.H q'=none:=by
  have b2:upd B.H p (.lst vs) q'=none:=b2;rw[af ne] at b2;exact b2
 obtain⟨e3,h3,f3,n3⟩:=e2.y6 b1 bf no;refine⟨by show 2<=sizeLine;rw[sizeLine_eq];omega,fun l hl=>k _ _ ⟨F2,Γ2,.two xs ys,s1.trans s2,e3.alloc hl _,⟨l,p,q',vs,ws,rfl,ao,?_,?_,r1.mono s2,r2,Ne.symm ne,fun z hz=>?_⟩,q2⟩⟩
 ·rw[af (aE h3 hl)];exact h3
 ·rw[af (aE h2 hl)];exact h2
 ·rcases hz with rfl | rfl | rfl
  ·exact⟨e3.nof hl,e3.dom _ hl,e3.jf hl⟩
  ·exact⟨f3,b1,n3⟩
  ·exact⟨f2,b2',n2⟩⟩
def JX (r:RV) (k:List D->List D->Prop):Prop:=match r with
 | .two xs ys=>k xs ys
 | _=>False
def Hw (i j:Nat) (e3:TE3) (D:E3) (Γ:G):Prop:=e3 Γ fun r Γ1=>JX r fun xs ys=>∀ p q,p≠q->p∉qm Γ1->q∉qm Γ1->bW Γ1 i/\bW (Γ1.set i (some (.fz (.cel p xs)))) j/\D.nx ((Γ1.set i (some (.fz (.cel p xs)))).set j (some (.fz (.cel q ys))))
theorem BQ {es:List Expr} {kt:Nat} {pt:Pos} {i j:Nat} {e:Expr} {te:TE} {e3:TE3} (hK:X.K=K) (he:P3 K X e te e3) (hg:PGs X es (eB [i,j])) (hc:X.calm=true) (hn:(assignEach es X.env).length=2:=by rfl) (hst:(assignEach es X.env).findIdx? (·.1)=none:=by rfl)
  (hs:swapsWithSole [.Tuple es kt pt] e pos.line X.env=pure false:=by rfl) (hw:swappedStores [.Tuple es kt pt] e X.env=pure none:=by rfl) (h1:(assignEach [.Tuple es kt pt] X.env).map (·.2)=[assign (.Tuple es kt pt) X.env]:=by rfl) :
  P3S K X (.Assign [.Tuple es kt pt] e pos) (fm te (wm K 2 (eB [i,j]))) (Hw i j e3):=⟨by subst hK;exact sV he.pe (vM hc hg hn hst) hs hw h1,fun B F σ H Γ D D3 e k q=>
 he.rf B F σ H Γ _ _ e q fun v H' ⟨F',Γ',r,s,e',rv,q'⟩=>by
  cases r with
  | fz _=>exact q'.elim
  | fr _=>exact q'.elim
  | rws _=>exact q'.elim
  | two xs ys=>
   obtain⟨t,p,q1,vs,ws,rfl,h1,h2,h3,h4,h5,h6,h7⟩:=rv;obtain⟨b1,b2,b3⟩:=h7 p (.inr (.inl rfl));obtain⟨c1,c2,c3⟩:=h7 q1 (.inr (.inr rfl));obtain⟨f1,f2,qn⟩:=q' p q1 h6 (e'.Im b1) (e'.Im c1);have e1:=e'.freeze b1 h2 b2 b3;have g2:upd F' p (.lst vs) q1=none:=by rw[af (Ne.symm h6)];exact c1
   have e2:=e1.freeze g2 h3 c2 c3;have s1:=aT (o:=.lst vs) b1;have s2:=aT (o:=.lst ws) g2;have rl:ar K (upd (upd F' p (.lst vs)) q1 (.lst ws)) [.cel p xs,.cel q1 ys] [.ref p,.ref q1]:=
    ⟨_,_,rfl,⟨rfl,vs,by rw[af h6];exact ao,h4.mono (s1.trans s2)⟩,_,_,rfl,⟨rfl,ws,ao,h5.mono (s1.trans s2)⟩,rfl⟩
   refine⟨t,[.ref p,.ref q1],rfl,.inl (.inl h1),rfl,kP (is:=[i,j]) e2 rl rfl ⟨f1,f2,trivial⟩ fun σ' e3=>k.nx _ σ' _ _ ((s.trans s1).trans s2) e3 qn⟩⟩
def iT3 (a3:TE3) (Γ:G) (Q:List D->G->Prop):Prop:=a3 Γ fun r Γ1=>∃ xs,r.d=.tup xs/\Q xs Γ1
end
open PySem L2 PySem.Spec PyProof.Rows
section
variable {K:Fg0} {B:Bs} {F:Hp} {σ:L2.St} {H:Hp} {Γ:G} {X:Cx} {p:Addr}
variable {st:Stmt} {rest:List Stmt} {t u:TS} {t3 u3:TS3}
end
section
variable {P:Program} {w:World} {K:Fg0} {mg:SV} {base:Heap}
end
section
variable {K:Fg0} {B:Bs} {F:Hp} {σ:L2.St} {H:Hp} {Γ:G} {X:Cx} {pos:Pos}
def HZ (i j:Nat) (a3 b3:TE3) (D:E3) (Γ:G):Prop:=a3 Γ fun r Γ1=>frL r fun xs=>b3 Γ1 fun r' Γ2=>frL r' fun ys=>bW Γ2 i/\bW (Γ2.set i (some (.ow (.lst xs)))) j/\D.nx ((Γ2.set i (some (.ow (.lst xs)))).set j (some (.ow (.lst ys))))
def Hf (i:Nat) (b3:TE3) (Γ:G) (Q:RV->G->Prop):Prop:=(∃ d,Gat Γ i=some d)/\b3 Γ fun r' Γ2=>frL r' fun ys=>∃ xs,Γ2[i]?=some (some (Sl.ow (.lst xs)))/\Q (.two xs ys) (Γ2.set i none)
end
section
variable {P:Program} {w:World} {K:Fg0} {mg:SV} {base:Heap}
end
def wd (i:Int):List Nat:=(toString i).toList.map Char.toNat
def tl:Li->List Nat
 | []=>[93]
 | i::is=>44::32::(wd i++tl is)
def lt:Li->List Nat
 | []=>[91,93]
 | i::is=>91::(wd i++tl is)
section
variable {K:Fg0} {X:Cx} {B:Bs} {F0:Hp} {e:Expr} {st:Stmt} {rest:List Stmt} {te:TE} {e3:TE3} {t u:TS} {t3 u3:TS3} {pos:Pos}
end
section
variable {K:Fg0} {B:Bs} {F0:Hp}
end
section
variable {P:Program} {w:World} {K:Fg0} {mg:SV} {base:Heap}
end
section
variable {K:Fg0} {X:Cx} {B:Bs} {F0:Hp} {e:Expr} {te:TE} {e3:TE3} {pos:Pos}
end
section
variable {K:Fg0} {X:Cx} {B:Bs} {F0:Hp} {CX:CXT} {k:Nat} {f C:Addr} {fd:FuncData} {ps:Ls} {x m:Str} {p pos apos:Pos} {e o:Expr} {es:List Expr} {ta:TE} {t:TA} {t3:cY} {o3:TB3} {n:Nat} {S:S3X} {E:L2.St->XK} {W:XD->G->Prop}
end
section
variable {K:Fg0} {X:Cx} {B:Bs} {F0:Hp} {CX:CXT} {k:Nat} {f C:Addr} {fd:FuncData} {ps ns:Ls} {x:Str} {p pos cpos:Pos} {e:Expr} {es:List Expr} {t:TA} {t3:TA3} {E:XK} {W:XD->G->Prop}
end
section
variable {K:Fg0} {B:Bs} {F F0:Hp} {σ:L2.St} {H:Hp} {Γ:G} {C₀:Addr} {i:Nat}
end
section
variable {K:Fg0} {X:Cx} {B:Bs} {F0:Hp} {x nm:Str} {i:Nat} {C₀ L:Addr} {body suite:List Stmt} {b₀:Stmt} {np hpos pos:Pos} {tb:(L2.St->XK)->TS} {b3:(XD->G->Prop)->TS3} {ts:TS} {s3:TS3}
end
section
variable {K:Fg0} {X:Cx} {a:Expr} {ta:TE} {a3:TB3} {pos:Pos}
end
end L3
namespace L2
open PySem PySem.Spec PyProof.Rows
section
variable {X:Cx}
end
end L2
namespace L3
open PySem L2
section
variable {K:Fg0} {B:Bs} {F:Hp} {σ:L2.St} {H:Hp} {Γ:G} {X:Cx} {a b o e:Expr} {to te ta:TE} {e3 o3 a3:TE3} {b3:TB3} {pos apos cpos:Pos}
section
variable (hbase:∀ m:Str,m="removeprefix"\/m="split"\/m="join"->True)
end
def IP (ds:List D) (Γ:G) (Q:RV->G->Prop):Prop:=match ds with
 | [.str z]=>∃ n,(PySem.intText? z=some n/\z.length<=640)/\Q (.fz (.int n)) Γ
 | _=>False
def itx (i:Int):Str:=Str.ofString (toString i)
def inT (i j:Str):Bool:=!(Builtin.Str.occurrences j i 0 j.length 1).isEmpty
def Kl (x y:D) (Γ:G) (Q:RV->G->Prop):Prop:=match x,y with
 | .str i,.str j=>Q (.fz (.bl (inT i j))) Γ
 | _,_=>False
def J7 (C:Addr):D->Option Bool
 | .ins C' _ _=>if C'=C then some true else none
 | d=>if knD d=true then some false else none
def Kk (C:Addr) (ds:List D) (Γ:G) (Q:RV->G->Prop):Prop:=match ds with
 | [d,.adr C']=>C'=C/\∃ b,J7 C d=some b/\Q (.fz (.bl b)) Γ
 | _=>False
end
section
variable {K:Fg0} {X:Cx} {c:Expr} {body:List Stmt} {tc:TT} {A3:TT3} {tb:TS} {b3:TS3} {pos:Pos}
end
section
variable {K:Fg0} {X:Cx} {st:Stmt} {t:TS} {t3:TS3}
end
def fz3 (e3:TE3) (Γ:G) (Q:RV->G->Prop):Prop:=e3 Γ fun r Γ1=>Q (.fz r.d) Γ1
theorem pG {K:Fg0} {X:Cx} {e:Expr} {te:TE} {e3:TE3} (h:P3 K X e te e3):P3 K X e te (fz3 e3):=⟨h.pe,fun B F σ H Γ Q QQ en q k=>h.rf B F σ H Γ _ _ en q fun v H' ⟨F',Γ',r,s,e',rv,q'⟩=>by
 obtain⟨F2,s2,e2,rp⟩:=e'.frozen rv;exact k v H' ⟨F2,Γ',.fz r.d,s.trans s2,e2,rp,q'⟩⟩
section
variable {Γ:G} {Q:RV->G->Prop} {W:XD->G->Prop} {D:E3}
end
end L3
namespace L2
open PySem PySem.Spec PyProof.Rows
section
variable {X:Cx} {a b e:Expr} {ta tb te:TE} {rest es:List Expr} {pos:Pos}
theorem wF {k:Nat} (hr:bJ k X.A):cj X (.builtin "repr") (fun xs H Q=>(xs=[.non]/\Q (.str "None") H)\/(∃ c,xs=[.bl c]/\Q (.str (if c then "True" else "False")) H)\/(∃ i,xs=[.int i]/\i.natAbs.log2 < 1920/\Q (.str (toString i)) H)\/∃ z,xs=[.str z]/\(reprText z).length<=sizeLine/\Q (.str (reprText z)) H):=by
 intro pins s σ H xs us Q I r h;rcases h with ⟨rfl,q⟩ | ⟨c,rfl,q⟩ | ⟨i,rfl,hi,q⟩ | ⟨z,rfl,hz,q⟩
 ·obtain⟨u,rfl,ru⟩:=vals1 r;cases ru;exact P.repr_of_none ⟨.str _,H,I.tok _,⟨_,rfl⟩,q⟩
 ·obtain⟨u,rfl,ru⟩:=vals1 r;cases ru;exact P.repr_of_bool ⟨.str _,H,I.tok _,⟨_,rfl⟩,q⟩
 ·obtain⟨u,rfl,ru⟩:=vals1 r;obtain⟨t,rfl⟩:=ru;exact P.repr_of_int hi ⟨.str _,H,I.tok _,⟨_,rfl⟩,q⟩
 ·obtain⟨u,rfl,ru⟩:=vals1 r;obtain⟨t,rfl⟩:=ru;exact P.repr_of_str ⟨.str _,H,I.tok _,⟨_,rfl⟩,q⟩ hz
end
end L2
namespace L3
open PySem L2
section
variable {K:Fg0} {B:Bs} {F:Hp} {σ:L2.St} {H:Hp} {Γ:G} {X:Cx} {a b o e:Expr} {rest es:List Expr} {to te ta tb:TE} {e3 o3 a3 b3:TE3} {pos apos cpos:Pos}
def KS (ds:List D) (Γ:G) (Q:RV->G->Prop):Prop:=match ds with
 | [.str z]=>z.length=1/\Q (.fz (.int (z.cps.getD 0 0:Nat))) Γ
 | _=>False
def scl:D->Option Str
 | .non=>some "None"
 | .bl c=>some (if c then "True" else "False")
 | .int i=>some (itx i)
 | .str z=>some (reprText z)
 | _=>none
def rpr (d:D):Str:=(scl d).getD (shw d)
def okR (d:D):Prop:=(EM d=true\/d=.dct)/\Sh 10000000 20 d\/d=.non\/(∃ c,d=.bl c)\/(∃ i,d=.int i/\i.natAbs < 10 ^ 60)\/∃ z,d=.str z/\(reprText z).length<=sizeLine
def vG (ds:List D) (Γ:G) (Q:RV->G->Prop):Prop:=match ds with
 | [d]=>okR d/\Q (.fz (.str (rpr d))) Γ
 | _=>False
theorem oM {k:Nat} (hK:X.K=K) (hr:bJ k X.A):B3 K X (.builtin "repr") (fun xs H Q=>(∃ a d,xs=[.ref a]/\Dt K H (.ref a) d/\Shw d/\Q (.str d.shown) H)\/((xs=[.non]/\Q (.str "None") H)\/(∃ c,xs=[.bl c]/\Q (.str (if c then "True" else "False")) H)\/(∃ i,xs=[.int i]/\i.natAbs.log2 < 1920/\Q (.str (toString i)) H)\/∃ z,xs=[.str z]/\(reprText z).length<=sizeLine/\Q (.str (reprText z)) H)) vG:=
 ⟨by subst hK;exact cj.or (wG hr) (wF hr),by
 intro B F σ H Γ vs ds Q QQ e r q k;unfold vG at q;split at q
 ·obtain⟨hd,q⟩:=q;obtain⟨v,rfl,h⟩:=r.one;rcases hd with ⟨hs,sh⟩ | rfl | ⟨c,rfl⟩ | ⟨i,rfl,hi⟩ | ⟨z,rfl,hz⟩
  ·left
   have sp:=sh.spec;have fin:Shw (dt _):=⟨sp.sh,sp.dp,by rw[sizeLine_eq];have:=sp.ln;omega⟩;rename_i d;rcases hs with hs | rfl
   ·obtain⟨a,rfl,hd⟩:=sh.dtB hs e.sub h;have er:rpr d=shw d:=by cases d <;> first | rfl | cases hs
    rw[er] at q;exact⟨a,_,rfl,hd,fin,k _ _ (i8 e q)⟩
   ·have h':Rep K F .dct v:=h;have hd:=sp.dt e.sub h';obtain⟨p,rfl,_⟩:=h';exact⟨p,_,rfl,hd,fin,k _ _ (i8 e q)⟩
  ·cases h;exact .inr (.inl ⟨rfl,k _ _ (i8 e q)⟩)
  ·cases h;exact .inr (.inr (.inl ⟨c,rfl,k _ _ (i8 e q)⟩))
  ·cases h;exact .inr (.inr (.inr (.inl ⟨i,rfl,of_decide_eq_true (we hi),k _ _ (i8 e q)⟩)))
  ·cases h;exact .inr (.inr (.inr (.inr ⟨z,rfl,hz,k _ _ (i8 e q)⟩)))
 ·exact q.elim⟩
end
end L3
namespace L2
open PySem PySem.Spec PyProof.Rows
section
variable {X:Cx} {pins:Pn} {σ:St} {H:Hp} {s:Shared} {e C:Addr} {dx:Option Addr}
end
section
variable {X:Cx} {CX:CXT} {k:Nat} {f C:Addr} {fd:FuncData} {ps:Ls} {sp:Sp} {dvs:List V} {ds:Lv} {E':XK} {x:Str} {p cpos:Pos} {e:Expr} {es:List Expr} {t:TA}
end
end L2
namespace L3
open PySem L2 PySem.Spec PyProof.Rows
section
variable {K:Fg0} {X:Cx} {B:Bs} {F0:Hp} {k:Nat} {f C:Addr} {fd:FuncData} {ps ns:Ls} {x:Str} {p cpos:Pos} {e:Expr} {es:List Expr} {t:TA} {t3:TA3}
end
section
variable {K:Fg0} {X:Cx} {e:Expr} {te:TE} {e3:TE3}
end
end L3
namespace L2
open PySem PySem.Spec PyProof.Rows
section
variable {K:Fg0} {U C D:Addr}
end
end L2
namespace L3
open PySem L2 PySem.Spec PyProof.Rows
section
variable {K:Fg0} {X:Cx} {k:Nat} {f C:Addr} {fd:FuncData} {ps:Ls} {x:Str} {p cpos:Pos} {e:Expr} {es:List Expr} {t:TA} {t3:TA3}
end
section
variable {K:Fg0} {X:Cx} {pos p1 p2:Pos} {x y:Str}
end
section
variable {K:Fg0} {X:Cx} {F:Hp} {a b:Expr} {ta tb:TE} {a3 b3:TB3} {pos:Pos}
theorem ar.times {xs:List D} {vs:List V} (r:ar K F xs vs):∀ n:Nat,ar K F (List.replicate n xs).flatten (List.replicate n vs).flatten
 | 0=>rfl
 | n + 1=>by
  rw[List.replicate_succ,List.replicate_succ,List.flatten_cons,List.flatten_cons];exact r.append (ar.times r n)
def xn (x y:D) (Γ:G) (Q:RV->G->Prop):Prop:=match x,y with
 | .lst xs,.int n=>(0<=n/\n<=1000/\xs.length * n.toNat<=sizeLine)/\Q (.fr (.lst (List.replicate n.toNat xs).flatten)) Γ
 | _,_=>False
theorem CC:jG K EZ xn:=by
 intro B F σ H Γ x y dx dy Q QQ e rx ry q k;unfold xn at q;split at q
 ·obtain⟨⟨h1,h2,h3⟩,q⟩:=q;cases ry;obtain⟨p,vs,rfl,g,r⟩:=rx;exact⟨p,_,vs,rfl,rfl,g,by omega,by omega,by rw[r.length];exact h3,fun l hl=>k _ _ (g_ e hl (r.times _) q)⟩
 ·exact q.elim
theorem lH (ha:P3B K X a ta a3) (hb:P3B K X b tb b3):P3 K X (.BinOp a .Mult b pos) (tOp EZ ta tb) (cJ xn a3 b3):=⟨lF Fz ha.pe hb.pe,fG CC ha.rf hb.rf⟩
end
end L3
namespace L2
open PySem PySem.Spec PyProof.Rows
section
variable {X:Cx} {pins:Pn} {σ σ':St} {H:Hp} {s:Shared} {L:Nat} {st:Stmt} {ss:List Stmt} {t:TS}
end
end L2
namespace L3
open PySem L2 PySem.Spec PyProof.Rows
section
variable {K:Fg0} {X:Cx} {B:Bs} {F F':Hp} {σ σ':L2.St} {H:Hp} {Γ Γ':G} {pos:Pos}
def Wk (K:Fg0) (Γ Γ':G):Prop:=∀ (B:Bs) (F:Hp) (σ:L2.St) (H:Hp),En K B F σ H Γ->∃ F',av F F'/\En K B F' σ H Γ'
def wk3 (K:Fg0) (t3:TS3) (D:E3) (Γ:G):Prop:=∃ Γ',Wk K Γ Γ'/\t3 D Γ'
theorem En.adr (e:En K B F σ H Γ) {i:Nat} {q:Addr} {xs:List D} (h:Hld Γ i (.cel q xs)):σ[i]?=some (some (V.ref q))/\F q=none/\∃ vs,H q=some (.lst vs)/\ar K F xs vs:=by
 obtain⟨p,a,b,rfl,vs,c,d⟩:=e.hl i _ h;exact⟨a,b,vs,c,d⟩
def Dn (r:RV) (k:Addr->Prop):Prop:=match r with
 | .fz (.adr q)=>k q
 | _=>False
theorem Dm {r:RV} {k:Addr->Prop} (h:Dn r k):∃ q,r=.fz (.adr q)/\k q:=by
 cases r with
 | fz d=>cases d <;> first | exact h.elim | exact⟨_,rfl,h⟩
 | fr _=>exact h.elim
 | two _ _=>exact h.elim
 | rws _=>exact h.elim
def zw (r:RV) (k:List (List D)->Prop):Prop:=match r with
 | .rws xss=>k xss
 | _=>False
theorem BU {r:RV} {k:List (List D)->Prop} (h:zw r k):∃ xss,r=.rws xss/\k xss:=by
 cases r with
 | rws xss=>exact⟨_,rfl,h⟩
 | fz _=>exact h.elim
 | fr _=>exact h.elim
 | two _ _=>exact h.elim
def vB (b:Bo) (k:Nat->Prop):Prop:=match b with
 | .v j=>k j
 | .d _=>False
def Jz (e3:TE3) (Γ:G) (Q:Bo->G->Prop):Prop:=e3 Γ fun r Γ1=>Dn r fun q=>∃ j xs,Hld Γ1 j (.cel q xs)/\Q (.v j) Γ1
theorem bA {e:Expr} {te:TE} {e3:TE3} (h:P3 K X e te e3):P3B K X e te (Jz e3):=⟨h.pe,by
 intro B F σ H Γ Q QQ en q k;refine h.rf B F σ H Γ _ _ en q fun v H1 ⟨F1,Γ1,r,s1,e1,rv,q1⟩=>?_;obtain⟨q',rfl,j,xs,hj,q1⟩:=Dm q1;have hv:v=.ref q':=rv;subst hv;exact k _ _ ⟨F1,Γ1,.v j,s1,e1,(e1.adr hj).1,q1⟩⟩
def zJ (Γ:G) (j:Nat) (xs:List D):G:=match Γ[j]? with
 | some (some (.ow (.cel q _)))=>Γ.set j (some (.ow (.cel q xs)))
 | some (some (.ln (.cel q _)))=>Γ.set j (some (.ln (.cel q xs)))
 | _=>Γ
theorem B6 {j:Nat} {q:Addr} {xs ys:List D} (h:Hld Γ j (.cel q xs)):zJ Γ j ys=putD Γ j (.cel q ys):=by
 rcases h with h | h <;> unfold zJ putD <;> rw[h]
theorem En.Kg (e:En K B F σ H Γ) {j:Nat} {q:Addr} {xs ys:List D} {ws:List V} (h:Hld Γ j (.cel q xs)) (r:ar K F ys ws):En K B F σ (upd H q (.lst ws)) (zJ Γ j ys):=by
 rw[B6 h];exact e.Ip h (e.adr h).1 ⟨rfl,ws,ao,r⟩
variable {o k e:Expr} {to tk te:TE} {o3 k3:TB3} {e3:TE3} {p2 apos cpos:Pos}
def Dz (o3 k3:TB3) (e3:TE3) (D:E3) (Γ:G):Prop:=e3 Γ fun r Γ1=>o3 Γ1 fun bo Γ2=>vB bo fun j=>k3 Γ2 fun b Γ3=>∃ q xs k n,Hld Γ3 j (.cel q xs)/\b.at Γ3=some (.int k)/\ixN xs.length k=some n/\D.nx (zJ Γ3 j (xs.set n r.d))
theorem BS (ho:P3B K X o to o3) (hk:P3B K X k tk k3) (he:P3 K X e te e3)
  (ha:∀ v,assign (.Subscript o k p2) X.env v=(do
   let ov <- holding [v] (eval o X.env)
   let iv <- holding [v,ov] (eval k X.env)
   standAt p2
   holding [v,ov,iv] (setItem ov iv v)
   release [v,ov,iv] []):=by intro _;rfl)
  (hs:swapsWithSole [.Subscript o k p2] e pos.line X.env=pure false:=by rfl) (hw:swappedStores [.Subscript o k p2] e X.env=pure none:=by rfl)
  (h1:(assignEach [.Subscript o k p2] X.env).map (·.2)=[assign (.Subscript o k p2) X.env]:=by rfl) :
  P3S K X (.Assign [.Subscript o k p2] e pos) (fm te (p7 to tk i5)) (Dz o3 k3 e3):=⟨sV he.pe (zX ho.pe hk.pe set_list ha) hs hw h1,fun B F σ H Γ D D3 en kk q=>
 he.rf B F σ H Γ _ _ en q fun v H' ⟨F',Γ',r,s,e',rv,q'⟩=>by
  obtain⟨F2,s2,e2,r2⟩:=e'.frozen rv;refine ho.rf B F2 σ H' Γ' _ _ e2 q' fun w H2 ⟨F3,Γ3,bo,s3,e3,rb,q3⟩=>?_;cases bo with
  | d _=>exact q3.elim
  | v j=>
   refine hk.rf B F3 σ H2 Γ3 _ _ e3 q3 fun u H3 ⟨F4,Γ4,b4,s4,e4,rb4,q0,xs,kk',n,hj,hb,hn,q4⟩=>?_;obtain⟨a1,a2,vs,a3,a4⟩:=e4.adr hj;have hw:σ[j]?=some (some w):=rb;rw[a1] at hw;cases hw;have hu:u=.int kk':=e4.bo rb4 hb;exact⟨q0,vs,kk',n,rfl,hu,a3,by rw[a4.length];exact hn,kk.nx F4 σ _ _ (((s.trans s2).trans s3).trans s4) (e4.Kg hj (ar.set (r2.mono (s3.trans s4)) n a4)) q4⟩⟩
def zk (Γ:G) (g:Nat):La->List (List D)->G
 | q::qs,xs::xss=>zk (Γ.set g (some (.ow (.cel q xs)))) (g + 1) qs xss
 | _,_=>Γ
theorem ur:∀ {qs:La},ar K F (qs.map D.adr) (qs.map V.ref)
 | []=>rfl
 | _::_=>⟨_,_,rfl,rfl,ur⟩
def Hx (g i:Nat) (e3:TE3) (u3:TS3) (D:E3) (Γ:G):Prop:=e3 Γ fun r Γ1=>zw r fun xss=>bW Γ1 i/\(∀ k,k < xss.length + 1->Γ1[g + k]?=some none)/\∀ p qs,qs.length=xss.length->u3 D (zk (Γ1.set i (some (.fz (.adr p)))) g (p::qs) (qs.map .adr::xss))
end
def Bs.n_ (B:Bs):List (Addr×HO)->Bs
 | []=>B
 | (q,o)::l=>(Bs.n_ B l).hid q o
section
variable {K:Fg0} {X:Cx} {B:Bs} {F F':Hp} {σ σ':L2.St} {H:Hp} {Γ Γ':G} {pos:Pos}
theorem AJ:∀ {l:List (Addr×HO)},(B.n_ l).F=B.F
 | []=>rfl
 | _::l=>AJ (l:=l)
theorem u6:∀ {l:List (Addr×HO)},(B.n_ l).own=B.own
 | []=>rfl
 | _::l=>u6 (l:=l)
theorem xC:∀ {l:List (Addr×HO)} {q:Addr},(B.n_ l).H q=none->B.H q=none/\q∉l.map (·.1)
 | [],q,h=>⟨h,by simp⟩
 | (z,o)::l,q,h=>by
  have h:upd (B.n_ l).H z o q=none:=h;have ne:q≠z:=fun w=>by rw[w,ao] at h;cases h
  rw[af ne] at h;obtain⟨a,b⟩:=xC h;exact⟨a,by rw[List.map_cons,List.mem_cons,not_or];exact⟨ne,b⟩⟩
theorem rL:∀ {l:List (Addr×HO)} {q:Addr},B.H q=none->q∉l.map (·.1)->(B.n_ l).H q=none
 | [],q,h,_=>h
 | (z,o)::l,q,h,n=>by
  rw[List.map_cons,List.mem_cons,not_or] at n;show upd (B.n_ l).H z o q=none;rw[af n.1];exact rL h n.2
theorem En.wV:∀ {l:List (Addr×HO)},En K (B.n_ l) F σ H Γ->(l.map (·.1)).Nodup->(∀ z,z∈l->B.H z.1=none/\B.F z.1=none/\∀ i,(i,z.1)∉B.own)->
  En K B F σ H Γ/\∀ z,z∈l->H z.1=some z.2/\F z.1=none/\∀ (i:Nat) (d:D),Hld Γ i d->σ[i]?≠some (some (V.ref z.1))
 | [],e,_,_=>⟨e,fun _ h=>nomatch h⟩
 | (q,o)::l,e,nd,hn=>by
  rw[List.map_cons,List.nodup_cons] at nd;obtain⟨b1,b2,b3⟩:=hn (q,o) (.head _);obtain⟨e1,h1,f1,n1⟩:=En.y6 (B:=B.n_ l) e (rL b1 nd.1) (by rw[AJ];exact b2) (by rw[u6];exact b3);obtain⟨e2,k2⟩:=En.wV e1 nd.2 fun z hz=>hn z (.tail _ hz);refine⟨e2,fun z hz=>?_⟩;rcases List.mem_cons.mp hz with rfl | hz
  ·exact⟨h1,f1,n1⟩
  ·exact k2 z hz
def tV (fr:On) (i3:TI3) (g3:TG3) (e3:TE3) (Γ:G) (Q:RV->G->Prop):Prop:=i3 Γ fun xs Γ1=>xs.length < sizeLine/\∃ Iv:Nat->List (List D)->G->Prop,Iv 0 [] (du Γ1 (cO fr))/\
 (∀ k d ys Γc,xs[k]?=some d->ys.length=k->Iv k ys Γc->g3 d Γc fun Γ2=>e3 Γ2 fun r Γ3=>frL r fun zs=>Iv (k + 1) (ys++[zs]) Γ3)/\∀ ys Γc,ys.length=xs.length->Iv xs.length ys Γc->Q (.rws ys) (bB fr Γ1 Γc)
theorem cZ.snoc:∀ {qs:La} {xss:List (List D)} {q:Addr} {xs:List D} {vs:List V},cZ K F H qs xss->H q=some (.lst vs)->ar K F xs vs->cZ K F H (qs++[q]) (xss++[xs])
 | [],_,q,xs,vs,h,h1,h2=>by cases h;exact⟨xs,[],vs,rfl,h1,h2,rfl⟩
 | _::_,_,q,xs,vs,⟨ys,yt,ws,a1,a2,a3,a4⟩,h1,h2=>by subst a1;exact⟨ys,_,ws,rfl,a2,a3,cZ.snoc a4 h1 h2⟩
def mr (K:Fg0) (F:Hp):List (Addr×HO)->List (List D)->Prop
 | [],xss=>xss=[]
 | z::l,xss=>∃ xs xt vs,xss=xt++[xs]/\z.2=.lst vs/\ar K F xs vs/\mr K F l xt
theorem mr.mono (s:av F F'):∀ {l:List (Addr×HO)} {xss:List (List D)},mr K F l xss->mr K F' l xss
 | [],_,h=>h
 | _::_,_,⟨xs,xt,vs,h1,h2,h3,h4⟩=>⟨xs,xt,vs,h1,h2,h3.mono s,mr.mono s h4⟩
theorem mr.at:∀ {l:List (Addr×HO)} {xss:List (List D)},mr K F l xss->(∀ z,z∈l->H z.1=some z.2)->cZ K F H (l.map (·.1)).reverse xss
 | [],_,h,_=>h
 | z::l,_,⟨xs,xt,vs,h1,h2,h3,h4⟩,hH=>by
  subst h1;rw[List.map_cons,List.reverse_cons];exact(mr.at h4 fun y hy=>hH y (.tail _ hy)).snoc (by rw[hH z (.head _),h2]) h3
theorem yh {fr:On} {wi:TI} {i3:TI3} {g:TG} {g3:TG3} {te:TE} {e3:TE3} (nd:(fr.filterMap id).Nodup) (hi:Bw K wi i3) (hg:yX K g g3) (he:Ref K te e3):Ref K (oV fr wi g te) (tV fr i3 g3 e3):=by
 intro B F σ H Γ Q QQ e q k;refine hi B F σ H Γ _ _ e q fun J H1 F1 Γ1 xs s1 e1 R ⟨hz,Iv,i0,it,ie⟩=>?_;have eb:=e1.blk nd;refine⟨fun i m ys σc H=>m=xs.length - i/\i<=xs.length/\∃ F' Γc ds l,av F1 F'/\En K ((Bs.mk F1 H1 (ownOf Γ1 σ (cO fr))).n_ l) F' σc H Γc/\ys=((l.map (·.1)).reverse).map V.ref/\(l.map (·.1)).Nodup/\(∀ z,z∈l->H1 z.1=none)/\mr K F' l ds/\l.length=i/\ds.length=i/\Iv i ds Γc,
  ⟨_,rfl,Nat.zero_le _,F1,_,[],[],av.refl _,eb,rfl,by simp,(fun _ h=>nomatch h),rfl,rfl,rfl,i0⟩,?_⟩
 rintro i m ys σc H2 ⟨rfl,hi',F2,Γ2,ds,l,s2,e2,rfl,nd2,new2,r2,hl2,hl,iv⟩;refine⟨by simp [hl2];omega,?_⟩;have cond:∀ z,z∈l->(Bs.mk F1 H1 (ownOf Γ1 σ (cO fr))).H z.1=none/\(Bs.mk F1 H1 (ownOf Γ1 σ (cO fr))).F z.1=none/\∀ j,(j,z.1)∉(Bs.mk F1 H1 (ownOf Γ1 σ (cO fr))).own:=fun z hz=>by
  have h1:=new2 z hz;refine⟨h1,e1.nof h1,fun j hj=>?_⟩;obtain⟨i',d,_,h5,h6⟩:=jN.mp hj;exact e1.jf h1 i' d h5 h6
 by_cases lt:i < xs.length
 ·refine .inr ⟨R.go i H2 (s2.trans e2.sub) lt,fun x H3 y=>?_⟩;have hd:xs[i]?=some xs[i]:=gE0 lt;obtain⟨F3,s3,e3',r3⟩:=R.turn s2 e2 hd y;refine hg _ F3 σc H3 Γ2 x _ _ _ e3' r3 (it i _ ds Γ2 hd hl iv) fun σ2 Γ4 e4 q4=>?_;refine⟨fun y H5=>∃ F5 Γ5 r,av F3 F5/\En K ((Bs.mk F1 H1 (ownOf Γ1 σ (cO fr))).n_ l) F5 σ2 H5 Γ5/\j6 K ((Bs.mk F1 H1 (ownOf Γ1 σ (cO fr))).n_ l) F5 σ2 H5 Γ5 y r/\frL r fun zs=>Iv (i + 1) (ds++[zs]) Γ5,fun y H5 ⟨F5,Γ5,r,s5,e5,rv,iv5⟩=>?_,he _ F3 σ2 H3 Γ4 _ _ e4 q4 fun v H' p=>p⟩;obtain⟨zs,rfl,iv5⟩:=wo iv5;obtain⟨p,rfl,f5,⟨vs,h5,r5⟩,b5,n5⟩:=rv;obtain⟨b6,b7⟩:=xC b5;refine⟨xs.length - (i + 1),by omega,rfl,lt,F5,Γ5,ds++[zs],(p,.lst vs)::l,((s2.trans s3).trans s5),e5.hide f5 h5 n5,by simp,?_,?_,⟨zs,ds,vs,rfl,rfl,r5,r2.mono (s3.trans s5)⟩,by simp [hl2],by simp [hl],iv5⟩
  ·rw[List.map_cons,List.nodup_cons];exact⟨b7,nd2⟩
  ·intro z hz;rcases List.mem_cons.mp hz with rfl | hz
   ·exact b6
   ·exact new2 z hz
 ·have z:i=xs.length:=by omega
  subst z;refine .inl ⟨R.stop _ H2 (s2.trans e2.sub) rfl,fun l' hl'=>k _ _ ?_⟩;obtain⟨e3,k3⟩:=e2.wV nd2 cond;have eo:En K B F2 σ H2 (bB fr Γ1 Γ2):=e1.back (ls:=fr) e3 (by have:=lI (Γ:=Γ1) (σ:=σ) (bs:=cO fr);rw[pW] at this;exact this);have nh:∀ {p:Addr},H1 p=none->∀ (i:Nat) (x:D),Hld (bB fr Γ1 Γ2) i x->σ[i]?≠some (some (V.ref p)):=fun {p} h4' i x hx hp=>by
   obtain⟨d0,w⟩:∃ d0,Hld Γ1 i d0:=by
    rcases hx with hx | hx <;> rw[c6] at hx
    ·cases w:Γ1[i]? with
     | none=>rw[w] at hx;cases hx
     | some s=>rw[w] at hx;cases s with
      | none=>cases hx
      | some s=>cases s with
       | fz d=>cases hx
       | ow d=>exact⟨d,.inl w⟩
       | ln d=>cases hx
    ·cases w:Γ1[i]? with
     | none=>rw[w] at hx;cases hx
     | some s=>rw[w] at hx;cases s with
      | none=>cases hx
      | some s=>cases s with
       | fz d=>cases hx
       | ow d=>cases hx
       | ln d=>exact⟨d,.inr w⟩
   exact e1.jf h4' i d0 w hp
  have mem:∀ {z:Addr},z∈(l.map (·.1)).reverse->∃ o,(z,o)∈l:=fun {z} hz=>by
   rw[List.mem_reverse,List.mem_map] at hz;obtain⟨⟨y,o⟩,hy,rfl⟩:=hz;exact⟨o,hy⟩
  refine⟨F2,_,.rws ds,s1.trans s2,eo.alloc hl' _,⟨l',(l.map (·.1)).reverse,rfl,ao,?_,?_,fun z hz=>?_⟩,ie ds Γ2 hl iv⟩
  ·rw[List.nodup_cons];refine⟨fun hz=>?_,List.pairwise_reverse.mpr (nd2.imp fun h=>Ne.symm h)⟩;obtain⟨o,ho⟩:=mem hz;rw[(k3 _ ho).1] at hl';cases hl'
  ·refine(r2.at fun z hz=>(k3 z hz).1).mono (av.refl F2) fun z hz=>?_;obtain⟨o,ho⟩:=mem hz;exact af (aE (k3 _ ho).1 hl')
  ·rcases List.mem_cons.mp hz with rfl | hz
   ·exact⟨eo.nof hl',eo.dom _ hl',eo.jf hl'⟩
   ·obtain⟨o,ho⟩:=mem hz;have h1:=new2 _ ho;exact⟨(k3 _ ho).2.1,e1.dom _ h1,nh h1⟩
theorem uH {elt iter tg:Expr} {sc:Scope} {Nc:Ls} {fr:On} {wi:TI} {i3:TI3} {g:TG} {g3:TG3} {te:TE} {e3:TE3} (hc:X.calm=true) (hi:P3I K X tg iter wi i3) (Bk:Blk X.N X.env.scope sc Nc fr)
  (hg:∀ s₀ H₀ C ex pn,P3G K (aY X sc Nc s₀ H₀ C ex pn) tg g g3) (he:∀ s₀ H₀ C ex pn,P3 K (aY X sc Nc s₀ H₀ C ex pn) elt te e3) (nd:(fr.filterMap id).Nodup:=by decide) (hs:∀ x,foldedSetIterable iter X.env x=pure x:=by intro _;rfl) :
  P3 K X (.ListComp elt [⟨tg,iter,[],0⟩] sc pos) (oV fr wi g te) (tV fr i3 g3 e3):=
 ⟨xf hc hi.pe Bk (fun a b c d e=>(hg a b c d e).pe) (fun a b c d e=>(he a b c d e).pe) hs,yh nd hi.rf (hg X.s₀ X.H₀ 0 [] []).rf (he X.s₀ X.H₀ 0 [] []).rf⟩
end
section
variable {P:Program} {w:World} {K:Fg0} {mg:SV} {base:Heap}
end
theorem CB {ls:On} {cs:G} {j:Nat} (h:∀ k:Nat,ls[k]?≠some (some j)):newD ls cs j=none:=by
 cases q:newD ls cs j with
 | none=>rfl
 | some d=>obtain⟨k,a,_⟩:=fc q;exact absurd a (h k)
section
variable {K:Fg0} {X:Cx} {B:Bs} {F F':Hp} {σ σ':L2.St} {H:Hp} {Γ Γ':G} {pos:Pos}
variable {k L n:Nat} {f:Addr} {fd:FuncData} {ps:Ls} {x:Str} {p:Pos} {e:Expr} {es:List Expr} {t:TA} {t3:cY} {S:S3}
end
section
variable {K:Fg0} {X:Cx} {B:Bs} {F F':Hp} {σ σ':L2.St} {H:Hp} {Γ Γ':G} {pos:Pos}
end
section
variable {K:Fg0} {B:Bs} {F F':Hp} {σ σ':L2.St} {H:Hp} {Γ Γ':G}
variable {P:Program} {w:World} {mg:SV} {base:Heap}
end
end L3
namespace L2
open PySem PySem.Spec PyProof.Rows
section
variable {X:Cx}
end
end L2
namespace L3
open PySem L2 PySem.Spec PyProof.Rows
section
variable {K:Fg0} {X:Cx} {B:Bs} {F F':Hp} {σ σ':L2.St} {H:Hp} {Γ Γ':G} {pos:Pos}
end
theorem Bm {xs:List D}:bare (.lst xs)=.lst xs:=rfl
theorem Bn {C:Addr} {ns:Ls} {xs:List D}:bare (.ins C ns xs)=.ins C ns xs:=rfl
theorem Bp {q:Addr} {xs:List D}:bare (.cel q xs)=.lst xs:=rfl
def tlG (T:G):G:=T
def qu (k:Nat) (ls:On) (Γ cs:G):G:=Γ.mapIdx fun i s=>iB (newD ls cs (i + k)) s
def lsB:On->Nat->Bool
 | [],_=>true
 | none::l,k=>lsB l k
 | some j::l,k=>decide (j < k) && lsB l k
section
variable {Γ cs T:G} {ls:On} {k:Nat} {s:Option Sl}
theorem Dd:bB ls Γ cs=qu 0 ls Γ cs:=rfl
theorem yV:qu k ls [] cs=[]:=rfl
theorem wK:qu k ls (s::Γ) cs=iB (newD ls cs k) s::qu (k + 1) ls Γ cs:=by
 unfold qu;rw[List.mapIdx_cons,Nat.zero_add]
 congr 2
 funext i s
 rw[Nat.add_right_comm,Nat.add_assoc]
theorem v_:∀ {ls:On},lsB ls k=true->∀ {j:Nat},k<=j->∀ a:Nat,ls[a]?≠some (some j)
 | [],_,j,_,a,h=>by simp at h
 | none::l,hb,j,hj,0,h=>by simp at h
 | none::l,hb,j,hj,a + 1,h=>v_ (ls:=l) hb hj a (by simpa using h)
 | some i::l,hb,j,hj,0,h=>by
  have hb:(decide (i < k) && lsB l k)=true:=hb;rw[Bool.and_eq_true] at hb;have:=of_decide_eq_true hb.1;simp at h;omega
 | some i::l,hb,j,hj,a + 1,h=>by
  have hb:(decide (i < k) && lsB l k)=true:=hb;rw[Bool.and_eq_true] at hb;exact v_ (ls:=l) hb.2 hj a (by simpa using h)
theorem wJ {s:Option Sl}:iB none s=s:=by
 cases s with
 | none=>rfl
 | some s=>cases s <;> rfl
theorem Bq (h:lsB ls k=true):qu k ls (tlG T) cs=tlG T:=by
 unfold qu tlG;apply List.ext_getElem?;intro i;rw[List.getElem?_mapIdx,CB fun a=>v_ h (Nat.le_add_left k i) a];cases T[i]? with
 | none=>rfl
 | some s=>simp [wJ]
theorem CL:lsB [] k=true:=rfl
theorem Au {l:On}:lsB (none::l) k=lsB l k:=rfl
theorem As {l:On} {j:Nat}:lsB (some j::l) k=(decide (j < k) && lsB l k):=rfl
end
section
variable {fr:On} {i3:TI3} {g3:TG3} {e3:TE3} {o3 k3:TB3} {b3 u3 t3:TS3} {Γ:G} {Q:RV->G->Prop} {D1:E3} {K:Fg0}
def A8 (fr:On) (i3:TI3) (g3:TG3) (e3:TE3) (Γ:G) (Q:RV->G->Prop) (_:Tag (fr,i3,g3,e3)) (_:Tag Q):Prop:=tV fr i3 g3 e3 Γ Q
theorem C2:tV fr i3 g3 e3 Γ Q=A8 fr i3 g3 e3 Γ Q ⟨⟩ ⟨⟩:=rfl
abbrev hR (Iv:Nat->List (List D)->G->Prop) (k:Nat) (ys:List (List D)) (Γ:G) (_:Tag Iv):Prop:=Iv k ys Γ
def A7 (xs:List D) (Γ1:G) (fr:On) (g3:TG3) (e3:TE3) (Q:RV->G->Prop) (_:Tag (fr,g3,e3,Q)):Prop:=∃ Iv:Nat->List (List D)->G->Prop,Iv 0 [] (du Γ1 (cO fr))/\
 (∀ k d ys Γc,xs[k]?=some d->ys.length=k->Iv k ys Γc->g3 d Γc fun Γ2=>e3 Γ2 fun r Γ3=>frL r fun zs=>Iv (k + 1) (ys++[zs]) Γ3)/\∀ ys Γc,ys.length=xs.length->Iv xs.length ys Γc->Q (.rws ys) (bB fr Γ1 Γc)
theorem CV {t1:Tag (fr,i3,g3,e3)} {t2:Tag Q}:A8 fr i3 g3 e3 Γ Q t1 t2=(i3 Γ fun xs Γ1=>xs.length < sizeLine/\A7 xs Γ1 fr g3 e3 Q ⟨⟩):=rfl
theorem yQ {xs:List D} {Γ1:G} {t:Tag (fr,g3,e3,Q)} (Iv:Nat->List (List D)->G->Prop) (h0:Iv 0 [] (du Γ1 (cO fr)))
  (hs:∀ k d ys Γc,xs[k]?=some d->ys.length=k->Iv k ys Γc->g3 d Γc fun Γ2=>e3 Γ2 fun r Γ3=>frL r fun zs=>hR Iv (k + 1) (ys++[zs]) Γ3 ⟨⟩) (he:∀ ys Γc,ys.length=xs.length->Iv xs.length ys Γc->Q (.rws ys) (bB fr Γ1 Γc)):A7 xs Γ1 fr g3 e3 Q t:=⟨Iv,h0,hs,he⟩
def KH (j:Nat) (ob:Option D) (d:D) (Γ:G) (N:G->Prop) (_:Tag N):Prop:=∃ q xs k n,Hld Γ j (.cel q xs)/\ob=some (.int k)/\ixN xs.length k=some n/\N (zJ Γ j (xs.set n d))
theorem Gv:Dz o3 k3 e3 D1 Γ=(e3 Γ fun r Γ1=>o3 Γ1 fun bo Γ2=>vB bo fun j=>k3 Γ2 fun b Γ3=>KH j (b.at Γ3) r.d Γ3 D1.nx ⟨⟩):=rfl
theorem G0 {q:Addr} {k:Addr->Prop}:Dn (.fz (.adr q)) k=k q:=rfl
theorem ET {xss:List (List D)} {k:List (List D)->Prop}:zw (.rws xss) k=k xss:=rfl
theorem JW {j:Nat} {k:Nat->Prop}:vB (.v j) k=k j:=rfl
def KI (q:Addr) (Γ:G) (Q:Bo->G->Prop) (_:Tag Q):Prop:=∃ j xs,Hld Γ j (.cel q xs)/\Q (.v j) Γ
theorem GB {QB:Bo->G->Prop}:Jz e3 Γ QB=(e3 Γ fun r Γ1=>Dn r fun q=>KI q Γ1 QB ⟨⟩):=rfl
def J2 (g i:Nat) (xss:List (List D)) (Γ1:G) (u3:TS3) (E1:E3) (_:Tag (u3,E1)):Prop:=bW Γ1 i/\(∀ k,k < xss.length + 1->Γ1[g + k]?=some none)/\∀ p qs,qs.length=xss.length->u3 E1 (zk (Γ1.set i (some (.fz (.adr p)))) g (p::qs) (qs.map .adr::xss))
theorem Gu {g i:Nat}:Hx g i e3 u3 D1 Γ=(e3 Γ fun r Γ1=>zw r fun xss=>J2 g i xss Γ1 u3 D1 ⟨⟩):=rfl
def wkH (K:Fg0) (t3:TS3) (E1:E3) (Γ:G) (_:Tag (t3,E1)):Prop:=wk3 K t3 E1 Γ
theorem Km:wk3 K t3 D1 Γ=wkH K t3 D1 Γ ⟨⟩:=rfl
end
def gh (c:D->Sl) (p:Addr) (ds:List D) (qs:La) (xss:List (List D)):G:=some (c (.cel p ds))::List.zipWith (fun q xs=>some (c (.cel q xs))) qs xss
section
variable {c:D->Sl} {p q:Addr} {ds:List D} {qs:La} {xs ys:List D} {xss:List (List D)} {T T' pre:G} {L g n m y:Nat} {K:Fg0}
theorem EW {R:LL}:List.map D.lst (List.map (fun r=>List.map D.int r) R)=List.map (fun ns=>D.lst (ns.map D.int)) R:=by rw[List.map_map];rfl
theorem Ez:(tlG (gh c p ds qs xss++T))[0]?=some (some (c (.cel p ds))):=rfl
section
variable {Γ:G} {QB:Bo->G->Prop} {t:Tag QB}
end
end
section
variable {c:D->Sl} {p q:Addr} {ds:List D} {qs:La} {xs ys:List D} {xss:List (List D)} {T T' T0 A Z pre Γ:G} {L g n m y:Nat} {K:Fg0}
section
variable {QB:Bo->G->Prop} {t:Tag QB}
end
end
section
variable {c:D->Sl} {p q:Addr} {ds:List D} {qs:La} {xs ys:List D} {xss:List (List D)} {T T' T0 A Z pre Γ:G} {L L0 g n m y:Nat} {K:Fg0}
end
end L3
namespace L2
open PySem PySem.Spec PyProof.Rows
theorem wN {pos:Pos} {a b:Int} {x y:Tok} {c v:Value} (l:Lv) (h:TriplesOk l) (e:codeAmong pos (l++[.int a x,.int b y,c])=some v):codeAmong pos l=some v\/v=c:=by
 fun_induction TriplesOk l with
 | case1=>
  right
  simp only[List.nil_append,codeAmong] at e;split at e
  ·exact(Option.some.inj e).symm
  ·cases e
 | case2 i _ j _ d rest ih=>
  simp only[List.cons_append,codeAmong] at e ⊢;split
  ·rename_i q;rw[if_pos q] at e;exact .inl e
  ·rename_i q;rw[if_neg q] at e;exact ih h e
 | case3=>exact h.elim
abbrev j7 (q:Str) (params:Arguments) (body:Expr) (scope:Scope) (clos:List (Str×Addr)) (pm:Value) (c:Addr) (ct:Value):Obj:=PySem.W.kla_obj "<lambda>" q params body scope clos pm c ct
def EE (q:Str) (params:Arguments) (body:Expr) (scope:Scope) (clos:List (Str×Addr)) (pm:Value):TE:=fun _ H Q=>
 ∀ f c oc ct H1,(H1=H\/(H c=none/\H1=upd H c (.frz oc (.ext fun _=>True))))->H1 f=none->nU H1 (.ref c) q->Q (.ref f) (upd H1 f (.frz (j7 q params body scope clos pm c ct) (.cod c q)))
section
variable {X:Cx}
theorem Fo {c P:Addr} {params:Arguments} {body:Expr} {scope:Scope} {clos:List (Str×Addr)} {pos:Pos} (hcode:X.env.code=.ref c) (hC:∀ h:Heap,X.K.In h->PySem.W.CodeHd h c P) (hT:kT X.base P (X.env.qual++"<lambda>"))
  (hcl:closureFor scope X.env=pure clos) (hdef:defaultsOf params X.env=([],[]):=by rfl) :
  PE X (.Lambda params body scope pos) (EE (X.env.qual++"<lambda>") params body scope clos ((X.mg "__name__").getD .none)):=by
 intro pins s σ H Q I h;refine PySem.W.kla_eval hdef ?_;obtain⟨ps,t,hP,tag⟩:=I.tb P _ hT;obtain⟨q',t',qs,tag',hPo,htr,hcods⟩:=I.hok P _ hP;obtain⟨rfl,rfl⟩:X.env.qual++"<lambda>"=q'/\t=t':=by
  rw[tag] at tag';simpa using tag'
 have hns:s.heap.Ns mainGlobals X.mg:=I.mod.glob.keeps I.bk;obtain⟨bm,ob,b1,b2,b3,b4,b5,b6⟩:=I.mod.bm;have hgP:mainGlobals≠P:=fun z=>by
  obtain⟨o,es,ep,e,hd,_⟩:=hns;rw[z,hPo] at e;cases e;cases hd
 have hbP:bm≠P:=fun z=>by
  have e:=I.bk _ _ b3;rw[z,hPo] at e;cases e;cases b4
 have hbG:bm≠mainGlobals:=fun z=>by
  obtain⟨o,es,ep,e,hd,_⟩:=hns;have e':=I.bk _ _ b3;rw[z,e] at e';cases e';rw[hd] at b6;cases b6
 have hB:s.heap.BuiltinsAt X.mg P:=⟨bm,ob,b1,b2,hbG,hbP,I.bk _ _ b3,b4,b5,b6⟩;cases hcd:codeAmong pos qs.toList with
 | none=>
  refine PySem.W.kla_makeFunction hcl I.ok.glob hns hcode (hC _ I.kIn) hPo htr hcd hgP hB fun c' ct h' tk hx hge hlt hrec htb=>?_;obtain⟨c₂,oc,vs,t2,e2,hoc,hd,hv⟩:=hrec;cases e2;have hc0:H c'=none:=I.hok.fresh hge;have hcs:s.heap.objs.size<=h'.objs.size:=Nat.le_of_lt (Nat.lt_of_le_of_lt hge hlt);have hf0:H h'.objs.size=none:=I.hok.fresh hcs;have hfc:h'.objs.size≠c':=Nat.ne_of_gt hlt
  let H1:=upd H c' (.frz oc (.ext fun _=>True))
  have hf1:H1 h'.objs.size=none:=by show upd H c' _ _=none;rw[af hfc];exact hf0
  have hPc:P≠c':=aE hP hc0;have hPf:P≠h'.objs.size:=aE hP hf0;have cod:∀ H':Hp,H' c'=some (.frz oc (.ext fun _=>True))->nU H' (.ref c') (X.env.qual++"<lambda>"):=fun H' z=>⟨c',oc,vs,t2,_,rfl,z,hd,hv⟩;have q:=h h'.objs.size c' oc ct H1 (.inr ⟨hc0,rfl⟩) hf1 (cod H1 ao);have keepN:∀ b o,b≠P->s.heap.get? b=some o->(h'.push (j7 (X.env.qual++"<lambda>") params body scope clos ((X.mg "__name__").getD .none) c' ct)).get? b=some o:=fun b o nb e=>Heap.get?_push_of_some _ (hx b o nb e);have nP:∀ b,H b=none->b≠P:=fun b n z=>by rw[z,hP] at n;cases n
  have old:∀ {b:Addr} {u:HO},H b=some u->upd H1 h'.objs.size (.frz (j7 (X.env.qual++"<lambda>") params body scope clos ((X.mg "__name__").getD .none) c' ct) (.cod c' (X.env.qual++"<lambda>"))) b=some u:=fun {b u} e=>by
   rw[af (aE e hf0)];show upd H c' _ b=_;rw[af (aE e hc0)];exact e
  have cN:upd H1 h'.objs.size (.frz (j7 (X.env.qual++"<lambda>") params body scope clos ((X.mg "__name__").getD .none) c' ct) (.cod c' (X.env.qual++"<lambda>"))) c'=some (.frz oc (.ext fun _=>True)):=by
   rw[af (Ne.symm hfc)];exact ao
  refine⟨.ref h'.objs.size,_,I.un ⟨fun b o e n _ _=>keepN b o (nP b n) e,fun b o e n _ _=>⟨o.slots,keepN b o (nP b n) e⟩,fun b o e n _=>?_,fun b o e _=>?_,fun b xs e=>old e,fun b o u e=>old e,fun b ps e=>⟨#[],by rw[Array.append_empty];exact old e⟩⟩ (fun b u e=>?_),rfl,q⟩
  ·have lt:=Heap.lt_size e;rw[af (Nat.ne_of_lt (Nat.lt_of_lt_of_le lt hcs))];show upd H c' _ b=_;rw[af (Nat.ne_of_lt (Nat.lt_of_lt_of_le lt hge))];exact n
  ·by_cases z:b=P
   ·subst z;exact⟨_,Heap.get?_push_of_some _ htb⟩
   ·exact⟨o,keepN b o z e⟩
  ·by_cases zf:b=h'.objs.size
   ·subst zf;rw[ao] at e;cases e;exact⟨Heap.get?_push_size _ rfl,⟨_,Heap.get?_push_size _ rfl⟩,cod _ cN⟩
   ·rw[af zf] at e;by_cases zc:b=c'
    ·subst zc;have e':upd H b (.frz oc (.ext fun _=>True)) b=some u:=e;rw[ao] at e';cases e';exact⟨Heap.get?_push_of_some _ hoc,trivial,⟨_,Heap.get?_push_of_some _ hoc⟩,fun _ _ _ _=>trivial⟩
    ·have e':upd H c' (.frz oc (.ext fun _=>True)) b=some u:=e;rw[af zc] at e';by_cases zP:b=P
     ·subst zP;rw[hP] at e';cases e';refine⟨_,t,_,tag,Heap.get?_push_of_some _ htb,?_,fun pos' v r=>?_⟩
      ·rw[Array.toList_append];exact TriplesOk_snoc _ _ _ _ htr
      ·rw[Array.toList_append] at r;rcases wN _ htr r with r | rfl
       ·exact(hcods pos' v r).mono fun _ _ _ z=>old z
       ·exact cod _ cN
     ·refine(I.hok b u e').nY (fun d o hd g=>keepN d o (fun z=>?_) g) (fun _ z=>old z) (fun _ _ z=>old z) fun _ _ _ z=>old z;rcases hd with y | y
      ·exact zP (y.symm.trans z)
      ·rw[z,hP] at y;cases y
 | some v=>
  obtain⟨c',oc,vs,t2,φ,rfl,e1,e2,e3⟩:=hcods pos v hcd;refine PySem.W.kla_makeFunctionHit hcl I.ok.glob hns hcode (hC _ I.kIn) hPo htr hcd hB fun ct h' tk hk hsz=>?_;have hf0:H h'.objs.size=none:=I.hok.fresh hsz;have cod:nU H (.ref c') (X.env.qual++"<lambda>"):=⟨c',oc,vs,t2,φ,rfl,e1,e2,e3⟩;refine⟨.ref h'.objs.size,_,I.laid (a:=h'.objs.size) (o:=.frz (j7 (X.env.qual++"<lambda>") params body scope clos ((X.mg "__name__").getD .none) c' ct) (.cod c' (X.env.qual++"<lambda>"))) (t':=tk) (fun b u e=>Heap.get?_push_of_some _ (hk b u e)) hsz
   ⟨Heap.get?_push_size _ rfl,⟨_,Heap.get?_push_size _ rfl⟩,cod.mono fun b o φ z=>by rw[af (aE z hf0)];exact z⟩,rfl,h h'.objs.size c' oc ct H (.inl rfl) hf0 cod⟩
end
def dg (n:Nat) (g:Addr->Option Obj) (m:Addr->Option Str):Heap:={ objs:=Array.ofFn (n:=n) fun i=>(g i.1).getD { cls:=(m i.1).elim .none fun q=>.str q 0,data:=.freed } }
section
variable {n:Nat} {g:Addr->Option Obj} {m:Addr->Option Str} {b:Addr} {o:Obj} {h:Heap}
theorem p5 (e:h.get? b=some o):o.data≠.freed:=by
 unfold Heap.get? at e;cases q:h.objs[b]? with
 | none=>rw[q] at e;cases e
 | some x=>
  rw[q] at e;obtain⟨c,d,dt,sl⟩:=x;cases dt with
  | freed=>cases e
  | _=>cases e;intro y;cases y
theorem fX:(dg n g m).objs.size=n:=by unfold dg;exact Array.size_ofFn
theorem jO (hb:b < n):(dg n g m).objs[b]?=some ((g b).getD { cls:=(m b).elim .none fun q=>.str q 0,data:=.freed }):=by
 unfold dg;rw[Array.getElem?_eq_getElem (by rw[Array.size_ofFn];exact hb),Array.getElem_ofFn]
theorem pR (hb:b < n) (hg:g b=some o) (nf:o.data≠.freed):(dg n g m).get? b=some o:=by
 unfold Heap.get?;rw[jO hb,hg];obtain⟨c,d,dt,sl⟩:=o;show (match some (Obj.mk c d dt sl) with | some ⟨_,_,.freed,_⟩=>none | o=>o)=_;split
 ·rename_i z;cases z;exact absurd rfl nf
 ·rfl
theorem mP (e:(dg n g m).get? b=some o):b < n/\g b=some o:=by
 have hb:b < n:=by have:=Heap.lt_size e;rw[fX] at this;exact this
 refine⟨hb,?_⟩;have nf:=p5 e;unfold Heap.get? at e;rw[jO hb] at e;cases q:g b with
 | none=>rw[q] at e;cases e
 | some o'=>
  rw[q] at e;split at e
  ·cases e
  ·cases e;rfl
theorem vX {q:Str} (hb:b < n) (hg:g b=none) (hm:m b=some q):kT (dg n g m) b q:=by
 unfold kT;rw[jO hb,hg,hm]
 rfl
theorem uQ {q:Str} (nf:∀ o,g b=some o->o.data≠.freed) (e:kT (dg n g m) b q):g b=none/\m b=some q:=by
 unfold kT at e;have hb:b < n:=by
  obtain⟨z,_⟩:=Array.getElem?_eq_some_iff.mp e;rw[fX] at z;exact z
 rw[jO hb] at e;cases hg:g b with
 | some o=>
  rw[hg] at e;have e':o={ cls:=.str q 0,data:=.freed }:=Option.some.inj e;exact absurd (by rw[e']) (nf o hg)
 | none=>
  refine⟨rfl,?_⟩;rw[hg] at e;have e':=Option.some.inj e;cases hm:m b with
  | none=>rw[hm] at e';have:=congrArg Obj.cls e';cases this
  | some q'=>
   rw[hm] at e';have:=congrArg Obj.cls e';have y:Value.str q' 0=Value.str q 0:=this;cases y
   rfl
end
def pick (h:Heap) (p:Addr->Bool):Heap:=dg h.objs.size (fun b=>if p b=true then h.get? b else none) fun _=>none
section
variable {h:Heap} {p:Addr->Bool} {b:Addr} {o:Obj}
theorem yo:(pick h p).objs.size=h.objs.size:=fX
theorem lE (e:h.get? b=some o) (hp:p b=true):(pick h p).get? b=some o:=pR (Heap.lt_size e) (by rw[if_pos hp];exact e) (p5 e)
theorem oA (e:(pick h p).get? b=some o):h.get? b=some o/\p b=true:=by
 have z:=(mP e).2;split at z
 ·rename_i y;exact⟨z,y⟩
 ·cases z
theorem zV {q:Str} (e:kT (pick h p) b q):False:=by
 have z:=(uQ (fun o e=>by
  split at e
  ·exact p5 e
  ·cases e) e).2
 cases z
end
theorem nr {h base:Heap} {p:Addr->Bool}:∀ {l:List Env},h.FunFrames base l->(∀ b∈frs l,p b=false)->h.FunFrames (pick h p) l
 | [],_,_=>trivial
 | env::r,⟨k,⟨L,o,hf,hn,ho,hd⟩,hr⟩,q=>by
  have m:L∈frs (env::r):=by unfold frs;rw[List.filterMap_cons,hf];exact List.mem_cons_self
  refine⟨k,⟨L,o,hf,?_,ho,hd⟩,nr hr fun b hb=>q b ?_⟩
  ·cases z:(pick h p).get? L with
   | none=>rfl
   | some u=>
    have y:=q L m;rw[(oA z).2] at y;cases y
  ·unfold frs at hb ⊢;rw[List.filterMap_cons,hf];exact List.mem_cons_of_mem _ hb
section
variable {X:Cx} {pins:Pn} {σ:St} {H:Hp} {s:Shared}
theorem Inv.Jq {p:Addr->Bool} (I:Inv X pins σ H s) (hb:∀ b o,X.base.get? b=some o->p b=true) (hp:∀ b o,s.heap.get? b=some o->p b=true->Kpt H b o) (hf:∀ b∈frs X.stack,p b=false) :
  vt X.prog X.w X.K X.mg (pick s.heap p) X.A X.stack s H:=by
 have k:∀ b o,X.base.get? b=some o->(pick s.heap p).get? b=some o:=fun b o e=>lE (I.bk b o e) (hb b o e);refine⟨I.ok.frames,⟨I.mod.kin.keeps k,I.mod.glob.keeps k,let ⟨mb,h1,h2⟩:=I.mod.blt;⟨mb,h1.keeps k,h2⟩,I.mod.nolimit.keeps k,let ⟨bm,ob,h1,h2,h3,h4⟩:=I.mod.bm;⟨bm,ob,h1,h2,k _ _ h3,h4⟩⟩,fun b o e=>⟨(oA e).1,hp b o (oA e).1 (oA e).2⟩,Nat.le_of_eq yo,nr I.stack hf,I.oq,I.hok,I.bare,fun P q z=>(zV z).elim⟩
end
def sj (base:Heap) (q:Str) (params:Arguments) (body:Expr) (scope:Scope) (nm:Str) (o:Obj) (f:Addr) (v:V):Prop:=
 ∃ c d pm ct u oc vs t,o=j7 q params body scope [(nm,c)] pm d ct/\base.get? f=some o/\base.IsCell c (some u)/\RelV v u/\base.get? d=some oc/\oc.data=.fields vs/\vs[1]?=some (.str q t)
section
variable {X:Cx} {k:Nat} {g:Addr} {fd:FuncData} {ps:Ls} {x nm:Str} {p pos:Pos} {e:Expr} {es:List Expr} {t:TA} {q:Str} {params:Arguments} {body:Expr} {scope:Scope} {i j:Nat}
def vD (X:Cx) (q:Str) (params:Arguments) (body:Expr) (scope:Scope) (nm:Str) (i j:Nat) (sp:Obj->Addr->V->Sp) (t:TA):TE:=fun σ H Q=>t σ H fun vs H1=>
 ∃ f c d pm ct v,vs[j]?=some (.ref f)/\H1 f=some (.frz (j7 q params body scope [(nm,c)] pm d ct) (.cod d q))/\X.env.cells.lookup nm=some c/\σ[i]?=some (some v)/\sp (j7 q params body scope [(nm,c)] pm d ct) f v vs H1 Q E0
theorem z_ {sp:Obj->Addr->V->Sp} (F:∀ (base:Heap) (o:Obj) (f:Addr) (v:V),sj base q params body scope nm o f v->aM X.prog X.w X.K X.mg base CX0 k g fd ps (sp o f v)) (hr:bJ k X.A) (hg:Gl X x) (hm:X.mg x=some (.ref g)) (hk:PySem.W.keepIn X.K (.ref g)=true)
  (hb:Binds X.K fd ps []) (hN:X.N[i]?=some nm) (hv:X.env.scope.names.lookup nm=some .cell) (hfn:X.fn nm=true) (ha:PA X (e::es) t) (hdb:(x == ("__debug__":Str))=false:=by decide)
  (he:starEach (e::es) X.env=(false,eval e X.env)::starEach es X.env:=by rfl) (hpl:(backTo pos (starEach es X.env)).any (·.1)=false:=by rfl) :
  PE X (.Call (.Name x p) (e::es) [] pos) (vD X q params body scope nm i j sp t):=by
 intro pins s σ H Q I h;refine wpAny_Call_Name_kw (jP I hg hm ?_ hdb);refine PySem.W.callWith_K (h₀:=X.base) I.ok.mod.kin hk (thn (ha pos pins s σ H _ I h) fun us s1 ⟨vs,H1,I1,r,z⟩=>⟨I1.kIn,?_⟩) he hpl;obtain⟨f,c,d,pm,ct,v,_,hf,hc,hσ,hsp⟩:=z;obtain⟨m,hn,hl⟩:=I1.loc;obtain⟨u,rv,lk⟩:=hl i nm v hN hσ (.inr (.inl hv));have hcell:s1.heap.IsCell c (some u):=by
  rcases lk with ⟨k1,_⟩ | ⟨_,c2,e2,z⟩
  ·have k2:X.env.scope.names.lookup nm=some .local:=k1;rw[hv] at k2;cases k2
  ·rw[hc] at e2;cases e2;exact z
 obtain⟨of,_,y⟩:=I1.hok f _ hf;obtain⟨d',oc,ws,t2,φ,e1,hd,e3,e4⟩:=y;cases e1;obtain⟨od,_⟩:=I1.hok d _ hd
 let P:Addr->Bool:=fun b=>(X.base.get? b).isSome || (decide (b=f) || (decide (b=c) || decide (b=d)))
 have pf:P f=true:=by simp [P]
 have pc:P c=true:=by simp [P]
 have pd:P d=true:=by simp [P]
 have cab:=I1.ok.cab nm c hfn hc;have L:sj (pick s1.heap P) q params body scope nm (j7 q params body scope [(nm,c)] pm d ct) f v:=by
  obtain⟨ocl,hcl,hcd⟩:=hcell;exact⟨c,d,pm,ct,u,oc,ws,t2,rfl,lE of pf,⟨ocl,lE hcl pc,hcd⟩,rv,lE od pd,e3,e4⟩
 have e0:=I1.Jq (p:=P) (fun b o eb=>by simp [P,eb]) (fun b o eb hp=>?_) fun b hbm=>?_
 ·have Fn:=F _ _ _ _ L;have r2:Vals (vs++[]) (us++[]):=r.append .nil;rw[List.append_nil,List.append_nil] at r2;have hl2:(us++[]).length=ps.length:=by rw[List.append_nil,<- r2.length];exact Fn.len _ _ _ _ hsp
  have bt:=hb s1 us I1.kIn hl2;rw[List.append_nil] at bt;refine wpAny_call (codeAny_mono (Fn.run X.A X.stack s1 H1 ⟨us,[]⟩ us vs Q E0 hr e0 bt r2 hsp) fun r s' hq=>?_);cases r with
  | error e=>exact False.elim hq
  | ok fl=>
   cases fl with
   | ret u=>exact I1.after hq
   | next=>exact False.elim hq
   | brk=>exact False.elim hq
   | cont=>exact False.elim hq
 ·have hp':(X.base.get? b).isSome=true\/b=f\/b=c\/b=d:=by simpa [P] using hp
  rcases hp' with hp | rfl | rfl | rfl
  ·obtain⟨o',e'⟩:=Option.isSome_iff_exists.mp hp;obtain⟨a1,a2⟩:=I1.bs b o' e';rw[eb] at a1;cases a1;exact a2
  ·rw[of] at eb;cases eb;exact .inr ⟨⟨_,hf⟩,fun v z=>by cases z⟩
  ·exact .inl (I1.freeC nm b hc)
  ·rw[od] at eb;cases eb;exact .inr ⟨⟨_,hd⟩,fun v z=>by rw[e3] at z;cases z⟩
 ·have hnone:=I1.oq b hbm;have nb:X.base.get? b=none:=(I1.stack.mem hbm).1;have n1:b≠f:=fun z=>by rw[z,hf] at hnone;cases hnone
  have n2:b≠d:=fun z=>by rw[z,hd] at hnone;cases hnone
  have n3:b≠c:=fun z=>by
   rcases List.mem_cons.mp (I1.oW b hbm) with y | y
   ·exact I1.cne nm c hc (z.symm.trans y)
   ·obtain⟨_,o,ho,_⟩:=I1.ok.kQ.mem y;have:=Heap.lt_size ho;rw[z] at this;exact absurd (Nat.lt_of_lt_of_le this cab) (Nat.lt_irrefl _)
  simp [P,nb,n1,n2,n3]
def mx (i:Nat) (f:Addr) (sp:Sp) (t:TA):TE:=fun σ H Q=>σ[i]?=some (some (.ref f))/\t σ H fun vs H1=>sp vs H1 Q E0
theorem z9 {f:Addr} {o:Obj} {sp:Sp} (hf:X.base.get? f=some o) (ho:o.data=.func fd) (F:aM X.prog X.w X.K X.mg X.base CX0 k f fd ps sp) (hr:bJ k X.A) (hb:Binds X.K fd ps []) (hN:X.N[i]?=some x) (hv:Vis X.env.scope x) (ha:PA X (e::es) t)
  (hdb:(x == ("__debug__":Str))=false:=by decide) (hcd:(x == ("__classdict__":Str))=false:=by decide) (he:starEach (e::es) X.env=(false,eval e X.env)::starEach es X.env:=by rfl) (hpl:(backTo pos (starEach es X.env)).any (·.1)=false:=by rfl) :
  PE X (.Call (.Name x p) (e::es) [] pos) (mx i f sp t):=by
 intro pins s σ H Q I ⟨h1,h2⟩;have at':∀ {h:Heap},(∀ b o,X.base.get? b=some o->h.get? b=some o)->PySem.W.FnAt f h:=fun {h} k=>by
  have e:=k _ _ hf;obtain⟨oc,od,dt,sl⟩:=o;have ho':dt=.func fd:=ho;subst ho';exact⟨oc,od,fd,sl,e⟩
 refine wpAny_Call_Name_kw (thn (pA (i:=i) hN hv hdb hcd pins s σ H (fun v H'=>v=.ref f/\H'=H) I ⟨_,h1,rfl,rfl⟩) fun u s1 ⟨v,H',I1,rv,e1,e2⟩=>?_);subst e1;subst e2;obtain rfl:u=.ref f:=rv;refine PySem.W.callWith_F (at' I1.bk) (thn (ha pos pins s1 σ _ _ I1 h2) fun us s2 ⟨vs,H2,I2,r,z⟩=>⟨at' I2.bk,?_⟩) he hpl;exact mF (dvs:=[]) (ds:=[]) F hr hb .nil pB I2 r (by rw[List.append_nil];exact z)
end
structure qy (ps:Ls) (nm:Str) (sc:Scope):Prop where
 kind:sc.kind=.function
 co:sc.isCoroutine=false
 gen:sc.isGenerator=false
 nd:(ps++[nm]).Nodup
 par:∀ x∈ps,sc.names.lookup x=some .local
 fre:sc.names.lookup nm=some .free
 only:∀ y∈sc.names,y.2=.free->y.1=nm
 nocell:∀ y∈sc.names,y.2≠.cell
def A5 (P:Program) (w:World) (K:Fg0) (mg:SV) (base:Heap) (ps:Ls) (q:Str) (scope:Scope) (nm:Str) (f c d:Addr) (A:Around) (outer:List Env) (s:Shared) (H:Hp):Cx where
 prog:=P
 w:=w
 K:=K
 mg:=mg
 base:=base
 A:=A.deeper (PySem.W.envX q scope s.heap.objs.size f (.ref d) [(nm,c)])
 N:=ps++[nm]
 s₀:=s
 H₀:=H
 env:=PySem.W.envX q scope s.heap.objs.size f (.ref d) [(nm,c)]
 outer:=outer
 stack:=PySem.W.envX q scope s.heap.objs.size f (.ref d) [(nm,c)]::outer
 ex:=[]
 calm:=true
 fn:=fun _=>false
 pn:=[]
 xe:=fun _ _=>False
theorem xr {β:Type} {x:Str} {v:β}:∀ {l:List (Str×β)},(l.map (·.1)).Nodup->(x,v)∈l->l.lookup x=some v
 | [],_,h=>by cases h
 | (y,u)::l,nd,h=>by
  rw[List.map_cons,List.nodup_cons] at nd;rw[List.lookup_cons];rcases List.mem_cons.mp h with e | h2
  ·cases e;rw[beq_self_eq_true]
  ·have ne:(x == y)=false:=by
    rw[beq_eq_false_iff_ne];rintro rfl;exact nd.1 (List.mem_map.mpr ⟨_,h2,rfl⟩)
   rw[ne];exact xr nd.2 h2
theorem wU {β:Type}:∀ (P:Ls) (us:List β),((P.zip us).map (·.1)).Sublist P
 | [],_=>by simp
 | _::_,[]=>by simp
 | p::P,u::us=>by
  rw[List.zip_cons_cons,List.map_cons];exact(wU P us).cons₂ p
theorem yH {v:Value} {x:Str}:∀ {P:Ls} {us:Lv} {i:Nat},P.Nodup->P[i]?=some x->us[i]?=some v->(P.zip us).reverse.lookup x=some v:=by
 intro P us i nd h1 h2;have hm:(x,v)∈P.zip us:=List.mem_of_getElem? (i:=i) (by rw[List.getElem?_zip_eq_some];exact⟨h1,h2⟩);refine xr ?_ (List.mem_reverse.mpr hm);rw[List.map_reverse];refine List.pairwise_reverse.mpr (List.Pairwise.imp (fun z=>Ne.symm z) ?_);exact List.Nodup.sublist (wU _ _) nd
section
variable {P:Program} {w:World} {K:Fg0} {mg:SV} {base:Heap} {ps:Ls} {q:Str} {params:Arguments} {body:Expr} {scope:Scope} {nm:Str} {o:Obj} {f:Addr} {v:V} {k:Nat} {sp:Sp}
theorem FW (L:sj base q params body scope nm o f v) (S:qy ps nm scope) (len:∀ vs H Q E,sp vs H Q E->vs.length=ps.length + 1)
  (hbody:∀ (c d:Addr) (A:Around) (outer:List Env) (s:Shared) (H:Hp) (vs:List V) (Q:VK),bJ k (A.deeper (PySem.W.envX q scope s.heap.objs.size f (.ref d) [(nm,c)]))->sp vs H Q E0->
   ∃ t,PE (A5 P w K mg base ps q scope nm f c d A outer s H) body t/\t (vs.map some) H Q)
  (hbd:∀ (clos:List (Str×Addr)) (pm:Value) (d:Addr) (ct:Value) (us:Lv),us.length=ps.length->bindArgs (PySem.W.kla_fn "<lambda>" q params body scope clos pm (.ref d) ct) ⟨us,[]⟩=pure (ps.zip us)) :
  ∃ fd,base.get? f=some o/\o.data=.func fd/\Binds K fd ps []/\aM P w K mg base CX0 (k + 1) f fd ps (fun vs H Q _=>sp (vs++[v]) H Q E0):=by
 obtain⟨c,d,pm,ct,u,oc,ws,t,rfl,hf,⟨ocl,hcl,hcd⟩,rv,hd,hdd,hv⟩:=L;refine⟨_,hf,rfl,.all (hbd _ _ _ _),fun vs H Q E h=>?_,fun A outer s H args us vs Q E hr e0 hb r hsp=>?_⟩
 ·have:=len _ _ _ _ h;rw[List.length_append] at this;simpa using this
 have hl:vs.length=ps.length:=by
  have:=len _ _ _ _ hsp;rw[List.length_append] at this;simpa using this
 have lim:s.heap.NoLimit:=e0.mod.nolimit.keeps fun b o e=>(e0.bs b o e).1;refine PySem.W.kla_callFunE hr.depth (e0.bs _ _ hf).1 rfl S.co S.gen rfl ⟨d,oc,ws,t,rfl,(e0.bs _ _ hd).1,hdd,hv⟩ (hb _ _ _ _ ?_);refine wpAny_newFunctionEnv S.nocell (fun y hy=>S.par y.1 (List.of_mem_zip (a:=y.1) (b:=y.2) hy).1) (fun h₁ hns hsb=>⟨lim.fresh _ hsb,?_⟩) S.kind;show codeAny _ _ (.expr body (PySem.W.envX q scope s.heap.objs.size f (.ref d) [(nm,c)])) _ _;have hk:∀ b o,s.heap.get? b=some o->h₁.get? b=some o:=fun b o e=>hsb.extBut b o (Nat.ne_of_lt (Heap.lt_size e)) (Heap.get?_push_of_some _ e);refine PySem.W.kla_codeExpr ?_;obtain⟨tt,ht,hq⟩:=hbody c d A outer s H (vs++[v]) Q (hr.deeper _) hsp;have hnm:∀ x c',[(nm,c)].lookup x=some c'->x=nm/\c'=c:=fun x c' e=>by
  rw[List.lookup_cons] at e;split at e
  ·rename_i z;cases e;exact⟨by simpa using z,rfl⟩
  ·cases e
 have hc0:H c=none:=by
  rcases(e0.bs _ _ hcl).2 with z | ⟨_,z⟩
  ·exact z
  ·exact absurd hcd (z _)
 have noA:∀ b:Addr,b∉([]:La):=fun b z=>absurd z (by simp);have I:Inv (A5 P w K mg base ps q scope nm f c d A outer s H) [] ((vs++[v]).map some) H { s with heap:=h₁,toks:=s.toks + (ps.zip us).length }:=by
  refine⟨⟨e0.mod,S.kind,rfl,rfl,Nat.le_refl _,fun y z c' h1 h2=>(hnm y c' h1).1.trans (hnm z c' h2).1.symm,fun y hy=>?_,fun y c' z _=>(by cases z),fun _=>hr.hd,Around.frames_deeper e0.frames,.inr ⟨rfl,rfl⟩,fun b z=>absurd z (noA b),e0.bs,e0.bsz,fun b _ _=>noA b,fun b z=>absurd z (noA b),e0.kQ,e0.frf,e0.tb⟩,
   rfl,e0.bare,Un.kept hk,⟨_,hns,fun i y v' h1 h2 h3=>?_⟩,fun y c' h=>?_,e0.hok.fresh (Nat.le_refl _),fun y c' h=>?_,fun p hp=>absurd (show p∈([]:Pn) from hp) (by simp),e0.hok.kept hk,?_⟩
  ·have hy:scope.names.lookup y=some .cell\/scope.names.lookup y=some .free:=hy;rcases hy with hy | hy
   ·exact absurd rfl (S.nocell _ (PySem.mem_of_lookup hy))
   ·have e:=S.only _ (PySem.mem_of_lookup hy) rfl;subst e;exact⟨c,by show [(y,c)].lookup y=some c;rw[List.lookup_cons,beq_self_eq_true]⟩
  ·have h1:(ps++[nm])[i]?=some y:=h1;by_cases hi:i < ps.length
   ·rw[List.getElem?_append_left hi] at h1;rw[List.getElem?_map,List.getElem?_append_left (by rw[hl];exact hi)] at h2;cases hvi:vs[i]? with
    | none=>rw[hvi] at h2;cases h2
    | some a=>
     rw[hvi] at h2;cases h2;obtain⟨u',hu',ru⟩:=r.get hvi;exact⟨u',ru,.inl ⟨S.par y (List.mem_of_getElem? h1),yH (List.Nodup.sublist (List.sublist_append_left _ _) S.nd) h1 hu'⟩⟩
   ·rw[List.getElem?_append_right (Nat.le_of_not_lt hi)] at h1;rw[List.getElem?_map,List.getElem?_append_right (by rw[hl];exact Nat.le_of_not_lt hi),hl] at h2;have hi0:i - ps.length=0:=by
     cases z:i - ps.length with
     | zero=>rfl
     | succ n=>rw[z] at h1;simp at h1
    rw[hi0] at h1 h2;cases h1;cases h2;exact⟨u,rv,.inr ⟨.inr S.fre,c,by show [(nm,c)].lookup nm=some c;rw[List.lookup_cons,beq_self_eq_true],⟨ocl,hk _ _ (e0.bs _ _ hcl).1,hcd⟩⟩⟩
  ·obtain⟨_,rfl⟩:=hnm y c' h;exact⟨_,ocl,hk _ _ (e0.bs _ _ hcl).1,hcd⟩
  ·obtain⟨_,rfl⟩:=hnm y c' h;exact hc0
  ·show ((vs++[v]).map some).length=(ps++[nm]).length;simp [hl]
 exact wpAny_mono (ht [] _ _ H _ I hq) (fun u' s' ⟨v',H',J,rv',z⟩=>⟨v',H',J.os,J.bare,J.base,J.hok,rv',z⟩) fun e s' hs=>False.elim hs
end
theorem lN {β:Type} {a:Addr} {v:β}:∀ {l:List (Addr×β)},l.lookup a=some v->(a,v)∈l
 | [],h=>by cases h
 | (b,u)::l,h=>by
  rw[List.lookup_cons] at h;cases q:a == b with
  | true=>
   rw[q] at h;cases h;have e:a=b:=by simpa using q
   rw[e];exact List.mem_cons_self
  | false=>rw[q] at h;exact List.mem_cons_of_mem _ (lN h)
def JM (K:Fg0) (h:Heap) (P:Addr):Prop:=h.get? P=some { cls:=.none,data:=.fields #[] }/\K.lookup P=none/\∃ c oc vs,h.get? c=some oc/\oc.cls=.type "code"/\oc.data=.fields vs/\vs[11]?=some (.ref P)
theorem yJ {P:Program} {w:World} {K:Fg0} {mg mb:SV} {CX:CXT} {k:Nat} {fa a:Addr} {fd:FuncData} {x:Str} {sp:Sp} {s₁:Shared} {vs:Lv} {ns:Li} {tabs:List (Addr×Str)}
  (KX:K.In s₁.heap) (hns:s₁.heap.Ns mainGlobals mg) (hb:s₁.heap.Ns builtinsNs mb) (hbb:∀ x:Str,x≠"__name__"->mb x=bootBuiltins x) (hlim:s₁.heap.NoLimit)
  (hbm:∃ bm ob,mg "__builtins__"=some (.ref bm)/\bm≠builtinsNs/\s₁.heap.get? bm=some ob/\ob.cls=.type "module"/\ob.dict=some builtinsNs/\ob.data=.plain) (hg:s₁.gens=#[])
  (ha:s₁.heap.get? a=some { cls:=.type "list",data:=.seq vs.toArray }) (hi:IntsAre vs ns) (hl:ns.length<=sizeLine) (hr:bJ k callerA)
  (hT:∀ p∈tabs,JM K s₁.heap p.1)
  (F:∀ base:Heap,K.In base->base.Ns mainGlobals mg->(∀ P q,tabs.lookup P=some q->kT base P q)->aM P w K mg base CX k fa fd [x] sp) (hbind:∀ (s:Shared) (u:Value),BindsTo s fd ⟨[u],[]⟩ [(x,u)])
  (hsp:∀ H:Hp,G5 H->SqL K H a (ns.map V.int)->sp [.ref a] H (fun v _=>v=.bl true) fun _ _ _=>False)
  (hCX:∀ H e s',CX [] H s₁ (fun _ _ _=>False) e s'->False) :
  codeAny (model P w) callerA (.call (.ref fa) ⟨[.ref a],[]⟩) (fun r s'=>r=.ok (.ret (.bool true))/\OldK s₁.heap s'.heap/\s'.os=s₁.os/\AllBare s'.gens) s₁:=by
 have rv:=rh hi;have lenV:=hi.length;have tabO:∀ {b:Addr} {q:Str},tabs.lookup b=some q->s₁.heap.get? b=some { cls:=.none,data:=.fields #[] }:=fun {b q} e=>(hT _ (lN e)).1;have tabA:tabs.lookup a=none:=by
  cases q:tabs.lookup a with
  | none=>rfl
  | some y=>have z:=tabO q;rw[ha] at z;cases z
 have core:∀ H:Hp,G5 H->SqL K H a (ns.map V.int)->HOk P w H s₁.heap->(∀ b u,H b=some u->b=a\/∃ q,tabs.lookup b=some q)->(H a≠none->K.lookup a=none)->(∀ b q,tabs.lookup b=some q->H b=some (.tbl #[.str q 0]))->
   codeAny (model P w) callerA (.call (.ref fa) ⟨[.ref a],[]⟩) (fun r s'=>r=.ok (.ret (.bool true))/\OldK s₁.heap s'.heap/\s'.os=s₁.os/\AllBare s'.gens) s₁:=by
  intro H hO hS hok hA hK hTb;have base_of:∀ {b:Addr} {o:Obj},s₁.heap.get? b=some o->H b=none->(dg s₁.heap.objs.size (fun b=>if (H b).isNone then s₁.heap.get? b else none) fun b=>tabs.lookup b).get? b=some o:=fun e n=>pR (Heap.lt_size e) (by rw[n];exact e) (p5 e);have noT:∀ {b:Addr} {o:Obj},s₁.heap.get? b=some o->o.cls≠.type "list"->o≠{ cls:=.none,data:=.fields #[] }->H b=none:=fun {b o} e d1 d2=>by
   cases q:H b with
   | none=>rfl
   | some u=>
    rcases hA b u q with z | ⟨y,z⟩
    ·subst z;rw[ha] at e;cases e;exact absurd rfl d1
    ·rw[tabO z] at e;cases e;exact absurd rfl d2
  have noA:∀ {b:Addr} {o:Obj} {es:Array DictEntry} {ep:Nat},s₁.heap.get? b=some o->o.data=.dict es ep->H b=none:=fun {b o es ep} e d=>by
   cases q:H b with
   | none=>rfl
   | some u=>
    rcases hA b u q with z | ⟨y,z⟩
    ·subst z;rw[ha] at e;cases e;cases d
    ·rw[tabO z] at e;cases e;cases d
  have nsK:∀ {b:Addr} {m:SV},s₁.heap.Ns b m->(dg s₁.heap.objs.size (fun b=>if (H b).isNone then s₁.heap.get? b else none) fun b=>tabs.lookup b).Ns b m:=fun {b m} ⟨o,es,ep,e,d,r⟩=>⟨o,es,ep,base_of e (noA e d),d,r⟩;have hKb:K.In (dg s₁.heap.objs.size (fun b=>if (H b).isNone then s₁.heap.get? b else none) fun b=>tabs.lookup b):=fun b o e=>by
   refine base_of (KX b o e) ?_;cases q:H b with
   | none=>rfl
   | some u=>
    rcases hA b u q with z | ⟨y,z⟩
    ·subst z;rw[hK (by rw[q];simp)] at e;cases e
    ·have z2:=(hT _ (lN z)).2.1;rw[z2] at e;cases e
  have off:∀ {b:Addr} {o:Obj},(if (H b).isNone then s₁.heap.get? b else none)=some o->s₁.heap.get? b=some o/\H b=none:=fun {b o} e=>by
   split at e
   ·rename_i z;exact⟨e,by simpa using z⟩
   ·cases e
  have hM:Mod K mg (dg s₁.heap.objs.size (fun b=>if (H b).isNone then s₁.heap.get? b else none) fun b=>tabs.lookup b):=⟨hKb,nsK hns,⟨mb,nsK hb,hbb⟩,let ⟨mc,h1,h2⟩:=hlim;⟨mc,nsK h1,h2⟩,let ⟨bm,ob,h1,h2,h3,h4,h5⟩:=hbm;⟨bm,ob,h1,h2,base_of h3 (noT h3 (by rw[h4];decide) (by intro z;rw[z] at h4;cases h4)),h4,h5⟩⟩;have e0:vt P w K mg (dg s₁.heap.objs.size (fun b=>if (H b).isNone then s₁.heap.get? b else none) fun b=>tabs.lookup b) callerA [] s₁ H:=⟨rfl,hM,fun b o e=>⟨(off (mP e).2).1,.inl (off (mP e).2).2⟩,Nat.le_of_eq fX,trivial,fun b hb=>absurd (show b∈([]:La) from hb) (by simp),hok,.of_eq hg,
   fun P q z=>⟨_,0,hTb P q (uQ (fun o e=>p5 (off e).1) z).2,rfl⟩⟩
  refine codeAny_mono ((F _ hKb (nsK hns) fun P q z=>vX (Heap.lt_size (tabO z)) (by rw[hTb P q z];rfl) z).run callerA [] s₁ H ⟨[.ref a],[]⟩ [.ref a] [.ref a] _ _ hr e0 (hbind s₁ (.ref a)) (.cons rfl .nil) (hsp H hO hS)) fun r s' h=>?_;cases r with
  | error e=>exact(hCX H e s' h).elim
  | ok fl=>
   cases fl with
   | next=>exact False.elim h
   | brk=>exact False.elim h
   | cont=>exact False.elim h
   | ret u=>
    obtain⟨v,H',os,bare,un,hok',r',q⟩:=h;have q':v=.bl true:=q;subst q';obtain rfl:u=Value.bool true:=r';refine⟨rfl,⟨fun b o e=>?_,fun b o e=>un.there b o e (by simp)⟩,os,bare⟩;cases q:H b with
    | none=>exact .inl (un.keep b o e q (by intro z;exact absurd (show b∈([]:La) from z) (by simp)) (by simp))
    | some u=>
     rcases hO b with z | ⟨ob,xs,z⟩ | ⟨ps,z⟩
     ·rw[q] at z;cases z
     ·have z2:=un.frzs b ob _ z;obtain⟨e1,_⟩:=hok b _ z;obtain⟨e2,_⟩:=hok' b _ z2;rw[e] at e1;cases e1;exact .inl e2
     ·rcases hA b u q with y | ⟨y,hy⟩
      ·subst y;obtain⟨_,_,_,_,e1,_⟩:=hok b _ z;rw[ha] at e1;cases e1
      ·obtain⟨m,z2⟩:=un.tbls b ps z;obtain⟨_,_,qs,_,e2,_⟩:=hok' b _ z2;have e1:=tabO hy;rw[e] at e1;cases e1;obtain⟨c,oc,ws,c1,c2,c3,c4⟩:=(hT _ (lN hy)).2.2;exact .inr (.inl ⟨⟨c,oc,ws,c1,c2,c3,c4⟩,rfl,#[],qs,rfl,by rw[Array.empty_append];exact e2⟩)
 let Ht:Hp:=fun b=>(tabs.lookup b).map fun q=>.tbl #[.str q 0]
 have htOk:∀ {b:Addr} {u:HO} {H:Hp},Ht b=some u->cI P w H s₁.heap b u:=fun {b u H} z=>by
  cases q:tabs.lookup b with
  | none=>have z':(tabs.lookup b).map (fun q=>HO.tbl #[.str q 0])=some u:=z;rw[q] at z';cases z'
  | some y=>
   have z':(tabs.lookup b).map (fun q=>HO.tbl #[.str q 0])=some u:=z;rw[q] at z';cases z';exact⟨y,0,#[],rfl,tabO q,trivial,fun _ _ r=>by simp [codeAmong] at r⟩
 have htSome:∀ {b:Addr} {u:HO},Ht b=some u->∃ q,tabs.lookup b=some q/\u=.tbl #[.str q 0]:=fun {b u} z=>by
  have z':(tabs.lookup b).map (fun q=>HO.tbl #[.str q 0])=some u:=z;cases q:tabs.lookup b with
  | none=>rw[q] at z';cases z'
  | some y=>rw[q] at z';cases z';exact⟨y,rfl,rfl⟩
 have htA:Ht a=none:=by show (tabs.lookup a).map _=none;rw[tabA];rfl
 have htOf:∀ b q,tabs.lookup b=some q->Ht b=some (.tbl #[.str q 0]):=fun b q z=>by show (tabs.lookup b).map _=_;rw[z];rfl
 cases hk:K.lookup a with
 | some o=>
  have e:=KX a o hk;rw[ha] at e;cases e;refine core Ht (fun b=>?_) (.inr ⟨_,vs.toArray,_,hk,rfl,rfl,rfl,by rw[List.size_toArray,lenV];exact hl,by simpa using rv⟩) (fun b u z=>htOk z) (fun b u z=>.inr (let ⟨q,h,_⟩:=htSome z;⟨q,h⟩)) (fun z=>absurd htA z) htOf;cases z:Ht b with
  | none=>exact .inl rfl
  | some u=>obtain⟨q,_,rfl⟩:=htSome z;exact .inr (.inr ⟨_,rfl⟩)
 | none=>
  refine core (upd Ht a (.frz { cls:=.type "list",data:=.seq vs.toArray } (.lst (ns.map V.int)))) (fun b=>?_) (.inl (.inr ⟨{ cls:=.type "list",data:=.seq vs.toArray },ao⟩)) (fun b u z=>?_) (fun b u z=>?_) (fun _=>hk) fun b q z=>?_
  ·by_cases hb:b=a
   ·subst hb;exact .inr (.inl ⟨_,_,ao⟩)
   ·rw[af hb];cases z:Ht b with
    | none=>exact .inl rfl
    | some u=>obtain⟨q,_,rfl⟩:=htSome z;exact .inr (.inr ⟨_,rfl⟩)
  ·by_cases hb:b=a
   ·subst hb;rw[ao] at z;cases z;exact⟨ha,by rw[lM0];exact hl,vs,_,rv,ha⟩
   ·rw[af hb] at z;exact htOk z
  ·by_cases hb:b=a
   ·exact .inl hb
   ·rw[af hb] at z;exact .inr (let ⟨q,h,_⟩:=htSome z;⟨q,h⟩)
  ·rw[af (fun y=>by rw[y,tabA] at z;cases z)];exact htOf b q z
theorem y4 {l:PySem.W.OpenLaw} {n k:Nat} {q:Program} {loose:Ls} {XP:(SV)->Heap->Prop} {YP:World->Heap->Prop} {d:DefRec} {K:Params->Fg0} {CX:World->CXT} {sp:Fg0->Sp} {x:Str} {ts:La}
  (hn:l.most=some n) (hn2:n<=sizeLine) (hdf:d.params.defaults=[]) (hr:bJ k callerA)
  (hY:∀ (w:World) (h:Heap),YP w h->(K w.params).In h/\∀ P∈ts,h.get? P=some (PySem.W.tabObj #[]))
  (F:∀ (w:World) (mg:SV) (fa:Addr) (h:Heap),(K w.params).In h->h.Ns mainGlobals mg->mg d.name=some (.ref fa)->
   ∃ (fd:FuncData) (tabs:List (Addr×Str)),(∀ (s:Shared) (u:Value),BindsTo s fd ⟨[u],[]⟩ [(x,u)])/\(∀ p∈tabs,p.1∈ts/\(K w.params).lookup p.1=none/\∃ c,PySem.W.CodeHd h c p.1)/\
    ∀ base:Heap,(K w.params).In base->base.Ns mainGlobals mg->(∀ P q,tabs.lookup P=some q->kT base P q)->aM l.prog w (K w.params) mg base (CX w) k fa fd [x] (sp (K w.params)))
  (hsp:∀ (K:Fg0) (H:Hp) (a:Addr) (ns:Li),ns.length<=n->G5 H->SqL K H a (ns.map V.int)->sp K [.ref a] H (fun v _=>v=.bl true) fun _ _ _=>False)
  (hCX:∀ (w:World) (H:Hp) (s:Shared) (e:Value) (s':Shared),CX w [] H s (fun _ _ _=>False) e s'->False) :
  PySem.W.WalkO q loose XP YP l.row.toRowW d [] (fun f vs=>PySem.call f vs):=by
 refine Att.vp hn hdf fun w s₀ s₁ mg mb fa o pm cd doc a vs ns G Y ho hd hcd hmg hobj hints hlen hg=>?_;obtain⟨KX,hts⟩:=hY w _ Y;obtain⟨fd,tabs,hb,hT,hF⟩:=F w mg fa _ KX G.T.g hmg;refine yJ KX G.T.g G.T.b G.T.builtins G.T.nolimit G.T.bmain hg hobj hints (Nat.le_trans hlen hn2) hr (fun p hp=>?_) hF hb (fun H hO hS=>hsp _ H a ns hlen hO hS) fun H e s'=>hCX w H s₁ e s';obtain⟨h1,h2,c,o,vs,_,_,_,_,_,_,_,c1,c2,c3,c4,_⟩:=hT p hp;exact⟨hts _ h1,h2,c,o,vs,c1,c2,c3,c4⟩
end L2
namespace L3
open PySem L2 PySem.Spec PyProof.Rows
section
variable {K:Fg0} {X:Cx} {B:Bs} {F:Hp} {σ:L2.St} {H:Hp} {Γ:G} {pos:Pos} {q:Str} {params:Arguments} {body:Expr} {scope:Scope} {clos:List (Str×Addr)} {pm:Value}
def FZ (O:(Unit->Obj)->Prop) (Γ:G) (Q:RV->G->Prop):Prop:=∀ o f,O o->Q (.fz (.fn o f .non .non)) Γ
def Dr (q:Str) (params:Arguments) (body:Expr) (scope:Scope) (clos:List (Str×Addr)) (o:Unit->Obj):Prop:=∃ pm d ct,o ()=j7 q params body scope clos pm d ct
theorem BZ:Ref K (EE q params body scope clos pm) (FZ (Dr q params body scope clos)):=by
 intro B F σ H Γ Q QQ e h k f c oc ct H1 h1 hf hcod;have e1:En K B F σ H1 Γ:=by
  rcases h1 with rfl | ⟨hc,rfl⟩
  ·exact e
  ·exact e.alloc hc _
 have hF:F f=none:=e1.sub.free hf;have e2:=(e1.alloc hf (.frz (j7 q params body scope clos pm c ct) (.cod c q))).freeze (l:=f) hF ao (e1.dom f hf) fun i d hd z=>by
  obtain⟨p,a,_,d'⟩:=e1.hl i d hd;rw[z] at a;cases a;obtain⟨u,hu⟩:=d'.some;rw[hf] at hu;cases hu
 exact k _ _ ⟨_,Γ,.fz (.fn (fun _=>j7 q params body scope clos pm c ct) f .non .non),aT hF,e2,⟨rfl,⟨c,q,ao,⟨_,rfl,rfl,rfl⟩⟩,rfl⟩,h (fun _=>j7 q params body scope clos pm c ct) f ⟨pm,c,ct,rfl⟩⟩
theorem Fw {c P:Addr} (hcode:X.env.code=.ref c) (hC:∀ h:Heap,X.K.In h->PySem.W.CodeHd h c P) (hT:kT X.base P (X.env.qual++"<lambda>")) (hcl:closureFor scope X.env=pure clos) (hdef:defaultsOf params X.env=([],[]):=by rfl) :
  P3 K X (.Lambda params body scope pos) (EE (X.env.qual++"<lambda>") params body scope clos ((X.mg "__name__").getD .none)) (FZ (Dr (X.env.qual++"<lambda>") params body scope clos)):=⟨Fo hcode hC hT hcl hdef,BZ⟩
def wH (O:(Unit->Obj)->Prop) (i j n:Nat) (S:(Unit->Obj)->Addr->V->S3) (t3:cY) (Γ:G) (Q:RV->G->Prop):Prop:=t3 Γ fun bs Γ1=>bs.length=n/\(bN bs).Nodup/\∃ o f r,bs[j]?=some (.d (.fn o f .non .non))/\O o/\Γ1[i]?=some (some (.fz r))/\
 ∀ v,S o f v (du Γ1 ((bs.set j (.d (.fn o f v r))).map some)) fun x Γa=>Q x (bB (((bs.set j (.d (.fn o f v r))).map some).map bZ) Γ1 Γa)
theorem mR:∀ {bs:List Bo} {j:Nat} {x y:D},bs[j]?=some (.d x)->bN (bs.set j (.d y))=bN bs
 | [],_,_,_,h=>by simp at h
 | .d _::_,0,_,_,_=>rfl
 | .v _::_,0,_,_,h=>by simp at h
 | .d _::bs,j + 1,x,y,h=>by
  rw[List.set_cons_succ];show bN (bs.set j _)=bN bs;exact mR (by simpa using h)
 | .v i::bs,j + 1,x,y,h=>by
  rw[List.set_cons_succ];show i::bN (bs.set j _)=i::bN bs;rw[mR (by simpa using h)]
theorem aZ.set:∀ {bs:List Bo} {vs:List V} {j:Nat} {x:D} {v:V},aZ K F σ bs vs->vs[j]?=some v->Rep K F x v->aZ K F σ (bs.set j (.d x)) vs
 | [],_,_,_,_,h,e,_=>by cases h;simp at e
 | _::_,_,0,x,v,⟨u,ws,h1,h2,h3⟩,e,r=>by
  subst h1;simp at e;subst e;exact⟨_,ws,rfl,r,h3⟩
 | _::bs,_,j + 1,x,v,⟨u,ws,h1,h2,h3⟩,e,r=>by
  subst h1;rw[List.set_cons_succ];exact⟨u,ws,rfl,h2,aZ.set h3 (by simpa using e) r⟩
theorem yl {nm:Str} {c:Addr} {i j n:Nat} {S:(Unit->Obj)->Addr->V->S3} {t:TA} {t3:cY} (hc:X.env.cells.lookup nm=some c) (h:qx K t t3) :
  Ref K (vD X q params body scope nm i j (fun o f v=>sp3 K n (S (fun _=>o) f v)) t) (wH (Dr q params body scope [(nm,c)]) i j n S t3):=by
 intro B F σ H Γ Q QQ e qq k;refine h B F σ H Γ _ _ e qq fun vs H1 ⟨F1,Γ1,bs,s1,e1,r1,hn,nd,o,f,r,hj,⟨pm,d,ct,ho⟩,hi,q1⟩=>?_;obtain⟨x,hx,rx⟩:=r1.get hj;obtain⟨rfl,⟨c2,q2,hF,fd,z1,z2,z3⟩,_⟩:=rx;obtain⟨v,hv,rr⟩:=e1.fz i r hi;rw[ho] at z1;cases z1;cases z2;cases z3;have ho':o=fun _=>j7 q params body scope [(nm,c)] pm d ct:=funext fun _=>ho;subst ho';have hl:(bs.set j (.d (.fn (fun _=>j7 q params body scope [(nm,c)] pm d ct) f v r))).length=n:=by rw[List.length_set];exact hn
 have r2:aZ K F1 σ (bs.set j (.d (.fn (fun _=>j7 q params body scope [(nm,c)] pm d ct) f v r))) vs:=r1.set hx ⟨rfl,⟨d,q,hF,⟨_,rfl,rfl,rfl⟩⟩,rr⟩;refine⟨f,c,d,pm,ct,v,hx,e1.sub _ _ hF,hc,hv,?_⟩;refine⟨by rw[r2.length];exact hl,F1,_,_,_,e1.args r2 (by rw[mR hj];exact nd),jS,q1 v,fun r Γa q v H' F' e2 rv=>?_⟩;obtain⟨a,b,c⟩:=e1.called e2 rv;exact k v H' ⟨F',_,r,s1.trans a,b,c,q⟩
theorem Ai {nm x:Str} {c g:Addr} {fd:FuncData} {ps:Ls} {i j n k:Nat} {S:(Unit->Obj)->Addr->V->S3} {t:TA} {t3:cY} {e:Expr} {es:List Expr} {p:Pos}
  (F:∀ (base:Heap) (o:Unit->Obj) (f:Addr) (v:V),sj base q params body scope nm (o ()) f v->aM X.prog X.w X.K X.mg base CX0 k g fd ps (sp3 K n (S o f v))) (hr:bJ k X.A) (hg:Gl X x) (hm:X.mg x=some (.ref g)) (hk:PySem.W.keepIn X.K (.ref g)=true)
  (hb:Binds X.K fd ps []) (hN:X.N[i]?=some nm) (hv:X.env.scope.names.lookup nm=some .cell) (hfn:X.fn nm=true) (hc:X.env.cells.lookup nm=some c) (ha:oo K X (e::es) t t3) (hdb:(x == ("__debug__":Str))=false:=by decide)
  (he:starEach (e::es) X.env=(false,eval e X.env)::starEach es X.env:=by rfl) (hpl:(backTo pos (starEach es X.env)).any (·.1)=false:=by rfl) :
  P3 K X (.Call (.Name x p) (e::es) [] pos) (vD X q params body scope nm i j (fun o f v=>sp3 K n (S (fun _=>o) f v)) t) (wH (Dr q params body scope [(nm,c)]) i j n S t3):=
 ⟨z_ (fun base o f v L=>F base (fun _=>o) f v L) hr hg hm hk hb hN hv hfn ha.pe hdb he hpl,yl hc ha.rf⟩
def Bg (i n:Nat) (o:Unit->Obj) (f:Addr) (v:V) (S:S3) (t3:cY) (Γ:G) (Q:RV->G->Prop):Prop:=∃ r,Γ[i]?=some (some (.fz (.fn o f v r)))/\t3 Γ fun bs Γ1=>bs.length=n/\(bN bs).Nodup/\Γ1[i]?=some (some (.fz (.fn o f v r)))/\
 S (du Γ1 ((bs++[Bo.d r]).map some)) fun x Γa=>Q x (bB (((bs++[Bo.d r]).map some).map bZ) Γ1 Γa)
theorem mS {r:D}:∀ {bs:List Bo},bN (bs++[Bo.d r])=bN bs
 | []=>rfl
 | .d _::bs=>by show bN (bs++_)=_;exact mS
 | .v i::bs=>by show i::bN (bs++_)=i::bN bs;rw[mS]
theorem aZ.app {r:D} {v:V} (h:Rep K F r v):∀ {bs:List Bo} {vs:List V},aZ K F σ bs vs->aZ K F σ (bs++[Bo.d r]) (vs++[v])
 | [],_,e=>by cases e;exact⟨v,[],rfl,h,rfl⟩
 | _::bs,_,⟨u,ws,h1,h2,h3⟩=>by subst h1;exact⟨u,ws++[v],rfl,h2,aZ.app h h3⟩
theorem yk {i n:Nat} {o:Unit->Obj} {f:Addr} {v:V} {S:S3} {t:TA} {t3:cY} (h:qx K t t3):Ref K (mx i f (fun vs H Q _=>sp3 K (n + 1) S (vs++[v]) H Q E0) t) (Bg i n o f v S t3):=by
 intro B F σ H Γ Q QQ e ⟨r,hi,qq⟩ k;obtain⟨x,hx,rfl,_,_⟩:=e.fz i _ hi;refine⟨hx,h B F σ H Γ _ _ e qq fun vs H1 ⟨F1,Γ1,bs,s1,e1,r1,hn,nd,hi1,q1⟩=>?_⟩;obtain⟨_,_,_,_,rr⟩:=e1.fz i _ hi1;have r2:=aZ.app rr r1;refine⟨by rw[r2.length,List.length_append,hn];rfl,F1,_,_,_,e1.args r2 (by rw[mS];exact nd),jS,q1,fun r Γa q v H' F' e2 rv=>?_⟩;obtain⟨a,b,c⟩:=e1.called e2 rv;exact k v H' ⟨F',_,r,s1.trans a,b,c,q⟩
theorem Ah {x:Str} {fd:FuncData} {ps:Ls} {i n k:Nat} {o:Unit->Obj} {f:Addr} {v:V} {S:S3} {t:TA} {t3:cY} {e:Expr} {es:List Expr} {p:Pos} (hf:X.base.get? f=some (o ())) (ho:(o ()).data=.func fd)
  (F:aM X.prog X.w X.K X.mg X.base CX0 k f fd ps (fun vs H Q _=>sp3 K (n + 1) S (vs++[v]) H Q E0)) (hr:bJ k X.A) (hb:Binds X.K fd ps []) (hN:X.N[i]?=some x) (hv:Vis X.env.scope x) (ha:oo K X (e::es) t t3)
  (hdb:(x == ("__debug__":Str))=false:=by decide) (hcd:(x == ("__classdict__":Str))=false:=by decide) (he:starEach (e::es) X.env=(false,eval e X.env)::starEach es X.env:=by rfl) (hpl:(backTo pos (starEach es X.env)).any (·.1)=false:=by rfl) :
  P3 K X (.Call (.Name x p) (e::es) [] pos) (mx i f (fun vs H Q _=>sp3 K (n + 1) S (vs++[v]) H Q E0) t) (Bg i n o f v S t3):=⟨z9 hf ho F hr hb hN hv ha.pe hdb hcd he hpl,yk ha.rf⟩
theorem okL {P:Program} {w:World} {mg:SV} {base:Heap} {nm:Str} {o:Unit->Obj} {f:Addr} {v:V} {ps:Ls} {k:Nat} {S:S3} (L:sj base q params body scope nm (o ()) f v) (Sc:qy ps nm scope)
  (hbody:∀ (c d:Addr) (A:Around) (outer:List Env) (s:Shared) (H:Hp),bJ k (A.deeper (PySem.W.envX q scope s.heap.objs.size f (.ref d) [(nm,c)]))->
   ∃ t t3,P3 K (A5 P w K mg base ps q scope nm f c d A outer s H) body t t3/\∀ Γ Q,Γ.length=ps.length + 1->S Γ Q->t3 Γ Q)
  (hbd:∀ (clos:List (Str×Addr)) (pm:Value) (d:Addr) (ct:Value) (us:Lv),us.length=ps.length->bindArgs (PySem.W.kla_fn "<lambda>" q params body scope clos pm (.ref d) ct) ⟨us,[]⟩=pure (ps.zip us)) :
  ∃ fd,base.get? f=some (o ())/\(o ()).data=.func fd/\Binds K fd ps []/\aM P w K mg base CX0 (k + 1) f fd ps (fun vs H Q _=>sp3 K (ps.length + 1) S (vs++[v]) H Q E0):=by
 refine FW L Sc (fun vs H Q E h=>h.1) (fun c d A outer s H vs Q hr hsp=>?_) hbd;obtain⟨t,t3,h,hS⟩:=hbody c d A outer s H hr;obtain⟨hl,F,own,Γa,Q3,e,_,hs,hQ⟩:=hsp;exact⟨t,h.pe,h.rf ⟨F,H,own⟩ F _ H Γa Q3 Q e (hS Γa Q3 (by rw[<- e.len,lM0];exact hl) hs) fun v H' ⟨F',Γ',r,_,e',rv,q⟩=>hQ r Γ' q v H' F' e' rv⟩
theorem okM {P:Program} {w:World} {mg:SV} {base:Heap} {x qual:Str} {st:Stmt} {f:Addr} {fd:FuncData} {N ps:Ls} {k:Nat} {S:S3} (F:Fun K x qual st f fd) (Sc:aC N ps (ah st)) (hN:ps.length<=N.length:=by decide)
  (hbody:∀ (cdv:Value) (A:Around) (outer:List Env) (s:Shared) (H:Hp) (E:XK),cdv=fd.code->bJ k (A.deeper (envOfC qual (ah st) s.heap.objs.size f cdv))->
   ∃ t t3,qY K (vf CX0 P w K mg base N qual (ah st) f cdv A outer s H E).nox (cT st) t t3/\∀ Γa Q,S Γa Q->Γa.length=ps.length->t3 { nx:=fun Γ'=>Q (.fz .non) (iD Γa Γ'),rt:=fun r Γ'=>Q r (iD Γa Γ') } (fu N Γa)) :
  aM P w K mg base CX0 (k + 1) f fd ps (sp3 K ps.length S):=by
 obtain⟨oc,od,kV,doc,pm,an,cdv,ct,osl,rfl,lk,hcd⟩:=F.ex;refine D9 lk hcd Sc (fun vs H Q E h=>h.1) fun A outer s H vs Q E hr h=>?_;obtain⟨hl,F0,own,Γa,Q3,e,hno,hS,hQ⟩:=h;obtain⟨t,t3,ht,rd⟩:=hbody cdv A outer s H E rfl hr;have hla:Γa.length=ps.length:=by rw[<- e.len,lM0];exact hl
 refine⟨t,ht.pe.nox,ht.rf ⟨F0,H,own⟩ F0 _ H _ _ { nx:=fun Γ'=>Q3 (.fz .non) (iD Γa Γ'),rt:=fun r Γ'=>Q3 r (iD Γa Γ') } (e.start (N:=N) (by rw[hla];exact hN)) ⟨?_,?_,fun _ _ _ _ _ _ z=>False.elim z,fun _ _ _ _ _ _ z=>False.elim z⟩ (rd Γa Q3 hS hla)⟩
 ·intro F' σ' H' Γ' s' e' q;obtain⟨a,b⟩:=e.out hno e' (v:=.non) (r:=.fz .non) rfl;exact hQ _ _ q _ _ _ a b
 ·intro F' σ' H' Γ' v r s' e' rv q;obtain⟨a,b⟩:=e.out hno e' rv;exact hQ _ _ q _ _ _ a b
end
structure Step (H0:Hp) (own:La) (H:Hp) (qs:La):Prop where
 keep:∀ b o,H0 b=some o->b∉own->H b=some o
 dom:∀ b,H b=none->H0 b=none
 new:∀ q,q∈qs->q∈own\/H0 q=none
abbrev E0n (K:Fg0) (F:Hp) (σ:L2.St) (H:Hp) (Γ:G):Prop:=En K ⟨F,H,[]⟩ F σ H Γ
section
variable {K:Fg0} {X:Cx} {F F':Hp} {σ σ':L2.St} {H H' H0:Hp} {Γ Γ':G} {pos:Pos} {i:Nat} {p:Addr} {qs own:La} {xss:NR}
theorem xK (sub:av F H) (len:σ.length=Γ.length) (fz:∀ (k:Nat) (s:Sl),Γ[k]?=some (some s)->∃ d v,s=.fz d/\σ[k]?=some (some v)/\Rep K F d v):E0n K F σ H Γ where
 sub:=sub
 len:=len
 fz:=fun k d h=>by obtain⟨d',v,e,a,b⟩:=fz k _ h;cases e;exact⟨v,a,b⟩
 hl:=fun k d h=>by rcases h with h | h <;> (obtain⟨_,_,e,_⟩:=fz k _ h;cases e)
 ow:=fun k d q h=>by obtain⟨_,_,e,_⟩:=fz k _ h;cases e
 ln:=fun k d q h=>by obtain⟨_,_,e,_⟩:=fz k _ h;cases e
 dis:=fun k j d e q h=>by rcases h with h | h <;> (obtain⟨_,_,e,_⟩:=fz k _ h;cases e)
 par:=fun k q h=>nomatch h
 keep:=av.refl F
 new:=fun b o h=>.inl h
 rest:=fun b o h _=>h
 dom:=fun b h=>h
theorem E0n.all (e:E0n K F σ H Γ) {k:Nat} {s:Sl} (h:Γ[k]?=some (some s)):∃ d v,s=.fz d/\σ[k]?=some (some v)/\Rep K F d v:=by
 cases s with
 | fz d=>obtain⟨v,a,b⟩:=e.fz k d h;exact⟨d,v,rfl,a,b⟩
 | ow d=>
  obtain⟨q,a,_,o⟩:=e.hl k d (.inl h);obtain⟨u,hu⟩:=o.some;have:=e.ow k d q h a;rw[show (⟨F,H,[]⟩:Bs).H q=H q from rfl,hu] at this;cases this
 | ln d=>
  obtain⟨q,a,_,o⟩:=e.hl k d (.inr h);exact nomatch e.ln k d q h a
theorem E0n.move (e:E0n K F σ H Γ) (s:av F F') (sub:av F' H'):E0n K F' σ H' Γ:=xK sub e.len fun k s' h=>by
 obtain⟨d,v,a,b,c⟩:=e.all h;exact⟨d,v,a,b,c.mono s⟩
theorem E0n.put (e:E0n K F σ H Γ) {j:Nat} {d:D} {v:V} (hj:j < Γ.length) (r:Rep K F d v):E0n K F (σ.set j (some v)) H (Γ.set j (some (.fz d))):=xK e.sub (by rw[List.length_set,List.length_set];exact e.len) fun k s h=>by
 by_cases z:k=j
 ·subst z;rw[aB hj] at h;cases h;exact⟨d,v,rfl,aB (by rw[e.len];exact hj),r⟩
 ·rw[aU (Ne.symm z)] at h ⊢;exact e.all h
theorem E0n.see (e:E0n K F σ H Γ) {j:Nat} {d:D} {v:V} (hs:σ[j]?=some (some v)) (r:Rep K F d v):E0n K F σ H (Γ.set j (some (.fz d))):=xK e.sub (by rw[List.length_set];exact e.len) fun k s h=>by
 by_cases z:k=j
 ·subst z;have hj:k < Γ.length:=by rw[<- e.len];exact(gS0 hs).1
  rw[aB hj] at h;cases h;exact⟨d,v,rfl,hs,r⟩
 ·rw[aU (Ne.symm z)] at h;exact e.all h
theorem Step.grow (n:Step H0 own H qs) (s:av H H'):Step H0 own H' qs:=⟨fun b o h hb=>s _ _ (n.keep b o h hb),fun b h=>n.dom b (by
 cases q:H b with
 | none=>rfl
 | some o=>rw[s _ _ q] at h;cases h),n.new⟩
def iM (F H:Hp) (l:La):Hp:=fun b=>if b∈l then H b else F b
variable {st:Stmt} {rest ss:List Stmt} {t u:TS} {n3 m3:TN}
theorem tM {n k:Nat} (h:k < n):ixN n (k:Int)=some k:=by
 unfold ixN;rw[if_pos (by omega),if_pos (by omega),Int.toNat_natCast]
theorem yz {α:Type} [DecidableEq α] {l:List α} {a:α} (h:l.Nodup) (ha:a∉l):∀ {k:Nat},(l.set k a).Nodup:=by
 induction l with
 | nil=>intro k;exact h
 | cons x l ih=>
  obtain⟨h1,h2⟩:=List.nodup_cons.mp h;intro k;cases k with
  | zero=>exact List.nodup_cons.mpr ⟨fun z=>ha (.tail _ z),h2⟩
  | succ k=>
   refine List.nodup_cons.mpr ⟨fun z=>?_,ih h2 (fun z=>ha (.tail _ z))⟩;rcases List.mem_or_eq_of_mem_set z with q | q
   ·exact h1 q
   ·exact ha (q ▸ .head _)
end
section
variable {K:Fg0} {X:Cx} {F F':Hp} {σ σ':L2.St} {H H' H0:Hp} {Γ Γ':G} {pos:Pos} {i:Nat} {p:Addr} {qs own:La} {xss:NR}
variable {st:Stmt} {rest ss:List Stmt} {t u:TS} {n3 m3:TN}
theorem DL {α:Type}:∀ {l:List α} {m k:Nat} {a:α},l.Nodup->l[m]?=some a->l[k]?=some a->m=k
 | [],_,_,_,_,h,_=>by simp at h
 | x::l,0,0,_,_,_,_=>rfl
 | x::l,0,k + 1,a,nd,h1,h2=>by
  cases h1;exact absurd (List.mem_of_getElem? (l:=l) (i:=k) h2) (List.nodup_cons.mp nd).1
 | x::l,m + 1,0,a,nd,h1,h2=>by
  cases h2;exact absurd (List.mem_of_getElem? (l:=l) (i:=m) h1) (List.nodup_cons.mp nd).1
 | x::l,m + 1,k + 1,a,nd,h1,h2=>by rw[DL (List.nodup_cons.mp nd).2 (m:=m) (k:=k) h1 h2]
end
section
variable {K:Fg0} {X:Cx} {F F':Hp} {σ σ':L2.St} {H H' H0:Hp} {Γ Γ':G} {pos:Pos} {i:Nat} {p:Addr} {qs own:La} {xss:NR}
variable {st:Stmt} {rest ss:List Stmt} {t u:TS} {n3 m3:TN}
end
section
variable {P:Program} {w:World} {K:Fg0} {mg:SV} {base:Heap}
end
section
variable {K:Fg0} {X:Cx} {B:Bs} {F F':Hp} {σ σ':L2.St} {H H':Hp} {Γ Γ':G} {pos:Pos} {i g:Nat} {p:Addr} {qs:La} {xss:NR}
end
section
variable {K:Fg0} {X:Cx} {pos:Pos} {i j l:Nat} {y:Str} {px p2:Pos} {o k e:Expr} {to te:TE} {e3:TE3}
variable {kk n:Nat} {f:Addr} {fd:FuncData} {ps:Ls} {x:Str} {p:Pos} {es:List Expr} {t:TA} {t3:cY} {S:List D->NR->(NR->Prop)->Prop} {rest:List Stmt} {u:TS} {u3:TS3}
end
end L3
namespace L2
open PySem PySem.Spec PyProof.Rows
section
variable {prog:Program} {w:World} {A:Around} {E:VS} {s:Shared}
end
section
variable {X:Cx}
end
end L2
namespace L3
open PySem L2
section
variable {K:Fg0} {B:Bs} {F:Hp} {σ:L2.St} {H:Hp} {Γ:G} {X:Cx}
end
end L3
namespace L2
open PySem
structure FN (K:Fg0) (x q:Str) (st:Stmt) (f:Addr) (d:FuncData):Prop where
 n:PySem.W.nsIn K mainGlobals x=some (some (.ref f))
 F:Fun K x q st f d
structure FM (K:Fg0) (C:Addr) (x q:Str) (st:Stmt) (f:Addr) (d:FuncData):Prop where
 m:PySem.W.findIn K (.ref C) x=some (some (.ref f))
 i:PySem.W.isFn K (.ref f)=true
 F:Fun K x q st f d
structure FY (K:Fg0) (x q:Str) (st:Stmt) (f:Addr) (d:FuncData) (ps:Ls):Prop where
 F:Fun K x q st f d
 b:Binds K d ps []
structure FX (K:Fg0) (mg:SV) (x q:Str) (st:Stmt) (f:Addr) (d:FuncData) (ps:Ls):Prop where
 F:Fun K x q st f d
 b:Binds K d ps []
 m:mg x=some (.ref f)
section
variable {K:Fg0} {mg:SV} {h:Heap} {C:Addr} {x q:Str} {st:Stmt} {f:Addr} {d:FuncData} {ps:Ls}
theorem fx (X:K.In h) (G:h.Ns mainGlobals mg) (F:FN K x q st f d) (b:∀ (kV doc pm:Value) (an:Option Addr) (cdv ct:Value) (us:Lv),us.length=ps.length->bindArgs (PySem.W.fnOf x q (e_ st) (cT st) (ah st) .none kV doc pm an cdv ct) ⟨us,[]⟩=pure (ps.zip us)):FX K mg x q st f d ps:=⟨F.F,F.F.binds b,PySem.W.mg_of X G F.n⟩
theorem fy (F:FM K C x q st f d) (b:∀ (kV doc pm:Value) (an:Option Addr) (cdv ct:Value) (us:Lv),us.length=ps.length->bindArgs (PySem.W.fnOf x q (e_ st) (cT st) (ah st) .none kV doc pm an cdv ct) ⟨us,[]⟩=pure (ps.zip us)):FY K x q st f d ps:=⟨F.F,F.F.binds b⟩
theorem bJ.dn {j k:Nat} {A:Around} (r:bJ k A) (h:j<=k:=by decide):bJ j A:=r.mono h
theorem FM.me (F:FM K C x q st f d):Meth K C x f:=⟨F.m,F.i,F.F.kp⟩
end
open PySem PySem.Spec PyProof.Rows
def vq (K:Fg0) (d:Addr):List (Str×Addr)->Prop
 | []=>True
 | p::l=>PySem.W.nsIn K d p.1=some (some (.ref p.2))/\vq K d l
theorem vq.at {K:Fg0} {d:Addr} {k:Str} {f:Addr}:∀ {l:List (Str×Addr)},vq K d l->l.lookup k=some f->PySem.W.nsIn K d k=some (some (.ref f))
 | [],_,h=>nomatch h
 | (y,g)::l,⟨h1,h2⟩,h=>by
  rw[List.lookup_cons] at h;by_cases e:k=y
  ·subst e;rw[beq_self_eq_true] at h;cases h;exact h1
  ·rw[show (k == y)=false from beq_eq_false_iff_ne.mpr e] at h;exact vq.at h2 h
structure G8 (K:Fg0) (P:Params) (mg:SV) (x:Str) (d:Addr) (l:List (Str×Addr)):Prop where
 mg:mg x=some (.ref d)
 ex:∃ es n,K.lookup d=some ⟨.type "dict",none,.dict es n,#[]⟩/\PySem.W.KeysLit P es.toList
 it:vq K d l
section
variable {X:Cx} {x:Str} {d f:Addr} {l:List (Str×Addr)} {p pos:Pos} {i e:Expr} {ty:TE} {es:List Expr} {t:TA} {k j:Nat} {fd:FuncData} {ps:Ls}
def E2 (l:List (Str×Addr)) (y:V) (H:Hp) (Q:VK):Prop:=∃ k f,y=.str k/\l.lookup k=some f/\Q (.ref f) H
theorem Cj (hg:Gl X x) (D:G8 X.K X.w.params X.mg x d l) (hi:PE X i ty) (hs:G6 i) (hd:(x == ("__debug__":Str))=false:=by decide):PE X (.Subscript (.Name x p) i pos) (fun σ H Q=>ty σ H fun y H1=>E2 l y H1 Q):=by
 intro pins s σ H Q I h;refine BI PySem.F.slot_dict_getitem.lookup hs (thn (s_ (v:=.ref d) hg D.mg rfl hd pins s σ H (fun v H'=>v=.ref d/\H'=H) I ⟨rfl,rfl⟩) fun u s1 ⟨v,H1,I1,rv,e1,e2⟩=>?_);subst e1;subst e2;obtain rfl:u=.ref d:=rv;refine thn (hi pins s1 σ _ _ I1 h) fun iv s2 ⟨y,H2,I2,ry,k,f,ey,el,q⟩=>?_;subst ey;obtain⟨t,rfl⟩:=ry;obtain⟨es,n,lk,kl⟩:=D.ex;have hm:=PySem.W.mapOf_K (prog:=X.prog) (w:=X.w) I2.kIn lk kl;exact⟨hm.typeIs,wpAny_getItem_of (strKind_is X.prog X.w k t) hm (PySem.W.find_K lk (D.it.at el)) ⟨.ref f,H2,I2.tok _,rfl,q⟩⟩
theorem Ab {sp:Sp} (lk:∃ oc od sl,X.K.lookup f=some ⟨oc,od,.func fd,sl⟩) (F:aM X.prog X.w X.K X.mg X.base CX0 k f fd ps sp) (hr:bJ k X.A) (hb:Binds X.K fd ps []) (hN:X.N[j]?=some x) (hv:Vis X.env.scope x) (ha:PA X (e::es) t)
  (hdb:(x == ("__debug__":Str))=false:=by decide) (hcd:(x == ("__classdict__":Str))=false:=by decide) (he:starEach (e::es) X.env=(false,eval e X.env)::starEach es X.env:=by rfl) (hpl:(backTo pos (starEach es X.env)).any (·.1)=false:=by rfl) :
  PE X (.Call (.Name x p) (e::es) [] pos) (mx j f sp t):=by
 intro pins s σ H Q I ⟨h1,h2⟩;obtain⟨oc,od,sl,lk⟩:=lk;have fa:∀ {h:Heap},X.K.In h->PySem.W.FnAt f h:=fun {h} z=>⟨oc,od,fd,sl,z _ _ lk⟩;refine wpAny_Call_Name_kw (thn (pA (i:=j) hN hv hdb hcd pins s σ H (fun v H'=>v=.ref f/\H'=H) I ⟨_,h1,rfl,rfl⟩) fun u s1 ⟨v,H',I1,rv,e1,e2⟩=>?_);subst e1;subst e2;obtain rfl:u=.ref f:=rv;refine PySem.W.callWith_F (fa I1.kIn) (thn (ha pos pins s1 σ _ _ I1 h2) fun us s2 ⟨vs,H2,I2,r,z⟩=>⟨fa I2.kIn,?_⟩) he hpl;exact mF (dvs:=[]) (ds:=[]) F hr hb .nil pB I2 r (by rw[List.append_nil];exact z)
end
end L2
namespace L3
open PySem L2 PySem.Spec PyProof.Rows
section
variable {K:Fg0} {X:Cx} {x:Str} {d f:Addr} {l:List (Str×Addr)} {p pos:Pos} {a b e:Expr} {ta tb:TE} {a3 b3:TB3} {es:List Expr} {t:TA} {t3:cY} {k j n:Nat} {fd:FuncData} {ps:Ls} {S:S3}
theorem Cs (ha:P3B K X a ta a3) (hb:P3B K X b tb b3):P3 K X (.BinOp a .BitAnd b pos) (tOp (rI0 fun i j=>.int (Builtin.bitAnd i j)) ta tb) (cJ (i2' fun i j=>.int (Builtin.bitAnd i j)) a3 b3):=⟨lF FG ha.pe hb.pe,fG (tD fun _ _ _=>rfl) ha.rf hb.rf⟩
def Ku (l:List (Str×Addr)) (y:D) (Γ:G) (Q:RV->G->Prop):Prop:=∃ k f,y=.str k/\l.lookup k=some f/\Q (.fz (.adr f)) Γ
theorem Cr (hg:Gl X x) (D:G8 X.K X.w.params X.mg x d l) (hi:P3B K X a ta a3) (hs:G6 a:=by intro _ _;rfl) (hd:(x == ("__debug__":Str))=false:=by decide):P3 K X (.Subscript (.Name x p) a pos) (fun σ H Q=>ta σ H fun y H1=>E2 l y H1 Q) (yc (Ku l) a3):=
 ⟨Cj hg D hi.pe hs hd,vH (r:=E2 l) (by
  intro B F σ H Γ x dx Q QQ e rx ⟨k,f,h1,h2,q⟩ kk;subst h1;cases rx;exact⟨k,f,rfl,h2,kk _ _ (gx (d:=.adr f) e rfl q)⟩) hi.rf⟩
def Bh (j n:Nat) (f:Addr) (S:S3) (t3:cY) (Γ:G) (Q:RV->G->Prop):Prop:=Γ[j]?=some (some (.fz (.adr f)))/\t3 Γ fun bs Γ1=>bs.length=n/\(bN bs).Nodup/\S (du Γ1 (bs.map some)) fun r Γa=>Q r (bB ((bs.map some).map bZ) Γ1 Γa)
theorem ym (h:qx K t t3):Ref K (mx j f (sp3 K n S) t) (Bh j n f S t3):=by
 intro B F σ H Γ Q QQ e ⟨hi,qq⟩ kk;obtain⟨y,hy,ry⟩:=e.fz j _ hi;obtain rfl:y=.ref f:=ry;refine⟨hy,h B F σ H Γ _ _ e qq fun vs H1 ⟨F1,Γ1,bs,s1,e1,r1,hn,nd,q1⟩=>?_⟩;refine⟨by rw[r1.length];exact hn,F1,_,_,_,e1.args r1 nd,jS,q1,fun r Γa q v H' F' e2 rv=>?_⟩;obtain⟨a,b,c⟩:=e1.called e2 rv;exact kk v H' ⟨F',_,r,s1.trans a,b,c,q⟩
theorem pJ {y q:Str} {st:Stmt} (Fn:Fun X.K y q st f fd) (F:aM X.prog X.w X.K X.mg X.base CX0 k f fd ps (sp3 K n S)) (hr:bJ k X.A) (hb:Binds X.K fd ps []) (hN:X.N[j]?=some x) (hv:Vis X.env.scope x) (ha:oo K X (e::es) t t3)
  (hdb:(x == ("__debug__":Str))=false:=by decide) (hcd:(x == ("__classdict__":Str))=false:=by decide) (he:starEach (e::es) X.env=(false,eval e X.env)::starEach es X.env:=by rfl) (hpl:(backTo pos (starEach es X.env)).any (·.1)=false:=by rfl) :
  P3 K X (.Call (.Name x p) (e::es) [] pos) (mx j f (sp3 K n S) t) (Bh j n f S t3):=⟨Ab (by obtain⟨oc,od,_,_,_,_,_,_,sl,_,lk,_⟩:=Fn.ex;exact⟨oc,od,sl,lk⟩) F hr hb hN hv ha.pe hdb hcd he hpl,ym ha.rf⟩
end
end L3
namespace L2
open PySem PySem.Spec PyProof.Rows
abbrev cy (h:Heap) (T:Addr) (a b c:Value):Prop:=h.get? T=some { cls:=.type "tuple",data:=.seq #[a,b,c] }
structure Z3A (z TI TO i1 i2 i3:Addr):Prop where
 Iz:TI≠z
 Oz:TO≠z
 az:i1≠z
 bz:i2≠z
 cz:i3≠z
 IO:TI≠TO
 Ia:TI≠i1
 Ib:TI≠i2
 Ic:TI≠i3
 Oa:TO≠i1
 Ob:TO≠i2
 Oc:TO≠i3
 ab:i1≠i2
 ac:i1≠i3
 bc:i2≠i3
structure Z3L (l z TO i1 i2 i3:Addr):Prop where
 z:l≠z
 O:l≠TO
 a:l≠i1
 b:l≠i2
 c:l≠i3
structure Z3I (h:Heap) (TI i1 i2 i3 l1 l2 l3:Addr) (k:Nat):Prop where
 I:cy h TI (.ref i1) (.ref i2) (.ref i3)
 a:h.IsListIter i1 l1 k
 b:h.IsListIter i2 l2 k
 c:h.IsListIter i3 l3 k
structure Z3M (h:Heap) (l1 l2 l3:Addr) (xs ys zs:Array Value):Prop where
 a:h.IsList l1 xs
 b:h.IsList l2 ys
 c:h.IsList l3 zs
section
variable {prog:Program} {w:World} {A:Around} {E:VS} {s:Shared} {z TI TO i1 i2 i3 l1 l2 l3:Addr} {k:Nat} {xs ys zs:Array Value}
theorem k8 {T:Addr} {a b c x:Value} {k:Nat} {Q:Unit->Shared->Prop} (hT:cy s.heap T a b c)
  (h:∀ h',h'.get? T=some { cls:=.type "tuple",data:=.seq ((#[a,b,c]:Array Value).setIfInBounds k x) }->Heap.SameBut T s.heap h'->Q () { s with heap:=h' }):wpAny (model prog w) A (updateSeq T (·.setIfInBounds k x)) Q E s:=by
 refine wpAny_updateSeq hT rfl (h _ ?_ (Heap.SameBut.update ..));rw[Heap.get?_update_self _ hT rfl];simp [Obj.mapSeq]
theorem vv {x y v a b c:Value} {Q:VS} (D:Z3A z TI TO i1 i2 i3) (L1:Z3L l1 z TO i1 i2 i3) (L2:Z3L l2 z TO i1 i2 i3) (L3:Z3L l3 z TO i1 i2 i3) (e0:IsZip s.heap z TI TO .none) (eO:cy s.heap TO a b c) (J:Z3I s.heap TI i1 i2 i3 l1 l2 l3 k) (M:Z3M s.heap l1 l2 l3 xs ys zs)
  (hx:xs[k]?=some x) (hy:ys[k]?=some y) (hv:zs[k]?=some v)
  (hQ:∀ h',bM h' z TI TO s.heap.objs.size false->(∃ o,h'.get? TO=some o)->h'.IsListIter i1 l1 (k + 1)->h'.IsListIter i2 l2 (k + 1)->h'.IsListIter i3 l3 (k + 1)->cy h' s.heap.objs.size x y v->(∀ c o,c∉[z,TO,i1,i2,i3]->s.heap.get? c=some o->h'.get? c=some o)->Q (.ref s.heap.objs.size) { s with heap:=h' }) :
  wpAny (model prog w) A (Builtin.«zip.__next__» ⟨[.ref z],[]⟩) (fun fin s'=>∃ v,fin=.done (.ret v)/\Q v s') E s:=by
 obtain⟨eI,j1,j2,j3⟩:=J;obtain⟨m1,m2,m3⟩:=M;show wpAny _ _ (field (.ref z) 2 >>= fun a=>_) _ _ _;refine wpAny_bind (wpAny_field e0 rfl (x:=.bool false) rfl ?_);show wpAny _ _ (field (.ref z) 3 >>= fun a=>_) _ _ _;refine wpAny_bind (wpAny_field e0 rfl (x:=.ref TI) rfl (wpAny_bind (wpAny_seqItems eI rfl ?_)));show wpAny _ _ (Builtin.SmallTypes.ownedTupleIsFree (.ref z) >>= fun a=>_) _ _ _;refine wpAny_bind ?_;unfold Builtin.SmallTypes.ownedTupleIsFree;refine wpAny_bind (wpAny_field e0 rfl (x:=.none) rfl (wpAny_pure ?_));simp only[if_true];refine wpAny_bind (wpAny_rule (wpAny_bind (wpAny_field e0 rfl (x:=.ref TO) rfl (wpAny_bind (wpAny_setField_rec e0 (by simp) fun g1 e1 s1=>?_)))));replace e1:IsZip g1 z TI TO .ellipsis:=e1;refine wpAny_bind ?_;simp only[List.zipIdx_cons,List.zipIdx_nil,List.forIn_cons,List.forIn_nil];refine wpAny_bind (wpAny_bind (wpAny_onRaise ?_));show wpAny _ _ (Builtin.SmallTypes.nextOf (.ref i1) >>= fun a=>_) _ _ _;refine wpAny_bind (wpAny_nextOf_list_item (j1.extBut s1.extBut D.az) (m1.extBut s1.extBut L1.z) hx fun g2 d1 s2=>wpAny_pure ?_);have o2:cy g2 TO a b c:=s2.extBut _ _ D.Oa (s1.extBut _ _ D.Oz eO);refine wpAny_bind (wpAny_seqItems o2 rfl (wpAny_bind (k8 o2 fun g3 o3 s3=>wpAny_bind (wpAny_letGo (wpAny_pure ?_)))));replace o3:cy g3 TO x b c:=o3;refine wpAny_bind (wpAny_bind (wpAny_onRaise ?_));show wpAny _ _ (Builtin.SmallTypes.nextOf (.ref i2) >>= fun a=>_) _ _ _;refine wpAny_bind (wpAny_nextOf_list_item (((j2.extBut s1.extBut D.bz).extBut s2.extBut D.ab.symm).extBut s3.extBut D.Ob.symm) (((m2.extBut s1.extBut L2.z).extBut s2.extBut L2.a).extBut s3.extBut L2.O) hy fun g4 d2 s4=>wpAny_pure ?_);have o4:cy g4 TO x b c:=s4.extBut _ _ D.Ob o3;refine wpAny_bind (wpAny_seqItems o4 rfl (wpAny_bind (k8 o4 fun g5 o5 s5=>wpAny_bind (wpAny_letGo (wpAny_pure ?_)))));replace o5:cy g5 TO x y c:=o5;refine wpAny_bind (wpAny_bind (wpAny_onRaise ?_));show wpAny _ _ (Builtin.SmallTypes.nextOf (.ref i3) >>= fun a=>_) _ _ _;refine wpAny_bind (wpAny_nextOf_list_item (((((j3.extBut s1.extBut D.cz).extBut s2.extBut D.ac.symm).extBut s3.extBut D.Oc.symm).extBut s4.extBut D.bc.symm).extBut s5.extBut D.Oc.symm) (((((m3.extBut s1.extBut L3.z).extBut s2.extBut L3.a).extBut s3.extBut L3.O).extBut s4.extBut L3.b).extBut s5.extBut L3.O) hv fun g6 d3 s6=>wpAny_pure ?_);have o6:cy g6 TO x y c:=s6.extBut _ _ D.Oc o5;refine wpAny_bind (wpAny_seqItems o6 rfl (wpAny_bind (k8 o6 fun g7 o7 s7=>wpAny_bind (wpAny_letGo (wpAny_pure (wpAny_pure ?_))))));replace o7:cy g7 TO x y v:=o7;refine wpAny_bind (wpAny_seqItems o7 rfl (wpAny_bind (wpAny_newTuple ?_)));have sz:g7.objs.size=s.heap.objs.size:=by rw[s7.1,s6.1,s5.1,s4.1,s3.1,s2.1,s1.1]
 have e7:IsZip g7 z TI TO .ellipsis:=s7.extBut _ _ D.Oz.symm (s6.extBut _ _ D.cz.symm (s5.extBut _ _ D.Oz.symm (s4.extBut _ _ D.bz.symm (s3.extBut _ _ D.Oz.symm (s2.extBut _ _ D.az.symm e1)))));have k7:∀ c o,c∉[z,TO,i1,i2,i3]->s.heap.get? c=some o->g7.get? c=some o:=fun c o n e=>by
  simp only[List.mem_cons,List.not_mem_nil,or_false,not_or] at n;exact s7.extBut _ _ n.2.1 (s6.extBut _ _ n.2.2.2.2 (s5.extBut _ _ n.2.1 (s4.extBut _ _ n.2.2.2.1 (s3.extBut _ _ n.2.1 (s2.extBut _ _ n.2.2.1 (s1.extBut _ _ n.1 e))))))
 have q1:g7.IsListIter i1 l1 (k + 1):=((((d1.extBut s3.extBut D.Oa.symm).extBut s4.extBut D.ab).extBut s5.extBut D.Oa.symm).extBut s6.extBut D.ac).extBut s7.extBut D.Oa.symm;have q2:g7.IsListIter i2 l2 (k + 1):=((d2.extBut s5.extBut D.Ob.symm).extBut s6.extBut D.bc).extBut s7.extBut D.Ob.symm;have q3:g7.IsListIter i3 l3 (k + 1):=d3.extBut s7.extBut D.Oc.symm;have zl:z < g7.objs.size:=Heap.lt_size e7;show wpAny _ _ (Builtin.SmallTypes.ownedTupleHandOut (.ref z) (.ref g7.objs.size) >>= fun a=>_) _ _ _;refine wpAny_bind ?_;unfold Builtin.SmallTypes.ownedTupleHandOut;have e8:IsZip (g7.push { cls:=.type "tuple",data:=.seq #[x,y,v] }) z TI TO .ellipsis:=Heap.get?_push_of_some _ e7;refine wpAny_bind (wpAny_setField_rec e8 (by simp) fun g9 e9 s9=>?_);replace e9:IsZip g9 z TI TO (rawInt g7.objs.size):=e9;refine wpAny_setField_rec e9 (by simp) fun ga ea sa=>?_;replace ea:bM ga z TI TO g7.objs.size false:=ea;have up:∀ c o,c≠z->g7.get? c=some o->ga.get? c=some o:=fun c o n e=>sa.extBut _ _ n (s9.extBut _ _ n (Heap.get?_push_of_some _ e));have tr:cy ga g7.objs.size x y v:=sa.extBut _ _ (Nat.ne_of_gt zl) (s9.extBut _ _ (Nat.ne_of_gt zl) (Heap.get?_push_size _ rfl));rw[sz] at ea tr;refine wpAny_pure ⟨_,rfl,?_⟩;show Q (.ref g7.objs.size) _;rw[sz];exact hQ ga ea ⟨_,up _ _ D.Oz o7⟩ (q1.at fun o e=>up _ o D.az e) (q2.at fun o e=>up _ o D.bz e) (q3.at fun o e=>up _ o D.cz e) tr fun c o n e=>up c o (fun y=>n (by simp [y])) (k7 c o n e)
theorem x6 {T:Addr} {f:Bool} {ob:Obj} {x y v:Value} {Q:VS} (D:Z3A z TI TO i1 i2 i3) (L1:Z3L l1 z TO i1 i2 i3) (L2:Z3L l2 z TO i1 i2 i3) (L3:Z3L l3 z TO i1 i2 i3) (e0:bM s.heap z TI TO T f) (eT:s.heap.get? T=some ob) (J:Z3I s.heap TI i1 i2 i3 l1 l2 l3 k) (M:Z3M s.heap l1 l2 l3 xs ys zs)
  (hx:xs[k]?=some x) (hy:ys[k]?=some y) (hv:zs[k]?=some v)
  (hQ:∀ h',bM h' z TI TO T true->h'.IsListIter i1 l1 (k + 1)->h'.IsListIter i2 l2 (k + 1)->h'.IsListIter i3 l3 (k + 1)->cy h' s.heap.objs.size x y v->(∀ c o,c∉[z,i1,i2,i3]->s.heap.get? c=some o->h'.get? c=some o)->Q (.ref s.heap.objs.size) { s with heap:=h' }) :
  wpAny (model prog w) A (Builtin.«zip.__next__» ⟨[.ref z],[]⟩) (fun fin s'=>∃ v,fin=.done (.ret v)/\Q v s') E s:=by
 obtain⟨eI,j1,j2,j3⟩:=J;obtain⟨m1,m2,m3⟩:=M;show wpAny _ _ (field (.ref z) 2 >>= fun a=>_) _ _ _;refine wpAny_bind (wpAny_field e0 rfl (x:=.bool false) rfl ?_);show wpAny _ _ (field (.ref z) 3 >>= fun a=>_) _ _ _;refine wpAny_bind (wpAny_field e0 rfl (x:=.ref TI) rfl (wpAny_bind (wpAny_seqItems eI rfl ?_)));show wpAny _ _ (Builtin.SmallTypes.ownedTupleIsFree (.ref z) >>= fun a=>_) _ _ _;refine wpAny_bind (oK e0 eT fun g1 e1 s1=>?_);simp only[Bool.false_eq_true,if_false];rw[List.forIn_toArray];refine wpAny_bind ?_;rw[List.forIn_cons];refine wpAny_bind (wpAny_bind (wpAny_holding ?_));show wpAny _ _ (Builtin.SmallTypes.nextOf (.ref i1) >>= fun v=>pure (some v)) _ _ _;refine wpAny_bind (wpAny_nextOf_list_item (j1.extBut s1.extBut D.az) (m1.extBut s1.extBut L1.z) hx fun g2 d1 s2=>wpAny_pure (wpAny_pure ?_));show wpAny _ _ (forIn [Value.ref i2,Value.ref i3] _ _) _ _ _;rw[List.forIn_cons];refine wpAny_bind (wpAny_bind (wpAny_holding ?_));show wpAny _ _ (Builtin.SmallTypes.nextOf (.ref i2) >>= fun v=>pure (some v)) _ _ _;refine wpAny_bind (wpAny_nextOf_list_item ((j2.extBut s1.extBut D.bz).extBut s2.extBut D.ab.symm) ((m2.extBut s1.extBut L2.z).extBut s2.extBut L2.a) hy fun g3 d2 s3=>wpAny_pure (wpAny_pure ?_));show wpAny _ _ (forIn [Value.ref i3] _ _) _ _ _;rw[List.forIn_cons];refine wpAny_bind (wpAny_bind (wpAny_holding ?_));show wpAny _ _ (Builtin.SmallTypes.nextOf (.ref i3) >>= fun v=>pure (some v)) _ _ _;refine wpAny_bind (wpAny_nextOf_list_item (((j3.extBut s1.extBut D.cz).extBut s2.extBut D.ac.symm).extBut s3.extBut D.bc.symm) (((m3.extBut s1.extBut L3.z).extBut s2.extBut L3.a).extBut s3.extBut L3.b) hv fun g4 d3 s4=>wpAny_pure (wpAny_pure ?_));show wpAny _ _ (forIn ([]:Lv) _ _) _ _ _;rw[List.forIn_nil];refine wpAny_pure ?_;show wpAny _ _ (newTuple [x,y,v] >>= fun t=>ret t) _ _ _;refine wpAny_bind (wpAny_newTuple (wpAny_pure ⟨_,rfl,?_⟩));have sz:g4.objs.size=s.heap.objs.size:=by rw[s4.1,s3.1,s2.1,s1.1]
 have e4:bM g4 z TI TO T true:=s4.extBut _ _ D.cz.symm (s3.extBut _ _ D.bz.symm (s2.extBut _ _ D.az.symm e1));have q:=hQ (g4.push { cls:=.type "tuple",data:=.seq #[x,y,v] }) (Heap.get?_push_of_some _ e4) (((d1.extBut s3.extBut D.ab).extBut s4.extBut D.ac).at fun o e=>Heap.get?_push_of_some _ e) ((d2.extBut s4.extBut D.bc).at fun o e=>Heap.get?_push_of_some _ e) (d3.at fun o e=>Heap.get?_push_of_some _ e)
  (by rw[<- sz];exact Heap.get?_push_size _ rfl) fun c o n e=>by
   simp only[List.mem_cons,List.not_mem_nil,or_false,not_or] at n;exact Heap.get?_push_of_some _ (s4.extBut _ _ n.2.2.2 (s3.extBut _ _ n.2.2.1 (s2.extBut _ _ n.2.1 (s1.extBut _ _ n.1 e))))
 rw[<- sz] at q;exact q
abbrev Ep (s:Shared) (ch:La) (E:VS):Prop:=∀ h' e,(∀ c o,c∉ch->s.heap.get? c=some o->h'.get? c=some o)->(∃ o,h'.get? e=some o/\o.cls=.type "StopIteration")->E (.ref e) { s with heap:=h' }
theorem x5 {a b c:Value} {Q:Fin->Shared->Prop} (hh:A.handled=none) (D:Z3A z TI TO i1 i2 i3) (L1:Z3L l1 z TO i1 i2 i3) (L2:Z3L l2 z TO i1 i2 i3) (L3:Z3L l3 z TO i1 i2 i3) (e0:IsZip s.heap z TI TO .none) (eO:cy s.heap TO a b c) (J:Z3I s.heap TI i1 i2 i3 l1 l2 l3 k) (M:Z3M s.heap l1 l2 l3 xs ys zs)
  (he:xs[k]?=none\/ys[k]?=none\/zs[k]?=none) (hE:Ep s [z,TO,i1,i2,i3] E):wpAny (model prog w) A (Builtin.«zip.__next__» ⟨[.ref z],[]⟩) Q E s:=by
 obtain⟨eI,j1,j2,j3⟩:=J;obtain⟨m1,m2,m3⟩:=M;show wpAny _ _ (field (.ref z) 2 >>= fun a=>_) _ _ _;refine wpAny_bind (wpAny_field e0 rfl (x:=.bool false) rfl ?_);show wpAny _ _ (field (.ref z) 3 >>= fun a=>_) _ _ _;refine wpAny_bind (wpAny_field e0 rfl (x:=.ref TI) rfl (wpAny_bind (wpAny_seqItems eI rfl ?_)));show wpAny _ _ (Builtin.SmallTypes.ownedTupleIsFree (.ref z) >>= fun a=>_) _ _ _;refine wpAny_bind ?_;unfold Builtin.SmallTypes.ownedTupleIsFree;refine wpAny_bind (wpAny_field e0 rfl (x:=.none) rfl (wpAny_pure ?_));simp only[if_true];refine wpAny_bind (wpAny_rule (wpAny_bind (wpAny_field e0 rfl (x:=.ref TO) rfl (wpAny_bind (wpAny_setField_rec e0 (by simp) fun g1 e1 s1=>?_)))));replace e1:IsZip g1 z TI TO .ellipsis:=e1;refine wpAny_bind ?_;simp only[List.zipIdx_cons,List.zipIdx_nil,List.forIn_cons,List.forIn_nil];have fin:∀ {i:Addr} {g g':Heap} {e:Addr},i≠z->IsZip g z TI TO .ellipsis->i∈[z,TO,i1,i2,i3]->(∀ c o,c∉[z,TO,i1,i2,i3]->s.heap.get? c=some o->g.get? c=some o)->(∀ c o,c≠i->g.get? c=some o->g'.get? c=some o)->(∃ o,g'.get? e=some o/\o.cls=.type "StopIteration")->
   wpAny (model prog w) A (setField (.ref z) 0 .none) (fun _=>E (.ref e)) E { s with heap:=g' }:=fun {i g g' e} nz eg hi hk hk' he=>by
  obtain⟨oe,ho,hc⟩:=he;have eg':IsZip g' z TI TO .ellipsis:=hk' _ _ nz.symm eg;have ez:e≠z:=fun x=>by subst x;rw[eg'] at ho;cases ho;simp at hc
  exact wpAny_setField_rec eg' (by simp) fun g2 _ s2=>hE g2 e (fun c o n x=>s2.extBut _ _ (fun y=>n (by simp [y])) (hk' c o (fun y=>n (y ▸ hi)) (hk c o n x))) ⟨oe,s2.extBut _ _ ez ho,hc⟩
 have k1:∀ c o,c∉[z,TO,i1,i2,i3]->s.heap.get? c=some o->g1.get? c=some o:=fun c o n x=>s1.extBut _ _ (fun y=>n (by simp [y])) x;refine wpAny_bind (wpAny_bind (wpAny_onRaise ?_));show wpAny _ _ (Builtin.SmallTypes.nextOf (.ref i1) >>= fun a=>_) _ _ _;cases hx:xs[k]? with
 | none=>exact wpAny_bind (wpAny_nextOf_list_end hh (j1.extBut s1.extBut D.az) (m1.extBut s1.extBut L1.z) hx fun g2 e s2 he=>fin D.az e1 (by simp) k1 s2 he)
 | some x=>
  refine wpAny_bind (wpAny_nextOf_list_item (j1.extBut s1.extBut D.az) (m1.extBut s1.extBut L1.z) hx fun g2 d1 s2=>wpAny_pure ?_);have o2:cy g2 TO a b c:=s2.extBut _ _ D.Oa (s1.extBut _ _ D.Oz eO);refine wpAny_bind (wpAny_seqItems o2 rfl (wpAny_bind (k8 o2 fun g3 o3 s3=>wpAny_bind (wpAny_letGo (wpAny_pure ?_)))));replace o3:cy g3 TO x b c:=o3;have e3:IsZip g3 z TI TO .ellipsis:=s3.extBut _ _ D.Oz.symm (s2.extBut _ _ D.az.symm e1);have k3:∀ c o,c∉[z,TO,i1,i2,i3]->s.heap.get? c=some o->g3.get? c=some o:=fun c o n x=>s3.extBut _ _ (fun y=>n (by simp [y])) (s2.extBut _ _ (fun y=>n (by simp [y])) (k1 c o n x));refine wpAny_bind (wpAny_bind (wpAny_onRaise ?_));show wpAny _ _ (Builtin.SmallTypes.nextOf (.ref i2) >>= fun a=>_) _ _ _;have t2:=((j2.extBut s1.extBut D.bz).extBut s2.extBut D.ab.symm).extBut s3.extBut D.Ob.symm;have n2:=((m2.extBut s1.extBut L2.z).extBut s2.extBut L2.a).extBut s3.extBut L2.O;cases hy:ys[k]? with
  | none=>exact wpAny_bind (wpAny_nextOf_list_end hh t2 n2 hy fun g4 e s4 he=>fin D.bz e3 (by simp) k3 s4 he)
  | some y=>
   refine wpAny_bind (wpAny_nextOf_list_item t2 n2 hy fun g4 d2 s4=>wpAny_pure ?_);have o4:cy g4 TO x b c:=s4.extBut _ _ D.Ob o3;refine wpAny_bind (wpAny_seqItems o4 rfl (wpAny_bind (k8 o4 fun g5 o5 s5=>wpAny_bind (wpAny_letGo (wpAny_pure ?_)))));have e5:IsZip g5 z TI TO .ellipsis:=s5.extBut _ _ D.Oz.symm (s4.extBut _ _ D.bz.symm e3);have k5:∀ c o,c∉[z,TO,i1,i2,i3]->s.heap.get? c=some o->g5.get? c=some o:=fun c o n x=>s5.extBut _ _ (fun y=>n (by simp [y])) (s4.extBut _ _ (fun y=>n (by simp [y])) (k3 c o n x));have hv:zs[k]?=none:=by
    rcases he with q | q | q
    ·rw[hx] at q;cases q
    ·rw[hy] at q;cases q
    ·exact q
   refine wpAny_bind (wpAny_bind (wpAny_onRaise ?_));show wpAny _ _ (Builtin.SmallTypes.nextOf (.ref i3) >>= fun a=>_) _ _ _;exact wpAny_bind (wpAny_nextOf_list_end hh (((((j3.extBut s1.extBut D.cz).extBut s2.extBut D.ac.symm).extBut s3.extBut D.Oc.symm).extBut s4.extBut D.bc.symm).extBut s5.extBut D.Oc.symm) (((((m3.extBut s1.extBut L3.z).extBut s2.extBut L3.a).extBut s3.extBut L3.O).extBut s4.extBut L3.b).extBut s5.extBut L3.O) hv fun g6 e s6 he=>fin D.cz e5 (by simp) k5 s6 he)
theorem xZ {T:Addr} {f:Bool} {ob:Obj} {Q:Fin->Shared->Prop} (hh:A.handled=none) (D:Z3A z TI TO i1 i2 i3) (L1:Z3L l1 z TO i1 i2 i3) (L2:Z3L l2 z TO i1 i2 i3) (L3:Z3L l3 z TO i1 i2 i3) (e0:bM s.heap z TI TO T f) (eT:s.heap.get? T=some ob) (J:Z3I s.heap TI i1 i2 i3 l1 l2 l3 k) (M:Z3M s.heap l1 l2 l3 xs ys zs)
  (he:xs[k]?=none\/ys[k]?=none\/zs[k]?=none) (hE:Ep s [z,i1,i2,i3] E):wpAny (model prog w) A (Builtin.«zip.__next__» ⟨[.ref z],[]⟩) Q E s:=by
 obtain⟨eI,j1,j2,j3⟩:=J;obtain⟨m1,m2,m3⟩:=M;show wpAny _ _ (field (.ref z) 2 >>= fun a=>_) _ _ _;refine wpAny_bind (wpAny_field e0 rfl (x:=.bool false) rfl ?_);show wpAny _ _ (field (.ref z) 3 >>= fun a=>_) _ _ _;refine wpAny_bind (wpAny_field e0 rfl (x:=.ref TI) rfl (wpAny_bind (wpAny_seqItems eI rfl ?_)));show wpAny _ _ (Builtin.SmallTypes.ownedTupleIsFree (.ref z) >>= fun a=>_) _ _ _;refine wpAny_bind (oK e0 eT fun g1 e1 s1=>?_);simp only[Bool.false_eq_true,if_false];have k1:∀ c o,c∉[z,i1,i2,i3]->s.heap.get? c=some o->g1.get? c=some o:=fun c o n x=>s1.extBut _ _ (fun y=>n (by simp [y])) x;rw[List.forIn_toArray];refine wpAny_bind ?_;rw[List.forIn_cons];refine wpAny_bind (wpAny_bind (wpAny_holding ?_));show wpAny _ _ (Builtin.SmallTypes.nextOf (.ref i1) >>= fun v=>pure (some v)) _ _ _;cases hx:xs[k]? with
 | none=>exact wpAny_bind (wpAny_nextOf_list_end hh (j1.extBut s1.extBut D.az) (m1.extBut s1.extBut L1.z) hx fun g2 e s2 he=>hE g2 e (fun c o n x=>s2 c o (fun y=>n (by simp [y])) (k1 c o n x)) he)
 | some x=>
  refine wpAny_bind (wpAny_nextOf_list_item (j1.extBut s1.extBut D.az) (m1.extBut s1.extBut L1.z) hx fun g2 d1 s2=>wpAny_pure (wpAny_pure ?_));have k2:∀ c o,c∉[z,i1,i2,i3]->s.heap.get? c=some o->g2.get? c=some o:=fun c o n x=>s2.extBut _ _ (fun y=>n (by simp [y])) (k1 c o n x);show wpAny _ _ (forIn [Value.ref i2,Value.ref i3] _ _) _ _ _;rw[List.forIn_cons];refine wpAny_bind (wpAny_bind (wpAny_holding ?_));show wpAny _ _ (Builtin.SmallTypes.nextOf (.ref i2) >>= fun v=>pure (some v)) _ _ _;cases hy:ys[k]? with
  | none=>exact wpAny_bind (wpAny_nextOf_list_end hh ((j2.extBut s1.extBut D.bz).extBut s2.extBut D.ab.symm) ((m2.extBut s1.extBut L2.z).extBut s2.extBut L2.a) hy fun g3 e s3 he=>hE g3 e (fun c o n x=>s3 c o (fun y=>n (by simp [y])) (k2 c o n x)) he)
  | some y=>
   refine wpAny_bind (wpAny_nextOf_list_item ((j2.extBut s1.extBut D.bz).extBut s2.extBut D.ab.symm) ((m2.extBut s1.extBut L2.z).extBut s2.extBut L2.a) hy fun g3 d2 s3=>wpAny_pure (wpAny_pure ?_));have k3:∀ c o,c∉[z,i1,i2,i3]->s.heap.get? c=some o->g3.get? c=some o:=fun c o n x=>s3.extBut _ _ (fun y=>n (by simp [y])) (k2 c o n x);have hv:zs[k]?=none:=by
    rcases he with q | q | q
    ·rw[hx] at q;cases q
    ·rw[hy] at q;cases q
    ·exact q
   show wpAny _ _ (forIn [Value.ref i3] _ _) _ _ _;rw[List.forIn_cons];refine wpAny_bind (wpAny_bind (wpAny_holding ?_));show wpAny _ _ (Builtin.SmallTypes.nextOf (.ref i3) >>= fun v=>pure (some v)) _ _ _;exact wpAny_bind (wpAny_nextOf_list_end hh (((j3.extBut s1.extBut D.cz).extBut s2.extBut D.ac.symm).extBut s3.extBut D.bc.symm) (((m3.extBut s1.extBut L3.z).extBut s2.extBut L3.a).extBut s3.extBut L3.b) hv fun g4 e s4 he=>hE g4 e (fun c o n x=>s4 c o (fun y=>n (by simp [y])) (k3 c o n x)) he)
theorem c9 {f0 f1:Value} (e:s.heap.get? z=some { cls:=.type "zip",dict:=none,data:=.fields #[f0,f1,.bool false,.ref TI,.ref TO],slots:=#[] }):s.TypeIs (.ref z) "zip":=⟨_,e,rfl⟩
theorem uU {x y v a b c:Value} {Q:Option Value->Shared->Prop} (D:Z3A z TI TO i1 i2 i3) (L1:Z3L l1 z TO i1 i2 i3) (L2:Z3L l2 z TO i1 i2 i3) (L3:Z3L l3 z TO i1 i2 i3) (e0:IsZip s.heap z TI TO .none) (eO:cy s.heap TO a b c) (J:Z3I s.heap TI i1 i2 i3 l1 l2 l3 k) (M:Z3M s.heap l1 l2 l3 xs ys zs)
  (hx:xs[k]?=some x) (hy:ys[k]?=some y) (hv:zs[k]?=some v)
  (hQ:∀ h',bM h' z TI TO s.heap.objs.size false->(∃ o,h'.get? TO=some o)->h'.IsListIter i1 l1 (k + 1)->h'.IsListIter i2 l2 (k + 1)->h'.IsListIter i3 l3 (k + 1)->cy h' s.heap.objs.size x y v->(∀ c o,c∉[z,TO,i1,i2,i3]->s.heap.get? c=some o->h'.get? c=some o)->Q (some (.ref s.heap.objs.size)) { s with heap:=h' }) :
  wpAny (model prog w) A (pyNext (.ref z)) Q E s:=by
 unfold pyNext;exact wpAny_bind (wpAny_attempt (wpAny_callSpecial?_slot (name:=Str.ofString "__next__") (c9 e0) F.slot_zip_next (wpAny_call_entry F.slot_zip_next (c9 e0) F.entry_zip_next
  (vv D L1 L2 L3 e0 eO J M hx hy hv fun h' a1 a2 a3 a4 a5 a6 a7=>wpAny_pure (hQ h' a1 a2 a3 a4 a5 a6 a7)) (F.args_zip_next_1 _))))
theorem vW {T:Addr} {f:Bool} {ob:Obj} {x y v:Value} {Q:Option Value->Shared->Prop} (D:Z3A z TI TO i1 i2 i3) (L1:Z3L l1 z TO i1 i2 i3) (L2:Z3L l2 z TO i1 i2 i3) (L3:Z3L l3 z TO i1 i2 i3) (e0:bM s.heap z TI TO T f) (eT:s.heap.get? T=some ob) (J:Z3I s.heap TI i1 i2 i3 l1 l2 l3 k) (M:Z3M s.heap l1 l2 l3 xs ys zs)
  (hx:xs[k]?=some x) (hy:ys[k]?=some y) (hv:zs[k]?=some v)
  (hQ:∀ h',bM h' z TI TO T true->h'.IsListIter i1 l1 (k + 1)->h'.IsListIter i2 l2 (k + 1)->h'.IsListIter i3 l3 (k + 1)->cy h' s.heap.objs.size x y v->(∀ c o,c∉[z,i1,i2,i3]->s.heap.get? c=some o->h'.get? c=some o)->Q (some (.ref s.heap.objs.size)) { s with heap:=h' }) :
  wpAny (model prog w) A (pyNext (.ref z)) Q E s:=by
 unfold pyNext;exact wpAny_bind (wpAny_attempt (wpAny_callSpecial?_slot (name:=Str.ofString "__next__") (c9 e0) F.slot_zip_next (wpAny_call_entry F.slot_zip_next (c9 e0) F.entry_zip_next
  (x6 D L1 L2 L3 e0 eT J M hx hy hv fun h' a1 a2 a3 a4 a5 a6=>wpAny_pure (hQ h' a1 a2 a3 a4 a5 a6)) (F.args_zip_next_1 _))))
theorem vV {a b c:Value} {Q:Option Value->Shared->Prop} (hh:A.handled=none) (D:Z3A z TI TO i1 i2 i3) (L1:Z3L l1 z TO i1 i2 i3) (L2:Z3L l2 z TO i1 i2 i3) (L3:Z3L l3 z TO i1 i2 i3) (e0:IsZip s.heap z TI TO .none) (eO:cy s.heap TO a b c) (J:Z3I s.heap TI i1 i2 i3 l1 l2 l3 k) (M:Z3M s.heap l1 l2 l3 xs ys zs)
  (he:xs[k]?=none\/ys[k]?=none\/zs[k]?=none) (hQ:∀ h',(∀ c o,c∉[z,TO,i1,i2,i3]->s.heap.get? c=some o->h'.get? c=some o)->Q none { s with heap:=h' }):wpAny (model prog w) A (pyNext (.ref z)) Q E s:=by
 unfold pyNext;refine wpAny_bind (wpAny_attempt (wpAny_callSpecial?_slot (name:=Str.ofString "__next__") (c9 e0) F.slot_zip_next (wpAny_call_entry F.slot_zip_next (c9 e0) F.entry_zip_next (x5 hh D L1 L2 L3 e0 eO J M he fun h' e hk ⟨o,ho,hc⟩=>?_) (F.args_zip_next_1 _))));exact wpAny_bind (wpAny_isInstance (T:="StopIteration") (b:=true) ⟨o,ho,hc⟩ isSubtype_stop (wpAny_pure (hQ _ hk)))
theorem vU {T:Addr} {f:Bool} {ob:Obj} {Q:Option Value->Shared->Prop} (hh:A.handled=none) (D:Z3A z TI TO i1 i2 i3) (L1:Z3L l1 z TO i1 i2 i3) (L2:Z3L l2 z TO i1 i2 i3) (L3:Z3L l3 z TO i1 i2 i3) (e0:bM s.heap z TI TO T f) (eT:s.heap.get? T=some ob) (J:Z3I s.heap TI i1 i2 i3 l1 l2 l3 k) (M:Z3M s.heap l1 l2 l3 xs ys zs)
  (he:xs[k]?=none\/ys[k]?=none\/zs[k]?=none) (hQ:∀ h',(∀ c o,c∉[z,i1,i2,i3]->s.heap.get? c=some o->h'.get? c=some o)->Q none { s with heap:=h' }):wpAny (model prog w) A (pyNext (.ref z)) Q E s:=by
 unfold pyNext;refine wpAny_bind (wpAny_attempt (wpAny_callSpecial?_slot (name:=Str.ofString "__next__") (c9 e0) F.slot_zip_next (wpAny_call_entry F.slot_zip_next (c9 e0) F.entry_zip_next (xZ hh D L1 L2 L3 e0 eT J M he fun h' e hk ⟨o,ho,hc⟩=>?_) (F.args_zip_next_1 _))));exact wpAny_bind (wpAny_isInstance (T:="StopIteration") (b:=true) ⟨o,ho,hc⟩ isSubtype_stop (wpAny_pure (hQ _ hk)))
abbrev z3H (h:Heap) (l:Addr):Heap:=h.push { cls:=.type "list_iterator",data:=.fields #[.ref l,.int 0 0] }
abbrev z3a (h:Heap) (l1 l2 l3:Addr):Heap:=z3H (z3H (z3H h l1) l2) l3
abbrev z3b (h:Heap) (l1 l2 l3:Addr):Heap:=(z3a h l1 l2 l3).push { cls:=.type "tuple",data:=.seq #[.ref h.objs.size,.ref (z3H h l1).objs.size,.ref (z3H (z3H h l1) l2).objs.size] }
abbrev z3c (h:Heap) (l1 l2 l3:Addr):Heap:=(z3b h l1 l2 l3).push { cls:=.type "tuple",data:=.seq #[.none,.none,.none] }
abbrev z3d (h:Heap) (l1 l2 l3:Addr):Heap:=(z3c h l1 l2 l3).push { cls:=.type "zip",data:=.fields #[.none,.bool false,.bool false,.ref (z3a h l1 l2 l3).objs.size,.ref (z3b h l1 l2 l3).objs.size] }
set_option maxHeartbeats 4000000 in
theorem vY (l1 l2 l3:Addr) (xs ys zs:Array Value) :
  Meets (Builtin.«zip.__new__» ⟨[.type "zip",.ref l1,.ref l2,.ref l3],[]⟩) (fun _ R s=>s.heap.IsList l1 xs/\s.heap.IsList l2 ys/\s.heap.IsList l3 zs/\R (.ok (.ret (.ref (z3c s.heap l1 l2 l3).objs.size))) { s with heap:=z3d s.heap l1 l2 l3 }):=
 .of_wp fun prog w A R s h=>by
  obtain⟨hp,g,d,tk,os⟩:=s;obtain⟨hl1,hl2,hl3,h⟩:=h;have hsub:=sub_zip;have hL1:Heap.IsList (Shared.heap ⟨hp,g,d,tk,os⟩) l1 xs:=hl1;have hL2:Heap.IsList (Shared.heap ⟨hp.push { cls:=.type "list_iterator",data:=.fields #[.ref l1,.int 0 0] },g,d,tk,os⟩) l2 ys:=Heap.IsList.push hl2 _;have hL3:Heap.IsList (Shared.heap ⟨(hp.push { cls:=.type "list_iterator",data:=.fields #[.ref l1,.int 0 0] }).push { cls:=.type "list_iterator",data:=.fields #[.ref l2,.int 0 0] },g,d,tk,os⟩) l3 zs:=Heap.IsList.push (Heap.IsList.push hl3 _) _
  wp_walk using wpAny_pyIter_list hL1,wpAny_pyIter_list hL2,wpAny_pyIter_list hL3
  exact⟨_,rfl,h⟩
theorem G_ (a b c:Value):checkTypeCall "zip" ⟨[a,b,c],[]⟩=pure ():=by kernel_rfl
theorem Ha (a b c:Value):checkBuiltinCall "zip.__new__" ⟨[.type "zip",a,b,c],[]⟩=pure ():=by kernel_rfl
theorem Hb (a b c d:Value):argsOk "object.__init__" ⟨[a,b,c,d],[]⟩:=by
 unfold argsOk;rw[signature?_of (id:="object.__init__") (n:=['_','_','t','i','n','i','_','_']) (o:=['t','c','e','j','b','o']) (by kernel_rfl) F.owner_object];kernel_rfl
theorem yR {Q:VS} (M:Z3M s.heap l1 l2 l3 xs ys zs)
  (h:∀ h',IsZip h' (s.heap.objs.size + 5) (s.heap.objs.size + 3) (s.heap.objs.size + 4) .none->cy h' (s.heap.objs.size + 4) .none .none .none->Z3I h' (s.heap.objs.size + 3) s.heap.objs.size (s.heap.objs.size + 1) (s.heap.objs.size + 2) l1 l2 l3 0->
   (∀ c o,s.heap.get? c=some o->h'.get? c=some o)->Q (.ref (s.heap.objs.size + 5)) { s with heap:=h' }):wpAny (model prog w) A (call (.type "zip") [.ref l1,.ref l2,.ref l3]) Q E s:=by
 refine callType_new F.called_zip (by decide) (G_ _ _ _) (Ha _ _ _) (fun obj=>Hb obj _ _ _) F.entry_zip_new (vY l1 l2 l3 xs ys zs) ⟨M.a,M.b,M.c,?_⟩;have p:∀ (g:Heap) (o:Obj),(g.push o).objs.size=g.objs.size + 1:=fun g o=>Heap.size_push ..;have e1:(z3H s.heap l1).objs.size=s.heap.objs.size + 1:=p _ _;have e2:(z3H (z3H s.heap l1) l2).objs.size=s.heap.objs.size + 2:=by rw[p,e1]
 have e3:(z3a s.heap l1 l2 l3).objs.size=s.heap.objs.size + 3:=by rw[p,e2]
 have e4:(z3b s.heap l1 l2 l3).objs.size=s.heap.objs.size + 4:=by rw[p,e3]
 have e5:(z3c s.heap l1 l2 l3).objs.size=s.heap.objs.size + 5:=by rw[p,e4]
 have up:∀ {g:Heap} {o u:Obj} {b:Addr},g.get? b=some u->(g.push o).get? b=some u:=fun e=>Heap.get?_push_of_some _ e;have g5:(z3d s.heap l1 l2 l3).get? (z3c s.heap l1 l2 l3).objs.size=some _:=Heap.get?_push_size _ rfl;have g4:(z3d s.heap l1 l2 l3).get? (z3b s.heap l1 l2 l3).objs.size=some _:=up (Heap.get?_push_size _ rfl);have g3:(z3d s.heap l1 l2 l3).get? (z3a s.heap l1 l2 l3).objs.size=some _:=up (up (Heap.get?_push_size _ rfl));have g2:(z3d s.heap l1 l2 l3).get? (z3H (z3H s.heap l1) l2).objs.size=some _:=up (up (up (Heap.get?_push_size _ rfl)));have g1:(z3d s.heap l1 l2 l3).get? (z3H s.heap l1).objs.size=some _:=up (up (up (up (Heap.get?_push_size _ rfl))));have g0:(z3d s.heap l1 l2 l3).get? s.heap.objs.size=some _:=up (up (up (up (up (Heap.get?_push_size _ rfl)))));show _/\_;rw[e3,e4,e5] at g5;rw[e4] at g4;rw[e1,e2,e3] at g3;rw[e2] at g2;rw[e1] at g1;rw[e5];exact⟨⟨_,g5,rfl⟩,h _ g5 g4 ⟨g3,⟨_,g0,rfl,rfl⟩,⟨_,g1,rfl,rfl⟩,⟨_,g2,rfl,rfl⟩⟩ fun c o x=>up (up (up (up (up (up x)))))⟩
end
section
variable {X:Cx} {pins:Pn} {σ:St} {H:Hp} {s:Shared}
theorem Inv.Ey {ch:La} {T:Addr} {x y w:V} {u v q:Value} {h':Heap} {t':Nat} (I:Inv X pins σ H s) (hch:∀ b∈ch,c5 X pins H b) (hT:s.heap.objs.size<=T)
  (hk:∀ b o,b∉ch->s.heap.get? b=some o->h'.get? b=some o) (ht:IsTup h' T #[u,v,q]) (ru:RelV x u) (rv:RelV y v) (rw:RelV w q):Inv X pins σ (upd H T (.tup [x,y,w])) { s with heap:=h',toks:=t' }:=by
 have nt:∀ {b:Addr} {u:HO},H b=some u->b∉ch:=fun e hb=>by rw[(hch _ hb).1] at e;cases e
 have fT:H T=none:=I.hok.fresh hT;have neT:∀ {b:Addr} {o:Obj},s.heap.get? b=some o->b≠T:=fun e=>Nat.ne_of_lt (Nat.lt_of_lt_of_le (Heap.lt_size e) hT);have neH:∀ {b:Addr} {u:HO},H b=some u->b≠T:=fun e z=>by rw[z,fT] at e;cases e
 refine I.step (g':=s.gens) (d':=s.drawn) (ch:=ch) (fun b hb=>⟨(hch b hb).2.2.2.1,(hch b hb).2.1,(hch b hb).2.2.2.2.1,(hch b hb).2.2.2.2.2⟩) (fun b o _ _ hc e _=>hk b o hc e) (fun b o _ _ hc e _=>⟨o.slots,hk b o hc e⟩) (fun b o _ e n=>by rw[af (neT e)];exact n)
  (fun b o hc e=>⟨o,hk b o hc e⟩) (fun b xs e=>by rw[af (neH e)];exact e) (fun b o xs e=>by rw[af (neH e)];exact e) (fun b ps e=>⟨#[],by rw[af (neH e),e];simp⟩) (fun m hm=>?_) (fun b o e=>?_) I.bare
 ·obtain⟨o,es,ep,ho,r⟩:=hm;exact⟨o,es,ep,hk _ o (fun hb=>(hch _ hb).2.1 rfl) ho,r⟩
 ·by_cases hb:b=T
  ·subst hb;rw[ao] at e;cases e;exact⟨(by show 3<=sizeLine;decide),[u,v,q],.cons ru (.cons rv (.cons rw .nil)),ht⟩
  ·rw[af hb] at e;exact(I.hok b o e).nY (fun c w' hc q=>hk c w' (by rcases hc with z | z <;> first | (rw[z];exact nt e) | exact nt z) q) (fun c q=>by rw[af (neH q)];exact q) (fun c xs q=>by rw[af (neH q)];exact q) fun c o φ q=>by rw[af (neH q)];exact q
theorem Inv.Bv {t:Addr} {ys:List V} (I:Inv X pins σ H s) (e:H t=some (.tup ys)):∃ o,s.heap.get? t=some o:=by
 obtain⟨_,_,_,o,e3,_⟩:=I.hok t _ e;exact⟨o,e3⟩
theorem vals3 {a b c:V} {us:Lv} (h:Vals [a,b,c] us):∃ u v w,us=[u,v,w]/\RelV a u/\RelV b v/\RelV c w:=by
 cases h with | cons h1 t=>cases t with | cons h2 t=>cases t with | cons h3 t=>cases t;exact⟨_,_,_,rfl,h1,h2,h3⟩
def Eo (H:Hp) (xs ys zs:List V) (Q:VK):Prop:=∀ (S:Addr) (ts:La) (H':Hp),H S=none->av H H'->H' S=some (.lst (ts.map V.ref))->ts.length=min xs.length (min ys.length zs.length)->
 (∀ (j:Nat) t x y v,ts[j]?=some t->xs[j]?=some x->ys[j]?=some y->zs[j]?=some v->H' t=some (.tup [x,y,v]))->(∀ t∈ts,H t=none)->Q (.ref S) H'
theorem tK {E:VS} {z TI TO i1 i2 i3 l1 l2 l3:Addr} {xs ys zs:List V} {Q:VK} (D:Z3A z TI TO i1 i2 i3) (I:Inv X pins σ H s) (hc:X.calm=true) (hf:∀ b∈[z,TI,TO,i1,i2,i3],c5 X pins H b) (hz:IsZip s.heap z TI TO .none) (hTO:cy s.heap TO .none .none .none) (st:Z3I s.heap TI i1 i2 i3 l1 l2 l3 0)
  (ha:H l1=some (.lst xs)) (hb:H l2=some (.lst ys)) (hd:H l3=some (.lst zs)) (hn:min xs.length (min ys.length zs.length) < sizeLine) (q:Eo H xs ys zs Q):wpAny (model X.prog X.w) X.A (call (.type "list") [.ref z]) (EP X pins σ Q) E s:=by
 obtain⟨S,hSe⟩:∃ S,S=s.heap.objs.size:=⟨_,rfl⟩;have fS:c5 X pins H S:=by rw[hSe];exact I.lR (Nat.le_refl _) (I.hok.fresh (Nat.le_refl _))
 have nS:∀ b∈[z,TI,TO,i1,i2,i3],b≠S:=fun b hb'=>by
  have hlt:∃ o,s.heap.get? b=some o:=by
   obtain⟨hI,⟨o1,e1,_⟩,⟨o2,e2,_⟩,⟨o3,e3,_⟩⟩:=st;simp only[List.mem_cons,List.not_mem_nil,or_false] at hb';rcases hb' with rfl | rfl | rfl | rfl | rfl | rfl
   ·exact⟨_,hz⟩
   ·exact⟨_,hI⟩
   ·exact⟨_,hTO⟩
   ·exact⟨_,e1⟩
   ·exact⟨_,e2⟩
   ·exact⟨_,e3⟩
  obtain⟨o,e⟩:=hlt;rw[hSe];exact Nat.ne_of_lt (Heap.lt_size e)
 have far:∀ {l:Addr} {vs:List V},H l=some (.lst vs)->Z3L l z TO i1 i2 i3:=fun {l vs} e=>by
  have ne:∀ b∈[z,TI,TO,i1,i2,i3],l≠b:=fun b hb' x=>by have:=(hf b hb').1;rw[<- x,e] at this;cases this
  exact⟨ne z (by simp),ne TO (by simp),ne i1 (by simp),ne i2 (by simp),ne i3 (by simp)⟩
 let J:Nat->Lv->Shared->Prop:=fun i acc s'=>∃ (H':Hp) (ts:La) (c:Nat),Inv X pins σ H' s'/\acc=ts.map Value.ref/\ts.length=i/\H' S=none/\s'.heap.get? S=some (a9 acc c)/\av H H'/\
  (∀ (j:Nat) t x y v,ts[j]?=some t->xs[j]?=some x->ys[j]?=some y->zs[j]?=some v->H' t=some (.tup [x,y,v]))/\(∀ t∈ts,(∃ us,H' t=some (.tup us))/\H t=none)/\(∀ b∈[z,TI,TO,i1,i2,i3],H' b=none)/\(∃ o,s'.heap.get? TO=some o)/\Z3I s'.heap TI i1 i2 i3 l1 l2 l3 i/\
  ((ts=[]/\IsZip s'.heap z TI TO .none/\∃ a b c,cy s'.heap TO a b c)\/∃ t r f,ts=t::r/\bM s'.heap z TI TO t f)
 have chOk:∀ {H':Hp},(∀ b∈[z,TI,TO,i1,i2,i3],H' b=none)->∀ b∈[z,TO,i1,i2,i3],c5 X pins H' b:=fun {H'} nf b hb'=>by
  have hb2:b∈[z,TI,TO,i1,i2,i3]:=by
   simp only[List.mem_cons,List.not_mem_nil,or_false] at hb' ⊢;rcases hb' with e | e | e | e | e <;> simp [e]
  exact(hf b hb2).heap (nf b hb2)
 have hSn:S∉[z,TO,i1,i2,i3]:=fun hm=>by
  simp only[List.mem_cons,List.not_mem_nil,or_false] at hm;rcases hm with e | e | e | e | e
  ·exact nS z (by simp) e.symm
  ·exact nS TO (by simp) e.symm
  ·exact nS i1 (by simp) e.symm
  ·exact nS i2 (by simp) e.symm
  ·exact nS i3 (by simp) e.symm
 have step:∀ (i:Nat) (H':Hp) (ts:La) (c:Nat) (s':Shared) (h':Heap) (x y r:V) (u v p:Value),Inv X pins σ H' s'->ts.length=i->H' S=none->s'.heap.get? S=some (a9 (ts.map Value.ref) c)->av H H'->
   (∀ (j:Nat) t x y v,ts[j]?=some t->xs[j]?=some x->ys[j]?=some y->zs[j]?=some v->H' t=some (.tup [x,y,v]))->(∀ t∈ts,(∃ us,H' t=some (.tup us))/\H t=none)->(∀ b∈[z,TI,TO,i1,i2,i3],H' b=none)->(∃ o,s'.heap.get? z=some o)->(∃ o,s'.heap.get? TO=some o)->Z3I s'.heap TI i1 i2 i3 l1 l2 l3 i->
   xs[i]?=some x->ys[i]?=some y->zs[i]?=some r->RelV x u->RelV y v->RelV r p->
   (∀ b o,b∉[z,TO,i1,i2,i3]->s'.heap.get? b=some o->h'.get? b=some o)->(∃ o,h'.get? TO=some o)->cy h' s'.heap.objs.size u v p->h'.IsListIter i1 l1 (i + 1)->h'.IsListIter i2 l2 (i + 1)->h'.IsListIter i3 l3 (i + 1)->(∃ t r f,ts++[s'.heap.objs.size]=t::r/\bM h' z TI TO t f)->
   ∃ v' c',some (Value.ref s'.heap.objs.size)=some v'/\h'.get? S=some (a9 (ts.map Value.ref) c')/\∀ g,Heap.SameBut S h' g->g.get? S=some (a9 (ts.map Value.ref++[v']) (c' + 1))->J (i + 1) (ts.map Value.ref++[v']) { s' with heap:=g }:=by
  intro i H' ts c s' h' x y r u v p I' hl hHS hS sm hts hal nf exz exO st' hx hy hr ru rv rp hk hTOx hT hi1 hi2 hi3 hzz;have ST:S≠s'.heap.objs.size:=Nat.ne_of_lt (Heap.lt_size hS);have fT:H' s'.heap.objs.size=none:=I'.hok.fresh (Nat.le_refl _);refine⟨_,c,rfl,hk S _ hSn hS,fun g sb hg=>?_⟩;have I1:Inv X pins σ (upd H' s'.heap.objs.size (.tup [x,y,r])) { s' with heap:=h' }:=I'.Ey (t':=s'.toks) (chOk nf) (Nat.le_refl _) hk ⟨_,hT,rfl,_,rfl⟩ ru rv rp;have nT:∀ b∈[z,TI,TO,i1,i2,i3],b≠s'.heap.objs.size:=fun b hb'=>by
   have ex:∃ o,s'.heap.get? b=some o:=by
    obtain⟨hI,⟨o1,e1,_⟩,⟨o2,e2,_⟩,⟨o3,e3,_⟩⟩:=st';simp only[List.mem_cons,List.not_mem_nil,or_false] at hb';rcases hb' with rfl | rfl | rfl | rfl | rfl | rfl
    ·exact exz
    ·exact⟨_,hI⟩
    ·exact exO
    ·exact⟨_,e1⟩
    ·exact⟨_,e2⟩
    ·exact⟨_,e3⟩
   obtain⟨o,e⟩:=ex;exact Nat.ne_of_lt (Heap.lt_size e)
  have hS2:(upd H' s'.heap.objs.size (.tup [x,y,r])) S=none:=by rw[af ST];exact hHS
  have I2:Inv X pins σ (upd H' s'.heap.objs.size (.tup [x,y,r])) { s' with heap:=g }:=I1.moved (t':=s'.toks) (ch:=[S]) (fun b hb'=>by
   have e:b=S:=by simpa using hb'
   rw[e];exact fS.heap hS2) fun b o hb' e=>(sb.2 b fun z'=>hb' (by simp [z'])).trans e
  have nTt:∀ {t:Addr} {us:List V},H' t=some (.tup us)->t≠s'.heap.objs.size:=fun h e=>by rw[e,fT] at h;cases h
  refine⟨upd H' s'.heap.objs.size (.tup [x,y,r]),ts++[s'.heap.objs.size],c + 1,I2,by rw[List.map_append];rfl,by rw[List.length_append,hl];rfl,hS2,hg,fun b o e=>?_,fun j t x' y' v' ht hx' hy' hv'=>?_,fun t ht=>?_,fun b hb'=>?_,?_,⟨?_,?_,?_,?_⟩,?_⟩
  ·have e':=sm b o e;rw[af (fun z'=>by rw[z',fT] at e';cases e')];exact e'
  ·by_cases hj:j < ts.length
   ·rw[List.getElem?_append_left hj] at ht;have e':=hts j t x' y' v' ht hx' hy' hv';rw[af (nTt e')];exact e'
   ·have hj2:j=ts.length:=by
     have:=(gS0 ht).1;rw[List.length_append,List.length_singleton] at this;omega
    subst hj2;rw[List.getElem?_append_right (Nat.le_refl _),Nat.sub_self] at ht;have et:t=s'.heap.objs.size:=(Option.some.inj ht).symm;rw[hl] at hx' hy' hv';rw[hx] at hx';rw[hy] at hy';rw[hr] at hv';cases hx';cases hy';cases hv';rw[et];exact ao
  ·rcases List.mem_append.mp ht with z' | z'
   ·obtain⟨⟨us,e1⟩,e2⟩:=hal t z';exact⟨⟨us,by rw[af (nTt e1)];exact e1⟩,e2⟩
   ·have e:t=s'.heap.objs.size:=by simpa using z'
    rw[e,ao];exact⟨⟨_,rfl⟩,sm.free fT⟩
  ·rw[af (nT b hb')];exact nf b hb'
  ·obtain⟨o,e⟩:=hTOx;exact⟨o,(sb.2 TO (nS TO (by simp))).trans e⟩
  ·exact(sb.2 TI (nS TI (by simp))).trans (hk TI _ (by simp [D.Iz,D.IO,D.Ia,D.Ib,D.Ic]) st'.I)
  ·exact hi1.extBut sb.extBut (nS i1 (by simp))
  ·exact hi2.extBut sb.extBut (nS i2 (by simp))
  ·exact hi3.extBut sb.extBut (nS i3 (by simp))
  ·obtain⟨t,r,f,e,hzf⟩:=hzz;exact .inr ⟨t,r,f,e,(sb.2 z (nS z (by simp))).trans hzf⟩
 refine callType_codes (Q₁:=fun obj s₁=>obj=.ref S/\s₁={ s with heap:=s.heap.push { cls:=.type "list",data:=.seq #[] } }) F.called_list (F.typeCall_list_1 _) F.entry_list_init (code_list_new _ ⟨by rw[hSe],rfl⟩) fun obj s₁ e₁=>?_;obtain⟨rfl,rfl⟩:=e₁;have hS0:(s.heap.push { cls:=.type "list",data:=.seq #[] }).get? S=some { cls:=.type "list",data:=.seq #[] }:=by rw[hSe];exact Heap.get?_push_size _ rfl
 have up0:∀ b o,s.heap.get? b=some o->(s.heap.push { cls:=.type "list",data:=.seq #[] }).get? b=some o:=fun b o e=>Heap.get?_push_of_some _ e;refine⟨⟨_,hS0,rfl⟩,F.args_list_init_2 _ _,?_⟩;show wpAny _ X.A.in1.in1 (Builtin.List.listItems (.ref S) >>= fun old=>Builtin.List.listUpdate (.ref S) (fun _=>#[]) >>= fun _=>letGo old.toList.reverse >>= fun _=>Builtin.List.listExtendWith (.ref S) (.ref z) .none) _ _ _;unfold Builtin.List.listItems;refine wpAny_bind (wpAny_bind (wpAny_seqItems hS0 rfl (wpAny_pure ?_)));show wpAny _ X.A.in1.in1 (updateSeq S (fun _=>#[]) >>= fun _=>letGo (#[]:Array Value).toList.reverse >>= fun _=>Builtin.List.listExtendWith (.ref S) (.ref z) .none) _ _ _;refine wpAny_bind (wpAny_updateSeq hS0 rfl (wpAny_bind (wpAny_letGo ?_)));have hS1:=Heap.get?_update_self (Obj.mapSeq (fun _=>(#[]:Array Value))) hS0 rfl;have up1:∀ b o,b≠S->s.heap.get? b=some o->((s.heap.push { cls:=.type "list",data:=.seq #[] }).update S (Obj.mapSeq (fun _=>(#[]:Array Value)))).get? b=some o:=fun b o nb e=>(Heap.get?_update_other _ _ (Ne.symm nb)).trans (up0 b o e);generalize hg1:(s.heap.push { cls:=.type "list",data:=.seq #[] }).update S (Obj.mapSeq (fun _=>(#[]:Array Value)))=g1 at hS1 up1;have hzT:∀ g:Heap,(∀ b o,b≠S->s.heap.get? b=some o->g.get? b=some o)->g.get? z=some _:=fun g k=>k z _ (nS z (by simp)) hz;unfold Builtin.List.listExtendWith;refine wpAny_bind (wpAny_typeOf (c9 (hzT g1 up1)) ?_);have b1:Builtin.List.listSameRef (.ref S) (.ref z)=false:=by simp [Builtin.List.listSameRef,(nS z (by simp)).symm]
 have b2:(Value.type "zip" == Value.type "list")=false:=by decide
 have b3:(Value.type "zip" == Value.type "tuple")=false:=by decide
 simp only[b1,b2,b3,Bool.or_false,Bool.false_eq_true,if_false];refine wpAny_bind (wpAny_pyIter_zip (hzT g1 up1) (wpAny_bind (wpAny_holding ?_)));unfold Builtin.List.listLengthHint;refine wpAny_bind (wpAny_specialOf (c9 (hzT g1 up1)) qZ ?_);show wpAny _ X.A.in1.in1 (specialOf (Value.ref z) (Str.ofString "__length_hint__") >>= fun a=>_) _ _ _;refine wpAny_bind (wpAny_specialOf (c9 (hzT g1 up1)) oO (wpAny_pure ?_));show wpAny _ X.A.in1.in1 (rule "list.extend.makes-room" >>= fun _=>Builtin.List.listTouch (.ref S) >>= fun _=>again (.builtin "list.extend.loop" ⟨[.ref S,.ref z,.none],[]⟩)) _ _ _;refine wpAny_bind (wpAny_rule (wpAny_bind ?_));show wpAny _ X.A.in1.in1 (updateSeq S (·.push .none) >>= fun _=>updateSeq S (·.pop)) _ _ _;refine wpAny_bind (wpAny_updateSeq hS1 rfl ?_);have hS2:=Heap.get?_update_self (Obj.mapSeq (·.push Value.none)) hS1 rfl;refine wpAny_updateSeq (hz:=by seq_fits) hS2 rfl ?_;have hS3:=Heap.get?_update_self (Obj.mapSeq (·.pop)) hS2 rfl;have up3:∀ b o,b≠S->s.heap.get? b=some o->((g1.update S (Obj.mapSeq (·.push Value.none))).update S (Obj.mapSeq (·.pop))).get? b=some o:=
  fun b o nb e=>(Heap.get?_update_other _ _ (Ne.symm nb)).trans ((Heap.get?_update_other _ _ (Ne.symm nb)).trans (up1 b o nb e))
 generalize hg3:(g1.update S (Obj.mapSeq (·.push Value.none))).update S (Obj.mapSeq (·.pop))=g3 at hS3 up3;have I3:Inv X pins σ H { s with heap:=g3 }:=I.moved (t':=s.toks) (ch:=[S]) (fun b hb'=>by
  have e:b=S:=by simpa using hb'
  rw[e];exact fS) fun b o hb' e=>up3 b o (fun z'=>hb' (by simp [z'])) e
 obtain⟨c0,hc0⟩:∃ c0,g3.get? S=some (a9 [] c0):=⟨_,hS3⟩;have J0:J 0 [] { s with heap:=g3 }:=⟨H,[],c0,I3,rfl,rfl,fS.1,hc0,av.refl H,fun j t x y v h=>by simp at h,fun t h=>by simp at h,fun b hb'=>(hf b hb').1,⟨_,up3 TO _ (nS TO (by simp)) hTO⟩,
  ⟨up3 TI _ (nS TI (by simp)) st.I,st.a.at fun o e=>up3 i1 o (nS i1 (by simp)) e,st.b.at fun o e=>up3 i2 o (nS i2 (by simp)) e,st.c.at fun o e=>up3 i3 o (nS i3 (by simp)) e⟩,
  .inl ⟨rfl,up3 z _ (nS z (by simp)) hz,_,_,_,up3 TO _ (nS TO (by simp)) hTO⟩⟩
 have lists:∀ {H':Hp} {s':Shared},Inv X pins σ H' s'->av H H'->∃ ia ib ic,Vals xs ia/\Vals ys ib/\Vals zs ic/\Z3M s'.heap l1 l2 l3 ia.toArray ib.toArray ic.toArray:=fun {H' s'} I' sm=>by
  obtain⟨ia,na,ra,ea,_⟩:=I'.lst (sm _ _ ha);obtain⟨ib,nb,rb,eb,_⟩:=I'.lst (sm _ _ hb);obtain⟨ic,nc,rc,ec,_⟩:=I'.lst (sm _ _ hd);exact⟨ia,ib,ic,ra,rb,rc,⟨_,ea,rfl,_,rfl⟩,⟨_,eb,rfl,_,rfl⟩,⟨_,ec,rfl,_,rfl⟩⟩
 refine wpAny_pure ⟨plainId_quiet F.plain_extend_loop _,vb J hn (fun i acc s' h=>?_) (fun i acc s' E' hi h=>?_) (fun acc s' E' h=>?_) _ 0 [] _ rfl (Nat.zero_le _) J0⟩
 ·obtain⟨_,ts,_,_,e,l,_⟩:=h;rw[e,lM0,l]
 ·obtain⟨H',ts,c,I',rfl,hl,hHS,hS,sm,hts,hal,nf,toEx,st',hzz⟩:=h;obtain⟨ia,ib,ic,ra,rb,rc,M⟩:=lists I' sm;have hx:xs[i]?=some (xs[i]'(by omega)):=gE0 (by omega);have hy:ys[i]?=some (ys[i]'(by omega)):=gE0 (by omega);have hr:zs[i]?=some (zs[i]'(by omega)):=gE0 (by omega);obtain⟨u,hu,ru⟩:=ra.get hx;obtain⟨v,hv,rv⟩:=rb.get hy;obtain⟨p,hp,rp⟩:=rc.get hr;rcases hzz with ⟨rfl,hz',a,b,c',hTO'⟩ | ⟨t,r,f,rfl,hzf⟩
  ·refine uU D (far ha) (far hb) (far hd) hz' hTO' st' M (x:=u) (y:=v) (v:=p) (by simpa using hu) (by simpa using hv) (by simpa using hp) fun h' a1 a2 a3 a4 a5 a6 hk=>?_;exact step i H' [] c s' h' _ _ _ u v p I' hl hHS hS sm hts hal nf ⟨_,hz'⟩ ⟨_,hTO'⟩ st' hx hy hr ru rv rp hk a2 a6 a3 a4 a5 ⟨_,[],false,rfl,a1⟩
  ·obtain⟨us,et0⟩:=(hal t List.mem_cons_self).1;obtain⟨ot,et⟩:=I'.Bv et0;refine vW D (far ha) (far hb) (far hd) hzf et st' M (x:=u) (y:=v) (v:=p) (by simpa using hu) (by simpa using hv) (by simpa using hp) fun h' a1 a2 a3 a4 a5 hk=>?_;have hk':∀ b o,b∉[z,TO,i1,i2,i3]->s'.heap.get? b=some o->h'.get? b=some o:=fun b o hb' e=>hk b o (fun m=>hb' (by simp only[List.mem_cons,List.not_mem_nil,or_false] at m ⊢;rcases m with m | m | m | m <;> simp [m])) e;exact step i H' (t::r) c s' h' _ _ _ u v p I' hl hHS hS sm hts hal nf ⟨_,hzf⟩ toEx st' hx hy hr ru rv rp hk' (by obtain⟨o,e⟩:=toEx;exact⟨o,hk TO o (by simp [D.Oz,D.Oa,D.Ob,D.Oc]) e⟩) a5 a2 a3 a4 ⟨t,r++[_],true,rfl,a1⟩
 ·obtain⟨H',ts,c,I',rfl,hl,hHS,hS,sm,hts,hal,nf,toEx,st',hzz⟩:=h;obtain⟨ia,ib,ic,ra,rb,rc,M⟩:=lists I' sm;have la:=ra.length;have lb:=rb.length;have lc:=rc.length;have hend:ia.toArray[min xs.length (min ys.length zs.length)]?=none\/ib.toArray[min xs.length (min ys.length zs.length)]?=none\/ic.toArray[min xs.length (min ys.length zs.length)]?=none:=by
   by_cases h1:xs.length<=min ys.length zs.length
   ·left;simp;omega
   ·by_cases h2:ys.length<=zs.length
    ·right;left;simp;omega
    ·right;right;simp;omega
  have fin:∀ h',(∀ b o,b∉[z,TO,i1,i2,i3]->s'.heap.get? b=some o->h'.get? b=some o)->wants (fun r s₂=>r=.none/\EP X pins σ Q (.ref S) s₂) E (.ok (.ret .none)) { s' with heap:=h' }:=fun h' hk=>by
   have I4:Inv X pins σ H' { s' with heap:=h' }:=I'.moved (t':=s'.toks) (chOk nf) hk;have I5:=I4.adopt (fS.heap hHS) (hk S _ hSn hS) (mG ts) (by rw[lM0,hl];omega);have sm5:av H (upd H' S (.lst (ts.map V.ref))):=fun b o e=>by rw[af (aE (sm b o e) hHS)];exact sm b o e
   exact⟨rfl,.ref S,_,I5,rfl,q S ts _ fS.1 sm5 ao hl (fun j t x y v ht hx hy hv=>by
    have e:=hts j t x y v ht hx hy hv;rw[af (aE e hHS)];exact e) fun t ht=>(hal t ht).2⟩
  rcases hzz with ⟨rfl,hz',a,b,c',hTO'⟩ | ⟨t,r,f,rfl,hzf⟩
  ·exact vV (I.ok.hd hc) D (far ha) (far hb) (far hd) hz' hTO' st' M hend fun h' hk=>⟨rfl,fin h' hk⟩
  ·obtain⟨us,et0⟩:=(hal t List.mem_cons_self).1;obtain⟨ot,et⟩:=I'.Bv et0;exact vU (I.ok.hd hc) D (far ha) (far hb) (far hd) hzf et st' M hend fun h' hk=>⟨rfl,fin h' fun b o hb' e=>hk b o (fun m=>hb' (by simp only[List.mem_cons,List.not_mem_nil,or_false] at m ⊢;rcases m with m | m | m | m <;> simp [m])) e⟩
def rm (t:TA):TE:=fun σ H Q=>t σ H fun vs H1=>∃ (p q r:Addr) (xs ys zs:List V),vs=[.ref p,.ref q,.ref r]/\H1 p=some (.lst xs)/\H1 q=some (.lst ys)/\H1 r=some (.lst zs)/\min xs.length (min ys.length zs.length) < sizeLine/\Eo H1 xs ys zs Q
theorem uE {a b c:Expr} {ta:TA} {p p2 pos pos2:Pos} (hc:X.calm=true) (hg:Gl X "list") (hm:X.mg "list"=none) (hg2:Gl X "zip") (hm2:X.mg "zip"=none) (ha:PA X [a,b,c] ta)
  (hs:starEach [a,b,c] X.env=[(false,eval a X.env),(false,eval b X.env),(false,eval c X.env)]:=by rfl) (hs2:starEach [b,c] X.env=[(false,eval b X.env),(false,eval c X.env)]:=by rfl) (hs3:starEach [Expr.Call (.Name "zip" p2) [a,b,c] [] pos2] X.env=[(false,eval (.Call (.Name "zip" p2) [a,b,c] [] pos2) X.env)]:=by rfl) :
  PE X (.Call (.Name "list" p) [.Call (.Name "zip" p2) [a,b,c] [] pos2] [] pos) (rm ta):=by
 intro pins s σ H Q I h;refine wpAny_Call_Name_kw (dD I hg hm (by decide +kernel:bootBuiltins "list"=some (.type "list")) ?_);refine PyProof.Rows.callWith_type1 ?_ (by rw[hs3];rfl) rfl;rw[hs3];show wpAny _ _ (spliced ((false,eval (.Call (.Name "zip" p2) [a,b,c] [] pos2) X.env)::backTo pos [])) _ _ s;refine Calls.spliced_cons (Call_ (dD I hg2 hm2 (by decide +kernel:bootBuiltins "zip"=some (.type "zip")) (PyProof.Rows.callWith_type1 (thn (ha pos2 pins s σ H _ I h) fun us s1 ⟨vs,H1,I1,r1,q1⟩=>?_) (by rw[hs,hs2]) (by rw[hs2];rfl))));obtain⟨l1,l2,l3,xs,ys,zs,e,h1,h2,h3,hn,q⟩:=q1;subst e;obtain⟨u,v,w',rfl,ru,rv,rw'⟩:=vals3 r1;cases ru;cases rv;cases rw';obtain⟨ia,na,ra,ea,_⟩:=I1.lst h1;obtain⟨ib,nb,rb,eb,_⟩:=I1.lst h2;obtain⟨ic,nc,rc,ec,_⟩:=I1.lst h3;refine yR (xs:=ia.toArray) (ys:=ib.toArray) (zs:=ic.toArray) ⟨⟨_,ea,rfl,_,rfl⟩,⟨_,eb,rfl,_,rfl⟩,⟨_,ec,rfl,_,rfl⟩⟩ fun h' hz hTO st hk=>?_;have I2:Inv X pins σ H1 { s1 with heap:=h' }:=I1.kept (t':=s1.toks) hk;have ne:∀ i j:Nat,i≠j->s1.heap.objs.size + i≠s1.heap.objs.size + j:=fun i j h e=>by omega
 have D:Z3A (s1.heap.objs.size + 5) (s1.heap.objs.size + 3) (s1.heap.objs.size + 4) s1.heap.objs.size (s1.heap.objs.size + 1) (s1.heap.objs.size + 2):=⟨ne 3 5 (by decide),ne 4 5 (by decide),ne 0 5 (by decide),ne 1 5 (by decide),ne 2 5 (by decide),ne 3 4 (by decide),ne 3 0 (by decide),ne 3 1 (by decide),ne 3 2 (by decide),ne 4 0 (by decide),ne 4 1 (by decide),ne 4 2 (by decide),ne 0 1 (by decide),ne 0 2 (by decide),ne 1 2 (by decide)⟩;refine Calls.spliced_nil ?_;refine tK D I2 hc (fun b hb=>?_) hz hTO st h1 h2 h3 hn q;have hge:s1.heap.objs.size<=b:=by
  simp only[List.mem_cons,List.not_mem_nil,or_false] at hb;rcases hb with rfl | rfl | rfl | rfl | rfl | rfl <;> omega
 exact I1.lR hge (I1.hok.fresh hge)
end
end L2
namespace L3
open PySem L2 PySem.Spec PyProof.Rows
section
variable {K:Fg0} {X:Cx} {F H:Hp} {a b c:Expr} {ta:TA} {t3:cY} {p p2 pos pos2:Pos}
def iJ (xs ys zs:List D):List D:=(xs.zip (ys.zip zs)).map fun p=>.tup [p.1,p.2.1,p.2.2]
theorem q8 {xs ys zs:List D}:(iJ xs ys zs).length=min xs.length (min ys.length zs.length):=by unfold iJ;rw[lM0,List.length_zip,List.length_zip]
theorem q9 {xs ys zs:List D} {i:Nat} {d:D} (h:(iJ xs ys zs)[i]?=some d):∃ x y v,xs[i]?=some x/\ys[i]?=some y/\zs[i]?=some v/\d=.tup [x,y,v]:=by
 unfold iJ at h;rw[List.getElem?_map] at h;cases q:(xs.zip (ys.zip zs))[i]? with
 | none=>rw[q] at h;cases h
 | some w=>
  rw[q] at h;cases h;obtain⟨h1,h2⟩:=List.getElem?_zip_eq_some.mp q;obtain⟨h3,h4⟩:=List.getElem?_zip_eq_some.mp h2;exact⟨_,_,_,h1,h3,h4,rfl⟩
theorem kA.three {d e f:D} {vs:List V} (h:kA K F H [d,e,f] vs):∃ v w u,vs=[v,w,u]/\ed K F H d v/\ed K F H e w/\ed K F H f u:=by
 obtain⟨v,ws,rfl,h1,⟨w,us,rfl,h2,⟨u,_,rfl,h3,rfl⟩⟩⟩:=h;exact⟨v,w,u,rfl,h1,h2,h3⟩
def Iu (t3:cY) (Γ:G) (Q:RV->G->Prop):Prop:=t3 Γ fun bs Γ1=>∃ xs ys zs,ats Γ1 bs=some [.lst xs,.lst ys,.lst zs]/\min xs.length (min ys.length zs.length) < sizeLine/\Q (.fr (.lst (iJ xs ys zs))) Γ1
theorem m_ (hc:X.calm=true) (hg:Gl X "list") (hm:X.mg "list"=none) (hg2:Gl X "zip") (hm2:X.mg "zip"=none) (ha:oo K X [a,b,c] ta t3)
  (hs:starEach [a,b,c] X.env=[(false,eval a X.env),(false,eval b X.env),(false,eval c X.env)]:=by rfl) (hs2:starEach [b,c] X.env=[(false,eval b X.env),(false,eval c X.env)]:=by rfl) (hs3:starEach [Expr.Call (.Name "zip" p2) [a,b,c] [] pos2] X.env=[(false,eval (.Call (.Name "zip" p2) [a,b,c] [] pos2) X.env)]:=by rfl) :
  P3 K X (.Call (.Name "list" p) [.Call (.Name "zip" p2) [a,b,c] [] pos2] [] pos) (rm ta) (Iu t3):=⟨uE hc hg hm hg2 hm2 ha.pe hs hs2 hs3,by
 intro B F σ H Γ Q QQ e q k;refine ha.rf B F σ H Γ _ _ e q fun vs H1 ⟨F1,Γ1,bs,s1,e1,r0,xs,ys,zs,hd,hz,q1⟩=>?_;obtain⟨v,w,u,rfl,⟨p1,vs1,rfl,g1,r1⟩,⟨p2,vs2,rfl,g2,r2⟩,⟨p3,vs3,rfl,g3,r3⟩⟩:=(e1.bos r0 hd).three;refine⟨p1,p2,p3,vs1,vs2,vs3,rfl,g1,g2,g3,by rw[r1.length,r2.length,r3.length];exact hz,fun S ts H' hS sm h1 h2 h3 h4=>k _ _ ?_⟩;obtain⟨F2,s2,e2,f2,g⟩:=e1.grow sm S hS;have hS':∀ t∈ts,t≠S:=fun t ht z=>by
  subst z;obtain⟨j,hj,hjt⟩:=List.getElem_of_mem ht;have:=h3 j t _ _ _ (by rw[<- hjt];exact gE0 hj) (gE0 (show j < vs1.length by rw[h2] at hj;omega)) (gE0 (show j < vs2.length by rw[h2] at hj;omega)) (gE0 (show j < vs3.length by rw[h2] at hj;omega));rw[h1] at this;cases this
 refine⟨F2,Γ1,.fr (.lst (iJ xs ys zs)),s1.trans s2,e2,⟨S,rfl,f2,⟨_,h1,?_⟩,e1.dom _ hS,e1.jf hS⟩,q1⟩;refine sN (by rw[lM0,h2,q8,r1.length,r2.length,r3.length]) fun i d v hd hv=>?_;obtain⟨dx,dy,dw,hx,hy,hw,rfl⟩:=q9 hd;rw[List.getElem?_map] at hv;cases ht:ts[i]? with
 | none=>rw[ht] at hv;cases hv
 | some t=>
  rw[ht] at hv;cases hv;obtain⟨v1,a1,b1⟩:=r1.get hx;obtain⟨v2,a2,b2⟩:=r2.get hy;obtain⟨v3,a3,b3⟩:=r3.get hw;have m:=List.mem_of_getElem? ht;exact⟨t,_,rfl,g t _ (hS' t m) (h4 t m) (h3 i t v1 v2 v3 ht a1 a2 a3),⟨_,_,rfl,b1.mono s2,_,_,rfl,b2.mono s2,_,_,rfl,b3.mono s2,rfl⟩⟩⟩
theorem Gy {Γ:G} {Q:RV->G->Prop}:Iu t3 Γ Q=t3 Γ fun bs Γ1=>∃ xs ys zs,ats Γ1 bs=some [.lst xs,.lst ys,.lst zs]/\min xs.length (min ys.length zs.length) < sizeLine/\Q (.fr (.lst (iJ xs ys zs))) Γ1:=rfl
end
abbrev NB:=List (List Bool)
def gw (xss:NB):List (List D):=xss.map fun bs=>bs.map D.bl
structure gN (F H:Hp) (p:Addr) (qs:La) (xss:NB):Prop where
 sub:av F H
 top:H p=some (.lst (qs.map V.ref))
 nd:(p::qs).Nodup
 len:qs.length=xss.length
 row:∀ (i:Nat) (q:Addr) (xs:List Bool),qs[i]?=some q->xss[i]?=some xs->H q=some (.lst (xs.map V.bl))
 no:∀ z,z∈p::qs->F z=none
theorem ar.bls {K:Fg0} {F:Hp}:∀ (bs:List Bool),ar K F (bs.map D.bl) (bs.map V.bl)
 | []=>rfl
 | b::bs=>⟨_,_,rfl,rfl,ar.bls bs⟩
def eJ (Γ:G):Prop:=∀ s,some s∈Γ->∃ d,s=.fz d
section
variable {K:Fg0} {X:Cx} {F F' F0:Hp} {σ σ':L2.St} {H H' H0:Hp} {Γ Γ':G} {pos:Pos} {i:Nat} {p:Addr} {qs own:La} {xss:NB} {B:Bs}
theorem eJ.at (h:eJ Γ) {k:Nat} {s:Sl} (e:Γ[k]?=some (some s)):∃ d,s=.fz d:=h s (List.mem_of_getElem? e)
theorem Ec (e:En K B F σ H Γ) (h:eJ Γ):E0n K F σ H Γ:=xK e.sub e.len fun k s hk=>by
 obtain⟨d,rfl⟩:=h.at hk;obtain⟨v,a,b⟩:=e.fz k d hk;exact⟨d,v,rfl,a,b⟩
theorem GS (e:E0n K F σ H Γ):eJ Γ:=fun s hs=>by
 obtain⟨k,hk⟩:=List.mem_iff_getElem?.mp hs;obtain⟨d,_,rfl,_⟩:=e.all hk;exact⟨d,rfl⟩
structure NSB (K:Fg0) (F0 H0:Hp) (own:La) (i:Nat) (p:Addr) (F:Hp) (σ:L2.St) (H:Hp) (Γ:G) (xss:NB):Prop where
 e:E0n K F σ H Γ
 at_:Γ[i]?=some (some (.fz (.adr p)))
 n:∃ qs,gN F H p qs xss/\Step H0 own H qs
 po:p∈own
 nf:∀ b o,F b=some o->F0 b=some o\/H0 b=none
theorem gN.grow (n:gN F H p qs xss) (s:av H H') (sub:av F' H') (hn:∀ b o,F' b=some o->F b=some o\/H b=none):gN F' H' p qs xss where
 sub:=sub
 top:=s _ _ n.top
 nd:=n.nd
 len:=n.len
 row:=fun i q xs a b=>s _ _ (n.row i q xs a b)
 no:=fun z hz=>by
  cases q:F' z with
  | none=>rfl
  | some o=>
   exfalso;rcases hn z o q with h | h
   ·rw[n.no z hz] at h;cases h
   ·rcases List.mem_cons.mp hz with e | hm
    ·rw[e,n.top] at h;cases h
    ·obtain⟨k,hk⟩:=List.mem_iff_getElem?.mp hm;have lk:k < xss.length:=by rw[<- n.len];exact(gS0 hk).1
     rw[n.row k z _ hk (gE0 lk)] at h;cases h
theorem NSB.grow (t:NSB K F0 H0 own i p F σ H Γ xss) (s:av H H') (sF:av F F') (sub:av F' H') (hn:∀ b o,F' b=some o->F b=some o\/H b=none):NSB K F0 H0 own i p F' σ H' Γ xss:=by
 obtain⟨qs,n,st⟩:=t.n;refine⟨t.e.move sF sub,t.at_,⟨qs,n.grow s sub hn,st.grow s⟩,t.po,fun b o h=>?_⟩;rcases hn b o h with q | q
 ·exact t.nf b o q
 ·exact .inr (st.dom b q)
theorem NSB.up (t:NSB K F0 H0 own i p F σ H Γ xss) (s:av H H'):NSB K F0 H0 own i p F σ H' Γ xss:=t.grow s (av.refl F) (t.e.sub.trans s) fun _ _ h=>.inl h
theorem oR {l:La}:∀ {qs:La} {xss:NB},qs.length=xss.length->(∀ q,q∈qs->q∈l)->(∀ (i:Nat) (q:Addr) (xs:List Bool),qs[i]?=some q->xss[i]?=some xs->H q=some (.lst (xs.map V.bl)))->
  ar K (iM F H l) (xss.map fun bs=>D.lst (bs.map D.bl)) (qs.map V.ref)
 | [],[],_,_,_=>rfl
 | [],_::_,h,_,_=>nomatch h
 | _::_,[],h,_,_=>nomatch h
 | q::qs,xs::xss,h,hm,hr=>⟨_,_,rfl,⟨q,_,rfl,by unfold iM;rw[if_pos (hm q (.head _))];exact hr 0 q xs rfl rfl,ar.bls xs⟩,oR (Nat.succ.inj h) (fun z hz=>hm z (.tail _ hz)) fun i q' xs' a b=>hr (i + 1) q' xs' a b⟩
theorem gN.zt (n:gN F H p qs xss) {l:La} (hl:∀ z,z∈l->z∈p::qs):av F (iM F H l):=fun b o h=>by
 unfold iM;rw[if_neg]
 ·exact h
 ·intro z;rw[n.no b (hl b z)] at h;cases h
theorem gN.DA (n:gN F H p qs xss) {l:La}:av (iM F H l) H:=fun b o h=>by
 unfold iM at h;split at h
 ·exact h
 ·exact n.sub b o h
def zr (i:Nat) (Γ:G) (xss:NB):G:=Γ.set i (some (.fz (.lst (xss.map fun bs=>D.lst (bs.map D.bl)))))
theorem NSB.view (t:NSB K F0 H0 own i p F σ H Γ xss):∃ Fv,av F Fv/\E0n K Fv σ H (zr i Γ xss):=by
 obtain⟨qs,n,_⟩:=t.n;refine⟨iM F H (p::qs),n.zt fun _ h=>h,(t.e.move (n.zt fun _ h=>h) n.DA).see (v:=.ref p) ?_ ⟨p,_,rfl,by unfold iM;rw[if_pos (.head _)];exact n.top,oR n.len (fun q h=>.tail _ h) n.row⟩⟩;obtain⟨v,a,b⟩:=t.e.fz i _ t.at_;rw[a,show v=.ref p from b]
theorem NSB.He (t:NSB K F0 H0 own i p F σ H Γ xss) (n:gN F H p qs xss):∃ Fv,E0n K Fv σ H (Γ.set i (some (.fz (.lst (qs.map D.adr))))):=by
 have s1:av F (iM F H [p]):=n.zt fun z hz=>by rw[List.mem_singleton] at hz;rw[hz];exact .head _
 refine⟨iM F H [p],(t.e.move s1 n.DA).see (v:=.ref p) ?_ ⟨p,_,rfl,by unfold iM;rw[if_pos (.head _)];exact n.top,ur⟩⟩;obtain⟨v,a,b⟩:=t.e.fz i _ t.at_;rw[a,show v=.ref p from b]
abbrev TNB:=(G->NB->Prop)->G->NB->Prop
def Er (K:Fg0) (i:Nat) (t:TS) (n3:TNB):Prop:=∀ (F0 H0:Hp) (own:La) (p:Addr) (F:Hp) (σ:L2.St) (H:Hp) (Γ:G) (xss:NB) (D:Ends) (k:G->NB->Prop),NSB K F0 H0 own i p F σ H Γ xss->
 (∀ F' σ' H' Γ' yss,av F F'->NSB K F0 H0 own i p F' σ' H' Γ' yss->k Γ' yss->D.nx σ' H')->n3 k Γ xss->t D σ H
structure B3S (K:Fg0) (X:Cx) (i:Nat) (st:Stmt) (t:TS) (n3:TNB):Prop where
 pe:PS X st t
 rf:Er K i t n3
structure wR (K:Fg0) (X:Cx) (i:Nat) (st:List Stmt) (t:TS) (n3:TNB):Prop where
 pe:PSs X st t
 rf:Er K i t n3
variable {st:Stmt} {rest ss:List Stmt} {t u:TS} {n3 m3:TNB}
def pQ:TNB:=fun k Γ xss=>k Γ xss
theorem y3:wR K X i [] zd pQ:=⟨xc,fun F0 H0 own p F σ H Γ xss D k s kk q=>kk F σ H Γ xss (av.refl F) s q⟩
theorem mv (h:B3S K X i st t n3):wR K X i [st] t n3:=⟨sU h.pe,h.rf⟩
theorem kW (h:B3S K X i st t n3) (h2:wR K X i rest u m3):wR K X i (st::rest) (zb t u) (fun k=>n3 (m3 k)):=⟨lD h.pe h2.pe,fun F0 H0 own p F σ H Γ xss D k s kk q=>
 h.rf F0 H0 own p F σ H Γ xss _ _ s (fun F' σ' H' Γ' yss sF s' q'=>h2.rf F0 H0 own p F' σ' H' Γ' yss D k s' (fun F2 σ2 H2 Γ2 zss s2=>kk F2 σ2 H2 Γ2 zss (sF.trans s2)) q') q⟩
def sY (i:Nat) (s3:TS3):TNB:=fun k Γ xss=>s3 { nx:=fun Γ'=>eJ Γ'/\Γ'[i]?=Γ[i]?/\k Γ' xss,rt:=fun _ _=>False } Γ
theorem uc {s3:TS3} (h:P3S K X st t s3):B3S K X i st t (sY i s3):=⟨h.pe,fun F0 H0 own p F σ H Γ xss D k s kk q=>by
 refine h.rf ⟨F,H,[]⟩ F σ H Γ D { nx:=fun Γ'=>eJ Γ'/\Γ'[i]?=Γ[i]?/\k Γ' xss,rt:=fun _ _=>False } s.e ⟨fun F' σ' H' Γ' sF e' ⟨hf,ha,q'⟩=>?_,fun _ _ _ _ _ _ _ _ _ z=>z.elim,fun _ _ _ _ _ _ z=>z.elim,fun _ _ _ _ _ _ z=>z.elim⟩ q;have sH:av H H':=fun b o h=>e'.rest b o h fun _ q=>nomatch q
 have t1:=s.grow sH sF e'.sub fun b o h=>e'.new b o h;exact kk F' σ' H' Γ' xss sF ⟨Ec e' hf,ha.trans s.at_,t1.n,s.po,t1.nf⟩ q'⟩
def ifB (A3:TT3) (n3 m3:TNB):TNB:=fun k Γ xss=>A3 Γ fun c Γ1=>Γ1=Γ/\match c with
 | true=>n3 k Γ xss
 | false=>m3 k Γ xss
theorem Ds {c:Expr} {a b:List Stmt} {tc:TT} {A3:TT3} (hc:P3T K X c tc A3) (ha:wR K X i a t n3) (hb:wR K X i b u m3):B3S K X i (.If c a b pos) (EF tc t u) (ifB A3 n3 m3):=⟨DH hc.pe ha.pe hb.pe,fun F0 H0 own p F σ H Γ xss DD k s kk q=>by
 refine hc.rf _ F σ H Γ _ _ s.e q fun c H' ⟨F',Γ',sF,e',_,q'⟩=>?_;have s1:=s.up (H':=H') fun b o h=>e'.rest b o h fun _ q=>nomatch q
 cases c with
 | true=>exact ha.rf F0 H0 own p F σ H' Γ xss DD k s1 kk q'
 | false=>exact hb.rf F0 H0 own p F σ H' Γ xss DD k s1 kk q'⟩
def AW (i:Nat) (xs:List D) (Γ:G) (xss:NB) (g3:TG3) (b3:TNB) (k:G->NB->Prop) (_:Tag (g3,b3,k)):Prop:=∃ Iv:Nat->G->NB->Prop,Iv 0 Γ xss/\(∀ m d Γ yss,xs[m]?=some d->Iv m Γ yss->g3 d Γ fun Γ'=>Γ'[i]?=Γ[i]?/\b3 (Iv (m + 1)) Γ' yss)/\∀ Γ yss,Iv xs.length Γ yss->k Γ yss
def yP (i:Nat) (i3:TI3) (g3:TG3) (b3:TNB):TNB:=fun k Γ xss=>i3 Γ fun xs Γ1=>Γ1=Γ/\AW i xs Γ xss g3 b3 k ⟨⟩
theorem lT {i3:TI3} {g3:TG3} {b3:TNB} {k:G->NB->Prop}:yP i i3 g3 b3 k Γ xss=i3 Γ fun xs Γ1=>Γ1=Γ/\AW i xs Γ xss g3 b3 k ⟨⟩:=rfl
theorem lS {xs:List D} {g3:TG3} {b3:TNB} {k:G->NB->Prop} {t:Tag (g3,b3,k)} (Iv:Nat->G->NB->Prop) (h0:Iv 0 Γ xss) (ht:∀ m d Γ yss,xs[m]?=some d->Iv m Γ yss->g3 d Γ fun Γ'=>Γ'[i]?=Γ[i]?/\b3 (Iv (m + 1)) Γ' yss) (he:∀ Γ yss,Iv xs.length Γ yss->k Γ yss):AW i xs Γ xss g3 b3 k t:=⟨Iv,h0,ht,he⟩
theorem so {tg iter:Expr} {body:List Stmt} {wi:TI} {i3:TI3} {g:TG} {g3:TG3} {tb:TS} {b3:TNB} (hp:PassesOwn (model X.prog X.w) X.A X.env X.xe) (hc:X.calm=true) (hi:P3I K X tg iter wi i3) (hg:P3G K X tg g g3) (hb:wR K X i body tb b3) (hs:∀ x,foldedSetIterable iter X.env x=pure x:=by intro _;rfl) :
  B3S K X i (.For tg iter body [] pos) (EG wi g tb) (yP i i3 g3 b3):=⟨zN hp hc hi.pe hg.pe hb.pe hs,fun F0 H0 own p F σ H Γ xss DD k s kk q=>by
 refine hi.rf _ F σ H Γ _ _ s.e q fun J H1 F1 Γ1 xs s1 e1 R ⟨eΓ,Iv,i0,it,ie⟩=>?_;have t1:NSB K F0 H0 own i p F1 σ H1 Γ xss:=s.grow (fun b o h=>e1.rest b o h fun _ q=>nomatch q) s1 e1.sub fun b o h=>e1.new b o h;refine⟨fun m n σ H=>n=xs.length - m/\m<=xs.length/\∃ F' Γ' yss,av F1 F'/\NSB K F0 H0 own i p F' σ H Γ' yss/\Iv m Γ' yss,⟨_,rfl,Nat.zero_le _,F1,Γ,xss,av.refl _,t1,i0⟩,?_⟩;rintro m n σ2 H2 ⟨rfl,hm,F2,Γ2,yss,s2,t2,iv⟩;by_cases lt:m < xs.length
 ·refine .inr ⟨R.go m H2 (s2.trans t2.e.sub) lt,fun σ' H'=>∃ F' Γ' yss,av F1 F'/\NSB K F0 H0 own i p F' σ' H' Γ' yss/\Iv (m + 1) Γ' yss,fun σ' H' ⟨F',Γ',zss,a,b,c⟩=>⟨xs.length - (m + 1),by omega,rfl,lt,F',Γ',zss,a,b,c⟩,fun x H3 y=>?_⟩;have hd:xs[m]?=some xs[m]:=gE0 lt;obtain⟨F3,s3,e3,r3⟩:=R.turn s2 t2.e hd y;have t3:NSB K F0 H0 own i p F3 σ2 H3 Γ2 yss:=t2.grow (fun b o h=>e3.rest b o h fun _ q=>nomatch q) s3 e3.sub fun b o h=>e3.new b o h;refine hg.rf _ F3 σ2 H3 Γ2 x _ _ _ t3.e r3 (it m _ Γ2 yss hd iv) fun σ' Γ' e4 ⟨a4,q4⟩=>?_;have t4:NSB K F0 H0 own i p F3 σ' H3 Γ' yss:=⟨e4,a4.trans t3.at_,t3.n,t3.po,t3.nf⟩;exact hb.rf F0 H0 own p F3 σ' H3 Γ' yss _ (Iv (m + 1)) t4 (fun F' σ' H' Γ' zss sF t' q'=>⟨F',Γ',zss,(s2.trans s3).trans sF,t',q'⟩) q4
 ·have z:m=xs.length:=by omega
  subst z;exact .inl ⟨R.stop _ H2 (s2.trans t2.e.sub) rfl,kk F2 σ2 H2 Γ2 yss (s1.trans s2) t2 (ie Γ2 yss iv)⟩⟩
end
section
variable {K:Fg0} {X:Cx} {F F' F0:Hp} {σ σ':L2.St} {H H' H0:Hp} {Γ Γ':G} {pos:Pos} {i:Nat} {p:Addr} {qs own:La} {xss:NB} {B:Bs}
variable {st:Stmt} {rest ss:List Stmt} {t u:TS} {n3 m3:TNB}
def Io (R:List Bool->Prop) (_:Tag R):RV->G->Prop:=fun r _=>∃ bs:List Bool,r=.fr (.lst (bs.map D.bl))/\R bs
theorem NSB.eval {te:TE} {e3:TE3} {R:List Bool->Prop} {QQ:VK} (t:NSB K F0 H0 own i p F σ H Γ xss) (he:Ref K te e3) (h3:e3 (zr i Γ xss) (Io R ⟨⟩))
  (k:∀ z H' bs,R bs->H z=none->av H H'->H' z=some (.lst (bs.map V.bl))->QQ (.ref z) H'):te σ H QQ:=by
 obtain⟨Fv,_,ev⟩:=t.view;refine he _ Fv σ H _ _ QQ ev h3 fun v H' ⟨F',Γ',r,sF,e',rv,bs,hr,hR⟩=>?_;subst hr;obtain⟨z,rfl,_,⟨vs,hv,rl⟩,hB,_⟩:=rv;rw[rl.mj] at hv;exact k z H' bs hR hB (fun b o h=>e'.rest b o h fun _ q=>nomatch q) hv
theorem NSB.out (t:NSB K F0 H0 own i p F σ H Γ xss) {z:Addr} (hz:H z=none):F z=none/\z≠p/\∀ qs,gN F H p qs xss->z∉qs:=by
 refine⟨?_,fun e=>?_,fun qs n hm=>?_⟩
 ·cases q:F z with
  | none=>rfl
  | some o=>rw[t.e.sub _ _ q] at hz;cases hz
 ·obtain⟨qs,n,_⟩:=t.n;rw[e,n.top] at hz;cases hz
 ·obtain⟨m,hm⟩:=List.mem_iff_getElem?.mp hm;have lm:m < xss.length:=by rw[<- n.len];exact(gS0 hm).1
  rw[n.row m z _ hm (gE0 lm)] at hz;cases hz
theorem gN.HJ {qs':La} (n:gN F H p qs xss) (n':gN F H' p qs' xss) (s:av H H'):qs=qs':=by
 have h1:=s _ _ n.top;rw[n'.top] at h1;have h2:qs'.map V.ref=qs.map V.ref:=by injection (Option.some.inj h1)
 exact((List.map_inj_right (fun a b (h:V.ref a=V.ref b)=>by injection h)).mp h2).symm
def lz (i j:Nat) (e3:TE3):TNB:=fun k Γ xss=>e3 (zr i Γ xss) (Io (fun bs=>∃ y:Nat,Γ[j]?=some (some (.fz (.int y)))/\y < xss.length/\k Γ (xss.set y bs)) ⟨⟩)
theorem x_ {j:Nat} {te:TE} {e3:TE3} (h:PS X st (fm te (p7 (bX i) (bX j) i5))) (he:Ref K te e3):B3S K X i st (fm te (p7 (bX i) (bX j) i5)) (lz i j e3):=⟨h,fun F0 H0 own p F σ H Γ xss D k s kk q=>by
 refine s.eval he q fun z H' ns ⟨y,hy,ly,q⟩ hz sH hv=>?_;obtain⟨v,a,b⟩:=s.e.fz i _ s.at_;obtain⟨vy,ay,by_⟩:=s.e.fz j _ hy;obtain⟨fz,zp,zo⟩:=s.out hz;have s1:=s.up sH;obtain⟨qs0,n0,_⟩:=s.n;obtain⟨qs,n,sp⟩:=s1.n;have e0:=n0.HJ n sH;subst e0;have ly':y < qs0.length:=by rw[n.len];exact ly
 have zq:z∉p::qs0:=fun hm=>by
  rcases List.mem_cons.mp hm with e | hm
  ·exact zp e
  ·exact zo _ n0 hm
 refine⟨v,a,vy,ay,p,_,(y:Int),y,b,by_,n.top,?_,?_⟩
 ·rw[lM0];exact tM ly'
 ·have fp:F p=none:=n.no p (.head _);have sub':av F (upd H' p (.lst ((qs0.map V.ref).set y (.ref z)))):=fun b o hb=>by rw[af (aE hb fp)];exact s1.e.sub b o hb
  refine kk F σ _ Γ _ (av.refl F) ⟨s1.e.move (av.refl F) sub',s.at_,⟨qs0.set y z,⟨sub',?_,?_,?_,?_,?_⟩,⟨?_,?_,?_⟩⟩,s.po,s.nf⟩ q
  ·rw[ao,List.map_set]
  ·obtain⟨n1,n2⟩:=List.nodup_cons.mp n.nd;refine List.nodup_cons.mpr ⟨fun hm=>?_,yz n2 fun hm=>zq (.tail _ hm)⟩;rcases List.mem_or_eq_of_mem_set hm with e | e
   ·exact n1 e
   ·exact zp e.symm
  ·rw[List.length_set,List.length_set];exact n.len
  ·intro m q' xs h1 h2;by_cases e:m=y
   ·subst e;rw[aB ly'] at h1;rw[aB ly] at h2;cases h1;cases h2;rw[af zp];exact hv
   ·rw[aU (Ne.symm e)] at h1 h2;have qp:q'≠p:=fun z=>(List.nodup_cons.mp n.nd).1 (z ▸ List.mem_of_getElem? h1);rw[af qp];exact n.row m q' xs h1 h2
  ·intro w hw;rcases List.mem_cons.mp hw with e | hw
   ·rw[e];exact fp
   ·rcases List.mem_or_eq_of_mem_set hw with e | e
    ·exact n.no w (.tail _ e)
    ·rw[e];exact fz
  ·intro b o hb hn;have:b≠p:=fun e=>hn (e ▸ s.po);rw[af this];exact sp.keep b o hb hn
  ·intro b hb;by_cases e:b=p
   ·subst e;rw[ao] at hb;cases hb
   ·rw[af e] at hb;exact sp.dom b hb
  ·intro w hw;rcases List.mem_or_eq_of_mem_set hw with e | e
   ·exact sp.new w e
   ·rw[e];obtain⟨_,_,sp0⟩:=s.n;exact .inr (sp0.dom z hz)⟩
def mz (jy jx jn:Nat):TNB:=fun k Γ xss=>∃ (y x:Nat) (n:Bool) (xs:List Bool),Γ[jy]?=some (some (.fz (.int y)))/\Γ[jx]?=some (some (.fz (.int x)))/\Γ[jn]?=some (some (.fz (.bl n)))/\xss[y]?=some xs/\x < xs.length/\k Γ (xss.set y (xs.set x n))
theorem ub {jy jx jn:Nat} {to:TE} (hi:i≠jy) (h:PS X st (fm (bX jn) (p7 to (bX jx) i5))) (ho:Ref K to (cJ ix3 (bor i) (bor jy))):B3S K X i st (fm (bX jn) (p7 to (bX jx) i5)) (mz jy jx jn):=⟨h,fun F0 H0 own p F σ H Γ xss DD k s kk ⟨y,x,n,xs,hy,hx,hn,hr,lx,q⟩=>by
 obtain⟨vn,an,bn⟩:=s.e.fz jn _ hn;obtain⟨vx,ax,bx⟩:=s.e.fz jx _ hx;obtain⟨qs,ns,sp⟩:=s.n;obtain⟨Fv,ev⟩:=s.He ns;have ly:y < xss.length:=(gS0 hr).1;have ly':y < qs.length:=by rw[ns.len];exact ly
 have hq:qs[y]?=some qs[y]:=gE0 ly';have il:i < Γ.length:=(gS0 s.at_).1;refine⟨vn,an,?_⟩;refine ho _ Fv σ H _ (fun r _=>r=.fz (.adr qs[y])) _ ev ?_ fun v H' ⟨F',Γ',r,sF,e',rv,hr'⟩=>?_
 ·have g1:Gat (Γ.set i (some (.fz (.lst (qs.map D.adr))))) i=some (.lst (qs.map D.adr)):=by unfold Gat;rw[aB il]
  have g2:Gat (Γ.set i (some (.fz (.lst (qs.map D.adr))))) jy=some (.int y):=by unfold Gat;rw[aU hi,hy]
  refine⟨⟨_,g1⟩,⟨_,g2⟩,.lst (qs.map D.adr),.int y,g1,g2,.adr qs[y],?_,rfl⟩;unfold L2.atI;rw[lM0,tM ly'];show (qs.map D.adr)[y]?=_;rw[List.getElem?_map,hq];rfl
 ·subst hr';have ev':v=.ref qs[y]:=rv;subst ev';have sH:av H H':=fun b o h=>e'.rest b o h fun _ q=>nomatch q
  have s1:=s.up sH;have n1:=ns.grow sH (ns.sub.trans sH) fun _ _ h=>.inl h;have sp1:=sp.grow sH;have iG:=n1.row y _ _ hq hr;refine⟨vx,ax,qs[y],_,(x:Int),x,rfl,bx,iG,by rw[lM0];exact tM lx,?_⟩;rw[show vn=.bl n from bn];have hqm:qs[y]∈qs:=List.getElem_mem ly';have fq:F qs[y]=none:=n1.no _ (.tail _ hqm);have qp:qs[y]≠p:=fun z=>(List.nodup_cons.mp n1.nd).1 (z ▸ hqm);have sub':av F (upd H' qs[y] (.lst ((xs.map V.bl).set x (.bl n)))):=fun b o hb=>by rw[af (aE hb fq)];exact n1.sub b o hb
  refine kk F σ _ Γ _ (av.refl F) ⟨s1.e.move (av.refl F) sub',s.at_,⟨qs,⟨sub',?_,n1.nd,?_,?_,n1.no⟩,⟨?_,?_,sp1.new⟩⟩,s.po,s.nf⟩ q
  ·rw[af (Ne.symm qp)];exact n1.top
  ·rw[List.length_set];exact n1.len
  ·intro m q' zs h1 h2;by_cases e:m=y
   ·subst e;rw[hq] at h1;rw[aB ly] at h2;cases h1;cases h2;rw[ao,List.map_set]
   ·rw[aU (Ne.symm e)] at h2;have ne:q'≠qs[y]:=fun z=>by
     subst z;have nd:=(List.nodup_cons.mp n1.nd).2;exact e (DL nd h1 hq)
    rw[af ne];exact n1.row m q' zs h1 h2
  ·intro b o hb hn;have:b≠qs[y]:=fun e=>by
    rcases sp1.new _ hqm with w | w
    ·exact hn (e ▸ w)
    ·rw[e,w] at hb;cases hb
   rw[af this];exact sp1.keep b o hb hn
  ·intro b hb;by_cases e:b=qs[y]
   ·subst e;rw[ao] at hb;cases hb
   ·rw[af e] at hb;exact sp1.dom b hb⟩
def JY (R:List Bool->List Bool->Prop) (_:Tag R):RV->G->Prop:=fun r _=>∃ bs cs:List Bool,r=.two (bs.map D.bl) (cs.map D.bl)/\R bs cs
def m9 (i j l:Nat) (e3:TE3):TNB:=fun k Γ xss=>e3 (zr i Γ xss) (JY (fun bs cs=>j < Γ.length/\l < Γ.length/\k ((Γ.set j (some (.fz (.lst (bs.map D.bl))))).set l (some (.fz (.lst (cs.map D.bl))))) xss) ⟨⟩)
theorem BE {j l:Nat} {te:TE} {e3:TE3} (hj:i≠j) (hl:i≠l) (h:PS X st (fm te (wm K 2 (eB [j,l])))) (he:Ref K te e3):B3S K X i st (fm te (wm K 2 (eB [j,l]))) (m9 i j l e3):=⟨h,fun F0 H0 own p F σ H Γ xss DD k s kk q=>by
 obtain⟨Fv,_,ev⟩:=s.view;refine he _ Fv σ H _ _ _ ev q fun v H' ⟨F',Γ',r,sF,e',rv,bs,cs,hr,lj,ll,q'⟩=>?_;subst hr;obtain⟨t,p1,q1,vs,ws,rfl,h1,h2,h3,h4,h5,h6,h7⟩:=rv;rw[h4.mj] at h2;rw[h5.mj] at h3;have sH:av H H':=fun b o h=>e'.rest b o h fun _ q=>nomatch q
 have b1:H p1=none:=(h7 p1 (.inr (.inl rfl))).2.1;have b2:H q1=none:=(h7 q1 (.inr (.inr rfl))).2.1;have f1:=(s.out b1).1;have f2:=(s.out b2).1
 let G1:Hp:=upd F p1 (.lst (bs.map V.bl))
 have g2:G1 q1=none:=by show upd F p1 _ q1=none;rw[af (Ne.symm h6)];exact f2
 have s1:av F G1:=aT f1;have s2:av G1 (upd G1 q1 (.lst (cs.map V.bl))):=aT g2;have at1:(upd G1 q1 (.lst (cs.map V.bl))) p1=some (.lst (bs.map V.bl)):=by rw[af h6];exact ao
 have nw:∀ b o,upd G1 q1 (.lst (cs.map V.bl)) b=some o->F b=some o\/H b=none:=fun b o h=>by
  by_cases x:b=q1
  ·subst x;exact .inr b2
  ·rw[af x] at h;by_cases y:b=p1
   ·subst y;exact .inr b1
   ·have h':upd F p1 (.lst (bs.map V.bl)) b=some o:=h;rw[af y] at h';exact .inl h'
 have sub:av (upd G1 q1 (.lst (cs.map V.bl))) H':=fun b o h=>by
  by_cases x:b=q1
  ·subst x;rw[ao] at h;cases h;exact h3
  ·rw[af x] at h;by_cases y:b=p1
   ·subst y;have h':upd F b (.lst (bs.map V.bl)) b=some o:=h;rw[ao] at h';cases h';exact h2
   ·have h':upd F p1 (.lst (bs.map V.bl)) b=some o:=h;rw[af y] at h';exact sH _ _ (s.e.sub _ _ h')
 have t1:=s.grow sH (s1.trans s2) sub nw;have e1:=t1.e.put (d:=.lst (bs.map D.bl)) (v:=.ref p1) lj ⟨p1,_,rfl,at1,ar.bls bs⟩;have e2:=e1.put (j:=l) (d:=.lst (cs.map D.bl)) (v:=.ref q1) (by rw[List.length_set];exact ll) ⟨q1,_,rfl,ao,ar.bls cs⟩;refine⟨t,[.ref p1,.ref q1],rfl,.inl (.inl h1),rfl,⟨_,_,rfl,⟨_,_,rfl,⟨rfl,?_⟩⟩⟩⟩;refine kk _ _ H' _ xss (s1.trans s2) ⟨e2,?_,t1.n,t1.po,t1.nf⟩ q';rw[aU (Ne.symm hl),aU (Ne.symm hj)];exact t1.at_⟩
end
section
variable {K:Fg0} {X:Cx} {pos:Pos} {i j l:Nat} {y:Str} {px p2:Pos} {o k e:Expr} {to te:TE} {e3:TE3} {B:Bs} {F:Hp} {σ:L2.St} {H:Hp} {Γ:G}
theorem BC (hx:P3B K X (.Name y px) (bX i) (bor i)) (hk:P3B K X k (bX j) (bor j)) (he:P3 K X e te e3)
  (ha:∀ v,assign (.Subscript (.Name y px) k p2) X.env v=(do
   let ov <- holding [v] (eval (.Name y px) X.env)
   let iv <- holding [v,ov] (eval k X.env)
   standAt p2
   holding [v,ov,iv] (setItem ov iv v)
   release [v,ov,iv] []):=by intro _;rfl)
  (hs:swapsWithSole [.Subscript (.Name y px) k p2] e pos.line X.env=pure false:=by rfl) (hw:swappedStores [.Subscript (.Name y px) k p2] e X.env=pure none:=by rfl)
  (h1:(assignEach [.Subscript (.Name y px) k p2] X.env).map (·.2)=[assign (.Subscript (.Name y px) k p2) X.env]:=by rfl) :
  B3S K X i (.Assign [.Subscript (.Name y px) k p2] e pos) (fm te (p7 (bX i) (bX j) i5)) (lz i j e3):=x_ (pj i hx hk he ha hs hw h1).pe he.rf
theorem BD {jy jx jn:Nat} (hi:i≠jy) (ho:P3 K X o to (cJ ix3 (bor i) (bor jy))) (hk:P3B K X k (bX jx) (bor jx)) (he:P3 K X e (bX jn) e3)
  (ha:∀ v,assign (.Subscript o k p2) X.env v=(do
   let ov <- holding [v] (eval o X.env)
   let iv <- holding [v,ov] (eval k X.env)
   standAt p2
   holding [v,ov,iv] (setItem ov iv v)
   release [v,ov,iv] []):=by intro _;rfl)
  (hs:swapsWithSole [.Subscript o k p2] e pos.line X.env=pure false:=by rfl) (hw:swappedStores [.Subscript o k p2] e X.env=pure none:=by rfl)
  (h1:(assignEach [.Subscript o k p2] X.env).map (·.2)=[assign (.Subscript o k p2) X.env]:=by rfl) :
  B3S K X i (.Assign [.Subscript o k p2] e pos) (fm (bX jn) (p7 to (bX jx) i5)) (mz jy jx jn):=ub hi (BS (bA ho) hk he ha hs hw h1).pe ho.rf
theorem y0 {es:List Expr} {kt:Nat} {pt:Pos} (hj:i≠j) (hl:i≠l) (hK:X.K=K) (he:P3 K X e te e3) (hg:PGs X es (eB [j,l])) (hc:X.calm=true) (hn:(assignEach es X.env).length=2:=by rfl) (hst:(assignEach es X.env).findIdx? (·.1)=none:=by rfl)
  (hs:swapsWithSole [.Tuple es kt pt] e pos.line X.env=pure false:=by rfl) (hw:swappedStores [.Tuple es kt pt] e X.env=pure none:=by rfl) (h1:(assignEach [.Tuple es kt pt] X.env).map (·.2)=[assign (.Tuple es kt pt) X.env]:=by rfl) :
  B3S K X i (.Assign [.Tuple es kt pt] e pos) (fm te (wm K 2 (eB [j,l]))) (m9 i j l e3):=BE hj hl (BQ hK he hg hc hn hst hs hw h1).pe he.rf
theorem uo {H:Hp}:∀ {xss:NB} {qs:La},cZ K F H qs (gw xss)->qs.length=xss.length/\∀ (m:Nat) (q:Addr) (xs:List Bool),qs[m]?=some q->xss[m]?=some xs->H q=some (.lst (xs.map V.bl))
 | [],[],_=>⟨rfl,fun m q xs h=>by simp at h⟩
 | [],_::_,⟨_,_,_,h,_⟩=>nomatch h
 | _::_,[],h=>nomatch h
 | xs::xss,q::qs,⟨ys,yt,vs,h1,h2,h3,h4⟩=>by
  have e1:xs.map D.bl=ys:=by have:=h1;unfold gw at this;rw[List.map_cons] at this;injection this
  have e2:gw xss=yt:=by have:=h1;unfold gw at this;rw[List.map_cons] at this;injection this
  subst e1;subst e2;obtain⟨l,r⟩:=uo h4;refine⟨by rw[List.length_cons,List.length_cons,l],fun m q' zs a b=>?_⟩;cases m with
  | zero=>cases a;cases b;rw[h2,h3.mj]
  | succ m=>exact r m q' zs a b
theorem uq {H:Hp}:∀ {xss:NB} {qs:La},qs.length=xss.length->(∀ (m:Nat) (q:Addr) (xs:List Bool),qs[m]?=some q->xss[m]?=some xs->H q=some (.lst (xs.map V.bl)))->cZ K F H qs (gw xss)
 | [],[],_,_=>rfl
 | [],_::_,h,_=>nomatch h
 | _::_,[],h,_=>nomatch h
 | xs::xss,q::qs,h,hr=>⟨_,_,_,rfl,hr 0 q xs rfl rfl,ar.bls xs,uq (Nat.succ.inj h) fun m q' xs' a b=>hr (m + 1) q' xs' a b⟩
def DK (i:Nat) (e3:TE3) (n3:TNB):TS3:=fun D Γ=>e3 Γ fun r Γ1=>zw r fun yss=>bW Γ1 i/\eJ Γ1/\∃ xss:NB,yss=gw xss/\∀ p,n3 (fun Γ2 zss=>D.rt (.rws (gw zss)) Γ2) (Γ1.set i (some (.fz (.adr p)))) xss
theorem B4 {x:Str} {px pr pv:Pos} {s2:Stmt} {t2:TS} {n3:TNB} {x3:TS3} {f3:TE3} (i:Nat) (hs:P3S K X (.Assign [.Name x px] e pos) (fm te (ka i)) x3) (he:P3 K X e te e3) (hn:B3S K X i s2 t2 n3) (hv:P3 K X (.Name y pv) (bX i) f3) :
  qY K X [.Assign [.Name x px] e pos,s2,.Return (some (.Name y pv)) pr] (zb (fm te (ka i)) (zb t2 (EC (bX i)))) (DK i e3 n3):=⟨lD hs.pe (lD hn.pe (sU (zK hv.pe))),fun B F σ H Γ DD D3 e k q=>he.rf B F σ H Γ _ _ e q fun v H' ⟨F',Γ',r,s,e',rv,q'⟩=>by
  obtain⟨yss,rfl,hf,hall,xss,rfl,q5⟩:=BU q';obtain⟨p,qs,rfl,h1,h2,h3,h4⟩:=rv;have il:=lQ hf;have e1:=e'.set (r:=.fz (.adr p)) hf rfl;have hall1:eJ (Γ'.set i (some (.fz (.adr p)))):=fun s hs=>by
   rcases List.mem_or_eq_of_mem_set hs with h | h
   ·exact hall s h
   ·cases h;exact⟨_,rfl⟩
  obtain⟨lq,rows⟩:=uo h3;have ns:NSB K F' H' (p::qs) i p F' (σ.set i (some (.ref p))) H' (Γ'.set i (some (.fz (.adr p)))) xss:=⟨Ec e1 hall1,aB il,⟨qs,⟨e'.sub,h1,h2,lq,rows,fun z hz=>(h4 z hz).1⟩,⟨fun b o h _=>h,fun b h=>h,fun q h=>.inl (.tail _ h)⟩⟩,.head _,fun b o h=>.inl h⟩;refine hn.rf F' H' (p::qs) p F' _ H' _ xss _ _ ns (fun F2 σ2 H2 Γ2 zss sF t' q2=>?_) (q5 p);obtain⟨w,a,b⟩:=t'.e.fz i _ t'.at_;obtain rfl:w=.ref p:=b;obtain⟨qs2,n2,st2⟩:=t'.n;have al:=GS t'.e;have jf:∀ (j:Nat) (d:D),¬ Hld Γ2 j d:=fun j d h=>by
   rcases h with h | h <;> (obtain⟨_,z⟩:=al.at h;cases z)
  have bh:∀ z,z∈p::qs->B.H z=none:=fun z hz=>(h4 z hz).2.1;refine⟨.ref p,a,k.rt F2 σ2 H2 Γ2 (.ref p) (.rws (gw zss)) (s.trans sF) ⟨t'.e.sub,t'.e.len,t'.e.fz,fun j d h=>(jf j d h).elim,fun j d q h=>(jf j d (.inl h)).elim,fun j d q h=>(jf j d (.inr h)).elim,fun j m d d' q h=>(jf j d h).elim,fun j q h=>?_,e'.keep.trans sF,fun b o h=>?_,fun b o h hn=>?_,fun b h=>e'.dom b (st2.dom b h)⟩ ⟨p,qs2,rfl,n2.top,n2.nd,uq n2.len n2.row,fun z hz=>⟨n2.no z hz,?_,fun j d h=>(jf j d h).elim⟩⟩ q2⟩
  ·obtain⟨_,d,hd⟩:=e'.par j q h;obtain⟨_,z⟩:=hall.at hd;cases z
  ·rcases t'.nf b o h with h | h
   ·exact e'.new b o h
   ·exact .inr (e'.dom b h)
  ·exact st2.keep b o (e'.rest b o h hn) fun z=>by rw[bh b z] at h;cases h
  ·rcases List.mem_cons.mp hz with e | hm
   ·rw[e];exact bh p (.head _)
   ·rcases st2.new z hm with w | w
    ·exact bh z w
    ·exact e'.dom z w⟩
end
end L3
set_option maxHeartbeats 4000000
namespace K74
open PySem L2 L3
def fw (b:Option D):Option Sl:=b.map Sl.ow
theorem GH {s:Option D} {Γ:G}:bW (fw s::Γ) 0=True:=by cases s <;> rfl
theorem JC {n:Option D}:iB n none=none:=rfl
theorem Ky {n:Option D} {d:D}:iB n (some (.fz d))=some (.fz d):=rfl
theorem Kz {n:Option D} {d:D}:iB n (some (.ow d))=some (.ow (n.getD d)):=rfl
theorem JD {n:Option D} {d:D}:iB n (some (.ln d))=some (.ln (n.getD d)):=rfl
theorem KC {n:Option D} {s:Option D}:iB n (fo s)=fo s:=by cases s <;> rfl
theorem KA {n:Option D} {s:Option D}:iB n (fw s)=fw (s.map fun d=>n.getD d):=by cases s <;> rfl
theorem Jm {i3:TI3} {g3:TG3} {b3:TS3} {D:E3} {Γ:G} {t1:Tag (i3,g3,b3)} {t2:Tag D}:GL i3 g3 b3 D Γ t1 t2=(i3 Γ fun xs Γ1=>∃ Iv:Nat->G->Prop,Iv 0 Γ1/\(∀ k d Γ,xs[k]?=some d->Iv k Γ->g3 d Γ fun Γ'=>b3 { D with nx:=Iv (k + 1),ct:=Iv (k + 1),bk:=D.nx } Γ')/\∀ Γ,Iv xs.length Γ->D.nx Γ):=rfl
inductive Lt where
 | r | p | b
deriving DecidableEq
def Lt.c:Lt->Nat
 | .r=>114 | .p=>112 | .b=>98
def Lt.s (l:Lt):Str:=sgn l.c
theorem Lt.sr:Lt.s .r=("r":Str):=by decide +kernel
theorem Lt.sp:Lt.s .p=("p":Str):=by decide +kernel
theorem Lt.sb:Lt.s .b=("b":Str):=by decide +kernel
def wy (ls:List Lt):Str:=⟨(ls.map Lt.c).toArray⟩
theorem gu (ls:List Lt):signs (wy ls)=ls.map fun l=>D.str l.s:=by
 unfold signs wy;rw[List.map_map]
 rfl
theorem vw (ls:List Lt):asc (wy ls)=true:=by
 unfold asc wy;rw[Array.all_eq_true_iff_forall_mem];intro x hx;simp only[List.mem_toArray,List.mem_map] at hx;obtain⟨l,_,rfl⟩:=hx;cases l <;> decide
theorem iL (ls:List Lt):(wy ls).length=ls.length:=by simp [Str.length,wy]
theorem JR (ls:List Lt):(wy ls).cps.size=ls.length:=by simp [wy]
def nh (l:Lt) (h:Int):Int:=if l=.r then h else (h + 1) / 2
def nw (l:Lt) (w:Int):Int:=if l=.p then w else (w + 1) / 2
def iH (h w:Int):List Lt->List (Int×Int)
 | []=>[(h,w)]
 | l::ls=>(h,w)::iH (nh l h) (nw l w) ls
theorem jw (h w:Int):∀ ls:List Lt,(iH h w ls).length=ls.length + 1
 | []=>rfl
 | l::ls=>by rw[iH,List.length_cons,jw];rfl
def cD (c:Int×Int):D:=.tup [.int c.1,.int c.2]
def Can (l:Lt) (h w:Int):Prop:=(l≠.p->2<=w)/\(l≠.r->2<=h)
def Good (h w:Int):List Lt->Prop
 | []=>True
 | l::ls=>Can l h w/\Good (nh l h) (nw l w) ls
structure oi (h w:Int):Prop where
 h1:1<=h
 w1:1<=w
 h2:h<=64
 w2:w<=64
 m:h * w<=512
def cat (h w:Int) (ls:List Lt) (k:Nat):Int×Int:=(iH h w ls).getD k (0,0)
theorem xQ {h w:Int} {ls:List Lt} {k:Nat} (hk:k<=ls.length):(iH h w ls)[k]?=some (cat h w ls k):=by
 unfold cat
 have:k < (iH h w ls).length:=by rw[jw];omega
 rw[List.getD_eq_getElem?_getD,gE0 this];rfl
theorem Eh {h w:Int} {ls:List Lt} {k:Nat} (hk:k<=ls.length):((iH h w ls).map cD)[k]?=some (cD (cat h w ls k)):=by rw[List.getElem?_map,xQ hk];rfl
theorem mh (h w:Int) (ls:List Lt):cat h w ls 0=(h,w):=by cases ls <;> rfl
theorem vi {h w:Int} {l:Lt} {ls:List Lt} {k:Nat}:cat h w (l::ls) (k + 1)=cat (nh l h) (nw l w) ls k:=rfl
theorem gG:∀ {ls:List Lt} {h w:Int} {k:Nat} {l:Lt},ls[k]?=some l->cat h w ls (k + 1)=(nh l (cat h w ls k).1,nw l (cat h w ls k).2)
 | [],_,_,k,l,e=>by simp at e
 | l0::ls,h,w,0,l,e=>by
  have:l0=l:=by simpa using e
  subst this;rw[vi,mh,mh]
 | l0::ls,h,w,k + 1,l,e=>by
  rw[vi,vi];exact gG (by simpa using e)
theorem oJ:∀ {ls:List Lt} {h w:Int} {k:Nat} {l:Lt},Good h w ls->ls[k]?=some l->Can l (cat h w ls k).1 (cat h w ls k).2
 | [],_,_,k,l,_,e=>by simp at e
 | l0::ls,h,w,0,l,g,e=>by
  have:l0=l:=by simpa using e
  subst this;rw[mh];exact g.1
 | l0::ls,h,w,k + 1,l,g,e=>by
  rw[vi];exact oJ g.2 (by simpa using e)
theorem C7 {l:Lt} {h w:Int} (c:Can l h w) (h1:1<=h) (w1:1<=w):1<=nh l h/\1<=nw l w/\nh l h<=h/\nw l w<=w:=by
 cases l <;> simp [nh,nw] <;> omega
theorem dU:∀ {ls:List Lt} {h w:Int} {k:Nat},Good h w ls->1<=h->1<=w->k<=ls.length->1<=(cat h w ls k).1/\1<=(cat h w ls k).2/\(cat h w ls k).1<=h/\(cat h w ls k).2<=w
 | ls,h,w,0,_,h1,w1,_=>by rw[mh];exact⟨h1,w1,Int.le_refl _,Int.le_refl _⟩
 | [],_,_,k + 1,_,_,_,hk=>by simp at hk
 | l::ls,h,w,k + 1,g,h1,w1,hk=>by
  rw[vi];obtain⟨a,b,c,d⟩:=C7 g.1 h1 w1;obtain⟨a',b',c',d'⟩:=dU (k:=k) g.2 a b (by simpa using hk);exact⟨a',b',Int.le_trans c' c,Int.le_trans d' d⟩
theorem mn {h w:Int} {ls:List Lt} {k:Nat} (hk:k<=ls.length):atI ((iH h w ls).map cD) (k:Int)=some (cD (cat h w ls k)):=b9 (by omega) (by rw[Int.toNat_natCast];exact Eh hk)
theorem Dg {α:Type} {xs:List α} {d:α} (e:xs[xs.length - 1]?=some d):atI xs (-1)=some d:=by
 have lt:=(gS0 e).1;have e2:ixN xs.length (-1)=some (xs.length - 1):=by
  unfold ixN;rw[if_neg (by decide),if_pos (by omega)]
  congr 1
  omega
 unfold L2.atI;rw[e2];exact e
theorem IU {l:Lt}:inV (V.str l.s) [V.str "r",V.str "b"]=!(l == .p):=by cases l <;> decide +kernel
theorem IV {l:Lt}:inV (V.str l.s) [V.str "p",V.str "b"]=!(l == .r):=by cases l <;> decide +kernel
theorem IQ {l:Lt} {Γ:G} {Q:RV->G->Prop}:in3 false (.str l.s) (kt ["r","b"]) Γ Q=Q (.fz (.bl (!(l == .p)))) Γ:=by
 refine propext ⟨fun ⟨xs,h1,_,_,q⟩=>?_,fun q=>⟨_,rfl,rfl,rfl,?_⟩⟩
 ·have e:xs=[D.str "r",D.str "b"]:=(Option.some.inj h1).symm;subst e;have q:Q (.fz (.bl (inV (V.str l.s) [V.str "r",V.str "b"]))) Γ:=q;rw[IU] at q;exact q
 ·show Q (.fz (.bl (inV (V.str l.s) [V.str "r",V.str "b"]))) Γ;rw[IU];exact q
theorem IS {l:Lt} {Γ:G} {Q:RV->G->Prop}:in3 false (.str l.s) (kt ["p","b"]) Γ Q=Q (.fz (.bl (!(l == .r)))) Γ:=by
 refine propext ⟨fun ⟨xs,h1,_,_,q⟩=>?_,fun q=>⟨_,rfl,rfl,rfl,?_⟩⟩
 ·have e:xs=[D.str "p",D.str "b"]:=(Option.some.inj h1).symm;subst e;have q:Q (.fz (.bl (inV (V.str l.s) [V.str "p",V.str "b"]))) Γ:=q;rw[IV] at q;exact q
 ·show Q (.fz (.bl (inV (V.str l.s) [V.str "p",V.str "b"]))) Γ;rw[IV];exact q
theorem Bt {α β:Type} {f:α->β} {xs:List α} {i:Int} {c:β} (e:atI (xs.map f) i=some c):∃ l,atI xs i=some l/\c=f l:=by
 unfold L2.atI at e ⊢;rw[lM0] at e;cases q:ixN xs.length i with
 | none=>rw[q] at e;cases e
 | some j=>
  rw[q] at e;have e:(xs.map f)[j]?=some c:=e;rw[List.getElem?_map] at e;cases z:xs[j]? with
  | none=>rw[z] at e;cases e
  | some l=>rw[z] at e;cases e;exact⟨l,z,rfl⟩
def Eu (ls:List Lt) (i:Int) (k:Lt->Prop) (_:Tag k):Prop:=(wy ls).length<=sizeLine/\∃ l,atI ls i=some l/\k l
theorem IK {ls:List Lt} {i:Int} {Γ:G} {Q:RV->G->Prop}:ix3 (.str (wy ls)) (.int i) Γ Q=Eu ls i (fun l=>Q (.fz (.str l.s)) Γ) ⟨⟩:=by
 refine propext ⟨fun ⟨h1,c,h2,q⟩=>⟨h1,?_⟩,fun ⟨h1,l,h2,q⟩=>⟨h1,l.c,?_,q⟩⟩
 ·obtain⟨l,hl,rfl⟩:=Bt (f:=Lt.c) (xs:=ls) (by simpa [wy] using h2);exact⟨l,hl,q⟩
 ·have:=xV (f:=Lt.c) h2;simpa [wy] using this
theorem atL {ls:List Lt} {k:Nat} {l:Lt} (h:ls[k]?=some l):atI ls (k:Int)=some l:=b9 (by omega) (by rw[Int.toNat_natCast];exact h)
theorem sEb {l:Lt}:(l.s == ("b":Str))=(l == .b):=by cases l <;> decide +kernel
theorem sEr {l:Lt}:(l.s == ("r":Str))=(l == .r):=by cases l <;> decide +kernel
theorem sEp {l:Lt}:(l.s == ("p":Str))=(l == .p):=by cases l <;> decide +kernel
theorem Kv {a b c d e f:D}:cut [a,b,c,d,e,f] (some 2) none=[c,d,e,f]:=rfl
theorem Ke:(("corners":Str) == ("chosen":Str))=false:=by decide +kernel
theorem Kc:(("letters":Str) == ("chosen":Str))=false:=by decide +kernel
theorem Ka:(("letters":Str) == ("corners":Str))=false:=by decide +kernel
theorem Kd:(("chosen":Str) == ("chosen":Str))=true:=by decide +kernel
theorem J_:(("corners":Str) == ("corners":Str))=true:=by decide +kernel
theorem Kb:(("letters":Str) == ("letters":Str))=true:=by decide +kernel
theorem Iw:(Lt.r == Lt.r)=true:=rfl
theorem Iy:(Lt.r == Lt.p)=false:=rfl
theorem IB:(Lt.p == Lt.r)=false:=rfl
theorem IC:(Lt.p == Lt.p)=true:=rfl
theorem IE:(Lt.b == Lt.r)=false:=rfl
theorem IF:(Lt.b == Lt.p)=false:=rfl
theorem IA:(Lt.r == Lt.b)=false:=rfl
theorem ID:(Lt.p == Lt.b)=false:=rfl
theorem IG:(Lt.b == Lt.b)=true:=rfl
theorem JE {c:Bool} {x y:D}:atI [x,y] (if c=true then 1 else 0)=some (if c=true then y else x):=by cases c <;> rfl
theorem JN:Str.ofString "rpb"=wy [.r,.p,.b]:=by decide +kernel
def mkL(s:String):Lean.MacroM (Array (Lean.TSyntax [`Lean.Parser.Tactic.simpStar,`Lean.Parser.Tactic.simpErase,`Lean.Parser.Tactic.simpLemma])):=do
 let mut xs:=#[]
 for w in s.splitOn " " do
  let n:=(w.dropWhile (·=='↓')).toString.toName
  let i:=match (<-Lean.Macro.resolveGlobalName n) with
   |(c,[])::_=>Lean.mkCIdent c
   |_=>Lean.mkIdent n
  let t<-if w.startsWith "↓" then `(Lean.Parser.Tactic.simpLemma|↓$i:ident) else `(Lean.Parser.Tactic.simpLemma|$i:ident)
  xs:=xs.push ⟨t.raw⟩
 return xs
local macro_rules | `(tactic| walk_at "m1")=>do `(tactic| try simp -dsimp only [$(<-mkL "fu List.length_cons List.length_nil Nat.reduceAdd Nat.reduceSub Nat.zero_add List.replicate List.cons_append List.nil_append List.append_nil ↓DZ ↓Gx ↓DY ↓D0 ↓Gz ↓Je ↓KD ↓KG ↓Kw ↓Kx H8 ↓Gs ↓zh ↓EJ sy ↓D5 ↓D6 ↓C8 ↓xD ↓AL ↓DW ↓Kq ↓Kp ↓AM ↓D2 ↓h_c iO BH ↓Jc ↓Jh ↓Ko ↓Jd El H_ ↓D4 ↓DX Gat Bo.at ats RV.d RV.sl t_ i2 i2' C6 ↓DQ ↓IL xp CG CF CH FU CN mx3 KN AD FO GI GK GF GG GJ sl3 Hr ↓Gw ↓Gr II pX vA is3 knD dB dI dL dT ↓Jg Iq beq_self_eq_true i28 zC AX List.zip_cons_cons List.lookup_cons List.lookup_nil ↓BP An pZ ↓FR CY ↓IZ CA dS EM RV.fz.injEq ↓BO cf putD tgN tgT gives frees iL3 iR1 iZ3 iE3 lz3 KJ ↓xR ↓C4 ↓Ba ↓GN List.isEmpty_nil List.isEmpty_cons ↓GA ↓CW GP GQ ↓Jf ↓FQ du qX gL bN bZ List.map_cons List.map_nil Option.bind_some Option.bind_none List.nodup_nil List.nodup_cons List.getElem?_cons_zero List.getElem?_cons_succ List.getElem?_nil List.set_cons_zero List.set_cons_succ exists_eq_left' exists_eq_left exists_eq' exists_eq exists_and_left exists_and_right Option.some.injEq D.int.injEq D.lst.injEq D.str.injEq D.tup.injEq D.bl.injEq D.ins.injEq D.ty.injEq List.cons.injEq and_true true_and and_false false_and true_or false_or or_false or_true and_assoc List.not_mem_nil not_false_eq_true wL ve C_ vd Jo Jn Jp vc Bool.false_xor Bool.not_true Bool.not_false Bool.true_xor iD List.mapIdx_cons List.mapIdx_nil Dd yV wK Bq CL Au As Nat.reduceLT decide_true Bm Bn Bp ite_self newD Option.getD_some Option.getD_none JI JH JG JF Gk Gj Gi if_pos if_true if_false List.all_cons List.all_nil Option.isNone_none Bool.and_true Bool.true_and decide_eq_true_eq not_true not_false_iff reduceCtorEq eq_self Bool.false_eq_true reduceIte Int.reduceEq JC Ky Kz JD KC KA GH Hg Hf frL HZ iT3 Nat.reduceEqDiff IP Kl Kk ↓fz3 D.exc.injEq D.adr.injEq vG EW Ez ↓C2 ↓CV ↓Gv G0 ET JW ↓GB ↓Gu ↓Km ↓IK sEb sEr sEp Kv ↓IQ ↓IS Ke Kc Ka Kd J_ Kb Iw Iy IB IC IE IF IA ID IG JE JN ↓Gy Hq iR2 I9 ext3 Et xn"),*])
def top (i:Nat):Stmt:=PySem.Challenge.pw_halvedpictures_k74_inner_places.main.body.getD i (.Pass ⟨0,0,0,0⟩)
abbrev kD:Stmt:=top 10
abbrev mE:Stmt:=top 11
abbrev kB:Stmt:=top 13
abbrev iW:Stmt:=inClass (top 14) 0
abbrev gf:Stmt:=inClass (top 15) 0
abbrev fB:Stmt:=inClass (top 17) 0
abbrev fA:Stmt:=inClass (top 18) 0
abbrev iS:Stmt:=top 19
abbrev mD:Stmt:=top 20
abbrev iR:Stmt:=top 24
abbrev gW:Stmt:=top 25
abbrev fV:Stmt:=top 26
abbrev eA:Stmt:=inClass (top 27) 0
abbrev f_:Stmt:=inClass (top 27) 1
abbrev gX:Stmt:=inClass (top 27) 2
abbrev iX:Stmt:=inClass (top 27) 3
abbrev kG:Stmt:=inClass (top 27) 4
abbrev gY:Stmt:=inClass (top 27) 5
abbrev gc:Stmt:=inClass (top 27) 6
abbrev gZ:Stmt:=inClass (top 27) 7
abbrev cA:Stmt:=inClass (top 27) 8
abbrev eU:Stmt:=inClass (top 27) 9
abbrev lC:Stmt:=top 29
abbrev iQ:Stmt:=top 30
abbrev eS:Stmt:=top 31
abbrev gU:Stmt:=top 32
abbrev fZ:Stmt:=top 33
abbrev zu:Stmt:=top 35
abbrev dJ:Stmt:=top 36
abbrev da:Stmt:=top 37
abbrev cc:Stmt:=top 38
abbrev cP:Stmt:=top 39
abbrev kC:Stmt:=top 41
abbrev cF:Stmt:=top 42
abbrev iV:Stmt:=top 44
abbrev kF:Stmt:=top 45
abbrev iT:Stmt:=top 46
abbrev iU:Stmt:=top 47
abbrev kE:Stmt:=top 48
abbrev bU:Stmt:=top 49
abbrev df:Stmt:=top 50
abbrev de:Stmt:=top 51
abbrev w4:Stmt:=top 52
theorem ui:aC ["thing","low","high"] ["thing","low","high"] (ah kD):=⟨rfl,rfl,rfl,by decide +kernel,rfl,by decide +kernel,by decide +kernel⟩
theorem vF:aC ["height","width"] ["height","width"] (ah mE):=⟨rfl,rfl,rfl,by decide +kernel,rfl,by decide +kernel,by decide +kernel⟩
theorem uh:aC ["row"] ["row"] (ah kB):=⟨rfl,rfl,rfl,by decide +kernel,rfl,by decide +kernel,by decide +kernel⟩
theorem sJ:aC ["self"] ["self"] (ah iW):=⟨rfl,rfl,rfl,by decide +kernel,rfl,by decide +kernel,by decide +kernel⟩
theorem ph:aC ["self"] ["self"] (ah gf):=⟨rfl,rfl,rfl,by decide +kernel,rfl,by decide +kernel,by decide +kernel⟩
theorem n6:aC ["self"] ["self"] (ah fB):=⟨rfl,rfl,rfl,by decide +kernel,rfl,by decide +kernel,by decide +kernel⟩
theorem n4:aC ["self"] ["self"] (ah fA):=⟨rfl,rfl,rfl,by decide +kernel,rfl,by decide +kernel,by decide +kernel⟩
theorem sG:aC [] [] (ah iS):=⟨rfl,rfl,rfl,by decide +kernel,rfl,by decide +kernel,by decide +kernel⟩
theorem o8:aC ["word","rule"] ["word"] (ah mD):=⟨rfl,rfl,rfl,by decide +kernel,rfl,by decide +kernel,by decide +kernel⟩
theorem sE:aC ["letter","height","width"] ["letter","height","width"] (ah iR):=⟨rfl,rfl,rfl,by decide +kernel,rfl,by decide +kernel,by decide +kernel⟩
theorem cL:aC ["height","width","way","corners","letter"] ["height","width","way"] (ah gW):=⟨rfl,rfl,rfl,by decide +kernel,rfl,by decide +kernel,by decide +kernel⟩
theorem c_:aC ["part","top","left","height","width"] ["part"] (ah fV):=⟨rfl,rfl,rfl,by decide +kernel,rfl,by decide +kernel,by decide +kernel⟩
def kS:Scope:={ kind:=.function,names:=[(".0",.local),("y",.local),("x",.local),("range",.globalImplicit),("left",.free),("width",.free)],isGenerator:=false,isCoroutine:=false,more:=[] }
theorem eD:Blk ["part","top","left","height","width"] (ah fV) kS ["y","x","left","width"] [none,none,some 2,some 4]:=⟨rfl,by decide +kernel,by decide +kernel,by decide +kernel,by decide +kernel,rfl,by decide +kernel⟩
theorem mB:aC ["self","height","width","word","way"] ["self","height","width","word","way"] (ah eA):=⟨rfl,rfl,rfl,by decide +kernel,rfl,by decide +kernel,by decide +kernel⟩
theorem o_:aC ["self"] ["self"] (ah f_):=⟨rfl,rfl,rfl,by decide +kernel,rfl,by decide +kernel,by decide +kernel⟩
theorem qC:aC ["self"] ["self"] (ah gX):=⟨rfl,rfl,rfl,by decide +kernel,rfl,by decide +kernel,by decide +kernel⟩
theorem sL:aC ["self"] ["self"] (ah iX):=⟨rfl,rfl,rfl,by decide +kernel,rfl,by decide +kernel,by decide +kernel⟩
theorem uk:aC ["self"] ["self"] (ah kG):=⟨rfl,rfl,rfl,by decide +kernel,rfl,by decide +kernel,by decide +kernel⟩
theorem qD:aC ["self"] ["self"] (ah gY):=⟨rfl,rfl,rfl,by decide +kernel,rfl,by decide +kernel,by decide +kernel⟩
theorem pb:aC ["self","step"] ["self","step"] (ah gc):=⟨rfl,rfl,rfl,by decide +kernel,rfl,by decide +kernel,by decide +kernel⟩
theorem cM:aC ["self","height","width","parts","step"] ["self"] (ah gZ):=⟨rfl,rfl,rfl,by decide +kernel,rfl,by decide +kernel,by decide +kernel⟩
theorem aN:aC ["self","step","height","width","many_down","many_along","letter","parts"] ["self","step"] (ah cA):=⟨rfl,rfl,rfl,by decide +kernel,rfl,by decide +kernel,by decide +kernel⟩
theorem qE:aC ["self"] ["self"] (ah eU):=⟨rfl,rfl,rfl,by decide +kernel,rfl,by decide +kernel,by decide +kernel⟩
def j4:Scope:={ kind:=.function,names:=[(".0",.local),("part",.local),("place",.local),("places_of",.globalImplicit)],isGenerator:=false,isCoroutine:=false,more:=[] }
theorem dF:Blk ["self"] (ah eU) j4 ["part","place"] [none,none]:=⟨rfl,by decide +kernel,by decide +kernel,by decide +kernel,by decide +kernel,rfl,by decide +kernel⟩
theorem yf:aC ["rows"] ["rows"] (ah lC):=⟨rfl,rfl,rfl,by decide +kernel,rfl,by decide +kernel,by decide +kernel⟩
def oh:Scope:={ kind:=.function,names:=[(".0",.local),("x",.cell),("rows",.free)],isGenerator:=false,isCoroutine:=false,more:=[] }
theorem mm:Blk ["rows"] (ah lC) oh ["x","rows"] [none,some 0]:=⟨rfl,by decide +kernel,by decide +kernel,by decide +kernel,by decide +kernel,rfl,by decide +kernel⟩
def og:Scope:={ kind:=.function,names:=[(".0",.local),("x",.cell),("rows",.cell)],isGenerator:=false,isCoroutine:=false,more:=[] }
def oa:Scope:={ kind:=.function,names:=[(".0",.local),("row",.local),("x",.free)],isGenerator:=false,isCoroutine:=false,more:=[] }
theorem ml:Blk ["x","rows"] (og) oa ["row","x"] [none,some 0]:=⟨rfl,by decide +kernel,by decide +kernel,by decide +kernel,by decide +kernel,rfl,by decide +kernel⟩
theorem gT:aC ["part","row","many","sums","differences"] ["part","row","many"] (ah iQ):=⟨rfl,rfl,rfl,by decide +kernel,rfl,by decide +kernel,by decide +kernel⟩
theorem qB:aC ["part","rows","height","width"] ["part","rows","height","width"] (ah eS):=⟨rfl,rfl,rfl,by decide +kernel,rfl,by decide +kernel,by decide +kernel⟩
def jW:Scope:={ kind:=.function,names:=[(".0",.local),("row",.local),("halve_row",.globalImplicit),("part",.free),("width",.free)],isGenerator:=false,isCoroutine:=false,more:=[] }
theorem gH:Blk ["part","rows","height","width"] (ah eS) jW ["row","part","width"] [none,some 0,some 3]:=⟨rfl,by decide +kernel,by decide +kernel,by decide +kernel,by decide +kernel,rfl,by decide +kernel⟩
theorem ck:aC ["plan","part","rows","step","height","width","letter"] ["plan","part","rows","step"] (ah gU):=⟨rfl,rfl,rfl,by decide +kernel,rfl,by decide +kernel,by decide +kernel⟩
theorem fv:aC ["plan","part","rows","step"] ["plan","part","rows"] (ah fZ):=⟨rfl,rfl,rfl,by decide +kernel,rfl,by decide +kernel,by decide +kernel⟩
theorem EO:aC ["marks","at"] ["marks","at"] (ah zu):=⟨rfl,rfl,rfl,by decide +kernel,rfl,by decide +kernel,by decide +kernel⟩
theorem o9:aC ["row"] ["row"] (ah dJ):=⟨rfl,rfl,rfl,by decide +kernel,rfl,by decide +kernel,by decide +kernel⟩
def jz:Scope:={ kind:=.function,names:=[(".0",.local),("first",.local),("second",.local)],isGenerator:=false,isCoroutine:=false,more:=[] }
theorem dm:Blk ["row"] (ah dJ) jz ["first","second"] [none,none]:=⟨rfl,by decide +kernel,by decide +kernel,by decide +kernel,by decide +kernel,rfl,by decide +kernel⟩
theorem nZ:aC ["row"] ["row"] (ah da):=⟨rfl,rfl,rfl,by decide +kernel,rfl,by decide +kernel,by decide +kernel⟩
def iI:Scope:={ kind:=.function,names:=[(".0",.local),("first",.local),("second",.local)],isGenerator:=false,isCoroutine:=false,more:=[] }
theorem cX:Blk ["row"] (ah da) iI ["first","second"] [none,none]:=⟨rfl,by decide +kernel,by decide +kernel,by decide +kernel,by decide +kernel,rfl,by decide +kernel⟩
theorem dA:aC ["row","differences","sums"] ["row"] (ah cc):=⟨rfl,rfl,rfl,by decide +kernel,rfl,by decide +kernel,by decide +kernel⟩
def iq:Scope:={ kind:=.function,names:=[(".0",.local),("at",.local),("first",.local),("has",.globalImplicit),("differences",.free)],isGenerator:=false,isCoroutine:=false,more:=[] }
theorem cK:Blk ["row","differences","sums"] (ah cc) iq ["at","first","differences"] [none,none,some 1]:=⟨rfl,by decide +kernel,by decide +kernel,by decide +kernel,by decide +kernel,rfl,by decide +kernel⟩
def ip:Scope:={ kind:=.function,names:=[(".0",.local),("at",.local),("has",.globalImplicit),("row",.free)],isGenerator:=false,isCoroutine:=false,more:=[] }
theorem eH:Blk ["row","differences","sums"] (ah cc) ip ["at","row"] [none,some 0]:=⟨rfl,by decide +kernel,by decide +kernel,by decide +kernel,by decide +kernel,rfl,by decide +kernel⟩
theorem gv:aC ["row","sums"] ["row"] (ah cP):=⟨rfl,rfl,rfl,by decide +kernel,rfl,by decide +kernel,by decide +kernel⟩
def ik:Scope:={ kind:=.function,names:=[(".0",.local),("at",.local),("has",.globalImplicit),("sums",.free)],isGenerator:=false,isCoroutine:=false,more:=[] }
theorem eE:Blk ["row","sums"] (ah cP) ik ["at","sums"] [none,some 1]:=⟨rfl,by decide +kernel,by decide +kernel,by decide +kernel,by decide +kernel,rfl,by decide +kernel⟩
theorem m7:aC ["word","row","deed"] ["word","row"] (ah kC):=⟨rfl,rfl,rfl,by decide +kernel,rfl,by decide +kernel,by decide +kernel⟩
theorem lA:aC ["plan","word","marks","rows"] ["plan"] (ah cF):=⟨rfl,rfl,rfl,by decide +kernel,rfl,by decide +kernel,by decide +kernel⟩
def qt:Scope:={ kind:=.function,names:=[(".0",.local),("y",.local),("x",.local),("rows",.free)],isGenerator:=false,isCoroutine:=false,more:=[] }
theorem jA:Blk ["plan","word","marks","rows"] (ah cF) qt ["y","x","rows"] [none,none,some 3]:=⟨rfl,by decide +kernel,by decide +kernel,by decide +kernel,by decide +kernel,rfl,by decide +kernel⟩
def qr:Scope:={ kind:=.function,names:=[(".0",.local),("line",.local),("plan",.free)],isGenerator:=false,isCoroutine:=false,more:=[] }
theorem nO:Blk ["plan","word","marks","rows"] (ah cF) qr ["line","plan"] [none,some 0]:=⟨rfl,by decide +kernel,by decide +kernel,by decide +kernel,by decide +kernel,rfl,by decide +kernel⟩
theorem sI:aC ["_law_script","_law_k"] ["_law_script","_law_k"] (ah iV):=⟨rfl,rfl,rfl,by decide +kernel,rfl,by decide +kernel,by decide +kernel⟩
theorem uj:aC ["_law_cell_here"] ["_law_cell_here"] (ah kF):=⟨rfl,rfl,rfl,by decide +kernel,rfl,by decide +kernel,by decide +kernel⟩
theorem eR:aC ["_law_box_here","_law_many","_law_digit","_law_number"] ["_law_box_here","_law_many"] (ah iT):=⟨rfl,rfl,rfl,by decide +kernel,rfl,by decide +kernel,by decide +kernel⟩
theorem lB:aC ["_law_box_here","_law_height"] ["_law_box_here"] (ah iU):=⟨rfl,rfl,rfl,by decide +kernel,rfl,by decide +kernel,by decide +kernel⟩
theorem bO:aC ["_law_box_here","_law_size_here","_law_height","_law_width","_law_way_here","_law_lap","_law_letter"] ["_law_box_here","_law_size_here"] (ah kE):=⟨rfl,rfl,rfl,by decide +kernel,rfl,by decide +kernel,by decide +kernel⟩
theorem bu:aC ["_law_word","_law_marks_here","_law_ones","_law_others","_law_pairs","_law_found","_law_sides","_law_sums"] ["_law_word","_law_marks_here"] (ah bU):=⟨rfl,rfl,rfl,by decide +kernel,rfl,by decide +kernel,by decide +kernel⟩
def jE:Scope:={ kind:=.function,names:=[(".0",.local),("_law_pair",.local),("_law_left",.local),("_law_right",.local)],isGenerator:=false,isCoroutine:=false,more:=[] }
theorem cx:Blk ["_law_word","_law_marks_here","_law_ones","_law_others","_law_pairs","_law_found","_law_sides","_law_sums"] (ah bU) jE ["_law_pair","_law_left","_law_right"] [none,none,none]:=⟨rfl,by decide +kernel,by decide +kernel,by decide +kernel,by decide +kernel,rfl,by decide +kernel⟩
def jD:Scope:={ kind:=.function,names:=[(".0",.local),("_law_one",.local),("_law_left",.local),("_law_right",.local)],isGenerator:=false,isCoroutine:=false,more:=[] }
theorem cv:Blk ["_law_word","_law_marks_here","_law_ones","_law_others","_law_pairs","_law_found","_law_sides","_law_sums"] (ah bU) jD ["_law_one","_law_left","_law_right"] [none,none,none]:=⟨rfl,by decide +kernel,by decide +kernel,by decide +kernel,by decide +kernel,rfl,by decide +kernel⟩
def jC:Scope:={ kind:=.function,names:=[(".0",.local),("_law_pair",.local),("_law_behind",.local)],isGenerator:=false,isCoroutine:=false,more:=[] }
theorem dr:Blk ["_law_word","_law_marks_here","_law_ones","_law_others","_law_pairs","_law_found","_law_sides","_law_sums"] (ah bU) jC ["_law_pair","_law_behind"] [none,none]:=⟨rfl,by decide +kernel,by decide +kernel,by decide +kernel,by decide +kernel,rfl,by decide +kernel⟩
def jB:Scope:={ kind:=.function,names:=[(".0",.local),("_law_one",.local),("_law_other",.local)],isGenerator:=false,isCoroutine:=false,more:=[] }
theorem dq:Blk ["_law_word","_law_marks_here","_law_ones","_law_others","_law_pairs","_law_found","_law_sides","_law_sums"] (ah bU) jB ["_law_one","_law_other"] [none,none]:=⟨rfl,by decide +kernel,by decide +kernel,by decide +kernel,by decide +kernel,rfl,by decide +kernel⟩
theorem aI:aC ["_law_size_here","_law_word","_law_way_here","_law_height","_law_width","_law_found","_law_letter","_law_y","_law_sums","_law_more","_law_x","_law_mark"] ["_law_size_here","_law_word","_law_way_here"] (ah df):=⟨rfl,rfl,rfl,by decide +kernel,rfl,by decide +kernel,by decide +kernel⟩
def j0:Scope:={ kind:=.function,names:=[(".0",.local),("_law_y",.local),("_law_width",.free)],isGenerator:=false,isCoroutine:=false,more:=[] }
theorem cH:Blk ["_law_size_here","_law_word","_law_way_here","_law_height","_law_width","_law_found","_law_letter","_law_y","_law_sums","_law_more","_law_x","_law_mark"] (ah df) j0 ["_law_y","_law_width"] [none,some 4]:=⟨rfl,by decide +kernel,by decide +kernel,by decide +kernel,by decide +kernel,rfl,by decide +kernel⟩
def jZ:Scope:={ kind:=.function,names:=[(".0",.local),("_law_y",.local),("_law_found",.free),("_law_x",.free)],isGenerator:=false,isCoroutine:=false,more:=[] }
theorem gK:Blk ["_law_size_here","_law_word","_law_way_here","_law_height","_law_width","_law_found","_law_letter","_law_y","_law_sums","_law_more","_law_x","_law_mark"] (ah df) jZ ["_law_y","_law_found","_law_x"] [none,some 5,some 10]:=⟨rfl,by decide +kernel,by decide +kernel,by decide +kernel,by decide +kernel,rfl,by decide +kernel⟩
theorem aG:aC ["_law_size_here","_law_way_here","_law_height","_law_width","_law_parts","_law_letter","_law_low","_law_right","_law_some","_law_found","_law_top","_law_bottom","_law_left","_law_y"] ["_law_size_here","_law_way_here"] (ah de):=⟨rfl,rfl,rfl,by decide +kernel,rfl,by decide +kernel,by decide +kernel⟩
def jY:Scope:={ kind:=.function,names:=[(".0",.local),("_law_x",.local),("_law_y",.free)],isGenerator:=false,isCoroutine:=false,more:=[] }
theorem gJ:Blk ["_law_size_here","_law_way_here","_law_height","_law_width","_law_parts","_law_letter","_law_low","_law_right","_law_some","_law_found","_law_top","_law_bottom","_law_left","_law_y"] (ah de) jY ["_law_x","_law_y"] [none,some 13]:=⟨rfl,by decide +kernel,by decide +kernel,by decide +kernel,by decide +kernel,rfl,by decide +kernel⟩
def jX:Scope:={ kind:=.function,names:=[(".0",.local),("_law_part",.local)],isGenerator:=false,isCoroutine:=false,more:=[] }
theorem gI:Blk ["_law_size_here","_law_way_here","_law_height","_law_width","_law_parts","_law_letter","_law_low","_law_right","_law_some","_law_found","_law_top","_law_bottom","_law_left","_law_y"] (ah de) jX ["_law_part"] [none]:=⟨rfl,by decide +kernel,by decide +kernel,by decide +kernel,by decide +kernel,rfl,by decide +kernel⟩
theorem eu:aC ["_law_script","_law_k","_law_box_here","_law_size_here","_law_way_here","_law_order_here","_law_word","_law_marks_here","_law_due","_law_plan","_law_lap","_law_found"] ["_law_script"] (ah w4):=⟨rfl,rfl,rfl,by decide +kernel,rfl,by decide +kernel,by decide +kernel⟩
def tZ:Scope:={ kind:=.function,names:=[(".0",.local),("_law_place",.local),("_law_marks_here",.free)],isGenerator:=false,isCoroutine:=false,more:=[] }
theorem r9:Blk ["_law_script","_law_k","_law_box_here","_law_size_here","_law_way_here","_law_order_here","_law_word","_law_marks_here","_law_due","_law_plan","_law_lap","_law_found"] (ah w4) tZ ["_law_place","_law_marks_here"] [none,some 7]:=⟨rfl,by decide +kernel,by decide +kernel,by decide +kernel,by decide +kernel,rfl,by decide +kernel⟩
set_option genInjectivity false in
set_option genSizeOf false in
structure Ad where
 aR:Addr
 bp:Addr
 eQ:Addr
 aW:Addr
 bg:Addr
 aV:Addr
 aK:Addr
 cm:Addr
 qc:Addr
 ny:FuncData
 rT:Addr
 p9:FuncData
 qa:Addr
 nu:FuncData
 jr:Addr
 l6:FuncData
 gn:Addr
 jq:FuncData
 fM:Addr
 iA:FuncData
 fL:Addr
 iz:FuncData
 nG:Addr
 lX:FuncData
 rS:Addr
 p8:FuncData
 nF:Addr
 lW:FuncData
 l_:Addr
 kf:FuncData
 nD:Addr
 lU:FuncData
 eC:Addr
 gF:FuncData
 gk:Addr
 jm:FuncData
 h9:Addr
 ki:FuncData
 jt:Addr
 l7:FuncData
 kR:Addr
 nC:FuncData
 h_:Addr
 kj:FuncData
 gm:Addr
 jo:FuncData
 ig:Addr
 km:FuncData
 cC:Addr
 dv:FuncData
 ij:Addr
 kn:FuncData
 u_:Addr
 rR:FuncData
 nE:Addr
 lV:FuncData
 l9:Addr
 ke:FuncData
 l8:Addr
 kc:FuncData
 ko:Addr
 jj:FuncData
 Eb:Addr
 AZ:FuncData
 kq:Addr
 jk:FuncData
 b8:Addr
 iy:FuncData
 cS:Addr
 gE:FuncData
 cR:Addr
 gD:FuncData
 qb:Addr
 nv:FuncData
 xH:Addr
 p_:FuncData
 nJ:Addr
 l5:FuncData
 qe:Addr
 nB:FuncData
 nH:Addr
 lY:FuncData
 nI:Addr
 lZ:FuncData
 qd:Addr
 nA:FuncData
 kr:Addr
 jl:FuncData
 md:Addr
 kh:FuncData
 ma:Addr
 kg:FuncData
 A0:Addr
 wq:FuncData
 eY:Addr
 dW:Addr
structure Txt (w:World) (K:Fg0) (mg:SV) (a:Ad):Prop where
 ql:Cls K a.aW
 v9:mg "Guessed"=some (.ref a.aW)
 mk_Guessed:Mk0 K a.aW
 rZ:Cls K a.bg
 yF:mg "Halves"=some (.ref a.bg)
 mk_Halves:Mk0 K a.bg
 qk:Cls K a.aV
 v8:mg "Leaning"=some (.ref a.aV)
 mk_Leaning:Mk0 K a.aV
 aQ:Cls K a.aK
 xo:mg "Plan"=some (.ref a.aK)
 xO:Cls K a.cm
 CI:mg "Sums"=some (.ref a.cm)
 mk_Sums:Mk0 K a.cm
 jg:dG K a.aK "chosen"
 bD:dG K a.aK "corners"
 cQ:dG K a.aK "letters"
 cg:G7 K mg "ALONG_PILLARS" a.aR ["p","b"]
 dk:G7 K mg "ALONG_ROWS" a.bp ["r","b"]
 C1:G8 K w.params mg "MARKS" a.eQ [("sum",a.b8),("half",a.b8),("guess",a.cS),("lean",a.cR)]
 tys:TyS K
 bR:FX K mg "is_whole" "is_whole" kD a.qc a.ny ["thing","low","high"]
 jI:FX K mg "is_size" "is_size" mE a.rT a.p9 ["height","width"]
 cU:FX K mg "pairs_of" "pairs_of" kB a.qa a.nu ["row"]
 iK:FY K "word" "Sums.word" iW a.jr a.l6 ["self"]
 fY:FY K "word" "Halves.word" gf a.gn a.jq ["self"]
 fi:FY K "word" "Guessed.word" fB a.fM a.iA ["self"]
 fh:FY K "word" "Leaning.word" fA a.fL a.iz ["self"]
 fQ:FX K mg "all_rules" "all_rules" iS a.nG a.lX []
 jH:FX K mg "rule_of" "rule_of" mD a.rS a.p8 ["word"]
 fP:FX K mg "can_halve" "can_halve" iR a.nF a.lW ["letter","height","width"]
 eL:FX K mg "corners_of" "corners_of" gW a.l_ a.kf ["height","width","way"]
 fN:FX K mg "places_of" "places_of" fV a.nD a.lU ["part"]
 ej:FY K "__init__" "Plan.__init__" eA a.eC a.gF ["self","height","width","word","way"]
 j8:FY K "height" "Plan.height" f_ a.gk a.jm ["self"]
 kX:FY K "width" "Plan.width" gX a.h9 a.ki ["self"]
 dX:FY K "rule" "Plan.rule" iX a.jt a.l7 ["self"]
 oQ:FY K "way" "Plan.way" kG a.kR a.nC ["self"]
 c8:FY K "steps" "Plan.steps" gY a.h_ a.kj ["self"]
 j9:FY K "corner" "Plan.corner" gc a.gm a.jo ["self","step"]
 kY:FY K "parts" "Plan.parts" gZ a.ig a.km ["self"]
 dY:FY K "parts_of_step" "Plan.parts_of_step" cA a.cC a.dv ["self","step"]
 kZ:FY K "order" "Plan.order" eU a.ij a.kn ["self"]
 ff:FX K mg "turned" "turned" lC a.u_ a.rR ["rows"]
 fO:FX K mg "halve_row" "halve_row" iQ a.nE a.lV ["part","row","many"]
 cb:FX K mg "halve_rows" "halve_rows" eS a.l9 a.ke ["part","rows","height","width"]
 eK:FX K mg "step_forth" "step_forth" gU a.l8 a.kc ["plan","part","rows","step"]
 dH:FX K mg "steps_forth" "steps_forth" fZ a.ko a.jj ["plan","part","rows"]
 c7:FX K mg "has" "has" zu a.Eb a.AZ ["marks","at"]
 bQ:FX K mg "paired_sums" "paired_sums" dJ a.kq a.jk ["row"]
 fg:FX K mg "paired_marks" "paired_marks" da a.b8 a.iy ["row"]
 eh:FX K mg "guessed_marks" "guessed_marks" cc a.cS a.gE ["row"]
 ee:FX K mg "leaning_marks" "leaning_marks" cP a.cR a.gD ["row"]
 gO:FX K mg "marks_of" "marks_of" kC a.qb a.nv ["word","row"]
 gP:FX K mg "inner" "inner" cF a.xH a.p_ ["plan"]
 Bc:a.p_.code=.ref a.eY
 AK:PySem.W.codeHdIn K a.eY a.dW=true
 fU:FX K mg "_law_cell" "_law_cell" iV a.nJ a.l5 ["_law_script","_law_k"]
 gR:FX K mg "_law_box" "_law_box" kF a.qe a.nB ["_law_cell_here"]
 aw:FX K mg "_law_take" "_law_take" iT a.nH a.lY ["_law_box_here","_law_many"]
 fR:FX K mg "_law_size" "_law_size" iU a.nI a.lZ ["_law_box_here"]
 gQ:FX K mg "_law_way" "_law_way" kE a.qd a.nA ["_law_box_here","_law_size_here"]
 bS:FX K mg "_law_marked" "_law_marked" bU a.kr a.jl ["_law_word","_law_marks_here"]
 eN:FX K mg "_law_marks" "_law_marks" df a.md a.kh ["_law_size_here","_law_word","_law_way_here"]
 eM:FX K mg "_law_order" "_law_order" de a.ma a.kg ["_law_size_here","_law_way_here"]
 Hc:FX K mg "law" "law" w4 a.A0 a.wq ["_law_script"]
 mk_Plan:Mk K a.aK a.eC
 ix:Meth K a.aW "word" a.fM
 jh:Meth K a.bg "word" a.gn
 iw:Meth K a.aV "word" a.fL
 pT:Meth K a.aK "height" a.gk
 qP:Meth K a.aK "width" a.h9
 eX:Meth K a.aK "rule" a.jt
 uV:Meth K a.aK "way" a.kR
 dR:Meth K a.aK "steps" a.h_
 pU:Meth K a.aK "corner" a.gm
 qQ:Meth K a.aK "parts" a.ig
 iF:Meth K a.aK "parts_of_step" a.cC
 qR:Meth K a.aK "order" a.ij
 lL:Meth K a.cm "word" a.jr
 qW:∃ t,mg "MOST_PLACES"=some (.int 512 t)
 nN:∃ t,mg "MOST_SIDE"=some (.int 64 t)
 z_bool:mg "bool"=none
 z_enumerate:mg "enumerate"=none
 z_int:mg "int"=none
 z_isinstance:mg "isinstance"=none
 z_len:mg "len"=none
 z_list:mg "list"=none
 z_max:mg "max"=none
 z_min:mg "min"=none
 z_range:mg "range"=none
 z_repr:mg "repr"=none
 z_reversed:mg "reversed"=none
 z_str:mg "str"=none
 z_tuple:mg "tuple"=none
 z_zip:mg "zip"=none
 ty:mq K
theorem snoc {f:Nat->D} {k:Nat} {d:D} (h:d=f k):(List.range k).map f++[d]=(List.range (k + 1)).map f:=by
 rw[List.range_succ,List.map_append,h];rfl
theorem lM {f:Nat->D} {k n:Nat} {d:D} (h:((List.range n).map f)[k]?=some d):k < n/\d=f k:=by
 have lt:k < n:=by have:=(gS0 h).1;simpa using this
 rw[List.getElem?_map,List.getElem?_range lt] at h;cases h;exact⟨lt,rfl⟩
theorem small {n:Nat} (h:n<=1000):n < sizeLine:=by rw[sizeLine_eq];omega
theorem sZ {α β:Type} (f:α->β) (xs:List α) (lo hi st:Option Int):pk (xs.map f) lo hi st=(pk xs lo hi st).map f:=by
 unfold pk;rw[lM0,List.map_filterMap]
 congr 1
 funext x
 rw[List.getElem?_map]
section
variable {P:Program} {w:World} {K:Fg0} {mg:SV} {base:Heap} {a:Ad}
def whD (d:D) (lo hi:Int):Bool:=match d with
 | .int i=>decide (lo<=i) && decide (i<=hi)
 | _=>false
def BG:S3:=fun Γ Q=>∃ (d:D) (lo hi:Int),Γ=[some (.fz d),some (.fz (.int lo)),some (.fz (.int hi))]/\knD d=true/\Q (.fz (.bl (whD d lo hi))) Γ
theorem jc (T:Txt w K mg a):aM P w K mg base CX0 1 a.qc a.ny ["thing","low","high"] (sp3 K 3 BG):=by
 refine ok3 T.bR.F ui (hbody:=fun cdv A outer s H E hr=>⟨_,_,(ai (cp (P3W.pt (tm (dM (a8 (Jx T.ty) (by rfl) T.z_isinstance (by decide +kernel) (ae (bv 0) (ae (P3.opd (Ae (n:="bool") (by rfl) T.z_bool (by decide +kernel))) aj)))) (oy (hX (dM (a8 (Jw T.ty) (by rfl) T.z_isinstance (by decide +kernel) (ae (bv 0) (ae (P3.opd (Ae (n:="int") (by rfl) T.z_int (by decide +kernel))) aj)))))))) (aq (aF fJ)) bE)
   (aq (aF (uJ xT xT (bv 1) (bv 0) (bv 2))))),fun Γa Q h hl=>?_⟩)
 obtain⟨d,lo,hi,rfl,hk,q⟩:=h;cases d <;> (try cases hk) <;> walk_at "m1" <;> (try exact q)
 rename_i i;by_cases h:lo<=i
 ·simp only[va,h,decide_true];simpa only[whD,h,decide_true,Bool.true_and] using q
 ·simp only[va,h,decide_false];simpa only[whD,h,decide_false,Bool.false_and] using q
inductive Rl where
 | sum | half | guess | lean
def Rl.cls (a:Ad):Rl->Addr
 | .sum=>a.cm | .half=>a.bg | .guess=>a.aW | .lean=>a.aV
abbrev Rl.ob (a:Ad) (R:Rl):D:=.ins (R.cls a) [] []
def Rl.num:Rl->Nat
 | .sum=>0 | .half=>1 | .guess=>2 | .lean=>3
def Rl.word:Rl->Str
 | .sum=>"sum" | .half=>"half" | .guess=>"guess" | .lean=>"lean"
theorem bq (i:Int) (n:Nat):(rng i n).length=n:=by unfold rng;simp
theorem JS {n k:Nat} {d:D} (h:(rng 0 n)[k]?=some d):k < n/\d=.int (k:Int):=by
 unfold rng at h;obtain⟨h1,h2⟩:=lM h;exact⟨h1,by rw[h2];simp⟩
def gS (x:Str):S3:=fun Γ Q=>∃ d,Γ=[some (.fz d)]/\Q (.fz (.str x)) Γ
theorem lK (T:Txt w K mg a):aM P w K mg base CX0 1 a.jr a.l6 ["self"] (sp3 K 1 (gS "sum")):=by
 refine ok3 T.iK.F sJ (hbody:=fun cdv A outer s H E hr=>⟨_,_,(aq (aF a_)),fun Γa Q h hl=>?_⟩);obtain⟨d,rfl,q⟩:=h;walk_at "m1";exact q
theorem je (T:Txt w K mg a):aM P w K mg base CX0 1 a.gn a.jq ["self"] (sp3 K 1 (gS "half")):=by
 refine ok3 T.fY.F ph (hbody:=fun cdv A outer s H E hr=>⟨_,_,(aq (aF a_)),fun Γa Q h hl=>?_⟩);obtain⟨d,rfl,q⟩:=h;walk_at "m1";exact q
theorem iu (T:Txt w K mg a):aM P w K mg base CX0 1 a.fM a.iA ["self"] (sp3 K 1 (gS "guess")):=by
 refine ok3 T.fi.F n6 (hbody:=fun cdv A outer s H E hr=>⟨_,_,(aq (aF a_)),fun Γa Q h hl=>?_⟩);obtain⟨d,rfl,q⟩:=h;walk_at "m1";exact q
theorem ir (T:Txt w K mg a):aM P w K mg base CX0 1 a.fL a.iz ["self"] (sp3 K 1 (gS "lean")):=by
 refine ok3 T.fh.F n4 (hbody:=fun cdv A outer s H E hr=>⟨_,_,(aq (aF a_)),fun Γa Q h hl=>?_⟩);obtain⟨d,rfl,q⟩:=h;walk_at "m1";exact q
def BV (a:Ad):S3:=fun Γ Q=>Γ=[]/\Q (.fr (.lst [Rl.sum.ob a,Rl.half.ob a,Rl.guess.ob a,Rl.lean.ob a])) Γ
theorem tH (T:Txt w K mg a):aM P w K mg base CX0 1 a.nG a.lX [] (sp3 K 0 (BV a)):=by
 refine ok3 T.fQ.F sG (hbody:=fun cdv A outer s H E hr=>⟨_,_,(aq (aF (bw (aa (jL T.mk_Sums (by rfl) T.CI) (aa (jL T.mk_Halves (by rfl) T.yF) (aa (jL T.mk_Guessed (by rfl) T.v9) (aa (jL T.mk_Leaning (by rfl) T.v8) ak))))))),fun Γa Q h hl=>?_⟩);obtain⟨rfl,q⟩:=h;walk_at "m1";exact⟨by rw[sizeLine_eq];omega,q⟩
def EU (a:Ad):S3:=fun Γ Q=>∃ (R:Rl),Γ=[some (.fz (.str R.word))]/\Q (.fz (R.ob a)) Γ
theorem vS (T:Txt w K mg a):aM P w K mg base CX0 2 a.rS a.p8 ["word"] (sp3 K 1 (EU a)):=by
 refine ok3 T.jH.F o8 (hbody:=fun cdv A outer s H E hr=>⟨_,_,(ai (fF PassesOwn.never rfl (cu (by rfl) (Aj (by rfl) (tH T) hr.dn (by rfl) T.fQ.m T.fQ.F.kp T.fQ.b)) (aP (i:=1) o8.nd rfl (Or.inl rfl))
   (aq (cp (aO (cW (by rfl) hr) (P3.opd (P3.or (aX (by rfl) (bv 1) T.xO T.lL (lK T) hr.dn T.iK.b) (P3.or (aX (by rfl) (bv 1) T.rZ T.jh (je T) hr.dn T.fY.b) (P3.or (aX (by rfl) (bv 1) T.ql T.ix (iu T) hr.dn T.fi.b) (aX (by rfl) (bv 1) T.qk T.iw (ir T) hr.dn T.fh.b))))) (bv 0) (bj _)) (aq (aF (pE 1))) bE)))
   (aq iY)),fun Γa Q h hl=>?_⟩)
 obtain⟨R,rfl,q⟩:=h;walk_at "m1";refine⟨rfl,?_⟩;walk_at "m1";refine cB (fun k Γ=>k<=R.num/\∃ s,Γ=[some (.fz (.str R.word)),fo s]) ⟨Nat.zero_le _,none,rfl⟩ ?_ ?_
 ·rintro k d Γ hd ⟨hk,s,rfl⟩
  match k,hd with
  | 0,hd=>
   cases hd;walk_at "m1";refine .inl ⟨rfl,_,rfl,?_⟩;walk_at "m1";refine kz (fun e=>?_) (fun e=>?_)
   ·have hR:R=.sum:=by cases R <;> first | rfl | exact absurd e (by decide +kernel)
    subst hR;walk_at "m1";exact q
   ·walk_at "m1";exact⟨by cases R <;> first | decide | exact absurd hk (by decide) | exact absurd e (by decide +kernel),some _,rfl⟩
  | 1,hd=>
   cases hd;walk_at "m1";refine .inr (.inl ⟨rfl,_,rfl,?_⟩);walk_at "m1";refine kz (fun e=>?_) (fun e=>?_)
   ·have hR:R=.half:=by cases R <;> first | rfl | exact absurd e (by decide +kernel)
    subst hR;walk_at "m1";exact q
   ·walk_at "m1";exact⟨by cases R <;> first | decide | exact absurd hk (by decide) | exact absurd e (by decide +kernel),some _,rfl⟩
  | 2,hd=>
   cases hd;walk_at "m1";refine .inr (.inr (.inl ⟨rfl,_,rfl,?_⟩));walk_at "m1";refine kz (fun e=>?_) (fun e=>?_)
   ·have hR:R=.guess:=by cases R <;> first | rfl | exact absurd e (by decide +kernel)
    subst hR;walk_at "m1";exact q
   ·walk_at "m1";exact⟨by cases R <;> first | decide | exact absurd hk (by decide) | exact absurd e (by decide +kernel),some _,rfl⟩
  | 3,hd=>
   cases hd;walk_at "m1";refine .inr (.inr (.inr ⟨rfl,_,rfl,?_⟩));walk_at "m1";refine kz (fun e=>?_) (fun e=>?_)
   ·have hR:R=.lean:=by cases R <;> first | rfl | exact absurd e (by decide +kernel)
    subst hR;walk_at "m1";exact q
   ·walk_at "m1";exact⟨by cases R <;> first | decide | exact absurd hk (by decide) | exact absurd e (by decide +kernel),some _,rfl⟩
 ·rintro Γ ⟨hk,_⟩;cases R <;> exact absurd (show 4<=_ from hk) (by decide)
abbrev plD (a:Ad) (R:Rl) (h w:Int) (ls:List Lt):D:=.ins a.aK ["chosen","corners","letters"] [R.ob a,.tup ((iH h w ls).map cD),.str (wy ls)]
def Ju:S3:=fun Γ Q=>∃ (l:Lt) (h w:Int),Γ=[some (.fz (.str l.s)),some (.fz (.int h)),some (.fz (.int w))]/\Can l h w/\Q (.fz (.bl true)) Γ
def EL:S3:=fun Γ Q=>∃ h w:Int,Γ=[some (.fz (.int h)),some (.fz (.int w))]/\oi h w/\Q (.fz (.bl true)) Γ
theorem vT (T:Txt w K mg a):aM P w K mg base CX0 2 a.rT a.p9 ["height","width"] (sp3 K 2 EL):=by
 refine ok3 T.jI.F vF (hbody:=fun cdv A outer s H E hr=>⟨_,_,(ai (cp (P3W.pt (tm (hX (dM (aD (by rfl) (jc T) hr.dn (by rfl) T.bR.m T.bR.F.kp T.bR.b (ae (P3.opd (p3v 0)) (ae (P3.opd ag) (ae (P3.opd (tu (i:=64) (by rfl) T.nN)) aj)))))) (oy (hX (dM (aD (by rfl) (jc T) hr.dn (by rfl) T.bR.m T.bR.F.kp T.bR.b (ae (P3.opd (p3v 1)) (ae (P3.opd ag) (ae (P3.opd (tu (i:=64) (by rfl) T.nN)) aj))))))))) (aq (aF fJ)) bE)
   (aq (aF (i_ xT (P3.opd (kN (bv 0) (bv 1))) (P3.opd (tu (i:=512) (by rfl) T.qW)) (bj _))))),fun Γa Q h hl=>?_⟩)
 obtain⟨h,w,rfl,⟨a1,a2,a3,a4,a5⟩,q⟩:=h;walk_at "m1";refine⟨_,_,_,rfl,rfl,?_⟩;rw[show whD (.int h) 1 64=true by simp only[whD,Bool.and_eq_true,decide_eq_true_eq];omega];walk_at "m1";refine⟨_,_,_,rfl,rfl,?_⟩;rw[show whD (.int w) 1 64=true by simp only[whD,Bool.and_eq_true,decide_eq_true_eq];omega];walk_at "m1";refine⟨.inl ⟨by omega,by omega⟩,?_⟩;rw[show va (h * w) 512=true by simp only[va,decide_eq_true_eq];exact a5];exact q
theorem tG (T:Txt w K mg a):aM P w K mg base CX0 1 a.nF a.lW ["letter","height","width"] (sp3 K 3 Ju):=by
 refine ok3 T.fP.F sE (hbody:=fun cdv A outer s H E hr=>⟨_,_,(ai (cp (P3W.pt (oz (aO (ku (by rfl)) (bv 0) (P3.opd (dN (p:=a.bp) (zs:=["r","b"]) (by rfl) T.dk)) (by with_unfolding_all rfl)) (lG (aO r8 (bv 2) (P3.opd ag) (bj _))))) (aq (aF fJ)) bE)
   (ai (cp (P3W.pt (oz (aO (ku (by rfl)) (bv 0) (P3.opd (dN (p:=a.aR) (zs:=["p","b"]) (by rfl) T.cg)) (by with_unfolding_all rfl)) (lG (aO r8 (bv 1) (P3.opd ag) (bj _))))) (aq (aF fJ)) bE)
   (aq (aF (H9 (i_ (ku (by rfl)) (bv 0) (P3.opd (dN (p:=a.bp) (zs:=["r","b"]) (by rfl) T.dk)) (by with_unfolding_all rfl)) (fI (i_ (ku (by rfl)) (bv 0) (P3.opd (dN (p:=a.aR) (zs:=["p","b"]) (by rfl) T.cg)) (by with_unfolding_all rfl)))))))),fun Γa Q h hl=>?_⟩)
 obtain⟨l,h,w,rfl,⟨c1,c2⟩,q⟩:=h;have e1:l≠.p->qS w 2=false:=fun z=>by have:=c1 z;simp only[qS,decide_eq_false_iff_not];omega
 have e2:l≠.r->qS h 2=false:=fun z=>by have:=c2 z;simp only[qS,decide_eq_false_iff_not];omega
 cases l
 ·walk_at "m1";rw[e1 (by decide)];walk_at "m1";exact q
 ·walk_at "m1";rw[e2 (by decide)];walk_at "m1";exact q
 ·walk_at "m1";rw[e1 (by decide)];walk_at "m1";rw[e2 (by decide)];walk_at "m1";exact q
def GU:S3:=fun Γ Q=>∃ (h w:Int) (ls:List Lt),Γ=[some (.fz (.int h)),some (.fz (.int w)),some (.fz (.str (wy ls)))]/\Good h w ls/\ls.length<=10/\Q (.fz (.tup ((iH h w ls).map cD))) Γ
theorem mY {h w:Int} {ls:List Lt} {k:Nat} (hk:k < ls.length):((iH h w ls).take (k + 1)).map cD++[cD (cat h w ls (k + 1))]=((iH h w ls).take (k + 2)).map cD:=by
 have e:(iH h w ls).take (k + 1 + 1)=(iH h w ls).take (k + 1)++[cat h w ls (k + 1)]:=by
  conv=>lhs;rw[List.take_succ]
  rw[xQ (by omega)];rfl
 show _=((iH h w ls).take (k + 1 + 1)).map cD;rw[e,List.map_append];rfl
theorem tL {ls:List Lt} {k:Nat} {d:D} (h:(ls.map fun l=>D.str l.s)[k]?=some d):∃ l,ls[k]?=some l/\d=.str l.s:=by
 rw[List.getElem?_map] at h;cases q:ls[k]? with
 | none=>rw[q] at h;cases h
 | some l=>rw[q] at h;cases h;exact⟨l,rfl,rfl⟩
theorem gi {α:Type} {l:List α} {k:Nat} {a:α} (h:l[k]?=some a):k < l.length:=(gS0 h).1
theorem qI (T:Txt w K mg a):aM P w K mg base CX0 2 a.l_ a.kf ["height","width","way"] (sp3 K 3 GU):=by
 refine ok3 T.eL.F cL (hbody:=fun cdv A outer s H E hr=>⟨_,_,(ai (cp (hX (dM (a8 (Jv T.tys) (by rfl) T.z_isinstance (by decide +kernel) (ae (bv 2) (ae (P3.opd (Ae (n:="str") (by rfl) T.z_str (by decide +kernel))) aj))))) (aq iY) bE)
   (ai (aH (i:=3) cL.nd rfl (Or.inl rfl) (bw (aa (bC (aa (p3v 0) (aa (p3v 1) ak))) ak)))
   (ai (fF PassesOwn.never rfl (wj (p3v 2)) (aP (i:=4) cL.nd rfl (Or.inl rfl))
   (ai (cp (hX (dM (aD (by rfl) (tG T) hr.dn (by rfl) T.fP.m T.fP.F.kp T.fP.b (ae (P3.opd (p3v 4)) (ae (P3.opd (p3v 0)) (ae (P3.opd (p3v 1)) aj)))))) (aq iY) bE)
   (ai (cp (aO (ku (by rfl)) (bv 4) (P3.opd (dN (p:=a.bp) (zs:=["r","b"]) (by rfl) T.dk)) (by with_unfolding_all rfl)) (aq (aH (i:=1) cL.nd rfl (Or.inl rfl) (cG (P3.opd (aL (bv 1) (P3.opd ag))) (P3.opd ag)))) bE)
   (ai (cp (aO (ku (by rfl)) (bv 4) (P3.opd (dN (p:=a.aR) (zs:=["p","b"]) (by rfl) T.cg)) (by with_unfolding_all rfl)) (aq (aH (i:=0) cL.nd rfl (Or.inl rfl) (cG (P3.opd (aL (bv 0) (P3.opd ag))) (P3.opd ag)))) bE)
   (aq (g8 (jM 3 (by rfl) (bv 3) (bC (aa (p3v 0) (aa (p3v 1) ak))))))))))
   (aq (aF (gz (C9 (by rfl)) (by rfl) T.z_tuple (by decide +kernel) (ae (bv 3) aj))))))),fun Γa Q h hl=>?_⟩)
 obtain⟨h,w,ls,rfl,g,hls,q⟩:=h;walk_at "m1";refine⟨by rw[sizeLine_eq];omega,by rw[sizeLine_eq];omega,?_⟩;refine⟨vw ls,cB (fun k Γ=>k<=ls.length/\∃ s,Γ=[some (.fz (.int (cat h w ls k).1)),some (.fz (.int (cat h w ls k).2)),some (.fz (.str (wy ls))),some (.ow (.lst (((iH h w ls).take (k + 1)).map cD))),fo s]) ⟨Nat.zero_le _,none,by rw[mh];cases ls <;> rfl⟩ ?_ ?_⟩
 ·rintro k d Γ hd ⟨hk,s,rfl⟩;rw[gu] at hd;obtain⟨l,hl,rfl⟩:=tL hd;have lt:=gi hl;walk_at "m1";refine⟨l,_,_,rfl,oJ g hl,?_⟩;walk_at "m1";have st:=gG (h:=h) (w:=w) hl;have tk:((iH h w ls).take (k + 1)).length<=11:=by rw[List.length_take,jw];omega
  have z1:(2:Nat)<=sizeLine:=by rw[sizeLine_eq];omega
  have z2:(((iH h w ls).take (k + 1)).map cD).length < sizeLine:=by rw[lM0,sizeLine_eq];omega
  cases l
  ·have st':cat h w ls (k + 1)=((cat h w ls k).1,((cat h w ls k).2 + 1) / 2):=st;walk_at "m1";refine⟨⟨by decide,by decide⟩,?_⟩;walk_at "m1";refine⟨z1,z2,lt,some (.str Lt.r.s),?_⟩;rw[<- mY lt,st']
   rfl
  ·have st':cat h w ls (k + 1)=(((cat h w ls k).1 + 1) / 2,(cat h w ls k).2):=st;walk_at "m1";refine⟨⟨by decide,by decide⟩,?_⟩;walk_at "m1";refine⟨z1,z2,lt,some (.str Lt.p.s),?_⟩;rw[<- mY lt,st']
   rfl
  ·have st':cat h w ls (k + 1)=(((cat h w ls k).1 + 1) / 2,((cat h w ls k).2 + 1) / 2):=st;walk_at "m1";refine⟨⟨by decide,by decide⟩,?_⟩;walk_at "m1";refine⟨⟨by decide,by decide⟩,?_⟩;walk_at "m1";refine⟨z1,z2,lt,some (.str Lt.b.s),?_⟩;rw[<- mY lt,st']
   rfl
 ·rintro Γ ⟨hk,s,rfl⟩;walk_at "m1";rw[gu,lM0,List.take_of_length_le (by rw[jw];omega)];exact q
def Fc (a:Ad):S3:=fun Γ Q=>∃ (R:Rl) (h w:Int) (ls:List Lt),Γ=[some (.ln (.ins a.aK [] [])),some (.fz (.int h)),some (.fz (.int w)),some (.fz (.str R.word)),some (.fz (.str (wy ls)))]/\oi h w/\Good h w ls/\ls.length<=10/\
 Q (.fz .non) [some (.ln (plD a R h w ls)),some (.fz (.int h)),some (.fz (.int w)),some (.fz (.str R.word)),some (.fz (.str (wy ls)))]
theorem gA (T:Txt w K mg a):aM P w K mg base CX0 3 a.eC a.gF ["self","height","width","word","way"] (sp3 K 5 (Fc a)):=by
 refine ok3 T.ej.F mB (hbody:=fun cdv A outer s H E hr=>⟨_,_,(ai (cp (hX (dM (aD (by rfl) (vT T) hr.dn (by rfl) T.jI.m T.jI.F.kp T.jI.b (ae (P3.opd (p3v 1)) (ae (P3.opd (p3v 2)) aj))))) (aq iY) bE)
   (ai (sM (C0:=a.aK) 0 (by rfl) T.aQ T.jg (bv 0) (aD (by rfl) (vS T) hr.dn (by rfl) T.jH.m T.jH.F.kp T.jH.b (ae (P3.opd (p3v 3)) aj)))
   (ai (sM (C0:=a.aK) 0 (by rfl) T.aQ T.bD (bv 0) (aD (by rfl) (qI T) hr.dn (by rfl) T.eL.m T.eL.F.kp T.eL.b (ae (P3.opd (p3v 1)) (ae (P3.opd (p3v 2)) (ae (P3.opd (p3v 4)) aj)))))
   (aq (sM (C0:=a.aK) 0 (by rfl) T.aQ T.cQ (bv 0) (p3v 4)))))),fun Γa Q h hl=>?_⟩)
 obtain⟨R,h,w,ls,rfl,sz,g,hls,q⟩:=h;walk_at "m1";refine⟨h,w,rfl,sz,?_⟩;walk_at "m1";refine⟨R,rfl,?_⟩;walk_at "m1";refine⟨h,w,ls,rfl,g,hls,?_⟩;walk_at "m1";exact⟨by decide +kernel,by decide +kernel,q⟩
def oZ (a:Ad) (f:Rl->Int->Int->List Lt->D):S3:=fun Γ Q=>∃ (R:Rl) (h w:Int) (ls:List Lt),Γ=[some (.fz (plD a R h w ls))]/\ls.length<=10/\Q (.fz (f R h w ls)) Γ
theorem eW (T:Txt w K mg a):aM P w K mg base CX0 1 a.jt a.l7 ["self"] (sp3 K 1 (oZ a fun R _ _ _=>R.ob a)):=by
 refine ok3 T.dX.F sL (hbody:=fun cdv A outer s H E hr=>⟨_,_,(aq (aF (dO (f:="chosen") (by rfl) (bv 0) T.aQ T.jg))),fun Γa Q h hl=>?_⟩);obtain⟨R,h,w,ls,rfl,hls,q⟩:=h;walk_at "m1";exact q
theorem uP (T:Txt w K mg a):aM P w K mg base CX0 1 a.kR a.nC ["self"] (sp3 K 1 (oZ a fun _ _ _ ls=>.str (wy ls))):=by
 refine ok3 T.oQ.F uk (hbody:=fun cdv A outer s H E hr=>⟨_,_,(aq (aF (dO (f:="letters") (by rfl) (bv 0) T.aQ T.cQ))),fun Γa Q h hl=>?_⟩);obtain⟨R,h,w,ls,rfl,hls,q⟩:=h;walk_at "m1";exact q
theorem pM (T:Txt w K mg a):aM P w K mg base CX0 1 a.gk a.jm ["self"] (sp3 K 1 (oZ a fun _ h _ _=>.int h)):=by
 refine ok3 T.j8.F o_ (hbody:=fun cdv A outer s H E hr=>⟨_,_,(aq (aF (aS (by rfl) (P3.opd (aS (by rfl) (P3.opd (dO (f:="corners") (by rfl) (bv 0) T.aQ T.bD)) (P3.opd ag) (fun _ _=>rfl))) (P3.opd ag) (fun _ _=>rfl)))),fun Γa Q h hl=>?_⟩);obtain⟨R,h,w,ls,rfl,hls,q⟩:=h;walk_at "m1";have e:=mn (h:=h) (w:=w) (ls:=ls) (k:=0) (Nat.zero_le _);rw[mh] at e;refine cq.mpr ⟨_,e,?_⟩;unfold cD;walk_at "m1";exact q
theorem qM (T:Txt w K mg a):aM P w K mg base CX0 1 a.h9 a.ki ["self"] (sp3 K 1 (oZ a fun _ _ w _=>.int w)):=by
 refine ok3 T.kX.F qC (hbody:=fun cdv A outer s H E hr=>⟨_,_,(aq (aF (aS (by rfl) (P3.opd (aS (by rfl) (P3.opd (dO (f:="corners") (by rfl) (bv 0) T.aQ T.bD)) (P3.opd ag) (fun _ _=>rfl))) (P3.opd ag) (fun _ _=>rfl)))),fun Γa Q h hl=>?_⟩);obtain⟨R,h,w,ls,rfl,hls,q⟩:=h;walk_at "m1";have e:=mn (h:=h) (w:=w) (ls:=ls) (k:=0) (Nat.zero_le _);rw[mh] at e;refine cq.mpr ⟨_,e,?_⟩;unfold cD;walk_at "m1";exact q
theorem dQ (T:Txt w K mg a):aM P w K mg base CX0 1 a.h_ a.kj ["self"] (sp3 K 1 (oZ a fun _ _ _ ls=>.int ls.length)):=by
 refine ok3 T.c8.F qD (hbody:=fun cdv A outer s H E hr=>⟨_,_,(aq (aF (a8 (mi (by rfl)) (by rfl) T.z_len (by decide +kernel) (ae (P3.opd (dO (f:="letters") (by rfl) (bv 0) T.aQ T.cQ)) aj)))),fun Γa Q h hl=>?_⟩);obtain⟨R,h,w,ls,rfl,hls,q⟩:=h;walk_at "m1";refine⟨by rw[iL,sizeLine_eq];omega,?_⟩;rw[iL];exact q
def A6 (a:Ad):S3:=fun Γ Q=>∃ (R:Rl) (h w:Int) (ls:List Lt) (k:Nat),Γ=[some (.fz (plD a R h w ls)),some (.fz (.int k))]/\ls.length<=10/\k<=ls.length/\Q (.fz (cD (cat h w ls k))) Γ
theorem pN (T:Txt w K mg a):aM P w K mg base CX0 2 a.gm a.jo ["self","step"] (sp3 K 2 (A6 a)):=by
 refine ok3 T.j9.F pb (hbody:=fun cdv A outer s H E hr=>⟨_,_,(ai (cp (hX (dM (aD (by rfl) (jc T) hr.dn (by rfl) T.bR.m T.bR.F.kp T.bR.b (ae (P3.opd (p3v 1)) (ae (P3.opd ag) (ae (P3.opd (aX (by rfl) (bv 0) T.aQ T.dR (dQ T) hr.dn T.c8.b)) aj)))))) (aq iY) bE)
   (aq (aF (aS (by rfl) (P3.opd (dO (f:="corners") (by rfl) (bv 0) T.aQ T.bD)) (bv 1) (fun _ _=>rfl))))),fun Γa Q h hl=>?_⟩)
 obtain⟨R,h,w,ls,k,rfl,hls,hk,q⟩:=h;walk_at "m1";refine⟨by decide +kernel,R,h,w,ls,rfl,hls,?_⟩;walk_at "m1";refine⟨_,_,_,rfl,rfl,?_⟩;rw[show whD (.int k) 0 (ls.length:Int)=true by simp only[whD,Bool.and_eq_true,decide_eq_true_eq];omega];walk_at "m1";exact cq.mpr ⟨_,mn hk,q⟩
theorem wM {α:Type} {f:α->D} {l:List α} {k:Nat} {d:D} (h:(l.map f)[k]?=some d):∃ x,l[k]?=some x/\d=f x:=by
 rw[List.getElem?_map] at h;cases q:l[k]? with
 | none=>rw[q] at h;cases h
 | some x=>rw[q] at h;cases h;exact⟨x,rfl,rfl⟩
theorem take_snoc {α:Type} {xs:List α} {k:Nat} {x:α} (h:xs[k]?=some x):xs.take (k + 1)=xs.take k++[x]:=by rw[List.take_succ,h];rfl
theorem iP {n:Nat} (h:n<=200000):n < sizeLine:=by rw[sizeLine_eq];omega
theorem bY {n:Nat} (h:n<=200000):n<=sizeLine:=Nat.le_of_lt (iP h)
theorem z1:1<=sizeLine:=by rw[sizeLine_eq];decide
theorem z2:2<=sizeLine:=by rw[sizeLine_eq];decide
theorem z3:3<=sizeLine:=by rw[sizeLine_eq];decide
theorem z4:4<=sizeLine:=by rw[sizeLine_eq];decide
theorem z5:5<=sizeLine:=by rw[sizeLine_eq];decide
theorem z6:6<=sizeLine:=by rw[sizeLine_eq];decide
theorem z0:0<=sizeLine:=Nat.zero_le _
structure Pt where
 s:Nat
 wd:Str
 t:Int
 l:Int
 hh:Int
 ww:Int
def Pt.dd (p:Pt):D:=.tup [.int p.s,.str p.wd,.int p.t,.int p.l,.int p.hh,.int p.ww]
def i7 (t l:Int) (n:Nat) (y:Nat):List D:=(List.range n).map fun (x:Nat)=>.tup [.int (t + (y:Int)),.int (l + (x:Int))]
def plc (t l hh ww:Int):List D:=((List.range hh.toNat).map fun y=>i7 t l ww.toNat y).flatten
def Pt.pl (p:Pt):List D:=plc p.t p.l p.hh p.ww
structure PtB (p:Pt):Prop where
 t0:0<=p.t
 l0:0<=p.l
 h0:0<=p.hh
 w0:0<=p.ww
 t1:p.t<=64
 l1:p.l<=64
 h1:p.hh<=64
 w1:p.ww<=64
def zQ:S3:=fun Γ Q=>∃ p:Pt,Γ=[some (.fz p.dd)]/\PtB p/\Q (.fr (.lst p.pl)) Γ
theorem bP {i:Int} {n k:Nat} {d:D} (h:(rng i n)[k]?=some d):k < n/\d=.int (i + (k:Int)):=by
 unfold rng at h;exact lM h
theorem mV {f:Nat->List D} {k:Nat}:((List.range k).map f).flatten++f k=((List.range (k + 1)).map f).flatten:=by
 rw[List.range_succ,List.map_append,List.flatten_append];simp
theorem gC {f:Nat->List D} {m:Nat} (hf:∀ k,(f k).length=m):∀ n:Nat,((List.range n).map f).flatten.length=n * m
 | 0=>by simp
 | n + 1=>by rw[<- mV,List.length_append,gC hf n,hf,Nat.add_mul,Nat.one_mul]
theorem fH {t l:Int} {n y:Nat}:(i7 t l n y).length=n:=by simp [i7]
theorem tE (T:Txt w K mg a):aM P w K mg base CX0 1 a.nD a.lU ["part"] (sp3 K 1 zQ):=by
 refine ok3 T.fN.F c_ (hbody:=fun cdv A outer s H E hr=>⟨_,_,(ai (eV (is:=[1,2,3,4]) (by rfl) (yx (by rfl) (bv 0) (ba (P3.opd ag)) bK) (au (aA (i:=1) c_.nd rfl (Or.inl rfl)) (au (aA (i:=2) c_.nd rfl (Or.inr rfl)) (au (aA (i:=3) c_.nd rfl (Or.inl rfl)) (au (aA (i:=4) c_.nd rfl (Or.inr rfl)) br)))) rfl)
   (aq (aF (uI rfl (jQ (by rfl) T.z_range (aa (p3v 1) (aa (aL (bv 1) (bv 3)) ak))) eD (fun _ _ _ _ _=>(aP (i:=0) eD.nd rfl (Or.inl rfl))) (fun _ _ _ _ _=>(jQ (by rfl) T.z_range (aa (p3v 2) (aa (aL (bv 2) (bv 3)) ak)))) (fun _ _ _ _ _=>(aP (i:=1) eD.nd rfl (Or.inl rfl))) (fun _ _ _ _ _=>(bC (aa (p3v 0) (aa (p3v 1) ak)))))))),fun Γa Q h hl=>?_⟩)
 obtain⟨⟨sn,wd,t,l,hh,ww⟩,rfl,⟨t0,l0,h0,w0,t1,l1,h1,w1⟩,q⟩:=h;dsimp only at t0 l0 h0 w0 t1 l1 h1 w1;unfold Pt.dd;walk_at "m1";refine⟨by simp [HT.sIx],?_⟩;walk_at "m1";refine⟨by omega,by omega,by omega,by omega,?_⟩;rw[show (t + hh - t).toNat=hh.toNat by omega];refine dE (fun k ys Γc=>ys=((List.range k).map fun y=>i7 t l ww.toNat y).flatten/\k<=64/\∃ s s',Γc=[fo s,fo s',some (.fz (.int l)),some (.fz (.int ww))]) ⟨rfl,by omega,none,none,rfl⟩ ?_ ?_
 ·rintro k d ys Γc hd ⟨rfl,hk,s,s',rfl⟩;obtain⟨lt,rfl⟩:=bP hd;walk_at "m1";refine⟨by omega,by omega,by omega,by omega,?_⟩;rw[show (l + ww - l).toNat=ww.toNat by omega];have fl:=gC (f:=fun y=>i7 t l ww.toNat y) (m:=ww.toNat) (fun _=>fH) k;have fb:k * ww.toNat<=64 * 64:=Nat.mul_le_mul (by omega) (by omega);refine⟨fun j ys Γc=>ys=((List.range k).map fun y=>i7 t l ww.toNat y).flatten++i7 t l j k/\j<=64/\∃ s',Γc=[some (.fz (.int (t + (k:Int)))),fo s',some (.fz (.int l)),some (.fz (.int ww))],⟨by simp [i7],by omega,s',rfl⟩,?_,?_⟩
  ·rintro j d ys Γc hd ⟨rfl,hj,s',rfl⟩;obtain⟨lt2,rfl⟩:=bP hd;walk_at "m1";refine⟨?_,by rw[sizeLine_eq];omega,?_,by omega,some _,rfl⟩
   ·rw[List.length_append,fl,fH,sizeLine_eq];omega
   ·rw[List.append_assoc];congr 1;unfold i7;rw[List.range_succ,List.map_append];rfl
  ·rintro ys Γc ⟨rfl,hj,s',rfl⟩;refine⟨?_,by omega,some _,s',rfl⟩;rw[bq];exact mV
 ·rintro ys Γc ⟨rfl,hk,s,s',rfl⟩;rw[bq];walk_at "m1";refine⟨?_,q⟩;rw[gC (m:=ww.toNat) (fun _=>fH),sizeLine_eq];have:hh.toNat * ww.toNat<=64 * 64:=Nat.mul_le_mul (by omega) (by omega);omega
def qG (h w:Int) (ls:List Lt) (k:Nat):Lt->List Pt
 | .r=>[⟨k,"row",0,(cat h w ls (k + 1)).2,(cat h w ls (k + 1)).1,(cat h w ls k).2 - (cat h w ls (k + 1)).2⟩]
 | .p=>[⟨k,"pillar",(cat h w ls (k + 1)).1,0,(cat h w ls k).1 - (cat h w ls (k + 1)).1,(cat h w ls (k + 1)).2⟩]
 | .b=>[⟨k,"row",0,(cat h w ls (k + 1)).2,(cat h w ls (k + 1)).1,(cat h w ls k).2 - (cat h w ls (k + 1)).2⟩,⟨k,"pillar",(cat h w ls (k + 1)).1,0,(cat h w ls k).1 - (cat h w ls (k + 1)).1,(cat h w ls (k + 1)).2⟩,
   ⟨k,"both",(cat h w ls (k + 1)).1,(cat h w ls (k + 1)).2,(cat h w ls k).1 - (cat h w ls (k + 1)).1,(cat h w ls k).2 - (cat h w ls (k + 1)).2⟩]
def pat (h w:Int) (ls:List Lt) (k:Nat):List Pt:=match ls[k]? with
 | some l=>qG h w ls k l
 | none=>[]
theorem vP {h w:Int} {ls:List Lt} {k:Nat} {l:Lt} (hl:ls[k]?=some l):pat h w ls k=qG h w ls k l:=by unfold pat;rw[hl]
def B9 (a:Ad):S3:=fun Γ Q=>∃ (R:Rl) (h w:Int) (ls:List Lt) (k:Nat),Γ=[some (.fz (plD a R h w ls)),some (.fz (.int k))]/\ls.length<=10/\k < ls.length/\Q (.fr (.lst ((pat h w ls k).map Pt.dd))) Γ
theorem iE (T:Txt w K mg a):aM P w K mg base CX0 1 a.cC a.dv ["self","step"] (sp3 K 2 (B9 a)):=by
 refine ok3 T.dY.F aN (hbody:=fun cdv A outer s H E hr=>⟨_,_,(ai (eV (is:=[2,3]) (by rfl) (aS (by rfl) (P3.opd (dO (f:="corners") (by rfl) (bv 0) T.aQ T.bD)) (bv 1) (fun _ _=>rfl)) (au (aA (i:=2) aN.nd rfl (Or.inl rfl)) (au (aA (i:=3) aN.nd rfl (Or.inl rfl)) br)) rfl)
   (ai (eV (is:=[4,5]) (by rfl) (aS (by rfl) (P3.opd (dO (f:="corners") (by rfl) (bv 0) T.aQ T.bD)) (P3.opd (aL (bv 1) (P3.opd ag))) (fun _ _=>rfl)) (au (aA (i:=4) aN.nd rfl (Or.inl rfl)) (au (aA (i:=5) aN.nd rfl (Or.inl rfl)) br)) rfl)
   (ai (aH (i:=6) aN.nd rfl (Or.inl rfl) (aS (by rfl) (P3.opd (dO (f:="letters") (by rfl) (bv 0) T.aQ T.cQ)) (bv 1) (fun _ _=>rfl)))
   (ai (aH (i:=7) aN.nd rfl (Or.inl rfl) (bw ak))
   (ai (cp (aO (ku (by rfl)) (bv 6) (P3.opd (dN (p:=a.bp) (zs:=["r","b"]) (by rfl) T.dk)) (by with_unfolding_all rfl)) (aq (g8 (jM 7 (by rfl) (bv 7) (bC (aa (p3v 1) (aa a_ (aa ag (aa (p3v 5) (aa (p3v 4) (aa (kM (bv 3) (bv 5)) ak)))))))))) bE)
   (ai (cp (aO (ku (by rfl)) (bv 6) (P3.opd (dN (p:=a.aR) (zs:=["p","b"]) (by rfl) T.cg)) (by with_unfolding_all rfl)) (aq (g8 (jM 7 (by rfl) (bv 7) (bC (aa (p3v 1) (aa a_ (aa (p3v 4) (aa ag (aa (kM (bv 2) (bv 4)) (aa (p3v 5) ak)))))))))) bE)
   (ai (cp (aO (cW (by rfl) hr) (bv 6) (P3.opd a_) (bj _)) (aq (g8 (jM 7 (by rfl) (bv 7) (bC (aa (p3v 1) (aa a_ (aa (p3v 4) (aa (p3v 5) (aa (kM (bv 2) (bv 4)) (aa (kM (bv 3) (bv 5)) ak)))))))))) bE)
   (aq (aF (pE 7)))))))))),fun Γa Q h hl=>?_⟩)
 obtain⟨R,h,w,ls,k,rfl,hls,hk,q⟩:=h;have z0':(0:Nat) < sizeLine:=by rw[sizeLine_eq];omega
 have z1':(1:Nat) < sizeLine:=by rw[sizeLine_eq];omega
 have z2':(2:Nat) < sizeLine:=by rw[sizeLine_eq];omega
 walk_at "m1";refine cq.mpr ⟨_,mn (by omega),?_⟩;unfold cD;walk_at "m1";refine cq.mpr ⟨_,mn (k:=k + 1) (by omega),?_⟩;unfold cD;walk_at "m1";obtain⟨l,hl⟩:∃ l,ls[k]?=some l:=⟨ls[k],by simp [hk]⟩;refine⟨by rw[iL,sizeLine_eq];omega,l,atL hl,?_⟩;walk_at "m1";rw[vP hl] at q;cases l
 ·walk_at "m1";exact⟨z0,z6,z0',q⟩
 ·walk_at "m1";exact⟨z0,z6,z0',q⟩
 ·walk_at "m1";exact⟨z0,z6,z0',z6,z1',z6,z2',q⟩
def pts (h w:Int) (ls:List Lt):List Pt:=⟨ls.length,"coarse",0,0,(cat h w ls ls.length).1,(cat h w ls ls.length).2⟩::((List.range ls.length).map fun i=>pat h w ls (ls.length - 1 - i)).flatten
def kK (h w:Int) (ls:List Lt) (i:Nat):List Pt:=⟨ls.length,"coarse",0,0,(cat h w ls ls.length).1,(cat h w ls ls.length).2⟩::((List.range i).map fun i=>pat h w ls (ls.length - 1 - i)).flatten
theorem m8 {h w:Int} {ls:List Lt} {i:Nat}:kK h w ls i++pat h w ls (ls.length - 1 - i)=kK h w ls (i + 1):=by
 unfold kK;rw[List.range_succ,List.map_append,List.flatten_append,List.cons_append];simp
theorem ox {h w:Int} {ls:List Lt} {k:Nat}:(pat h w ls k).length<=3:=by
 unfold pat
 cases ls[k]? with
 | none=>simp
 | some l=>cases l <;> simp [qG]
theorem kJ {h w:Int} {ls:List Lt}:∀ i:Nat,(kK h w ls i).length<=1 + 3 * i
 | 0=>by simp [kK]
 | i + 1=>by
  rw[<- m8,List.length_append];have:=kJ (h:=h) (w:=w) (ls:=ls) i;have:=ox (h:=h) (w:=w) (ls:=ls) (k:=ls.length - 1 - i);omega
def Cq (a:Ad):S3:=fun Γ Q=>∃ (R:Rl) (h w:Int) (ls:List Lt),Γ=[some (.fz (plD a R h w ls))]/\ls.length<=10/\Q (.fr (.lst ((pts h w ls).map Pt.dd))) Γ
theorem zA {lo c:Int} {n k:Nat} {d:D} (h:(qF lo c n)[k]?=some d):k < n/\d=.int (lo + (k:Int) * c):=by
 unfold qF at h;exact lM h
theorem zz (lo c:Int) (n:Nat):(qF lo c n).length=n:=by simp [qF]
theorem qN (T:Txt w K mg a):aM P w K mg base CX0 2 a.ig a.km ["self"] (sp3 K 1 (Cq a)):=by
 refine ok3 T.kY.F cM (hbody:=fun cdv A outer s H E hr=>⟨_,_,(ai (eV (is:=[1,2]) (by rfl) (aS (by rfl) (P3.opd (dO (f:="corners") (by rfl) (bv 0) T.aQ T.bD)) (P3.opd (Fu (P3.opd ag))) (fun _ _=>rfl)) (au (aA (i:=1) cM.nd rfl (Or.inl rfl)) (au (aA (i:=2) cM.nd rfl (Or.inl rfl)) br)) rfl)
   (ai (aH (i:=3) cM.nd rfl (Or.inl rfl) (bw (aa (bC (aa (aX (by rfl) (bv 0) T.aQ T.dR (dQ T) hr.dn T.c8.b) (aa a_ (aa ag (aa ag (aa (p3v 1) (aa (p3v 2) ak))))))) ak)))
   (ai (fF PassesOwn.never rfl (Gp (by rfl) T.z_reversed (by rfl) T.z_range (aa (aX (by rfl) (bv 0) T.aQ T.dR (dQ T) hr.dn T.c8.b) ak)) (aP (i:=4) cM.nd rfl (Or.inl rfl))
   (aq (g8 (rF 3 (by rfl) (bv 3) (P3.opd (xi (by rfl) (bv 0) T.aQ T.iF (iE T) hr.dn T.dY.b (ae (P3.opd (p3v 4)) aj)))))))
   (aq (aF (pE 3)))))),fun Γa Q h hl=>?_⟩)
 obtain⟨R,h,w,ls,rfl,hls,q⟩:=h;walk_at "m1";refine cq.mpr ⟨cD (cat h w ls ls.length),Dg (by rw[lM0,jw];exact Eh (Nat.le_refl _)),?_⟩;unfold cD;walk_at "m1";refine⟨by decide +kernel,R,h,w,ls,rfl,hls,?_⟩;walk_at "m1";refine⟨by rw[sizeLine_eq];omega,by rw[sizeLine_eq];omega,?_⟩;refine⟨by decide +kernel,R,h,w,ls,rfl,hls,?_⟩;walk_at "m1";refine⟨by omega,by omega,?_⟩;rw[Int.toNat_natCast];refine cB (fun i Γ=>i<=ls.length/\∃ s,Γ=[some (.fz (plD a R h w ls)),some (.fz (.int (cat h w ls ls.length).1)),some (.fz (.int (cat h w ls ls.length).2)),some (.ow (.lst ((kK h w ls i).map Pt.dd))),fo s]) ⟨by omega,none,rfl⟩ ?_ ?_
 ·rintro i d Γ hd ⟨hi,s,rfl⟩;obtain⟨lt,rfl⟩:=zA hd;walk_at "m1";refine⟨by decide +kernel,R,h,w,ls,ls.length - 1 - i,by rw[show (ls.length:Int) - 1 + (i:Int) * -1=((ls.length - 1 - i:Nat):Int) by omega],hls,by omega,?_⟩;walk_at "m1";have l1:=kJ (h:=h) (w:=w) (ls:=ls) i;have l2:=ox (h:=h) (w:=w) (ls:=ls) (k:=ls.length - 1 - i);exact⟨by rw[lM0,lM0,sizeLine_eq];omega,by omega,some _,by rw[<- m8,List.map_append];rfl⟩
 ·rintro Γ ⟨hi,s,rfl⟩;rw[zz];walk_at "m1";exact q
structure Bx (h w:Int) (ls:List Lt) (p:Pt):Prop where
 s:p.s<=ls.length
 t0:0<=p.t
 l0:0<=p.l
 h1:1<=p.hh
 w1:1<=p.ww
 ht:p.t + p.hh<=(cat h w ls p.s).1
 wl:p.l + p.ww<=(cat h w ls p.s).2
 out:p.s < ls.length->(cat h w ls (p.s + 1)).1<=p.t\/(cat h w ls (p.s + 1)).2<=p.l
theorem Cp {h w:Int} {ls:List Lt} {k:Nat} {l:Lt} (g:Good h w ls) (sz:oi h w) (hl:ls[k]?=some l):∀ p∈qG h w ls k l,Bx h w ls p:=by
 have lt:=gi hl;obtain⟨c1,c2⟩:=oJ g hl;have st:=gG (h:=h) (w:=w) hl;obtain⟨a1,a2,_,_⟩:=dU (k:=k) g sz.h1 sz.w1 (by omega);obtain⟨b1,b2,_,_⟩:=dU (k:=k + 1) g sz.h1 sz.w1 (by omega);intro p hp;cases l
 ·have e1:(cat h w ls (k + 1)).1=(cat h w ls k).1:=by rw[st];rfl
  have e2:(cat h w ls (k + 1)).2=((cat h w ls k).2 + 1) / 2:=by rw[st];rfl
  have:=c1 (by decide);simp only[qG,List.mem_cons,List.not_mem_nil,or_false] at hp;subst hp;exact⟨by dsimp only;omega,by dsimp only;omega,by dsimp only;omega,by dsimp only;omega,by dsimp only;omega,by dsimp only;omega,by dsimp only;omega,fun _=>.inr (Int.le_refl _)⟩
 ·have e1:(cat h w ls (k + 1)).1=((cat h w ls k).1 + 1) / 2:=by rw[st];rfl
  have e2:(cat h w ls (k + 1)).2=(cat h w ls k).2:=by rw[st];rfl
  have:=c2 (by decide);simp only[qG,List.mem_cons,List.not_mem_nil,or_false] at hp;subst hp;exact⟨by dsimp only;omega,by dsimp only;omega,by dsimp only;omega,by dsimp only;omega,by dsimp only;omega,by dsimp only;omega,by dsimp only;omega,fun _=>.inl (Int.le_refl _)⟩
 ·have e1:(cat h w ls (k + 1)).1=((cat h w ls k).1 + 1) / 2:=by rw[st];rfl
  have e2:(cat h w ls (k + 1)).2=((cat h w ls k).2 + 1) / 2:=by rw[st];rfl
  have:=c1 (by decide);have:=c2 (by decide);simp only[qG,List.mem_cons,List.not_mem_nil,or_false] at hp;rcases hp with rfl | rfl | rfl
  ·exact⟨by dsimp only;omega,by dsimp only;omega,by dsimp only;omega,by dsimp only;omega,by dsimp only;omega,by dsimp only;omega,by dsimp only;omega,fun _=>.inr (Int.le_refl _)⟩
  ·exact⟨by dsimp only;omega,by dsimp only;omega,by dsimp only;omega,by dsimp only;omega,by dsimp only;omega,by dsimp only;omega,by dsimp only;omega,fun _=>.inl (Int.le_refl _)⟩
  ·exact⟨by dsimp only;omega,by dsimp only;omega,by dsimp only;omega,by dsimp only;omega,by dsimp only;omega,by dsimp only;omega,by dsimp only;omega,fun _=>.inl (Int.le_refl _)⟩
theorem pw {h w:Int} {ls:List Lt} (g:Good h w ls) (sz:oi h w):∀ p∈pts h w ls,Bx h w ls p:=by
 intro p hp;unfold pts at hp;rcases List.mem_cons.mp hp with rfl | hp
 ·obtain⟨a1,a2,_,_⟩:=dU (k:=ls.length) g sz.h1 sz.w1 (Nat.le_refl _);exact⟨Nat.le_refl _,by dsimp only;omega,by dsimp only;omega,a1,a2,by dsimp only;omega,by dsimp only;omega,fun z=>absurd z (Nat.lt_irrefl _)⟩
 ·rw[List.mem_flatten] at hp;obtain⟨xs,hxs,hp⟩:=hp;obtain⟨i,_,rfl⟩:=List.mem_map.mp hxs;cases q:ls[ls.length - 1 - i]? with
  | none=>unfold pat at hp;rw[q] at hp;cases hp
  | some l=>rw[vP q] at hp;exact Cp g sz q p hp
theorem Bx.b {h w:Int} {ls:List Lt} {p:Pt} (o:Bx h w ls p) (g:Good h w ls) (sz:oi h w):PtB p:=by
 obtain⟨a1,a2,a3,a4⟩:=dU (k:=p.s) g sz.h1 sz.w1 o.s;have:=sz.h2;have:=sz.w2;have:=o.ht;have:=o.wl;exact⟨o.t0,o.l0,by have:=o.h1;omega,by have:=o.w1;omega,by have:=o.h1;omega,by have:=o.w1;omega,by have:=o.t0;omega,by have:=o.l0;omega⟩
theorem zR {p:Pt} (b:PtB p):p.pl.length<=4096:=by
 unfold Pt.pl plc;rw[gC (m:=p.ww.toNat) (fun _=>fH)];have:p.hh.toNat * p.ww.toNat<=64 * 64:=Nat.mul_le_mul (by have:=b.h1;omega) (by have:=b.w1;omega);omega
def hZ (ps:List Pt):List D:=(ps.map Pt.pl).flatten
def ord (h w:Int) (ls:List Lt):List D:=hZ (pts h w ls)
theorem rG {ps:List Pt} {p:Pt}:hZ ps++p.pl=hZ (ps++[p]):=by unfold hZ;simp
theorem ja:∀ {ps:List Pt},(∀ p∈ps,PtB p)->(hZ ps).length<=4096 * ps.length
 | [],_=>by simp [hZ]
 | p::ps,hb=>by
  have e:hZ (p::ps)=p.pl++hZ ps:=by simp [hZ]
  have:=ja (ps:=ps) fun q hq=>hb q (List.mem_cons_of_mem _ hq);have:=zR (hb p List.mem_cons_self);rw[e,List.length_append,List.length_cons];omega
theorem B8 {ps:List Pt} {k:Nat} {d:D} (h:(ps.map Pt.dd)[k]?=some d):∃ p,ps[k]?=some p/\d=p.dd:=by
 rw[List.getElem?_map] at h;cases q:ps[k]? with
 | none=>rw[q] at h;cases h
 | some l=>rw[q] at h;cases h;exact⟨l,rfl,rfl⟩
def Cu (a:Ad):S3:=fun Γ Q=>∃ (R:Rl) (h w:Int) (ls:List Lt),Γ=[some (.fz (plD a R h w ls))]/\oi h w/\Good h w ls/\ls.length<=10/\Q (.fr (.lst (ord h w ls))) Γ
theorem ou {h w:Int} {ls:List Lt} (hl:ls.length<=10):(pts h w ls).length<=31:=by
 have:=kJ (h:=h) (w:=w) (ls:=ls) ls.length;have e:pts h w ls=kK h w ls ls.length:=rfl;rw[e];omega
theorem qO (T:Txt w K mg a):aM P w K mg base CX0 3 a.ij a.kn ["self"] (sp3 K 1 (Cu a)):=by
 refine ok3 T.kZ.F qE (hbody:=fun cdv A outer s H E hr=>⟨_,_,(aq (aF (uI rfl (cu (by rfl) (aX (by rfl) (bv 0) T.aQ T.qQ (qN T) hr.dn T.kY.b)) dF (fun _ _ _ _ _=>(aP (i:=0) dF.nd rfl (Or.inl rfl))) (fun _ _ _ _ _=>(cu (by rfl) (aD (by rfl) (tE T) hr.dn (by rfl) T.fN.m T.fN.F.kp T.fN.b (ae (P3.opd (p3v 0)) aj)))) (fun _ _ _ _ _=>(aP (i:=1) dF.nd rfl (Or.inl rfl))) (fun _ _ _ _ _=>(p3v 1))))),fun Γa Q h hl=>?_⟩);obtain⟨R,h,w,ls,rfl,sz,g,hls,q⟩:=h;have PB:∀ p∈pts h w ls,PtB p:=fun p hp=>(pw g sz p hp).b g sz;have PL:=ou (h:=h) (w:=w) hls;walk_at "m1";refine⟨by decide +kernel,R,h,w,ls,rfl,hls,?_⟩;walk_at "m1";refine dE (fun k ys Γc=>ys=hZ ((pts h w ls).take k)/\∃ s s',Γc=[fo s,fo s']) ⟨rfl,none,none,rfl⟩ ?_ ?_
 ·rintro k d ys Γc hd ⟨rfl,s,s',rfl⟩;obtain⟨p,hp,rfl⟩:=B8 hd;have hm:p∈pts h w ls:=List.mem_of_getElem? hp;walk_at "m1";refine⟨p,rfl,PB p hm,?_⟩;walk_at "m1";have l1:=ja (ps:=(pts h w ls).take k) fun q hq=>PB q (List.mem_of_mem_take hq);have l2:=zR (PB p hm);have l3:((pts h w ls).take k).length<=31:=by rw[List.length_take];omega
  refine⟨fun j ys Γc=>ys=hZ ((pts h w ls).take k)++p.pl.take j/\∃ s',Γc=[some (.fz p.dd),fo s'],⟨by simp,s',rfl⟩,?_,?_⟩
  ·rintro j d ys Γc hd ⟨rfl,s',rfl⟩;walk_at "m1";refine⟨by rw[List.length_append,List.length_take,sizeLine_eq];omega,by rw[List.append_assoc,take_snoc hd],some _,rfl⟩
  ·rintro ys Γc ⟨rfl,s',rfl⟩;refine⟨by rw[List.take_length,rG,take_snoc hp],some _,s',rfl⟩
 ·rintro ys Γc ⟨rfl,s,s',rfl⟩;rw[lM0,List.take_length];walk_at "m1";have l1:=ja PB;exact⟨by rw[sizeLine_eq];omega,q⟩
abbrev tl (bs:List Bool):D:=.lst (bs.map .bl)
def gb (bs:List Bool) (k:Nat):Bool:=bs.getD k false
theorem p6 {bs:List Bool} {k:Nat} (h:k < bs.length):bs[k]?=some (gb bs k):=by rw[gE0 h];simp [gb,List.getD,h]
theorem Jj {bs:List Bool} {k:Nat} (h:k < bs.length):(bs.map D.bl)[k]?=some (.bl (gb bs k)):=by rw[List.getElem?_map,p6 h];rfl
theorem m5 {bs:List Bool} {i:Int} (h0:0<=i) (h:i < bs.length):atI (bs.map D.bl) i=some (.bl (gb bs i.toNat)):=b9 h0 (Jj (by omega))
theorem jR {bs:List Bool} {k:Nat} {d:D} (h:(bs.map D.bl)[k]?=some d):k < bs.length/\d=.bl (gb bs k):=by
 have lt:k < bs.length:=by have:=(gS0 h).1;simpa using this
 rw[Jj lt] at h;cases h;exact⟨lt,rfl⟩
def rb (f:Nat->Bool) (k:Nat):List Bool:=(List.range k).map f
theorem mH (f:Nat->Bool) (k:Nat):(rb f k).length=k:=by unfold rb;simp
theorem vI (f:Nat->Bool) (n:Nat):(List.range n).map (fun j=>D.bl (f j))=(rb f n).map D.bl:=by unfold rb;rw[List.map_map];rfl
theorem i4 {f:Nat->Bool} {j k:Nat} (h:j < k):gb (rb f k) j=f j:=by unfold gb rb;simp [List.getD,h]
theorem zS {α:Type} (xs:List α) (d:α) (lo hi st:Option Int):pk xs lo hi st=(pk ((List.range xs.length).map Int.ofNat) lo hi st).map fun i=>xs.getD i.toNat d:=by
 unfold pk;rw[lM0,List.length_range,List.map_filterMap]
 congr 1
 funext j
 rw[List.getElem?_map];by_cases h:j < xs.length
 ·rw[List.getElem?_range h,gE0 h];simp [List.getD,h]
 ·rw[List.getElem?_eq_none (by omega),List.getElem?_eq_none (by rw[List.length_range];omega)];rfl
theorem xy {a b:Li} (h:a.map V.int=b.map V.int):a=b:=List.map_inj_right (fun _ _ q=>by cases q;rfl) |>.mp h
theorem J5 (ns:Li):pk ns (some 0) none (some 2)=(List.range ((ns.length + 1) / 2)).map fun k=>ns.getD (2 * k) 0:=by
 have h:=HS ns;have e:i9 (ns.map V.int) (some 0) none (some 2)=(pk ns (some 0) none (some 2)).map V.int:=sZ V.int ns _ _ _;rw[e,show (List.range ((ns.length + 1) / 2)).map (fun k=>V.int (ns.getD (2 * k) 0))=((List.range ((ns.length + 1) / 2)).map fun k=>ns.getD (2 * k) 0).map V.int by rw[List.map_map];rfl] at h;exact xy h
theorem J4 (ns:Li):pk ns (some 1) none (some 2)=(List.range (ns.length / 2)).map fun k=>ns.getD (2 * k + 1) 0:=by
 have h:=HR ns;have e:i9 (ns.map V.int) (some 1) none (some 2)=(pk ns (some 1) none (some 2)).map V.int:=sZ V.int ns _ _ _;rw[e,show (List.range (ns.length / 2)).map (fun k=>V.int (ns.getD (2 * k + 1) 0))=((List.range (ns.length / 2)).map fun k=>ns.getD (2 * k + 1) 0).map V.int by rw[List.map_map];rfl] at h;exact xy h
def oF (bs:List Bool):List Bool:=rb (fun j=>gb bs (2 * j)) ((bs.length + 1) / 2)
def eF (bs:List Bool):List Bool:=rb (fun j=>gb bs (2 * j + 1)) (bs.length / 2)
theorem pO (bs:List Bool):(oF bs).length=(bs.length + 1) / 2:=mH _ _
theorem xJ (bs:List Bool):(eF bs).length=bs.length / 2:=mH _ _
theorem Fd (bs:List Bool):pk (bs.map D.bl) (some 0) none (some 2)=(oF bs).map D.bl:=by
 rw[sZ,zS bs false,J5,lM0,List.length_range]
 congr 1
 unfold oF rb;rw[List.map_map];refine List.map_congr_left fun j hj=>?_;have hj:=List.mem_range.mp hj;show bs.getD (((List.range bs.length).map Int.ofNat).getD (2 * j) 0).toNat false=gb bs (2 * j);have e:((List.range bs.length).map Int.ofNat).getD (2 * j) 0=Int.ofNat (2 * j):=by simp [List.getD,show 2 * j < bs.length by omega]
 rw[e];rfl
theorem HN (bs:List Bool):pk (bs.map D.bl) (some 1) none (some 2)=(eF bs).map D.bl:=by
 rw[sZ,zS bs false,J4,lM0,List.length_range]
 congr 1
 unfold eF rb;rw[List.map_map];refine List.map_congr_left fun j hj=>?_;have hj:=List.mem_range.mp hj;show bs.getD (((List.range bs.length).map Int.ofNat).getD (2 * j + 1) 0).toNat false=gb bs (2 * j + 1);have e:((List.range bs.length).map Int.ofNat).getD (2 * j + 1) 0=Int.ofNat (2 * j + 1):=by simp [List.getD,show 2 * j + 1 < bs.length by omega]
 rw[e];rfl
theorem J6 (bs:List Bool):pk (bs.map D.bl) none none (some 2)=(oF bs).map D.bl:=by rw[<- Fd];rfl
theorem gr (xs ys:List Bool):(nV (xs.map D.bl) (ys.map D.bl)).length=min xs.length ys.length:=by rw[ua,lM0,lM0]
theorem oP {xs ys:List Bool} {k:Nat} {d:D} (h:(nV (xs.map D.bl) (ys.map D.bl))[k]?=some d):k < xs.length/\k < ys.length/\d=.tup [.bl (gb xs k),.bl (gb ys k)]:=by
 obtain⟨x,y,hx,hy,rfl⟩:=kU h;obtain⟨l1,rfl⟩:=jR hx;obtain⟨l2,rfl⟩:=jR hy;exact⟨l1,l2,rfl⟩
def uB (bs:List Bool):List D:=(List.range (bs.length / 2)).map fun j=>.tup [.bl (gb bs (2 * j)),.bl (gb bs (2 * j + 1))]
theorem BB (bs:List Bool):nV ((oF bs).map D.bl) ((eF bs).map D.bl)=uB bs:=by
 refine List.ext_getElem? fun i=>?_;by_cases h:i < bs.length / 2
 ·have hl:i < (nV ((oF bs).map D.bl) ((eF bs).map D.bl)).length:=by rw[gr,pO,xJ];omega
  rw[gE0 hl];obtain⟨_,_,e⟩:=oP (gE0 hl);rw[e];unfold uB;rw[List.getElem?_map,List.getElem?_range h];unfold oF eF;rw[i4 (by omega),i4 h];rfl
 ·rw[List.getElem?_eq_none (by rw[gr,pO,xJ];omega),List.getElem?_eq_none (by unfold uB;simp;omega)]
def HL:S3:=fun Γ Q=>∃ (bs:List Bool),Γ=[some (.fz (tl bs))]/\bs.length<=64/\Q (.fr (.lst (uB bs))) Γ
theorem nj (T:Txt w K mg a):aM P w K mg base CX0 1 a.qa a.nu ["row"] (sp3 K 1 HL):=by
 refine ok3 T.cU.F uh (hbody:=fun cdv A outer s H E hr=>⟨_,_,(aq (aF (vQ rfl (by rfl) T.z_list (by rfl) T.z_zip (ae (P3.opd (gy (by rfl) (bv 0) (ba (P3.opd ag)) bK (ba (P3.opd ag)))) (ae (P3.opd (gy (by rfl) (bv 0) (ba (P3.opd ag)) bK (ba (P3.opd ag)))) aj))))),fun Γa Q h hl=>?_⟩);obtain⟨bs,rfl,h1,q⟩:=h;walk_at "m1";rw[Fd,HN,BB];refine⟨by decide,by decide,?_,q⟩;rw[lM0,lM0,pO,xJ,sizeLine_eq];omega
def hsB (bs:List Bool) (k:Int):Bool:=decide (0<=k) && decide (k < bs.length) && gb bs k.toNat
def Jb:S3:=fun Γ Q=>∃ (bs:List Bool) (k:Int),Γ=[some (.fz (tl bs)),some (.fz (.int k))]/\Q (.fz (.bl (hsB bs k))) Γ
theorem mM (T:Txt w K mg a):aM P w K mg base CX0 1 a.Eb a.AZ ["marks","at"] (sp3 K 2 Jb):=by
 refine ok3 T.c7.F EO (hbody:=fun cdv A outer s H E hr=>⟨_,_,(aq (aF (cV (uJ xT r8 (P3.opd ag) (bv 1) (P3.opd (a8 (mi (by rfl)) (by rfl) T.z_len (by decide +kernel) (ae (bv 0) aj)))) (fI (aS (by rfl) (bv 0) (bv 1) (fun _ _=>rfl)))))),fun Γa Q h hl=>?_⟩);obtain⟨bs,k,rfl,q⟩:=h;walk_at "m1";rw[lM0];by_cases h0:0<=k
 ·by_cases h1:k < bs.length
  ·rw[show va 0 k=true from decide_eq_true h0,show qS k (bs.length:Int)=true from decide_eq_true h1];refine cq.mpr ⟨_,m5 h0 h1,?_⟩;rw[show hsB bs k=gb bs k.toNat by unfold hsB;rw[decide_eq_true h0,decide_eq_true h1];rfl] at q;exact q
  ·rw[show va 0 k=true from decide_eq_true h0,show qS k (bs.length:Int)=false from decide_eq_false h1];rw[show hsB bs k=false by unfold hsB;rw[decide_eq_false h1,Bool.and_false];rfl] at q;exact q
 ·rw[show va 0 k=false from decide_eq_false h0];rw[show hsB bs k=false by unfold hsB;rw[decide_eq_false h0];rfl] at q;exact q
def prF (bs:List Bool):List Bool:=rb (fun j=>gb bs (2 * j) && gb bs (2 * j + 1)) (bs.length / 2)
def psF (bs:List Bool):List Bool:=prF bs++List.replicate (bs.length % 2) false
theorem sW (bs:List Bool):(prF bs).length=bs.length / 2:=mH _ _
theorem zM (bs:List Bool):(psF bs).length=(bs.length + 1) / 2:=by unfold psF;rw[List.length_append,sW,List.length_replicate];omega
theorem JB (n:Nat):Builtin.bitAnd (n:Int) 1=((n % 2:Nat):Int):=by
 show ((n &&& 1:Nat):Int)=_;rw[Nat.and_one_is_mod]
theorem DF (n:Nat):(List.replicate n [D.bl false]).flatten=(List.replicate n false).map D.bl:=by
 induction n with
 | zero=>rfl
 | succ n ih=>rw[List.replicate_succ,List.flatten_cons,ih];rfl
def Ki (f:List Bool->List Bool):S3:=fun Γ Q=>∃ (bs:List Bool),Γ=[some (.fz (tl bs))]/\bs.length<=64/\Q (.fr (tl (f bs))) Γ
theorem jb (T:Txt w K mg a):aM P w K mg base CX0 2 a.kq a.jk ["row"] (sp3 K 1 (Ki psF)):=by
 refine ok3 T.bQ.F o9 (hbody:=fun cdv A outer s H E hr=>⟨_,_,(aq (aF (aL (P3.opd (dP rfl (cu (by rfl) (aD (by rfl) (nj T) hr.dn (by rfl) T.cU.m T.cU.F.kp T.cU.b (ae (P3.opd (p3v 0)) aj))) dm (fun _ _ _ _ _=>(gj (is:=[0,1]) (by rfl) (au (aA (i:=0) dm.nd rfl (Or.inl rfl)) (au (aA (i:=1) dm.nd rfl (Or.inl rfl)) br)) rfl)) (fun _ _ _ _ _=>(cV (p3v 0) (fI (p3v 1)))))) (P3.opd (lH (P3.opd (bw (aa fJ ak))) (P3.opd (Cs (P3.opd (a8 (mi (by rfl)) (by rfl) T.z_len (by decide +kernel) (ae (bv 0) aj))) (P3.opd ag)))))))),fun Γa Q h hl=>?_⟩);obtain⟨bs,rfl,h1,q⟩:=h;walk_at "m1";refine⟨bs,rfl,h1,?_⟩;walk_at "m1";have pl:(uB bs).length=bs.length / 2:=by unfold uB;simp
 refine⟨small (by omega),bL (fun k ys Γc=>ys=(List.range k).map (fun j=>D.bl (gb bs (2 * j) && gb bs (2 * j + 1)))/\∃ s s',Γc=[fo s,fo s']) ⟨rfl,none,none,rfl⟩ ?_ ?_⟩
 ·rintro k d ys Γc hd hk ⟨rfl,s,s',rfl⟩;obtain⟨lt,rfl⟩:=lM hd;cases e:gb bs (2 * k) <;> walk_at "m1" <;> exact⟨snoc (by rw[e];rfl),some _,some _,rfl⟩
 ·rintro ys Γc hk ⟨rfl,s,s',rfl⟩;rw[pl,show (List.range (bs.length / 2)).map (fun j=>D.bl (gb bs (2 * j) && gb bs (2 * j + 1)))=(prF bs).map D.bl from vI _ _];walk_at "m1";rw[lM0,JB];rw[Int.toNat_natCast,DF,<- List.map_append];exact⟨z1,by omega,by omega,bY (by omega),by rw[lM0,lM0,sW,List.length_replicate,sizeLine_eq];omega,q⟩
def y8 (f g:List Bool->List Bool):S3:=fun Γ Q=>∃ (bs:List Bool),Γ=[some (.fz (tl bs))]/\bs.length<=64/\Q (.fz (.tup [tl (f bs),tl (g bs)])) Γ
theorem n8 (T:Txt w K mg a):aM P w K mg base CX0 3 a.b8 a.iy ["row"] (sp3 K 1 (y8 psF prF)):=by
 refine ok3 T.fg.F nZ (hbody:=fun cdv A outer s H E hr=>⟨_,_,(aq (aF (bC (aa (aD (by rfl) (jb T) hr.dn (by rfl) T.bQ.m T.bQ.F.kp T.bQ.b (ae (P3.opd (p3v 0)) aj)) (aa (dP rfl (cu (by rfl) (aD (by rfl) (nj T) hr.dn (by rfl) T.cU.m T.cU.F.kp T.cU.b (ae (P3.opd (p3v 0)) aj))) cX (fun _ _ _ _ _=>(gj (is:=[0,1]) (by rfl) (au (aA (i:=0) cX.nd rfl (Or.inl rfl)) (au (aA (i:=1) cX.nd rfl (Or.inl rfl)) br)) rfl)) (fun _ _ _ _ _=>(cV (p3v 0) (fI (p3v 1))))) ak))))),fun Γa Q h hl=>?_⟩);obtain⟨bs,rfl,h1,q⟩:=h;walk_at "m1";refine⟨bs,rfl,h1,?_⟩;walk_at "m1";refine⟨bs,rfl,h1,?_⟩;walk_at "m1";have pl:(uB bs).length=bs.length / 2:=by unfold uB;simp
 refine⟨small (by omega),bL (fun k ys Γc=>ys=(List.range k).map (fun j=>D.bl (gb bs (2 * j) && gb bs (2 * j + 1)))/\∃ s s',Γc=[fo s,fo s']) ⟨rfl,none,none,rfl⟩ ?_ ?_⟩
 ·rintro k d ys Γc hd hk ⟨rfl,s,s',rfl⟩;obtain⟨lt,rfl⟩:=lM hd;cases e:gb bs (2 * k) <;> walk_at "m1" <;> exact⟨snoc (by rw[e];rfl),some _,some _,rfl⟩
 ·rintro ys Γc hk ⟨rfl,s,s',rfl⟩;rw[pl,show (List.range (bs.length / 2)).map (fun j=>D.bl (gb bs (2 * j) && gb bs (2 * j + 1)))=(prF bs).map D.bl from vI _ _];walk_at "m1";exact⟨z2,q⟩
def gdF (bs:List Bool):List Bool:=rb (fun j=>gb bs (2 * j) && (gb bs (2 * j + 1) && hsB bs (2 * (j:Int) + 2))) (bs.length / 2)
def gsF (bs:List Bool):List Bool:=rb (fun j=>gb bs (2 * j) && (hsB (gdF bs) ((j:Int) - 1) && hsB (gdF bs) (j:Int))) ((bs.length + 1) / 2)
theorem AQ (bs:List Bool):(gdF bs).length=bs.length / 2:=mH _ _
theorem AN (bs:List Bool):(gsF bs).length=(bs.length + 1) / 2:=mH _ _
theorem rX {bs:List Bool} {k:Nat} {d:D} (h:(qg (bs.map D.bl))[k]?=some d):k < bs.length/\d=.tup [.int k,.bl (gb bs k)]:=by
 obtain⟨x,hx,rfl⟩:=mW h;obtain⟨lt,rfl⟩:=jR hx;exact⟨lt,rfl⟩
theorem mX {bs:List Bool}:(qg (bs.map D.bl)).length=bs.length:=by unfold qg;simp
theorem mO (T:Txt w K mg a):aM P w K mg base CX0 2 a.cS a.gE ["row"] (sp3 K 1 (y8 gsF gdF)):=by
 refine ok3 T.eh.F dA (hbody:=fun cdv A outer s H E hr=>⟨_,_,(ai (aH (i:=1) dA.nd rfl (Or.inr rfl) (pG (dP rfl (bI (by rfl) T.z_range (aa (cG (P3.opd (a8 (mi (by rfl)) (by rfl) T.z_len (by decide +kernel) (ae (bv 0) aj))) (P3.opd ag)) ak)) eH (fun _ _ _ _ _=>(aP (i:=0) eH.nd rfl (Or.inl rfl))) (fun _ _ _ _ _=>(cV (aS (by rfl) (bv 1) (P3.opd (kN (P3.opd ag) (bv 0))) (fun _ _=>rfl)) (cV (aS (by rfl) (bv 1) (P3.opd (aL (P3.opd (kN (P3.opd ag) (bv 0))) (P3.opd ag))) (fun _ _=>rfl)) (fI (aD (by rfl) (mM T) hr.dn (by rfl) T.c7.m T.c7.F.kp T.c7.b (ae (P3.opd (p3v 1)) (ae (P3.opd (aL (P3.opd (kN (P3.opd ag) (bv 0))) (P3.opd ag))) aj))))))))))
   (ai (fE (i:=2) dA.nd rfl rfl rfl (xA (by rfl) T.z_enumerate (aa (gy (by rfl) (bv 0) (ba (P3.opd ag)) bK (ba (P3.opd ag))) ak)) cK (fun _ _ _ _ _=>(gj (is:=[0,1]) (by rfl) (au (aA (i:=0) cK.nd rfl (Or.inl rfl)) (au (aA (i:=1) cK.nd rfl (Or.inl rfl)) br)) rfl)) (fun _ _ _ _ _=>(cV (p3v 1) (cV (aD (by rfl) (mM T) hr.dn (by rfl) T.c7.m T.c7.F.kp T.c7.b (ae (P3.opd (p3v 2)) (ae (P3.opd (kM (bv 0) (P3.opd ag))) aj))) (fI (aD (by rfl) (mM T) hr.dn (by rfl) T.c7.m T.c7.F.kp T.c7.b (ae (P3.opd (p3v 2)) (ae (P3.opd (p3v 0)) aj))))))))
   (aq (aF (bC (aa (p3v 2) (aa (p3v 1) ak))))))),fun Γa Q h hl=>?_⟩)
 obtain⟨bs,rfl,h1,q⟩:=h;walk_at "m1";rw[lM0];have e0:((bs.length:Int) / 2).toNat=bs.length / 2:=by omega
 rw[e0];refine⟨⟨by decide,by decide⟩,by omega,by omega,small (by rw[bq];omega),bL (fun k ys Γc=>ys=(List.range k).map (fun j:Nat=>D.bl (gb bs (2 * j) && (gb bs (2 * j + 1) && hsB bs (2 * (j:Int) + 2))))/\∃ s,Γc=[fo s,some (.fz (tl bs))]) ⟨rfl,none,rfl⟩ ?_ ?_⟩
 ·rintro k d ys Γc hd hk ⟨rfl,s,rfl⟩;obtain⟨lt,rfl⟩:=bP hd;rw[Int.zero_add];walk_at "m1";refine⟨.inl ⟨by decide,by decide⟩,cq.mpr ⟨_,m5 (by omega) (by omega),?_⟩⟩;rw[show (2 * (k:Int)).toNat=2 * k by omega];cases e:gb bs (2 * k)
  ·walk_at "m1";exact⟨snoc (by rw[e];rfl),some _,rfl⟩
  ·walk_at "m1";refine⟨.inl ⟨by decide,by decide⟩,cq.mpr ⟨_,m5 (by omega) (by omega),?_⟩⟩;rw[show (2 * (k:Int) + 1).toNat=2 * k + 1 by omega];cases e':gb bs (2 * k + 1)
   ·walk_at "m1";exact⟨snoc (by rw[e,e'];rfl),some _,rfl⟩
   ·walk_at "m1";refine⟨.inl ⟨by decide,by decide⟩,_,_,rfl,?_⟩;walk_at "m1";exact⟨snoc (by rw[e,e'];rfl),some _,rfl⟩
 rintro ys Γc hk ⟨rfl,s,rfl⟩;rw[bq,show (List.range (bs.length / 2)).map (fun j:Nat=>D.bl (gb bs (2 * j) && (gb bs (2 * j + 1) && hsB bs (2 * (j:Int) + 2))))=(gdF bs).map D.bl from vI _ _];walk_at "m1";rw[Fd];refine⟨by decide,small (by rw[mX,pO];omega),bL (fun k ys Γc=>ys=(List.range k).map (fun j:Nat=>D.bl (gb bs (2 * j) && (hsB (gdF bs) ((j:Int) - 1) && hsB (gdF bs) (j:Int))))/\∃ s s',Γc=[fo s,fo s',some (.fz (tl (gdF bs)))]) ⟨rfl,none,none,rfl⟩ ?_ ?_⟩
 ·rintro k d ys Γc hd hk ⟨rfl,s,s',rfl⟩;obtain⟨lt,rfl⟩:=rX hd;rw[pO] at lt;rw[show gb (oF bs) k=gb bs (2 * k) from i4 lt];cases e:gb bs (2 * k)
  ·walk_at "m1";exact⟨snoc (by rw[e];rfl),some _,some _,rfl⟩
  ·walk_at "m1";refine⟨_,_,rfl,?_⟩;cases e':hsB (gdF bs) ((k:Int) - 1)
   ·walk_at "m1";exact⟨snoc (by rw[e,e'];rfl),some _,some _,rfl⟩
   ·walk_at "m1";refine⟨_,_,rfl,?_⟩;walk_at "m1";exact⟨snoc (by rw[e,e'];rfl),some _,some _,rfl⟩
 rintro ys Γc hk ⟨rfl,s,s',rfl⟩;rw[mX,pO,show (List.range ((bs.length + 1) / 2)).map (fun j:Nat=>D.bl (gb bs (2 * j) && (hsB (gdF bs) ((j:Int) - 1) && hsB (gdF bs) (j:Int))))=(gsF bs).map D.bl from vI _ _];walk_at "m1";exact⟨z2,q⟩
def ldF (bs:List Bool):List Bool:=rb (fun j=>hsB (psF bs) ((j:Int) - 1) && (hsB (psF bs) (j:Int) && hsB (psF bs) ((j:Int) + 1))) (bs.length / 2)
theorem Az (bs:List Bool):(ldF bs).length=bs.length / 2:=mH _ _
theorem mK (T:Txt w K mg a):aM P w K mg base CX0 3 a.cR a.gD ["row"] (sp3 K 1 (y8 psF ldF)):=by
 refine ok3 T.ee.F gv (hbody:=fun cdv A outer s H E hr=>⟨_,_,(ai (aH (i:=1) gv.nd rfl (Or.inr rfl) (pG (aD (by rfl) (jb T) hr.dn (by rfl) T.bQ.m T.bQ.F.kp T.bQ.b (ae (P3.opd (p3v 0)) aj))))
   (aq (aF (bC (aa (p3v 1) (aa (dP rfl (bI (by rfl) T.z_range (aa (cG (P3.opd (a8 (mi (by rfl)) (by rfl) T.z_len (by decide +kernel) (ae (bv 0) aj))) (P3.opd ag)) ak)) eE (fun _ _ _ _ _=>(aP (i:=0) eE.nd rfl (Or.inl rfl))) (fun _ _ _ _ _=>(cV (aD (by rfl) (mM T) hr.dn (by rfl) T.c7.m T.c7.F.kp T.c7.b (ae (P3.opd (p3v 1)) (ae (P3.opd (kM (bv 0) (P3.opd ag))) aj))) (cV (aD (by rfl) (mM T) hr.dn (by rfl) T.c7.m T.c7.F.kp T.c7.b (ae (P3.opd (p3v 1)) (ae (P3.opd (p3v 0)) aj))) (fI (aD (by rfl) (mM T) hr.dn (by rfl) T.c7.m T.c7.F.kp T.c7.b (ae (P3.opd (p3v 1)) (ae (P3.opd (aL (bv 0) (P3.opd ag))) aj)))))))) ak)))))),fun Γa Q h hl=>?_⟩)
 obtain⟨bs,rfl,h1,q⟩:=h;walk_at "m1";refine⟨bs,rfl,h1,?_⟩;walk_at "m1";rw[lM0];have e0:((bs.length:Int) / 2).toNat=bs.length / 2:=by omega
 rw[e0];refine⟨⟨by decide,by decide⟩,by omega,by omega,small (by rw[bq];omega),bL (fun k ys Γc=>ys=(List.range k).map (fun j:Nat=>D.bl (hsB (psF bs) ((j:Int) - 1) && (hsB (psF bs) (j:Int) && hsB (psF bs) ((j:Int) + 1))))/\∃ s,Γc=[fo s,some (.fz (tl (psF bs)))]) ⟨rfl,none,rfl⟩ ?_ ?_⟩
 ·rintro k d ys Γc hd hk ⟨rfl,s,rfl⟩;obtain⟨lt,rfl⟩:=bP hd;rw[Int.zero_add];walk_at "m1";refine⟨_,_,rfl,?_⟩;cases e:hsB (psF bs) ((k:Int) - 1)
  ·walk_at "m1";exact⟨snoc (by rw[e];rfl),some _,rfl⟩
  ·walk_at "m1";refine⟨_,_,rfl,?_⟩;cases e':hsB (psF bs) (k:Int)
   ·walk_at "m1";exact⟨snoc (by rw[e,e'];rfl),some _,rfl⟩
   ·walk_at "m1";refine⟨_,_,rfl,?_⟩;walk_at "m1";exact⟨snoc (by rw[e,e'];rfl),some _,rfl⟩
 rintro ys Γc hk ⟨rfl,s,rfl⟩;rw[bq,show (List.range (bs.length / 2)).map (fun j:Nat=>D.bl (hsB (psF bs) ((j:Int) - 1) && (hsB (psF bs) (j:Int) && hsB (psF bs) ((j:Int) + 1))))=(ldF bs).map D.bl from vI _ _];walk_at "m1";exact⟨z2,q⟩
def Rl.s1:Rl->List Bool->List Bool
 | .guess=>gsF | _=>psF
def Rl.s2:Rl->List Bool->List Bool
 | .guess=>gdF | .lean=>ldF | _=>prF
theorem kI (R:Rl) (bs:List Bool):(R.s1 bs).length=(bs.length + 1) / 2:=by cases R <;> first | exact zM bs | exact AN bs
theorem kH (R:Rl) (bs:List Bool):(R.s2 bs).length=bs.length / 2:=by cases R <;> first | exact sW bs | exact AQ bs | exact Az bs
theorem oE {x y z u:Addr} (R:Rl):List.lookup R.word [(Str.ofString "sum",x),(Str.ofString "half",y),(Str.ofString "guess",z),(Str.ofString "lean",u)]=some (match R with | .sum=>x | .half=>y | .guess=>z | .lean=>u):=by
 rw[List.lookup_cons,List.lookup_cons,List.lookup_cons,List.lookup_cons];cases R with
 | sum=>rw[show (Rl.sum.word == Str.ofString "sum")=true by decide +kernel]
 | half=>rw[show (Rl.half.word == Str.ofString "sum")=false by decide +kernel,show (Rl.half.word == Str.ofString "half")=true by decide +kernel]
 | guess=>rw[show (Rl.guess.word == Str.ofString "sum")=false by decide +kernel,show (Rl.guess.word == Str.ofString "half")=false by decide +kernel,show (Rl.guess.word == Str.ofString "guess")=true by decide +kernel]
 | lean=>rw[show (Rl.lean.word == Str.ofString "sum")=false by decide +kernel,show (Rl.lean.word == Str.ofString "half")=false by decide +kernel,show (Rl.lean.word == Str.ofString "guess")=false by decide +kernel,show (Rl.lean.word == Str.ofString "lean")=true by decide +kernel]
def CD:S3:=fun Γ Q=>∃ (R:Rl) (bs:List Bool),Γ=[some (.fz (.str R.word)),some (.fz (tl bs))]/\bs.length<=64/\Q (.fz (.tup [tl (R.s1 bs),tl (R.s2 bs)])) Γ
theorem uL (T:Txt w K mg a):aM P w K mg base CX0 4 a.qb a.nv ["word","row"] (sp3 K 2 CD):=by
 refine ok3 T.gO.F m7 (hbody:=fun cdv A outer s H E hr=>⟨_,_,(ai (aH (i:=2) m7.nd rfl (Or.inl rfl) (Cr (by rfl) T.C1 (bv 0)))
   (aq (aF (P3.or (pJ (j:=2) T.fg.F (n8 T) hr.dn T.fg.b (by rfl) (by first | exact Or.inl rfl | exact Or.inr (Or.inl rfl) | exact Or.inr (Or.inr rfl)) (ae (P3.opd (p3v 1)) aj)) (P3.or (pJ (j:=2) T.eh.F (mO T) hr.dn T.eh.b (by rfl) (by first | exact Or.inl rfl | exact Or.inr (Or.inl rfl) | exact Or.inr (Or.inr rfl)) (ae (P3.opd (p3v 1)) aj)) (pJ (j:=2) T.ee.F (mK T) hr.dn T.ee.b (by rfl) (by first | exact Or.inl rfl | exact Or.inr (Or.inl rfl) | exact Or.inr (Or.inr rfl)) (ae (P3.opd (p3v 1)) aj))))))),fun Γa Q h hl=>?_⟩)
 obtain⟨R,bs,rfl,h1,q⟩:=h;walk_at "m1";cases R with
 | sum=>
  refine⟨_,a.b8,rfl,oE .sum,?_⟩;walk_at "m1";refine .inl ⟨rfl,?_⟩;walk_at "m1";exact⟨bs,rfl,h1,q⟩
 | half=>
  refine⟨_,a.b8,rfl,oE .half,?_⟩;walk_at "m1";refine .inl ⟨rfl,?_⟩;walk_at "m1";exact⟨bs,rfl,h1,q⟩
 | guess=>
  refine⟨_,a.cS,rfl,oE .guess,?_⟩;walk_at "m1";refine .inr (.inl ⟨rfl,?_⟩);walk_at "m1";exact⟨bs,rfl,h1,q⟩
 | lean=>
  refine⟨_,a.cR,rfl,oE .lean,?_⟩;walk_at "m1";refine .inr (.inr ⟨rfl,?_⟩);walk_at "m1";exact⟨bs,rfl,h1,q⟩
def xw:Arguments×Expr×Scope:=match (cT cF).getD 2 (.Pass ⟨0,0,0,0⟩) with
 | .Assign _ (.Call _ [_,.Lambda ps b sc _,_] _ _) _=>(ps,b,sc)
 | _=>(e_ (.Pass ⟨0,0,0,0⟩),.Constant .none 0 ⟨0,0,0,0⟩,ah (.Pass ⟨0,0,0,0⟩))
abbrev qL:Str:=Str.ofString "inner.<locals>.<lambda>"
abbrev LA (base:Heap) (o:Unit->Obj) (f:Addr) (v:V):Prop:=sj base qL xw.1 xw.2.1 xw.2.2 "word" (o ()) f v
theorem EN:qy ["row"] "word" xw.2.2:=⟨rfl,rfl,rfl,by decide +kernel,by decide +kernel,by decide +kernel,by decide +kernel,by decide +kernel⟩
def IJ:S3:=fun Γ Q=>∃ (R:Rl) (bs:List Bool),Γ=[some (.fz (tl bs)),some (.fz (.str R.word))]/\bs.length<=64/\Q (.fz (.tup [tl (R.s1 bs),tl (R.s2 bs)])) Γ
theorem FK {o:Unit->Obj} {f:Addr} {v:V} (T:Txt w K mg a) (L:LA base o f v):∃ fd,base.get? f=some (o ())/\(o ()).data=.func fd/\Binds K fd ["row"] []/\aM P w K mg base CX0 (4 + 1) f fd ["row"] (fun vs H Q _=>sp3 K 2 IJ (vs++[v]) H Q E0):=by
 refine okL (ps:=["row"]) L EN (fun c d A outer s H hr=>⟨_,_,(aD (by rfl) (uL T) hr.dn (by rfl) T.gO.m T.gO.F.kp T.gO.b (ae (P3.opd (p3v 1)) (ae (P3.opd (p3v 0)) aj))),fun Γ Q hl h=>?_⟩) (fun _ _ _ _ us hl=>by obtain⟨_,rfl⟩:=ln1 hl;rfl);obtain⟨R,bs,rfl,h1,q⟩:=h;walk_at "m1";exact⟨R,bs,rfl,h1,q⟩
theorem wz {α:Type} {f:α->D} {F:List α} {n:Nat} (h:n<=F.length):cut (F.map f) none (some (n:Int))=(F.take n).map f:=by
 unfold cut;rw[HT.um,HT.w5,lM0,List.drop_zero,Nat.sub_zero,Nat.min_eq_left h,List.map_take]
theorem jv {α:Type} {f:α->D} {F:List α} {n:Nat} (h:n<=F.length):cut (F.map f) (some (n:Int)) none=(F.drop n).map f:=by
 unfold cut;rw[HT.um,HT.w5,lM0,Nat.min_eq_left h,List.take_of_length_le (by rw[List.length_drop,lM0];exact Nat.le_refl _),List.map_drop]
def iG (R:Rl) (bs:List Bool) (m:Nat):List Bool:=R.s1 (bs.take m)++R.s2 (bs.take m)++bs.drop m
theorem AI {R:Rl} {bs:List Bool} {m:Nat} (h:m<=bs.length):(iG R bs m).length=bs.length:=by
 unfold iG;rw[List.length_append,List.length_append,kI,kH,List.length_take,List.length_drop];omega
abbrev rD (R:List (List Bool)):D:=.lst (R.map tl)
def Gq (a:Ad) (o:Unit->Obj) (f:Addr) (v:V):S3:=fun Γ Q=>∃ (R:Rl) (bs:List Bool) (m:Nat),Γ=[some (.fz (.fn o f v (.str R.word))),some (.fz (tl bs)),some (.fz (.int m))]/\m<=bs.length/\bs.length<=64/\Q (.fr (tl (iG R bs m))) Γ
theorem tF {o:Unit->Obj} {f:Addr} {v:V} (T:Txt w K mg a) (L:LA base o f v):aM P w K mg base CX0 6 a.nE a.lV ["part","row","many"] (sp3 K 3 (Gq a o f v)):=by
 obtain⟨fd,hf,ho,hb,Fl⟩:=FK T L;refine ok3 T.fO.F gT (hbody:=fun cdv A outer s H E hr=>⟨_,_,(ai (eV (is:=[3,4]) (by rfl) (Ah hf ho Fl hr.dn hb (i:=0) (by rfl) (by first | exact Or.inl rfl | exact Or.inr (Or.inl rfl) | exact Or.inr (Or.inr rfl)) (ae (P3.opd (dZ (by rfl) (bv 1) bK (ba (bv 2)))) aj)) (au (aA (i:=3) gT.nd rfl (Or.inl rfl)) (au (aA (i:=4) gT.nd rfl (Or.inl rfl)) br)) rfl)
   (aq (aF (aL (P3.opd (aL (bv 3) (bv 4))) (P3.opd (dZ (by rfl) (bv 1) (ba (bv 2)) bK)))))),fun Γa Q h hl=>?_⟩)
 obtain⟨R,bs,m,rfl,h1,h64,q⟩:=h;walk_at "m1";refine⟨.str R.word,rfl,?_⟩;walk_at "m1";rw[wz h1];refine⟨R,bs.take m,rfl,by rw[List.length_take];omega,?_⟩;walk_at "m1";rw[jv h1];have l1:=kI R (bs.take m);have l2:=kH R (bs.take m);rw[List.length_take] at l1 l2;refine⟨by rw[lM0,lM0,sizeLine_eq];omega,by rw[List.length_append,lM0,lM0,lM0,List.length_drop,sizeLine_eq];omega,?_⟩;rw[<- List.map_append,<- List.map_append];exact q
def b_ (R:Rl) (rows:List (List Bool)) (h m:Nat):List (List Bool):=(rows.take h).map (fun r=>iG R r m)++rows.drop h
def CT (a:Ad) (o:Unit->Obj) (f:Addr) (v:V):S3:=fun Γ Q=>∃ (R:Rl) (rows:List (List Bool)) (h m:Nat),Γ=[some (.fz (.fn o f v (.str R.word))),some (.fz (rD rows)),some (.fz (.int h)),some (.fz (.int m))]/\rows.length<=64/\h<=rows.length/\
 (∀ r∈rows.take h,m<=r.length/\r.length<=64)/\Q (.fr (rD (b_ R rows h m))) Γ
theorem j_ {o:Unit->Obj} {f:Addr} {v:V} (T:Txt w K mg a) (L:LA base o f v):aM P w K mg base CX0 7 a.l9 a.ke ["part","rows","height","width"] (sp3 K 4 (CT a o f v)):=by
 refine ok3 T.cb.F qB (hbody:=fun cdv A outer s H E hr=>⟨_,_,(aq (aF (aL (P3.opd (dP rfl (cu (by rfl) (dZ (by rfl) (bv 1) bK (ba (bv 2)))) gH (fun _ _ _ _ _=>(aP (i:=0) gH.nd rfl (Or.inl rfl))) (fun _ _ _ _ _=>(aD (by rfl) (tF T L) hr.dn (by rfl) T.fO.m T.fO.F.kp T.fO.b (ae (P3.opd (p3v 1)) (ae (P3.opd (p3v 0)) (ae (P3.opd (p3v 2)) aj))))))) (P3.opd (dZ (by rfl) (bv 1) (ba (bv 2)) bK))))),fun Γa Q h hl=>?_⟩);obtain⟨R,rows,h,m,rfl,h64,hh,hrs,q⟩:=h;walk_at "m1";rw[wz hh];have ht:(rows.take h).length=h:=by rw[List.length_take];omega
 refine⟨small (by rw[lM0,ht];omega),bL (fun k ys Γc=>ys=((rows.take h).take k).map (fun r=>tl (iG R r m))/\∃ s,Γc=[fo s,some (.fz (.fn o f v (.str R.word))),some (.fz (.int m))]) ⟨rfl,none,rfl⟩ ?_ ?_⟩
 ·rintro k d ys Γc hd hk ⟨rfl,s,rfl⟩;obtain⟨r,hr',rfl⟩:=wM hd;obtain⟨r2,r3⟩:=hrs r (List.mem_of_getElem? hr');walk_at "m1";refine⟨R,r,m,rfl,r2,r3,?_⟩;walk_at "m1";exact⟨by rw[take_snoc hr',List.map_append];rfl,some _,rfl⟩
 ·rintro ys Γc hk ⟨rfl,s,rfl⟩;walk_at "m1";rw[jv hh,List.take_of_length_le (show (rows.take h).length<=((rows.take h).map tl).length by rw[lM0];exact Nat.le_refl _)];refine⟨by rw[lM0,lM0,List.length_drop,ht,sizeLine_eq];omega,?_⟩;rw[show (rows.take h).map (fun r=>tl (iG R r m))++(rows.drop h).map tl=(b_ R rows h m).map tl by unfold b_;rw[List.map_append,List.map_map];rfl];exact q
def bV (rows:List (List Bool)) (x:Nat):List Bool:=rows.map fun r=>gb r x
def fj (u:Nat) (rows:List (List Bool)):List (List Bool):=(List.range u).map (bV rows)
structure Sz (h w:Nat) (rows:List (List Bool)):Prop where
 hh:rows.length=h
 ww:∀ r∈rows,r.length=w
def Ex:S3:=fun Γ Q=>∃ (h w:Nat) (rows:List (List Bool)),Γ=[some (.fz (rD rows))]/\Sz h w rows/\1<=h/\h<=64/\w<=64/\Q (.fr (rD (fj w rows))) Γ
theorem Sz.at0 {h w:Nat} {rows:List (List Bool)} (s:Sz h w rows) (h1:1<=h):∃ r,rows[0]?=some r/\r.length=w:=by
 have hh:=s.hh;exact⟨rows[0],gE0 (by omega),s.ww _ (List.getElem_mem _)⟩
theorem rH (T:Txt w K mg a):aM P w K mg base CX0 1 a.u_ a.rR ["rows"] (sp3 K 1 Ex):=by
 refine ok3 T.ff.F yf (hbody:=fun cdv A outer s H E hr=>⟨_,_,(aq (aF (dP rfl (bI (by rfl) T.z_range (aa (a8 (mi (by rfl)) (by rfl) T.z_len (by decide +kernel) (ae (P3.opd (aS (by rfl) (bv 0) (P3.opd ag) (fun _ _=>rfl))) aj)) ak)) mm (fun _ _ _ _ _=>(aP (i:=0) mm.nd rfl (Or.inr rfl))) (fun _ _ _ _ _=>(dP rfl (cu (by rfl) (p3v 1)) ml (fun _ _ _ _ _=>(aP (i:=0) ml.nd rfl (Or.inl rfl))) (fun _ _ _ _ _=>(aS (by rfl) (bv 0) (bv 1) (fun _ _=>rfl)))))))),fun Γa Q h hl=>?_⟩);obtain⟨h,w,rows,rfl,sz,h1,h64,w64,q⟩:=h;obtain⟨r0,e0,l0⟩:=sz.at0 h1;have hh:=sz.hh;walk_at "m1";refine cq.mpr ⟨tl r0,b9 (by decide) (by rw[List.getElem?_map,show (Int.toNat 0)=0 from rfl,e0];rfl),?_⟩;walk_at "m1";rw[lM0,l0];refine⟨by omega,by omega,small (by rw[bq];omega),bL (fun k ys Γc=>ys=(List.range k).map (fun x=>tl (bV rows x))/\∃ s,Γc=[fo s,some (.fz (rD rows))]) ⟨rfl,none,rfl⟩ ?_ ?_⟩
 ·rintro k d ys Γc hd hk ⟨rfl,s,rfl⟩;obtain⟨lt,rfl⟩:=bP hd;walk_at "m1";refine⟨small (by rw[lM0];omega),bL (fun j ys Γc=>ys=(rows.take j).map (fun r=>D.bl (gb r k))/\∃ s,Γc=[fo s,some (.fz (.int (0 + (k:Int))))]) ⟨rfl,none,rfl⟩ ?_ ?_⟩
  ·rintro j d ys Γc hd hj ⟨rfl,s,rfl⟩;obtain⟨r,hr',rfl⟩:=wM hd;have lr:=sz.ww r (List.mem_of_getElem? hr');walk_at "m1";refine cq.mpr ⟨_,m5 (by omega) (by omega),?_⟩;rw[show (0 + (k:Int)).toNat=k by omega];exact⟨by rw[take_snoc hr',List.map_append];rfl,some _,rfl⟩
  ·rintro ys Γc hj ⟨rfl,s,rfl⟩;walk_at "m1";refine⟨?_,some _,rfl⟩;rw[List.take_of_length_le (by rw[lM0];exact Nat.le_refl _),<- snoc (f:=fun x=>tl (bV rows x)) rfl];unfold bV;rw[tl,List.map_map];rfl
 ·rintro ys Γc hk ⟨rfl,s,rfl⟩;walk_at "m1";rw[bq,Int.toNat_natCast];rw[show (List.range w).map (fun x=>tl (bV rows x))=(fj w rows).map tl by unfold fj;rw[List.map_map];rfl];exact q
theorem yN {R:Rl} {rows:List (List Bool)} {h m:Nat} {r:List Bool} (hr:r∈b_ R rows h m):r∈rows\/∃ r'∈rows,r=iG R r' m:=by
 unfold b_ at hr;rcases List.mem_append.mp hr with q | q
 ·obtain⟨r',h1,rfl⟩:=List.mem_map.mp q;exact .inr ⟨r',List.mem_of_mem_take h1,rfl⟩
 ·exact .inl (List.mem_of_mem_drop q)
theorem d_ {R:Rl} {rows:List (List Bool)} {H W h m:Nat} (s:Sz H W rows) (hm:m<=W):Sz H W (b_ R rows h m):=⟨by
 unfold b_;rw[List.length_append,lM0,List.length_take,List.length_drop,s.hh];omega,fun r hr=>by
 rcases yN hr with q | ⟨r',q,rfl⟩
 ·exact s.ww r q
 ·rw[AI (by rw[s.ww r' q];exact hm)];exact s.ww r' q⟩
theorem jJ {rows:List (List Bool)} {H W:Nat} (s:Sz H W rows):Sz W H (fj W rows):=⟨by unfold fj;simp,fun r hr=>by
 unfold fj bV at hr;obtain⟨x,_,rfl⟩:=List.mem_map.mp hr;rw[lM0];exact s.hh⟩
def lg (R:Rl) (H W:Nat) (l:Lt) (h w:Nat) (rows:List (List Bool)):List (List Bool):=match l with
 | .r=>b_ R rows h w
 | .p=>fj H (b_ R (fj W rows) w h)
 | .b=>fj H (b_ R (fj W (b_ R rows h w)) w h)
theorem zj {R:Rl} {H W:Nat} {l:Lt} {h w:Nat} {rows:List (List Bool)} (s:Sz H W rows) (hh:h<=H) (hw:w<=W):Sz H W (lg R H W l h w rows):=by
 cases l with
 | r=>exact d_ s hw
 | p=>exact jJ (d_ (jJ s) hh)
 | b=>exact jJ (d_ (jJ (d_ s hw)) hh)
theorem lO {rows:List (List Bool)} {H W h m:Nat} (s:Sz H W rows) (hm:m<=W) (hW:W<=64):∀ r∈rows.take h,m<=r.length/\r.length<=64:=fun r hr=>by
 have e:=s.ww r (List.mem_of_mem_take hr);exact⟨by omega,by omega⟩
def BJ (a:Ad) (o:Unit->Obj) (f:Addr) (v:V):S3:=fun Γ Q=>∃ (R:Rl) (h w:Int) (ls:List Lt) (rows:List (List Bool)) (k:Nat) (l:Lt) (H W ch cw:Nat),
 Γ=[some (.fz (plD a R h w ls)),some (.fz (.fn o f v (.str R.word))),some (.fz (rD rows)),some (.fz (.int k))]/\ls.length<=10/\ls[k]?=some l/\cat h w ls k=((ch:Int),(cw:Int))/\Sz H W rows/\1<=H/\H<=64/\1<=W/\W<=64/\ch<=H/\cw<=W/\
 Q (.fr (rD (lg R H W l ch cw rows))) Γ
theorem qH {o:Unit->Obj} {f:Addr} {v:V} (T:Txt w K mg a) (L:LA base o f v):aM P w K mg base CX0 8 a.l8 a.kc ["plan","part","rows","step"] (sp3 K 4 (BJ a o f v)):=by
 refine ok3 T.eK.F ck (hbody:=fun cdv A outer s H E hr=>⟨_,_,(ai (eV (is:=[4,5]) (by rfl) (xi (by rfl) (bv 0) T.aQ T.pU (pN T) hr.dn T.j9.b (ae (P3.opd (p3v 3)) aj)) (au (aA (i:=4) ck.nd rfl (Or.inl rfl)) (au (aA (i:=5) ck.nd rfl (Or.inl rfl)) br)) rfl)
   (ai (aH (i:=6) ck.nd rfl (Or.inl rfl) (aS (by rfl) (P3.opd (aX (by rfl) (bv 0) T.aQ T.uV (uP T) hr.dn T.oQ.b)) (bv 3) (fun _ _=>rfl)))
   (ai (cp (aO (ku (by rfl)) (bv 6) (P3.opd (dN (p:=a.bp) (zs:=["r","b"]) (by rfl) T.dk)) (by with_unfolding_all rfl)) (aq (aH (i:=2) ck.nd rfl (Or.inl rfl) (aD (by rfl) (j_ T L) hr.dn (by rfl) T.cb.m T.cb.F.kp T.cb.b (ae (P3.opd (p3v 1)) (ae (P3.opd (p3v 2)) (ae (P3.opd (p3v 4)) (ae (P3.opd (p3v 5)) aj))))))) bE)
   (ai (cp (aO (ku (by rfl)) (bv 6) (P3.opd (dN (p:=a.aR) (zs:=["p","b"]) (by rfl) T.cg)) (by with_unfolding_all rfl)) (aq (aH (i:=2) ck.nd rfl (Or.inl rfl) (aD (by rfl) (rH T) hr.dn (by rfl) T.ff.m T.ff.F.kp T.ff.b (ae (P3.opd (aD (by rfl) (j_ T L) hr.dn (by rfl) T.cb.m T.cb.F.kp T.cb.b (ae (P3.opd (p3v 1)) (ae (P3.opd (aD (by rfl) (rH T) hr.dn (by rfl) T.ff.m T.ff.F.kp T.ff.b (ae (P3.opd (p3v 2)) aj))) (ae (P3.opd (p3v 5)) (ae (P3.opd (p3v 4)) aj)))))) aj)))) bE)
   (aq (aF (pE 2))))))),fun Γa Q h hl=>?_⟩)
 obtain⟨R,h,w,ls,rows,k,l,H,W,ch,cw,rfl,hls,hk,hc,sz,H1,H2,W1,W2,lh,lw,q⟩:=h;have lk:=gi hk;have hl64:=sz.hh;walk_at "m1";refine⟨by decide +kernel,R,h,w,ls,k,rfl,hls,by omega,?_⟩;rw[hc];unfold cD;walk_at "m1";refine⟨by decide +kernel,R,h,w,ls,rfl,hls,?_⟩;walk_at "m1";refine⟨by rw[iL,sizeLine_eq];omega,l,atL hk,?_⟩;walk_at "m1";have sT:=jJ sz;cases l
 ·walk_at "m1";refine⟨R,rows,ch,cw,rfl,by omega,by omega,lO sz lw W2,?_⟩;walk_at "m1";exact q
 ·walk_at "m1";refine⟨H,W,rows,rfl,sz,H1,H2,W2,?_⟩;walk_at "m1";refine⟨R,fj W rows,cw,ch,rfl,by rw[sT.hh];exact W2,by rw[sT.hh];exact lw,lO sT lh H2,?_⟩;walk_at "m1";refine⟨W,H,_,rfl,d_ sT lh,W1,W2,H2,?_⟩;walk_at "m1";exact q
 ·walk_at "m1";refine⟨R,rows,ch,cw,rfl,by omega,by omega,lO sz lw W2,?_⟩;have s1:=d_ (R:=R) (h:=ch) sz lw;have s2:=jJ s1;walk_at "m1";refine⟨H,W,_,rfl,s1,H1,H2,W2,?_⟩;walk_at "m1";refine⟨R,fj W (b_ R rows ch cw),cw,ch,rfl,by rw[s2.hh];exact W2,by rw[s2.hh];exact lw,lO s2 lh H2,?_⟩;walk_at "m1";refine⟨W,H,_,rfl,d_ s2 lh,W1,W2,H2,?_⟩;walk_at "m1";exact q
def cN (h w:Int) (ls:List Lt) (k:Nat):Nat×Nat:=((cat h w ls k).1.toNat,(cat h w ls k).2.toNat)
def stK (R:Rl) (h w:Int) (ls:List Lt) (rows:List (List Bool)):Nat->List (List Bool)
 | 0=>rows
 | k + 1=>lg R h.toNat w.toNat (ls.getD k .r) (cN h w ls k).1 (cN h w ls k).2 (stK R h w ls rows k)
structure Pl (h w:Int) (ls:List Lt):Prop where
 sz:oi h w
 good:Good h w ls
 len:ls.length<=10
theorem Pl.cn {h w:Int} {ls:List Lt} (p:Pl h w ls) {k:Nat} (hk:k<=ls.length):cat h w ls k=(((cN h w ls k).1:Int),((cN h w ls k).2:Int))/\(cN h w ls k).1<=h.toNat/\(cN h w ls k).2<=w.toNat/\1<=(cN h w ls k).1/\1<=(cN h w ls k).2:=by
 obtain⟨a,b,c,d⟩:=dU p.good p.sz.h1 p.sz.w1 hk;unfold cN;refine⟨Prod.ext ?_ ?_,?_,?_,?_,?_⟩ <;> dsimp only <;> omega
theorem oX {R:Rl} {h w:Int} {ls:List Lt} {rows:List (List Bool)} (p:Pl h w ls) (s:Sz h.toNat w.toNat rows):∀ {k:Nat},k<=ls.length->Sz h.toNat w.toNat (stK R h w ls rows k)
 | 0,_=>s
 | k + 1,hk=>by
  obtain⟨_,a,b,_,_⟩:=p.cn (k:=k) (by omega);exact zj (oX p s (by omega)) a b
abbrev ft (R:Rl) (h w:Int) (ls:List Lt) (rows:List (List Bool)):List (List Bool):=stK R h w ls rows ls.length
def zi (a:Ad) (o:Unit->Obj) (f:Addr) (v:V):S3:=fun Γ Q=>∃ (R:Rl) (h w:Int) (ls:List Lt) (rows:List (List Bool)),Γ=[some (.fz (plD a R h w ls)),some (.fz (.fn o f v (.str R.word))),some (.fz (rD rows))]/\Pl h w ls/\Sz h.toNat w.toNat rows/\
 Q (.fz (rD (ft R h w ls rows))) Γ
theorem pK {o:Unit->Obj} {f:Addr} {v:V} (T:Txt w K mg a) (L:LA base o f v):aM P w K mg base CX0 9 a.ko a.jj ["plan","part","rows"] (sp3 K 3 (zi a o f v)):=by
 refine ok3 T.dH.F fv (hbody:=fun cdv A outer s H E hr=>⟨_,_,(ai (fF PassesOwn.never rfl (bI (by rfl) T.z_range (aa (aX (by rfl) (bv 0) T.aQ T.dR (dQ T) hr.dn T.c8.b) ak)) (aP (i:=3) fv.nd rfl (Or.inl rfl))
   (aq (aH (i:=2) fv.nd rfl (Or.inl rfl) (pG (aD (by rfl) (qH T L) hr.dn (by rfl) T.eK.m T.eK.F.kp T.eK.b (ae (P3.opd (p3v 0)) (ae (P3.opd (p3v 1)) (ae (P3.opd (p3v 2)) (ae (P3.opd (p3v 3)) aj)))))))))
   (aq (aF (pE 2)))),fun Γa Q h hl=>?_⟩)
 obtain⟨R,h,w,ls,rows,rfl,p,sz,q⟩:=h;have hls:=p.len;obtain⟨s1,s2,s3,s4,s5⟩:=p.sz;walk_at "m1";refine⟨by decide +kernel,R,h,w,ls,rfl,hls,?_⟩;walk_at "m1";refine⟨by omega,by omega,cB (fun k Γ=>k<=ls.length/\∃ s,Γ=[some (.fz (plD a R h w ls)),some (.fz (.fn o f v (.str R.word))),some (.fz (rD (stK R h w ls rows k))),fo s]) ⟨Nat.zero_le _,none,rfl⟩ ?_ ?_⟩
 ·rintro k d Γ hd ⟨hk,s,rfl⟩;obtain⟨lt,rfl⟩:=bP hd;rw[Int.toNat_natCast] at lt;obtain⟨l,hl⟩:∃ l,ls[k]?=some l:=⟨_,gE0 lt⟩;obtain⟨e,c1,c2,c3,c4⟩:=p.cn (k:=k) hk;walk_at "m1";refine⟨R,h,w,ls,_,k,l,h.toNat,w.toNat,_,_,by rw[Int.zero_add],hls,hl,e,oX p sz hk,by omega,by omega,by omega,by omega,c1,c2,?_⟩;walk_at "m1";refine⟨lt,some (.int (0 + (k:Int))),?_⟩;have eg:ls.getD k .r=l:=by simp [List.getD,hl]
  show _=[some (Sl.fz (plD a R h w ls)),some (.fz (.fn o f v (.str R.word))),some (.fz (rD (lg R h.toNat w.toNat (ls.getD k .r) (cN h w ls k).1 (cN h w ls k).2 (stK R h w ls rows k)))),_];rw[eg];rfl
 ·rintro Γ ⟨hk,s,rfl⟩;rw[bq,Int.toNat_natCast];walk_at "m1";exact q
abbrev pD (h w:Int):D:=.tup [.int h,.int w]
theorem zO {t l:Int} {n y:Nat} {d:D} (h:d∈i7 t l n y):∃ x,x < n/\d=pD (t + (y:Int)) (l + (x:Int)):=by
 unfold i7 at h;obtain⟨x,hx,rfl⟩:=List.mem_map.mp h;exact⟨x,List.mem_range.mp hx,rfl⟩
theorem tw {h w:Int} {ls:List Lt} (p:Pl h w ls) {d:D} (hd:d∈ord h w ls):∃ y x:Nat,y < h.toNat/\x < w.toNat/\d=pD y x:=by
 unfold ord hZ at hd;obtain⟨l,hl,hd⟩:=List.mem_flatten.mp hd;obtain⟨q,hq,rfl⟩:=List.mem_map.mp hl;have o:=pw p.good p.sz q hq;have b:=o.b p.good p.sz;obtain⟨_,_,c1,c2⟩:=dU (k:=q.s) p.good p.sz.h1 p.sz.w1 o.s;unfold Pt.pl plc at hd;obtain⟨l2,hl2,hd⟩:=List.mem_flatten.mp hd;obtain⟨y,hy,rfl⟩:=List.mem_map.mp hl2;obtain⟨x,hx,rfl⟩:=zO hd;have hy:=List.mem_range.mp hy;have h1:=b.t0;have h2:=b.l0;have h3:=o.ht;have h4:=o.wl;refine⟨(q.t + (y:Int)).toNat,(q.l + (x:Int)).toNat,by omega,by omega,?_⟩;rw[Int.toNat_of_nonneg (by omega),Int.toNat_of_nonneg (by omega)]
def mkD (rows:List (List Bool)) (d:D):Bool:=match d with
 | .tup [.int y,.int x]=>gb (rows.getD y.toNat []) x.toNat
 | _=>false
def gq (h w:Int):List (List Bool):=List.replicate h.toNat (List.replicate w.toNat true)
theorem t9 (h w:Int):Sz h.toNat w.toNat (gq h w):=⟨by unfold gq;simp,fun r hr=>by unfold gq at hr;rw[(List.mem_replicate.mp hr).2];simp⟩
def wg (R:Rl) (h w:Int) (ls:List Lt):List D:=(ord h w ls).filter (mkD (ft R h w ls (gq h w)))
theorem DE (n:Nat):(List.replicate n [D.bl true]).flatten=(List.replicate n true).map D.bl:=by
 induction n with
 | zero=>rfl
 | succ n ih=>rw[List.replicate_succ,List.flatten_cons,ih];rfl
theorem Cv {h w:Int} {ls:List Lt} (p:Pl h w ls):(ord h w ls).length<=126976:=by
 have l1:=ja (ps:=pts h w ls) fun q hq=>(pw p.good p.sz q hq).b p.good p.sz;have l2:=ou (h:=h) (w:=w) p.len;unfold ord;omega
def Rl.sel (R:Rl) (x1 x2 x3 x4:S3):S3:=match R with
 | .sum=>x1 | .half=>x2 | .guess=>x3 | .lean=>x4
def or4 (a:Ad) (m:Str) (n:Nat) (x1 x2 x3 x4:S3) (o3:TB3) (t3:cY) (Γ:G) (Q:RV->G->Prop) (_:Tag (m,n,x1,x2,x3,x4)) (_:Tag (o3,t3,Q)):Prop:=gB a.cm m n x1 o3 t3 Γ Q\/gB a.bg m n x2 o3 t3 Γ Q\/gB a.aW m n x3 o3 t3 Γ Q\/gB a.aV m n x4 o3 t3 Γ Q
theorem Ie {m:Str} {n:Nat} {x1 x2 x3 x4:S3} {o3:TB3} {t3:cY} {Γ:G} {Q:RV->G->Prop}:(gB a.cm m n x1 o3 t3 Γ Q\/gB a.bg m n x2 o3 t3 Γ Q\/gB a.aW m n x3 o3 t3 Γ Q\/gB a.aV m n x4 o3 t3 Γ Q)=or4 a m n x1 x2 x3 x4 o3 t3 Γ Q ⟨⟩ ⟨⟩:=rfl
theorem Fx {m:Str} {n:Nat} {x1 x2 x3 x4:S3} {o3:TB3} {t3:cY} {Γ:G} {Q:RV->G->Prop} {s:Tag (m,n,x1,x2,x3,x4)} {t:Tag (o3,t3,Q)} (R:Rl) (h:gB (R.cls a) m n (R.sel x1 x2 x3 x4) o3 t3 Γ Q):or4 a m n x1 x2 x3 x4 o3 t3 Γ Q s t:=by
 cases R
 ·exact .inl h
 ·exact .inr (.inl h)
 ·exact .inr (.inr (.inl h))
 ·exact .inr (.inr (.inr h))
def CQ (a:Ad):S3:=fun Γ Q=>∃ (R:Rl) (h w:Int) (ls:List Lt),Γ=[some (.fz (plD a R h w ls))]/\Pl h w ls/\Q (.fr (.lst (wg R h w ls))) Γ
theorem uM (T:Txt w K mg a) (M:kT base a.dW qL):aM P w K mg base CX0 10 a.xH a.p_ ["plan"] (sp3 K 1 (CQ a)):=by
 refine okM T.gP.F lA (hbody:=fun cdv A outer s H E hcv hr=>?_);have hcd:cdv=.ref a.eY:=hcv.trans T.Bc;refine⟨_,_,(ai (aH (i:=1) lA.nd rfl (Or.inr rfl) (P3.or (aX (by rfl) (P3.opd (aX (by rfl) (bv 0) T.aQ T.eX (eW T) hr.dn T.dX.b)) T.xO T.lL (lK T) hr.dn T.iK.b) (P3.or (aX (by rfl) (P3.opd (aX (by rfl) (bv 0) T.aQ T.eX (eW T) hr.dn T.dX.b)) T.rZ T.jh (je T) hr.dn T.fY.b) (P3.or (aX (by rfl) (P3.opd (aX (by rfl) (bv 0) T.aQ T.eX (eW T) hr.dn T.dX.b)) T.ql T.ix (iu T) hr.dn T.fi.b) (aX (by rfl) (P3.opd (aX (by rfl) (bv 0) T.aQ T.eX (eW T) hr.dn T.dX.b)) T.qk T.iw (ir T) hr.dn T.fh.b)))))
   (ai (fE (i:=2) lA.nd rfl rfl rfl (bI (by rfl) T.z_range (aa (aX (by rfl) (bv 0) T.aQ T.pT (pM T) hr.dn T.j8.b) ak)) nO (fun _ _ _ _ _=>(aP (i:=0) nO.nd rfl (Or.inl rfl))) (fun _ _ _ _ _=>(lH (P3.opd (bw (aa fJ ak))) (P3.opd (aX (by rfl) (bv 1) T.aQ T.qP (qM T) hr.dn T.kX.b)))))
   (ai (aH (i:=3) lA.nd rfl (Or.inr rfl) (pG (Ai (i:=1) (j:=1) (nm:="word") (fun base o f v L=>pK T L) hr.dn (by rfl) T.dH.m T.dH.F.kp T.dH.b (by rfl) (by rfl) (by rfl) rfl (ae (P3.opd (p3v 0)) (ae (P3.opd (Fw hcd (fun h X=>PySem.W.codeHd_of_K X T.AK) M rfl)) (ae (P3.opd (p3v 2)) aj))))))
   (aq (aF (pI rfl (cu (by rfl) (aX (by rfl) (bv 0) T.aQ T.qR (qO T) hr.dn T.kZ.b)) jA (fun _ _ _ _ _=>(gj (is:=[0,1]) (by rfl) (au (aA (i:=0) jA.nd rfl (Or.inl rfl)) (au (aA (i:=1) jA.nd rfl (Or.inl rfl)) br)) rfl)) (fun _ _ _ _ _=>(dM (aS (by rfl) (P3.opd (aS (by rfl) (bv 2) (bv 0) (fun _ _=>rfl))) (bv 1) (fun _ _=>rfl)))) (fun _ _ _ _ _=>(bC (aa (p3v 0) (aa (p3v 1) ak)))))))))),fun Γa Q h hl=>?_⟩
 obtain⟨R,h,w,ls,rfl,p,q⟩:=h;have hls:=p.len;obtain⟨s1,s2,s3,s4,s5⟩:=p.sz;simp -dsimp only[fu,List.length_cons,List.length_nil,Nat.reduceAdd,Nat.reduceSub,List.replicate,List.cons_append,List.nil_append,↓DZ,↓DY,↓Ie];refine Fx R ?_;rw[show R.sel (gS (Str.ofString "sum")) (gS (Str.ofString "half")) (gS (Str.ofString "guess")) (gS (Str.ofString "lean"))=gS R.word by cases R <;> rfl];walk_at "m1";refine⟨by decide +kernel,R,h,w,ls,rfl,hls,?_⟩;walk_at "m1";refine⟨_,rfl,?_⟩;walk_at "m1";refine⟨by decide +kernel,R,h,w,ls,rfl,hls,?_⟩;walk_at "m1";refine⟨by omega,by omega,small (by rw[bq];omega),bL (fun k ys Γc=>ys=(List.range k).map (fun _=>tl (List.replicate w.toNat true))/\∃ s,Γc=[fo s,some (.fz (plD a R h w ls))]) ⟨rfl,none,rfl⟩ ?_ ?_⟩
 ·rintro k d ys Γc hd hk ⟨rfl,s,rfl⟩;obtain⟨lt,rfl⟩:=bP hd;walk_at "m1";refine⟨z1,by decide +kernel,R,h,w,ls,rfl,hls,?_⟩;walk_at "m1";rw[DE];exact⟨by omega,by omega,bY (by omega),snoc rfl,some _,rfl⟩
 rintro ys Γc hk ⟨rfl,s,rfl⟩;rw[bq,show (List.range h.toNat).map (fun _=>tl (List.replicate w.toNat true))=(gq h w).map tl by unfold gq;rw[List.map_replicate,List.map_const',List.length_range]];walk_at "m1";unfold wH;walk_at "m1";unfold FZ;intro o f ho;walk_at "m1";refine⟨o,f,rfl,ho,_,rfl,fun v=>?_⟩;refine⟨R,_,_,ls,_,rfl,p,t9 h w,?_⟩;walk_at "m1";refine⟨by decide +kernel,R,h,w,ls,rfl,p.sz,p.good,hls,?_⟩;have ol:=Cv p;have sS:Sz h.toNat w.toNat (ft R h w ls (gq h w)):=oX (R:=R) p (t9 h w) (Nat.le_refl ls.length);rw[show wg R h w ls=(ord h w ls).filter (mkD (ft R h w ls (gq h w))) from rfl] at q;generalize ft R h w ls (gq h w)=S at sS q ⊢;walk_at "m1";refine dE (fun k ys Γc=>ys=((ord h w ls).take k).filter (mkD S)/\∃ s s',Γc=[fo s,fo s',some (.fz (rD S))]) ⟨rfl,none,none,rfl⟩ ?_ ?_
 ·rintro k d ys Γc hd ⟨rfl,s,s',rfl⟩;obtain⟨y,x,ly,lx,rfl⟩:=tw p (List.mem_of_getElem? hd);have hr:S[y]?=some (S.getD y []):=by
   have:=sS.hh;rw[gE0 (by omega)];simp [List.getD,show y < S.length by omega]
  have lr:=sS.ww _ (List.mem_of_getElem? hr);walk_at "m1";refine cq.mpr ⟨tl (S.getD y []),b9 (by omega) (by rw[List.getElem?_map,Int.toNat_natCast,hr];rfl),?_⟩;walk_at "m1";refine cq.mpr ⟨_,m5 (by omega) (by omega),?_⟩;rw[Int.toNat_natCast];have em:mkD S (pD y x)=gb (S.getD y []) x:=rfl;cases e:gb (S.getD y []) x
  ·walk_at "m1";exact⟨by rw[take_snoc hd,List.filter_append,List.filter_cons,em,e];simp,some _,some _,rfl⟩
  ·walk_at "m1";exact⟨iP (by have:=List.length_filter_le (mkD S) ((ord h w ls).take k);rw[List.length_take] at this;omega),z2,by rw[take_snoc hd,List.filter_append,List.filter_cons,em,e];rfl,some _,some _,rfl⟩
 ·rintro ys Γc ⟨rfl,s,s',rfl⟩;rw[List.take_length];walk_at "m1";exact⟨iP (by have:=List.length_filter_le (mkD S) (ord h w ls);omega),q⟩
def GV:S3:=fun Γ Q=>∃ (ns:Li) (k:Int),Γ=[some (.fz (.scr ns)),some (.fz (.int k))]/\0<=k/\∀ r,Q (.fz (.int r)) Γ
theorem tJ (T:Txt w K mg a):aM P w K mg base CX0 1 a.nJ a.l5 ["_law_script","_law_k"] (sp3 K 2 GV):=by
 refine ok3 T.fU.F sI (hbody:=fun cdv A outer s H E hr=>⟨_,_,(ai (cp (aO r8 (bv 1) (P3.opd (a8 (mi (by rfl)) (by rfl) T.z_len (by decide +kernel) (ae (bv 0) aj))) (bj _)) (aq (aF (aS (by rfl) (bv 0) (bv 1) (fun _ _=>rfl)))) bE)
   (aq (aF (aL (P3.opd (kN (P3.opd ag) (bv 1))) (P3.opd ag))))),fun Γa Q h hl=>?_⟩)
 obtain⟨ns,k,rfl,hk,q⟩:=h;walk_at "m1";refine kz (fun h=>?_) (fun h=>?_)
 ·walk_at "m1";exact⟨_,Df hk (of_decide_eq_true h),q _⟩
 ·walk_at "m1";exact⟨.inl ⟨by decide,by decide⟩,q _⟩
def Box (c:Int) (d:D):Prop:=∃ x m k:Int,d=.lst [.int x,.int m,.int k]/\0<=x/\0<=m/\m < 2147483647/\0<=k/\k<=c
def Jy:S3:=fun Γ Q=>∃ (x:Int),Γ=[some (.fz (.int x))]/\∀ d,Box 0 d->Q (.fr d) Γ
theorem uO (T:Txt w K mg a):aM P w K mg base CX0 1 a.qe a.nB ["_law_cell_here"] (sp3 K 1 Jy):=by
 refine ok3 T.gR.F uj (hbody:=fun cdv A outer s H E hr=>⟨_,_,(aq (aF (bw (aa (a8 (Ek rfl) (by rfl) T.z_max (by decide +kernel) (ae (P3.opd ag) (ae (P3.opd (kM (bv 0) (P3.opd (Ft (v:=1000000000000000000) (by decide +kernel) ⟨by decide,by decide,by decide⟩)))) aj))) (aa (mJ (bv 0) (P3.opd ag)) (aa ag ak)))))),fun Γa Q h hl=>?_⟩);obtain⟨x,rfl,q⟩:=h;walk_at "m1";exact⟨by decide,by rw[sizeLine_eq];omega,q _ ⟨_,_,_,rfl,by unfold fmax;split <;> omega,Int.emod_nonneg _ (by decide),Int.emod_lt_of_pos _ (by decide),by decide,by decide⟩⟩
def EA:S3:=fun Γ Q=>∃ (d:D) (c n:Int),Γ=[some (.ln d),some (.fz (.int n))]/\Box c d/\c<=1000000/\0 < n/\n<=1000000000/\∀ r d',0<=r->r < n->Box (c + 1) d'->Q (.fz (.int r)) [some (.ln d'),some (.fz (.int n))]
theorem bF (T:Txt w K mg a):aM P w K mg base CX0 1 a.nH a.lY ["_law_box_here","_law_many"] (sp3 K 2 EA):=by
 refine ok3 T.aw.F eR (hbody:=fun cdv A outer s H E hr=>⟨_,_,(ai (cp (aO Bi (P3.opd (aS (by rfl) (bv 0) (P3.opd ag) (fun _ _=>rfl))) (P3.opd ag) (bj _)) (ai (aH (i:=2) eR.nd rfl (Or.inl rfl) (mJ (P3.opd (aS (by rfl) (bv 0) (P3.opd ag) (fun _ _=>rfl))) (bv 1)))
   (ai (pj 0 (bv 0) (P3.opd ag) (cG (P3.opd (aS (by rfl) (bv 0) (P3.opd ag) (fun _ _=>rfl))) (bv 1)))
   (aq (aF (pE 2))))) bE)
   (ai (pj 0 (bv 0) (P3.opd ag) (aL (P3.opd (aS (by rfl) (bv 0) (P3.opd ag) (fun _ _=>rfl))) (P3.opd ag)))
   (ai (aH (i:=3) eR.nd rfl (Or.inl rfl) (mJ (P3.opd (xh (P3.opd (aL (P3.opd (aL (P3.opd (aS (by rfl) (bv 0) (P3.opd ag) (fun _ _=>rfl))) (P3.opd (kN (P3.opd ag) (P3.opd (aS (by rfl) (bv 0) (P3.opd ag) (fun _ _=>rfl))))))) (P3.opd ag))) (P3.opd ag))) (P3.opd ag)))
   (ai (aH (i:=3) eR.nd rfl (Or.inl rfl) (mJ (P3.opd (xh (P3.opd (aL (bv 3) (P3.opd (kN (P3.opd ag) (P3.opd (aS (by rfl) (bv 0) (P3.opd ag) (fun _ _=>rfl))))))) (P3.opd ag))) (P3.opd ag)))
   (aq (aF (mJ (P3.opd (cG (bv 3) (P3.opd ag))) (bv 1)))))))),fun Γa Q h hl=>?_⟩)
 obtain⟨_,c,n,rfl,⟨x,m,k,rfl,hx,hm,hm2,hk,hk2⟩,hc,hn,hn2,q⟩:=h;walk_at "m1";refine kz (fun e=>?_) (fun e=>?_)
 ·walk_at "m1";exact⟨hn,⟨hn,by omega⟩,q _ _ (Int.emod_nonneg _ (by omega)) (Int.emod_lt_of_pos _ hn) ⟨_,_,_,rfl,Int.ediv_nonneg hx (by omega),hm,hm2,hk,by omega⟩⟩
 ·walk_at "m1";have hy1:(m + 7919 * (k + 1) + 17) ^ Int.toNat 5 % 2147483647 < 2147483647:=Int.emod_lt_of_pos _ (by decide);have hy0:0<=(m + 7919 * (k + 1) + 17) ^ Int.toNat 5 % 2147483647:=Int.emod_nonneg _ (by decide);generalize (m + 7919 * (k + 1) + 17) ^ Int.toNat 5 % 2147483647=y at hy0 hy1 ⊢;exact⟨.inl ⟨by decide,by decide⟩,⟨by decide,by decide,by omega⟩,by decide,.inl ⟨by decide,by decide⟩,⟨by decide,by decide,by omega⟩,by decide,⟨by decide,by decide⟩,hn,q _ _ (Int.emod_nonneg _ (by omega)) (Int.emod_lt_of_pos _ hn) ⟨_,_,_,rfl,hx,hm,hm2,by omega,by omega⟩⟩
theorem pick {p:D->Prop} {xs:List D} {r:Int} {k:D->Prop} {t:Tag k} (h0:0<=r) (h1:r < (xs.length:Int)) (hp:∀ x∈xs,p x) (q:∀ v,p v->k v):m1 (atI xs r) k t:=by
 obtain⟨d,h2,h3⟩:=Di h0 h1;exact cq.mpr ⟨d,h2,q d (hp d h3)⟩
theorem Box.up {c c':Int} {d:D} (b:Box c d) (h:c<=c'):Box c' d:=by
 obtain⟨x,m,k,e,h1,h2,h3,h4,h5⟩:=b;exact⟨x,m,k,e,h1,h2,h3,h4,Int.le_trans h5 h⟩
def BM:S3:=fun Γ Q=>∃ (d:D),Γ=[some (.ln d)]/\Box 0 d/\∀ h w d',oi h w->Box 10 d'->Q (.fz (pD h w)) [some (.ln d')]
theorem Kr {v:D} (h:v∈[D.tup [.int 64,.int 8],.tup [.int 8,.int 64],.tup [.int 1,.int 64],.tup [.int 64,.int 1],.tup [.int 22,.int 23]]):∃ h w,v=pD h w/\oi h w:=by
 simp only[List.mem_cons,List.not_mem_nil,or_false] at h;rcases h with rfl | rfl | rfl | rfl | rfl <;> exact⟨_,_,rfl,by decide,by decide,by decide,by decide,by decide⟩
theorem size_of {x y:Int} (h1:0<=x) (h2:x < 64) (h3:0<=y) (h4:y < fmin 64 (512 / (1 + x))):oi (1 + x) (1 + y):=by
 have e:fmin 64 (512 / (1 + x))<=64/\fmin 64 (512 / (1 + x))<=512 / (1 + x):=by unfold fmin;split <;> omega
 have e2:(1 + x) * (1 + y)<=(1 + x) * (512 / (1 + x)):=Int.mul_le_mul_of_nonneg_left (by omega) (by omega);have e3:(1 + x) * (512 / (1 + x))<=512:=Int.mul_ediv_self_le (by omega);exact⟨by omega,by omega,by omega,by omega,by omega⟩
theorem Hs {x y:Int} (h1:0<=x) (h2:x < 9) (h3:0<=y) (h4:y < 9):oi (1 + x) (1 + y):=by
 have e2:(1 + x) * (1 + y)<=9 * 9:=Int.mul_le_mul (by omega) (by omega) (by omega) (by omega);exact⟨by omega,by omega,by omega,by omega,by omega⟩
theorem tI (T:Txt w K mg a):aM P w K mg base CX0 2 a.nI a.lZ ["_law_box_here"] (sp3 K 1 BM):=by
 refine ok3 T.fR.F lB (hbody:=fun cdv A outer s H E hr=>⟨_,_,(ai (cp (aO (cW (by rfl) hr) (P3.opd (aD (by rfl) (bF T) hr.dn (by rfl) T.aw.m T.aw.F.kp T.aw.b (ae (bv 0) (ae (P3.opd ag) aj)))) (P3.opd ag) (bj _)) (aq (aF (aS (by rfl) (P3.opd (bw (aa (bC (aa ag (aa ag ak))) (aa (bC (aa ag (aa ag ak))) (aa (bC (aa ag (aa ag ak))) (aa (bC (aa ag (aa ag ak))) (aa (bC (aa ag (aa ag ak))) ak))))))) (P3.opd (aD (by rfl) (bF T) hr.dn (by rfl) T.aw.m T.aw.F.kp T.aw.b (ae (bv 0) (ae (P3.opd ag) aj)))) (fun _ _=>rfl)))) bE)
   (ai (cp (aO (cW (by rfl) hr) (P3.opd (aD (by rfl) (bF T) hr.dn (by rfl) T.aw.m T.aw.F.kp T.aw.b (ae (bv 0) (ae (P3.opd ag) aj)))) (P3.opd ag) (bj _)) (ai (aH (i:=1) lB.nd rfl (Or.inl rfl) (aL (P3.opd ag) (P3.opd (aD (by rfl) (bF T) hr.dn (by rfl) T.aw.m T.aw.F.kp T.aw.b (ae (bv 0) (ae (P3.opd ag) aj))))))
   (aq (aF (bC (aa (p3v 1) (aa (aL (P3.opd ag) (P3.opd (aD (by rfl) (bF T) hr.dn (by rfl) T.aw.m T.aw.F.kp T.aw.b (ae (bv 0) (ae (P3.opd (a8 (Ej rfl) (by rfl) T.z_min (by decide +kernel) (ae (P3.opd ag) (ae (P3.opd (cG (P3.opd ag) (bv 1))) aj)))) aj))))) ak)))))) bE)
   (aq (aF (bC (aa (aL (P3.opd ag) (P3.opd (aD (by rfl) (bF T) hr.dn (by rfl) T.aw.m T.aw.F.kp T.aw.b (ae (bv 0) (ae (P3.opd ag) aj))))) (aa (aL (P3.opd ag) (P3.opd (aD (by rfl) (bF T) hr.dn (by rfl) T.aw.m T.aw.F.kp T.aw.b (ae (bv 0) (ae (P3.opd ag) aj))))) ak))))))),fun Γa Q h hl=>?_⟩)
 obtain⟨d,rfl,hb,q⟩:=h;walk_at "m1";refine⟨_,_,16,rfl,hb,by decide,by decide,by decide,fun r1 d1 l1 u1 b1=>?_⟩;walk_at "m1";refine kz (fun h=>?_) (fun h=>?_)
 ·simp -dsimp -implicitDefEqProofs only[↓D0,↓zh,↓D6,↓D4,↓AM,↓DX,↓h_c,↓D2,RV.d,List.length_cons,List.length_nil,Nat.zero_add,Nat.reduceAdd,↓xR,↓xD,↓D5,Gat,↓AL,List.map_cons,List.map_nil,bN,bZ,List.nodup_cons,List.not_mem_nil,not_false_eq_true,List.nodup_nil,du,qX,gL,bB,newD,fu,Nat.reduceSub,List.replicate,List.cons_append,List.nil_append,List.mapIdx_cons,if_pos,JD,Option.getD_some,reduceCtorEq,if_false,JC,List.mapIdx_nil,RV.sl,List.set_cons_succ,List.set_cons_zero,List.getElem?_cons_succ,List.getElem?_cons_zero,Option.some.injEq,exists_eq',Bo.at,xp,↓DQ,true_and];refine⟨z2,z2,z2,z2,z2,z5,_,_,5,rfl,b1,by decide,by decide,by decide,fun r2 d2 l2 u2 b2=>?_⟩;walk_at "m1";refine pick l2 u2 (fun v hv=>Kr hv) (fun v hv=>?_);obtain⟨h,w,rfl,sz⟩:=hv;walk_at "m1";exact q _ _ _ sz (b2.up (by decide))
 ·walk_at "m1";refine⟨_,_,12,rfl,b1,by decide,by decide,by decide,fun r2 d2 l2 u2 b2=>?_⟩;walk_at "m1";refine kz (fun h=>?_) (fun h=>?_)
  ·walk_at "m1";refine⟨_,_,64,rfl,b2,by decide,by decide,by decide,fun r3 d3 l3 u3 b3=>?_⟩;walk_at "m1";have p:1<=512 / (1 + r3):=Int.le_ediv_of_mul_le (by omega) (by omega);refine⟨⟨by omega,by omega⟩,_,_,_,rfl,b3,by decide,by unfold fmin;split <;> omega,by unfold fmin;split <;> omega,fun r4 d4 l4 u4 b4=>?_⟩;walk_at "m1";exact⟨z2,q _ _ _ (size_of l3 u3 l4 u4) (b4.up (by decide))⟩
  ·walk_at "m1";refine⟨_,_,9,rfl,b2,by decide,by decide,by decide,fun r3 d3 l3 u3 b3=>?_⟩;walk_at "m1";refine⟨_,_,9,rfl,b3,by decide,by decide,by decide,fun r4 d4 l4 u4 b4=>?_⟩;walk_at "m1";exact⟨z2,q _ _ _ (Hs l3 u3 l4 u4) (b4.up (by decide))⟩
theorem BF {ls:List Lt} {i:Int} {l:Lt} {k:Lt->Prop} {t:Tag k} (z:(wy ls).length<=sizeLine) (h:atI ls i=some l) (q:k l):Eu ls i k t:=⟨z,l,h,q⟩
theorem HQ {ls:List Lt} {r:Int} {k:Lt->Prop} {t:Tag k} (h0:0<=r) (h1:r < (ls.length:Int)) (z:ls.length<=sizeLine) (q:∀ l,k l):Eu ls r k t:=by
 exact BF (l:=ls[r.toNat]) (by rw[iL];exact z) (b9 h0 (gE0 (by omega))) (q _)
theorem su (ls:List Lt) (l:Lt):wy ls++l.s=wy (ls++[l]):=by
 show (⟨(wy ls).cps++l.s.cps⟩:Str)=_;unfold wy
 congr 1
 rw[List.map_append];cases l <;> simp [Lt.s,sgn]
theorem rO:∀ {ls:List Lt} {h w:Int} {l:Lt},Good h w ls->Can l (cat h w ls ls.length).1 (cat h w ls ls.length).2->Good h w (ls++[l])/\cat h w (ls++[l]) (ls++[l]).length=(nh l (cat h w ls ls.length).1,nw l (cat h w ls ls.length).2)
 | [],h,w,l,_,c=>⟨⟨c,trivial⟩,rfl⟩
 | m::ls,h,w,l,g,c=>by
  obtain⟨i1,i2⟩:=rO (ls:=ls) (h:=nh m h) (w:=nw m w) (l:=l) g.2 c;exact⟨⟨g.1,i1⟩,i2⟩
def Hd:S3:=fun Γ Q=>∃ (d:D) (h w:Int),Γ=[some (.ln d),some (.fz (pD h w))]/\oi h w/\Box 10 d/\∀ ls d',Pl h w ls->Q (.fz (.str (wy ls))) [some (.ln d'),some (.fz (pD h w))]
theorem uN (T:Txt w K mg a):aM P w K mg base CX0 2 a.qd a.nA ["_law_box_here","_law_size_here"] (sp3 K 2 Hd):=by
 refine ok3 T.gQ.F bO (hbody:=fun cdv A outer s H E hr=>⟨_,_,(ai (eV (is:=[2,3]) (by rfl) (p3v 1) (au (aA (i:=2) bO.nd rfl (Or.inl rfl)) (au (aA (i:=3) bO.nd rfl (Or.inl rfl)) br)) rfl)
   (ai (aH (i:=4) bO.nd rfl (Or.inl rfl) a_)
   (ai (fF PassesOwn.never rfl (bI (by rfl) T.z_range (aa (aD (by rfl) (bF T) hr.dn (by rfl) T.aw.m T.aw.F.kp T.aw.b (ae (bv 0) (ae (P3.opd ag) aj))) ak)) (aP (i:=5) bO.nd rfl (Or.inl rfl))
   (ai (aH (i:=6) bO.nd rfl (Or.inl rfl) (aS (by rfl) (P3.opd a_) (P3.opd (aD (by rfl) (bF T) hr.dn (by rfl) T.aw.m T.aw.F.kp T.aw.b (ae (bv 0) (ae (P3.opd ag) aj)))) (fun _ _=>rfl)))
   (aq (cp (P3W.pt (oz (P3W.pt (tm (aO (cW (by rfl) hr) (bv 6) (P3.opd a_) (bj _)) (oy (aO Bi (bv 3) (P3.opd ag) (bj _))))) (lG (P3W.pt (tm (aO (cW (by rfl) hr) (bv 6) (P3.opd a_) (bj _)) (oy (aO Bi (bv 2) (P3.opd ag) (bj _)))))))) (ai (aH (i:=4) bO.nd rfl (Or.inl rfl) (aL (bv 4) (bv 6)))
   (ai (aH (i:=3) bO.nd rfl (Or.inl rfl) (aS (by rfl) (P3.opd (bw (aa (cG (P3.opd (aL (bv 3) (P3.opd ag))) (P3.opd ag)) (aa (p3v 3) ak)))) (P3.opd (gz xS (by rfl) T.z_int (by decide +kernel) (ae (P3.opd (i_ (cW (by rfl) hr) (bv 6) (P3.opd a_) (bj _))) aj))) (fun _ _=>rfl)))
   (aq (aH (i:=2) bO.nd rfl (Or.inl rfl) (aS (by rfl) (P3.opd (bw (aa (cG (P3.opd (aL (bv 2) (P3.opd ag))) (P3.opd ag)) (aa (p3v 2) ak)))) (P3.opd (gz xS (by rfl) T.z_int (by decide +kernel) (ae (P3.opd (i_ (cW (by rfl) hr) (bv 6) (P3.opd a_) (bj _))) aj))) (fun _ _=>rfl)))))) bE))))
   (aq (aF (pE 4)))))),fun Γa Q h hl=>?_⟩)
 obtain⟨d,h,w,rfl,sz,hb,q⟩:=h;walk_at "m1";refine⟨_,_,11,rfl,hb,by decide,by decide,by decide,fun r1 d1 l1 u1 b1=>?_⟩;walk_at "m1";refine⟨by omega,by omega,cB (fun k Γ=>∃ ls d s5 s6,ls.length<=k/\Good h w ls/\Box (11 + k) d/\Γ=[some (.ln d),some (.fz (pD h w)),some (.fz (.int (cat h w ls ls.length).1)),some (.fz (.int (cat h w ls ls.length).2)),some (.fz (.str (wy ls))),fo s5,fo s6]) ⟨[],d1,none,none,Nat.le_refl _,trivial,b1.up (by decide),rfl⟩ ?_ ?_⟩
 ·rintro k d Γ hd ⟨ls,d,s5,s6,hk,g,hb,rfl⟩;obtain⟨lk,rfl⟩:=bP hd;obtain⟨p1,p2,_,_⟩:=dU (k:=ls.length) g sz.h1 sz.w1 (Nat.le_refl _);have hsn:∀ l,Can l (cat h w ls ls.length).1 (cat h w ls ls.length).2->Good h w (ls++[l])/\cat h w (ls++[l]) (ls++[l]).length=(nh l (cat h w ls ls.length).1,nw l (cat h w ls ls.length).2):=fun l c=>rO g c;generalize hc:cat h w ls ls.length=c at p1 p2 hsn ⊢;obtain⟨H,W⟩:=c;dsimp only at p1 p2 hsn ⊢;walk_at "m1";refine⟨d,_,3,rfl,hb,by omega,by decide,by decide,fun r2 d2 l2 u2 b2=>?_⟩;walk_at "m1";refine HQ l2 u2 z3 (fun l=>?_);cases l
  ·walk_at "m1";refine vj (fun e=>?_) (fun e=>?_)
   ·have e':=of_decide_eq_true e;walk_at "m1";obtain⟨g2,c2⟩:=hsn .r ⟨fun _=>by omega,fun n=>absurd rfl n⟩;exact⟨by rw[iL,show Lt.r.s.length=1 by decide +kernel,sizeLine_eq];omega,⟨by decide,by decide⟩,z2,⟨by decide,by decide⟩,z2,ls++[.r],d2,some _,some _,by rw[List.length_append];simp only[List.length_cons,List.length_nil];omega,g2,b2.up (by omega),by rw[c2,su];rfl⟩
   ·walk_at "m1";exact⟨ls,d2,some _,some _,by omega,g,b2.up (by omega),by rw[hc];rfl⟩
  ·walk_at "m1";refine kz (fun e=>?_) (fun e=>?_)
   ·have e':=of_decide_eq_true e;walk_at "m1";obtain⟨g2,c2⟩:=hsn .p ⟨fun n=>absurd rfl n,fun _=>by omega⟩;exact⟨by rw[iL,show Lt.p.s.length=1 by decide +kernel,sizeLine_eq];omega,⟨by decide,by decide⟩,z2,⟨by decide,by decide⟩,z2,ls++[.p],d2,some _,some _,by rw[List.length_append];simp only[List.length_cons,List.length_nil];omega,g2,b2.up (by omega),by rw[c2,su];rfl⟩
   ·walk_at "m1";exact⟨ls,d2,some _,some _,by omega,g,b2.up (by omega),by rw[hc];rfl⟩
  ·walk_at "m1";refine vj (fun e=>?_) (fun e=>?_)
   ·have e':=of_decide_eq_true e;walk_at "m1";refine kz (fun e=>?_) (fun e=>?_)
    ·have e2:=of_decide_eq_true e;walk_at "m1";obtain⟨g2,c2⟩:=hsn .b ⟨fun _=>by omega,fun _=>by omega⟩;exact⟨by rw[iL,show Lt.b.s.length=1 by decide +kernel,sizeLine_eq];omega,⟨by decide,by decide⟩,z2,⟨by decide,by decide⟩,z2,ls++[.b],d2,some _,some _,by rw[List.length_append];simp only[List.length_cons,List.length_nil];omega,g2,b2.up (by omega),by rw[c2,su];rfl⟩
    ·walk_at "m1";exact⟨ls,d2,some _,some _,by omega,g,b2.up (by omega),by rw[hc];rfl⟩
   ·walk_at "m1";exact⟨ls,d2,some _,some _,by omega,g,b2.up (by omega),by rw[hc];rfl⟩
 ·rintro Γ ⟨ls,d,s5,s6,hk,g,hb,rfl⟩;rw[bq] at hk hb;walk_at "m1";exact q _ _ ⟨sz,g,by omega⟩
theorem rQ {xs:List Bool} {i:Nat} (h:xs.length<=i):gb xs i=false:=by unfold gb;simp [List.getD,h]
theorem pY (xs:List Bool) (i:Nat):hsB xs (i:Int)=gb xs i:=by
 unfold hsB;rw[Int.toNat_natCast,decide_eq_true (Int.natCast_nonneg i),Bool.true_and];by_cases h:i < xs.length
 ·rw[decide_eq_true (Int.ofNat_lt.mpr h),Bool.true_and]
 ·rw[rQ (by omega),Bool.and_false]
theorem xB (xs:List Bool) (j:Nat):hsB xs ((j:Int) - 1)=gb (false::xs) j:=by
 cases j with
 | zero=>rfl
 | succ j=>rw[show ((j + 1:Nat):Int) - 1=(j:Int) by omega,pY];rfl
theorem CS (xs:List Bool) (j:Nat):hsB xs ((j:Int) + 1)=gb xs (j + 1):=pY xs (j + 1)
theorem AR (xs:List Bool) (j:Nat):gb (xs++[false]) j=gb xs j:=by
 by_cases h:j < xs.length
 ·unfold gb;rw[List.getD_eq_getElem?_getD,List.getD_eq_getElem?_getD,List.getElem?_append_left h]
 ·rw[rQ (xs:=xs) (by omega)];by_cases e:j=xs.length
  ·subst e;unfold gb;simp [List.getD]
  ·exact rQ (by simp;omega)
theorem xF (xs:List Bool) (j:Nat):gb (xs.drop 1++[false]) j=gb xs (j + 1):=by
 rw[AR];unfold gb;rw[List.getD_eq_getElem?_getD,List.getD_eq_getElem?_getD,List.getElem?_drop,Nat.add_comm]
theorem GD (xs:List Bool) (n j:Nat):gb (xs++List.replicate n false) j=gb xs j:=by
 by_cases h:j < xs.length
 ·unfold gb;rw[List.getD_eq_getElem?_getD,List.getD_eq_getElem?_getD,List.getElem?_append_left h]
 ·rw[rQ (xs:=xs) (by omega)];unfold gb;rw[List.getD_eq_getElem?_getD,List.getElem?_append_right (by omega)];cases q:(List.replicate n false)[j - xs.length]? with
  | none=>rfl
  | some b=>exact(List.mem_replicate.mp (List.mem_of_getElem? q)).2
theorem Kt {xs ys:List Bool} (hl:xs.length=ys.length) (h:∀ j,j < xs.length->gb xs j=gb ys j):xs=ys:=by
 refine List.ext_getElem? fun j=>?_;by_cases lt:j < xs.length
 ·rw[p6 lt,p6 (by omega),h j lt]
 ·rw[List.getElem?_eq_none (by omega),List.getElem?_eq_none (by omega)]
theorem rg {xs ys zs:List Bool} {k:Nat} {d:D} (h:(iJ (xs.map D.bl) (ys.map D.bl) (zs.map D.bl))[k]?=some d):k < xs.length/\k < ys.length/\k < zs.length/\d=.tup [.bl (gb xs k),.bl (gb ys k),.bl (gb zs k)]:=by
 obtain⟨x,y,v,hx,hy,hv,rfl⟩:=q9 h;obtain⟨l1,rfl⟩:=jR hx;obtain⟨l2,rfl⟩:=jR hy;obtain⟨l3,rfl⟩:=jR hv;exact⟨l1,l2,l3,rfl⟩
theorem q_ {xs ys zs:List Bool}:(iJ (xs.map D.bl) (ys.map D.bl) (zs.map D.bl)).length=min xs.length (min ys.length zs.length):=by rw[q8,lM0,lM0,lM0]
def pV:S3:=fun Γ Q=>∃ (R:Rl) (bs:List Bool),Γ=[some (.fz (.str R.word)),some (.fz (tl bs))]/\1<=bs.length/\bs.length<=64/\Q (.two ((R.s1 bs).map .bl) ((R.s2 bs).map .bl)) Γ
theorem Jt (xs:List Bool):cut (xs.map D.bl) (some 1) none=(xs.drop 1).map D.bl:=by
 by_cases h:1<=xs.length
 ·exact jv (n:=1) h
 ·have:xs=[]:=List.eq_nil_of_length_eq_zero (by omega);subst this;rfl
theorem Bu (xs:List Bool):xs.map D.bl++[D.bl false]=(xs++[false]).map D.bl:=by rw[List.map_append];rfl
theorem JJ (a b c:Bool):(a && (b && c))=(b && (a && c)):=by cases a <;> cases b <;> rfl
theorem JV:(Rl.guess.word == Str.ofString "guess")=true:=by decide +kernel
theorem JU:(Rl.lean.word == Str.ofString "lean")=true:=by decide +kernel
theorem jd (T:Txt w K mg a):aM P w K mg base CX0 1 a.kr a.jl ["_law_word","_law_marks_here"] (sp3 K 2 pV):=by
 refine ok3 T.bS.F bu (hbody:=fun cdv A outer s H E hr=>⟨_,_,(ai (zv (i:=2) (j:=3) rfl bu.nd rfl rfl (by decide) (by rfl) (by rfl) (aa (gy (by rfl) (bv 1) bK bK (ba (P3.opd ag))) (aa (gy (by rfl) (bv 1) (ba (P3.opd ag)) bK (ba (P3.opd ag))) ak)) (by rfl))
   (ai (fE (i:=4) bu.nd rfl rfl rfl (AF (by rfl) T.z_zip (aa (p3v 2) (aa (p3v 3) ak))) dq (fun _ _ _ _ _=>(gj (is:=[0,1]) (by rfl) (au (aA (i:=0) dq.nd rfl (Or.inl rfl)) (au (aA (i:=1) dq.nd rfl (Or.inl rfl)) br)) rfl)) (fun _ _ _ _ _=>(cV (p3v 0) (fI (p3v 1)))))
   (ai (cp (aO (cW (by rfl) hr) (bv 0) (P3.opd a_) (bj _)) (ai (fE (i:=5) bu.nd rfl rfl rfl (AF (by rfl) T.z_zip (aa (p3v 4) (aa (aL (P3.opd (dZ (by rfl) (bv 2) (ba (P3.opd ag)) bK)) (P3.opd (bw (aa fJ ak)))) ak))) dr (fun _ _ _ _ _=>(gj (is:=[0,1]) (by rfl) (au (aA (i:=0) dr.nd rfl (Or.inl rfl)) (au (aA (i:=1) dr.nd rfl (Or.inl rfl)) br)) rfl)) (fun _ _ _ _ _=>(cV (p3v 0) (fI (p3v 1)))))
   (ai (aH (i:=6) bu.nd rfl (Or.inl rfl) (m_ rfl (by rfl) T.z_list (by rfl) T.z_zip (ae (bv 2) (ae (P3.opd (aL (P3.opd (bw (aa fJ ak))) (bv 5))) (ae (P3.opd (aL (bv 5) (P3.opd (bw (aa fJ ak))))) aj)))))
   (aq (aF (Af (dP rfl (cu (by rfl) (p3v 6)) cv (fun _ _ _ _ _=>(gj (is:=[0,1,2]) (by rfl) (au (aA (i:=0) cv.nd rfl (Or.inl rfl)) (au (aA (i:=1) cv.nd rfl (Or.inl rfl)) (au (aA (i:=2) cv.nd rfl (Or.inl rfl)) br))) rfl)) (fun _ _ _ _ _=>(cV (p3v 0) (cV (p3v 1) (fI (p3v 2)))))) (pE 5)))))) bE)
   (ai (aH (i:=7) bu.nd rfl (Or.inl rfl) (aL (bv 4) (P3.opd (lH (P3.opd (bw (aa fJ ak))) (P3.opd (mJ (P3.opd (a8 (mi (by rfl)) (by rfl) T.z_len (by decide +kernel) (ae (bv 1) aj))) (P3.opd ag)))))))
   (ai (cp (aO (cW (by rfl) hr) (bv 0) (P3.opd a_) (bj _)) (ai (aH (i:=6) bu.nd rfl (Or.inl rfl) (m_ rfl (by rfl) T.z_list (by rfl) T.z_zip (ae (bv 4) (ae (P3.opd (aL (P3.opd (bw (aa fJ ak))) (bv 7))) (ae (P3.opd (aL (P3.opd (dZ (by rfl) (bv 7) (ba (P3.opd ag)) bK)) (P3.opd (bw (aa fJ ak))))) aj)))))
   (aq (fE (i:=4) bu.nd rfl rfl rfl (cu (by rfl) (p3v 6)) cx (fun _ _ _ _ _=>(gj (is:=[0,1,2]) (by rfl) (au (aA (i:=0) cx.nd rfl (Or.inl rfl)) (au (aA (i:=1) cx.nd rfl (Or.inl rfl)) (au (aA (i:=2) cx.nd rfl (Or.inl rfl)) br))) rfl)) (fun _ _ _ _ _=>(cV (p3v 0) (cV (p3v 1) (fI (p3v 2)))))))) bE)
   (aq (aF (Af (pE 7) (pE 4))))))))),fun Γa Q h hl=>?_⟩)
 obtain⟨R,bs,rfl,h0,h1,q⟩:=h;have ol:=pO bs;have el:=xJ bs;have pl:=sW bs;walk_at "m1";rw[J6,HN];refine⟨by decide,by decide,small (by rw[gr];omega),bL (fun k ys Γc=>ys=(List.range k).map (fun j=>D.bl (gb bs (2 * j) && gb bs (2 * j + 1)))/\∃ s s',Γc=[fo s,fo s']) ⟨rfl,none,none,rfl⟩ ?_ ?_⟩
 ·rintro k d ys Γc hd hk ⟨rfl,s,s',rfl⟩;obtain⟨l1,l2,rfl⟩:=oP hd;rw[show gb (oF bs) k=gb bs (2 * k) from i4 (by omega),show gb (eF bs) k=gb bs (2 * k + 1) from i4 (by omega)];cases e:gb bs (2 * k) <;> walk_at "m1" <;> exact⟨snoc (by rw[e];rfl),some _,some _,rfl⟩
 rintro ys Γc hk ⟨rfl,s,s',rfl⟩;rw[gr,show min (oF bs).length (eF bs).length=bs.length / 2 by omega,show (List.range (bs.length / 2)).map (fun j=>D.bl (gb bs (2 * j) && gb bs (2 * j + 1)))=(prF bs).map D.bl from vI _ _];walk_at "m1";by_cases hg:R=.guess
 ·subst hg;rw[JV];walk_at "m1";rw[Jt,Bu];have dl:((oF bs).drop 1++[false]).length=(bs.length + 1) / 2:=by simp;omega
  have gl:=AQ bs;refine⟨z1,bY (by rw[lM0,List.length_drop];omega),small (by rw[gr];omega),bL (fun k ys Γc=>ys=((gdF bs).take k).map D.bl/\∃ s s',Γc=[fo s,fo s']) ⟨rfl,none,none,rfl⟩ ?_ ?_⟩
  ·rintro k d ys Γc hd hk ⟨rfl,s,s',rfl⟩;obtain⟨l1,l2,rfl⟩:=oP hd;have ev:gb (gdF bs) k=(gb (prF bs) k && gb ((oF bs).drop 1++[false]) k):=by
    rw[xF,show gb (gdF bs) k=_ from i4 (by omega),show gb (prF bs) k=_ from i4 (by omega),Bool.and_assoc]
    congr 2
    rw[show 2 * (k:Int) + 2=((2 * (k + 1):Nat):Int) by omega,pY];by_cases e:k + 1 < (bs.length + 1) / 2
    ·exact(show gb (oF bs) (k + 1)=gb bs (2 * (k + 1)) from i4 e).symm
    ·rw[rQ (by omega),rQ (by omega)]
   have tk:((gdF bs).take k).map D.bl++[D.bl (gb (prF bs) k && gb ((oF bs).drop 1++[false]) k)]=((gdF bs).take (k + 1)).map D.bl:=by
    rw[<- ev,take_snoc (p6 (by omega)),List.map_append];rfl
   cases e:gb (prF bs) k <;> walk_at "m1" <;> exact⟨by rw[<- tk,e];rfl,some _,some _,rfl⟩
  rintro ys Γc hk ⟨rfl,s,s',rfl⟩;rw[List.take_of_length_le (by rw[gr];omega)];walk_at "m1";rw[Bu,show D.bl false::(gdF bs).map D.bl=(false::gdF bs).map D.bl from rfl];have zl:(iJ ((oF bs).map D.bl) ((false::gdF bs).map D.bl) ((gdF bs++[false]).map D.bl)).length=(bs.length + 1) / 2:=by rw[q_,List.length_cons,List.length_append,List.length_singleton];omega
  have sl:=AN bs;refine⟨z1,bY (by rw[lM0];omega),z1,bY (by rw[lM0];omega),small (by simp only[lM0,List.length_append,List.length_singleton];omega),small (by omega),bL (fun k ys Γc=>ys=((gsF bs).take k).map D.bl/\∃ s s' s'',Γc=[fo s,fo s',fo s'']) ⟨rfl,none,none,none,rfl⟩ ?_ ?_⟩
  ·rintro k d ys Γc hd hk ⟨rfl,s,s',s'',rfl⟩;obtain⟨l1,l2,l3,rfl⟩:=rg hd;have ev:gb (gsF bs) k=(gb (oF bs) k && (gb (false::gdF bs) k && gb (gdF bs++[false]) k)):=by
    rw[show gb (gsF bs) k=_ from i4 (by omega),show gb (oF bs) k=_ from i4 (by omega),xB,pY,AR]
   have tk:((gsF bs).take k).map D.bl++[D.bl (gb (oF bs) k && (gb (false::gdF bs) k && gb (gdF bs++[false]) k))]=((gsF bs).take (k + 1)).map D.bl:=by
    rw[<- ev,take_snoc (p6 (by omega)),List.map_append];rfl
   cases e:gb (oF bs) k
   ·walk_at "m1";exact⟨by rw[<- tk,e];rfl,some _,some _,some _,rfl⟩
   ·cases e':gb (false::gdF bs) k
    ·walk_at "m1";exact⟨by rw[<- tk,e,e'];rfl,some _,some _,some _,rfl⟩
    ·walk_at "m1";exact⟨by rw[<- tk,e,e'];rfl,some _,some _,some _,rfl⟩
  rintro ys Γc hk ⟨rfl,s,s',s'',rfl⟩;rw[List.take_of_length_le (by omega)];walk_at "m1";exact q
 rw[show (R.word == Str.ofString "guess")=false by cases R <;> first | exact absurd rfl hg | decide +kernel];walk_at "m1";rw[lM0,show (bs.length:Int) % 2=((bs.length % 2:Nat):Int) by omega,Int.toNat_natCast,DF,<- List.map_append,show prF bs++List.replicate (bs.length % 2) false=psF bs from rfl];have sl:=zM bs;by_cases hn:R=.lean
 ·subst hn;rw[JU];walk_at "m1";rw[Jt,Bu,show D.bl false::(psF bs).map D.bl=(false::psF bs).map D.bl from rfl];have dl:((psF bs).drop 1++[false]).length=(bs.length + 1) / 2:=by simp;omega
  have ll:=Az bs;have zl:(iJ ((prF bs).map D.bl) ((false::psF bs).map D.bl) (((psF bs).drop 1++[false]).map D.bl)).length=bs.length / 2:=by rw[q_,List.length_cons];omega
  refine⟨z1,by decide,by omega,by omega,bY (by omega),bY (by rw[lM0,lM0,List.length_replicate];omega),z1,bY (by rw[lM0];omega),z1,bY (by rw[lM0,List.length_drop];omega),small (by simp only[lM0];omega),small (by omega),bL (fun k ys Γc=>ys=((ldF bs).take k).map D.bl/\∃ s s' s'',Γc=[fo s,fo s',fo s'']) ⟨rfl,none,none,none,rfl⟩ ?_ ?_⟩
  ·rintro k d ys Γc hd hk ⟨rfl,s,s',s'',rfl⟩;obtain⟨l1,l2,l3,rfl⟩:=rg hd;have ev:gb (ldF bs) k=(gb (prF bs) k && (gb (false::psF bs) k && gb ((psF bs).drop 1++[false]) k)):=by
    rw[show gb (ldF bs) k=_ from i4 (by omega),xB,pY,CS,xF,JJ,show gb (psF bs) k=gb (prF bs) k from GD _ _ _]
   have tk:((ldF bs).take k).map D.bl++[D.bl (gb (prF bs) k && (gb (false::psF bs) k && gb ((psF bs).drop 1++[false]) k))]=((ldF bs).take (k + 1)).map D.bl:=by
    rw[<- ev,take_snoc (p6 (by omega)),List.map_append];rfl
   cases e:gb (prF bs) k
   ·walk_at "m1";exact⟨by rw[<- tk,e];rfl,some _,some _,some _,rfl⟩
   ·cases e':gb (false::psF bs) k
    ·walk_at "m1";exact⟨by rw[<- tk,e,e'];rfl,some _,some _,some _,rfl⟩
    ·walk_at "m1";exact⟨by rw[<- tk,e,e'];rfl,some _,some _,some _,rfl⟩
  rintro ys Γc hk ⟨rfl,s,s',s'',rfl⟩;rw[List.take_of_length_le (by omega)];walk_at "m1";exact q
 rw[show (R.word == Str.ofString "lean")=false by cases R <;> first | exact absurd rfl hn | decide +kernel];walk_at "m1";refine⟨z1,by decide,by omega,by omega,bY (by omega),bY (by rw[lM0,lM0,List.length_replicate];omega),?_⟩;cases R <;> first | exact absurd rfl hg | exact absurd rfl hn | exact q
def spl (R:Rl) (bs:List Bool):List Bool:=R.s1 bs++R.s2 bs
theorem BK {R:Rl} {bs:List Bool}:(spl R bs).length=bs.length:=by unfold spl;rw[List.length_append,kI,kH];omega
theorem CU {R:Rl} {rows:List (List Bool)} {w:Nat}:b_ R rows 0 w=rows:=by unfold b_;simp
theorem AG {R:Rl} {rows:List (List Bool)} {w k:Nat} {r:List Bool} (h:rows[k]?=some r):(b_ R rows k w).set k (iG R r w)=b_ R rows (k + 1) w:=by
 have lt:=gi h;have lt':((rows.take k).map fun r=>iG R r w).length=k:=by rw[lM0,List.length_take];omega
 unfold b_;rw[List.set_append_right _ _ (by omega),lt',Nat.sub_self,List.drop_eq_getElem_cons lt,List.set_cons_zero,take_snoc h,List.map_append,List.append_assoc]
 rfl
theorem u5 {R:Rl} {rows:List (List Bool)} {w k:Nat} {r:List Bool} (h:rows[k]?=some r):(b_ R rows k w)[k]?=some r:=by
 have lt:=gi h;have lt':((rows.take k).map fun r=>iG R r w).length=k:=by rw[lM0,List.length_take];omega
 unfold b_;rw[List.getElem?_append_right (by omega),lt',Nat.sub_self,List.getElem?_drop];exact h
def mkR (H W:Nat) (f:Nat->Nat->Bool):List (List Bool):=(List.range H).map fun y=>(List.range W).map fun x=>f y x
def en (rows:List (List Bool)) (y x:Nat):Bool:=gb (rows.getD y []) x
theorem Ap {H W y:Nat} {f:Nat->Nat->Bool} (h:y < H):(mkR H W f)[y]?=some ((List.range W).map (f y)):=by unfold mkR;rw[List.getElem?_map,List.getElem?_range h];rfl
theorem mk_congr {H W:Nat} {f g:Nat->Nat->Bool} (h:∀ y x,y < H->x < W->f y x=g y x):mkR H W f=mkR H W g:=
 List.map_congr_left fun y hy=>List.map_congr_left fun x hx=>h y x (List.mem_range.mp hy) (List.mem_range.mp hx)
theorem w_ {α:Type} {n k:Nat} {v:α} {g:Nat->α}:((List.range n).map g).set k v=(List.range n).map fun i=>if i=k then v else g i:=by
 refine List.ext_getElem? fun i=>?_;rw[List.getElem?_set];by_cases hi:i < n
 ·rw[List.getElem?_map,List.getElem?_map,List.getElem?_range hi];by_cases e:k=i
  ·subst e;rw[if_pos rfl,if_pos (by simpa using hi)];simp
  ·rw[if_neg e];simp [Ne.symm e]
 ·rw[List.getElem?_eq_none (l:=(List.range n).map fun i=>if i=k then v else g i) (by simp;omega)];split
  ·rw[if_neg (by simp;omega)]
  ·exact List.getElem?_eq_none (by simp;omega)
theorem FP {H W y x:Nat} {n:Bool} {f:Nat->Nat->Bool}:(mkR H W f).set y (((List.range W).map (f y)).set x n)=mkR H W fun y' x'=>if y'=y/\x'=x then n else f y' x':=by
 unfold mkR;rw[w_,w_];refine List.map_congr_left fun i _=>?_;by_cases e:i=y
 ·subst e;rw[if_pos rfl];exact List.map_congr_left fun j _=>by simp
 ·rw[if_neg e];exact List.map_congr_left fun j _=>(if_neg fun z=>e z.1).symm
theorem Hn {H W:Nat} {rows:List (List Bool)} (s:Sz H W rows):rows=mkR H W (en rows):=by
 have hh:=s.hh;refine List.ext_getElem? fun y=>?_;by_cases hy:y < H
 ·rw[Ap hy,gE0 (by omega)]
  congr 1
  have hl:=s.ww _ (List.getElem_mem (show y < rows.length by omega));have eg:rows.getD y []=rows[y]'(by omega):=by simp [List.getD,show y < rows.length by omega]
  refine List.ext_getElem? fun x=>?_;by_cases hx:x < W
  ·rw[List.getElem?_map,List.getElem?_range hx,gE0 (by omega)];show _=some (gb (rows.getD y []) x);rw[eg];simp [gb,List.getD,show x < (rows[y]'(by omega)).length by omega]
  ·rw[List.getElem?_eq_none (by omega),List.getElem?_eq_none (by simp;omega)]
 ·rw[List.getElem?_eq_none (by omega),List.getElem?_eq_none (by unfold mkR;simp;omega)]
theorem wA {rows:List (List Bool)} {y x:Nat}:gb (bV rows x) y=en rows y x:=by
 unfold bV en gb;by_cases hy:y < rows.length
 ·simp [List.getD,hy]
 ·simp [List.getD,hy]
def nwP (R:Rl) (xss:List (List Bool)) (h y x:Nat):Bool:=gb (iG R (bV xss x) h) y
def iC (R:Rl) (xss:List (List Bool)) (h k j y x:Nat):Bool:=if x < k\/(x=k/\y < j) then nwP R xss h y x else en xss y x
theorem Il {R:Rl} {xss:List (List Bool)} {h y x:Nat} (hl:h<=xss.length) (hy:h<=y):nwP R xss h y x=en xss y x:=by
 have hc:(bV xss x).length=xss.length:=by unfold bV;rw[lM0]
 have e:(spl R ((bV xss x).take h)).length=h:=by unfold spl;rw[List.length_append,kI,kH,List.length_take,hc];omega
 unfold nwP iG;rw[<- wA];unfold gb;rw[List.getD_eq_getElem?_getD,List.getD_eq_getElem?_getD]
 congr 1
 show (spl R ((bV xss x).take h)++(bV xss x).drop h)[y]?=_;rw[List.getElem?_append_right (by omega),e,List.getElem?_drop]
 congr 1;omega
theorem Ik {R:Rl} {xss:List (List Bool)} {h y x:Nat} (hl:h<=xss.length) (hy:y < h):nwP R xss h y x=gb (spl R ((bV xss x).take h)) y:=by
 have hc:(bV xss x).length=xss.length:=by unfold bV;rw[lM0]
 have e:(spl R ((bV xss x).take h)).length=h:=by unfold spl;rw[List.length_append,kI,kH,List.length_take,hc];omega
 unfold nwP iG gb;rw[List.getD_eq_getElem?_getD,List.getD_eq_getElem?_getD]
 congr 1
 show (spl R ((bV xss x).take h)++(bV xss x).drop h)[y]?=_;rw[List.getElem?_append_left (by omega)]
theorem HP {R:Rl} {xss:List (List Bool)} {H W h:Nat} (s:Sz H W xss):mkR H W (iC R xss h 0 0)=xss:=by
 conv=>rhs;rw[Hn s]
 refine mk_congr fun y x _ _=>?_;unfold iC;rw[if_neg (by omega)]
theorem Cc {R:Rl} {xss:List (List Bool)} {H W h k j:Nat} (hl:h<=xss.length) (hj:j < h) :
  (mkR H W (iC R xss h k j)).set j (((List.range W).map (iC R xss h k j j)).set k (gb (spl R ((bV xss k).take h)) j))=mkR H W (iC R xss h k (j + 1)):=by
 rw[FP];refine mk_congr fun y x _ _=>?_;unfold iC;by_cases e:y=j/\x=k
 ·obtain⟨rfl,rfl⟩:=e;rw[if_pos ⟨rfl,rfl⟩,if_pos (by omega),Ik hl hj]
 ·rw[if_neg e];by_cases c:x < k\/(x=k/\y < j)
  ·rw[if_pos c,if_pos (by omega)]
  ·rw[if_neg c,if_neg (by omega)]
theorem zU {R:Rl} {xss:List (List Bool)} {H W h k:Nat} (hl:h<=xss.length):mkR H W (iC R xss h k h)=mkR H W (iC R xss h (k + 1) 0):=by
 refine mk_congr fun y x _ _=>?_;unfold iC;by_cases c:x < k\/(x=k/\y < h)
 ·rw[if_pos c,if_pos (by omega)]
 ·rw[if_neg c];by_cases d:x < k + 1\/(x=k + 1/\y < 0)
  ·rw[if_pos d,Il hl (by omega)]
  ·rw[if_neg d]
theorem AH {R:Rl} {W w h:Nat} {c:Nat->List Bool} (hw:w<=W):b_ R ((List.range W).map c) w h=(List.range W).map fun x=>if x < w then iG R (c x) h else c x:=by
 unfold b_;refine List.ext_getElem? fun x=>?_;have hl:(((List.range W).map c).take w).length=w:=by simp;omega
 by_cases hx:x < w
 ·rw[List.getElem?_append_left (by rw[lM0,hl];exact hx),List.getElem?_map,List.getElem?_take_of_lt hx,List.getElem?_map,List.getElem?_map,List.getElem?_range (by omega)];simp [hx]
 ·rw[List.getElem?_append_right (by rw[lM0,hl];omega),lM0,hl,List.getElem?_drop,show w + (x - w)=x by omega,List.getElem?_map,List.getElem?_map];cases q:(List.range W)[x]? with
  | none=>rfl
  | some z=>
   have lt:=gi q;rw[List.length_range] at lt;rw[List.getElem?_range lt] at q;cases q;simp [hx]
theorem Cd {R:Rl} {xss:List (List Bool)} {H W h w:Nat} (hw:w<=W):mkR H W (iC R xss h w 0)=lg R H W .p h w xss:=by
 show _=fj H (b_ R (fj W xss) w h);unfold fj;rw[AH hw];refine List.map_congr_left fun y _=>?_;show _=((List.range W).map fun x=>if x < w then iG R (bV xss x) h else bV xss x).map fun r=>gb r y;rw[List.map_map];refine List.map_congr_left fun x _=>?_;unfold iC nwP;show _=gb (if x < w then iG R (bV xss x) h else bV xss x) y;by_cases c:x < w
 ·rw[if_pos (.inl c),if_pos c]
 ·rw[if_neg (by omega),if_neg c,wA]
theorem Bb {xss:List (List Bool)} {H W h k:Nat} (s:Sz H W xss) (hl:h<=H):(List.range h).map (fun y=>en xss y k)=(bV xss k).take h:=by
 refine List.ext_getElem? fun y=>?_;have hc:(bV xss k).length=H:=by unfold bV;rw[lM0,s.hh]
 by_cases hy:y < h
 ·rw[List.getElem?_map,List.getElem?_range hy,List.getElem?_take_of_lt hy,p6 (by omega),wA];rfl
 ·rw[List.getElem?_eq_none (by simp;omega),List.getElem?_eq_none (by rw[List.length_take];omega)]
theorem C5 {rows:List (List Bool)} {x:Nat}:(bV rows x).length=rows.length:=by unfold bV;rw[lM0]
def zy:TNB:=yP 5 (iR1 (dz (iO 3) pP)) (tgN 7) fun k=>m9 5 8 9 (m4 2 pV (nL (bof (iO 1)) (nL (bof (sl3 (bof (cJ ix3 (bor 5) (bor 7))) xl (wY (bor 4)))) uT))) (lz 5 7 (cJ t_ (bof (cJ t_ (bor 8) (bor 9))) (bof (sl3 (bof (cJ ix3 (bor 5) (bor 7))) (wY (bor 4)) xl))) k)
abbrev GM (R:Rl) (h w:Int) (ls:List Lt) (c e:Nat) (p:Addr) (l:Option Sl) (s7 s8 s9 s10 s11:Option D):G:=[some (.fz (pD h w)),some (.fz (.str R.word)),some (.fz (.str (wy ls))),some (.fz (.int c)),some (.fz (.int e)),some (.fz (.adr p)),l,fo s7,fo s8,fo s9,fo s10,fo s11]
theorem sD {R:Rl} {h w:Int} {ls:List Lt} {c e:Nat} {p:Addr} {l:Option Sl} {x7 x8 x9 x10 x11:Option Sl} {xss:NB}:zr 5 [some (.fz (pD h w)),some (.fz (.str R.word)),some (.fz (.str (wy ls))),some (.fz (.int c)),some (.fz (.int e)),some (.fz (.adr p)),l,x7,x8,x9,x10,x11] xss=[some (.fz (pD h w)),some (.fz (.str R.word)),some (.fz (.str (wy ls))),some (.fz (.int c)),some (.fz (.int e)),some (.fz (rD xss)),l,x7,x8,x9,x10,x11]:=rfl
theorem rz {R:Rl} {h w:Int} {ls:List Lt} {c e:Nat} {p:Addr} {l:Option Sl} {s7 s8 s9 s10 s11:Option D} {xss:NB} {H W:Nat} {kk:G->NB->Prop} (sz:Sz H W xss) (W2:W<=64) (H2:H<=64) (lc:c<=H) (le:e<=W) (e1:1<=e)
  (q:∀ s7 s8 s9,kk (GM R h w ls c e p l s7 s8 s9 s10 s11) (b_ R xss c e)):zy kk (GM R h w ls c e p l s7 s8 s9 s10 s11) xss:=by
 unfold zy;rw[lT];have hh:=sz.hh;walk_at "m1";refine⟨by omega,by omega,lS (fun k Γ yss=>k<=c/\yss=b_ R xss k e/\∃ s7 s8 s9,Γ=GM R h w ls c e p l s7 s8 s9 s10 s11) ⟨Nat.zero_le _,CU.symm,s7,s8,s9,rfl⟩ ?_ ?_⟩
 ·rintro k d Γ yss hd ⟨hk,rfl,s7,s8,s9,rfl⟩;obtain⟨lt,rfl⟩:=bP hd;rw[Int.toNat_natCast] at lt;obtain⟨r,hr'⟩:∃ r,xss[k]?=some r:=⟨_,gE0 (by omega)⟩;have lr:=sz.ww r (List.mem_of_getElem? hr');have hl':k < (b_ R xss k e).length:=gi (u5 hr');have at1:atI ((b_ R xss k e).map tl) (0 + (k:Int))=some (tl r):=b9 (by omega) (by rw[List.getElem?_map,show (0 + (k:Int)).toNat=k by omega,u5 hr'];rfl);refine⟨by cases s7 <;> trivial,rfl,?_⟩;show m9 5 8 9 _ _ [some (.fz (pD h w)),some (.fz (.str R.word)),some (.fz (.str (wy ls))),some (.fz (.int c)),some (.fz (.int e)),some (.fz (.adr p)),l,some (.fz (.int (0 + (k:Int)))),fo s8,fo s9,fo s10,fo s11] _;unfold m9;rw[sD];walk_at "m1";rw[at1];walk_at "m1";rw[wz (by omega)];refine⟨R,r.take e,rfl,by rw[List.length_take];omega,by rw[List.length_take];omega,?_⟩;refine⟨_,_,rfl,by show 8 < 12;decide,by show 9 < 12;decide,?_⟩;show lz 5 7 _ _ [some (.fz (pD h w)),some (.fz (.str R.word)),some (.fz (.str (wy ls))),some (.fz (.int c)),some (.fz (.int e)),some (.fz (.adr p)),l,some (.fz (.int (0 + (k:Int)))),some (.fz (tl (R.s1 (r.take e)))),some (.fz (tl (R.s2 (r.take e)))),fo s10,fo s11] _;unfold lz;rw[sD];walk_at "m1";rw[at1];walk_at "m1";rw[jv (by omega)];have l1:=kI R (r.take e);have l2:=kH R (r.take e);rw[List.length_take] at l1 l2;refine⟨bY (by rw[lM0,lM0];omega),bY (by rw[List.length_append,lM0,lM0,lM0,List.length_drop];omega),?_⟩;rw[<- List.map_append,<- List.map_append];refine⟨_,rfl,k,by rw[Int.zero_add];rfl,hl',lt,?_,some _,some _,some _,rfl⟩;exact AG hr'
 ·rintro Γ yss ⟨hk,rfl,s7,s8,s9,rfl⟩;rw[bq,Int.toNat_natCast];exact q _ _ _
def Fe:TNB:=yP 5 (iR1 (dz (iO 4) pP)) (tgN 10) fun k=>m9 5 8 9 (m4 2 pV (nL (bof (iO 1)) (nL (bof (rY [none,some 5,some 10] (iR1 (dz (iO 3) pP)) (tgN 0) (cJ ix3 (bof (cJ ix3 (bor 1) (bor 0))) (bor 2)))) uT))) (yP 5 (iE3 (dz (cJ t_ (bor 8) (bor 9)) pP)) (tgT [7,11]) (mz 7 10 11) k)
theorem uC {R:Rl} {h w:Int} {ls:List Lt} {c e:Nat} {p:Addr} {l:Option Sl} {s7 s8 s9 s10 s11:Option D} {xss:NB} {H W:Nat} {kk:G->NB->Prop} (sz:Sz H W xss) (W2:W<=64) (H2:H<=64) (lc:c<=H) (le:e<=W) (c1:1<=c)
  (q:∀ s7 s8 s9 s10 s11,kk (GM R h w ls c e p l s7 s8 s9 s10 s11) (lg R H W .p c e xss)):Fe kk (GM R h w ls c e p l s7 s8 s9 s10 s11) xss:=by
 unfold Fe;rw[lT];have hh:=sz.hh;walk_at "m1";refine⟨by omega,by omega,lS (fun k Γ yss=>k<=e/\yss=mkR H W (iC R xss c k 0)/\∃ s7 s8 s9 s10 s11,Γ=GM R h w ls c e p l s7 s8 s9 s10 s11) ⟨Nat.zero_le _,(HP sz).symm,s7,s8,s9,s10,s11,rfl⟩ ?_ ?_⟩
 ·rintro k d Γ yss hd ⟨hk,rfl,s7,s8,s9,s10,s11,rfl⟩;obtain⟨lt,rfl⟩:=bP hd;rw[Int.toNat_natCast] at lt;refine⟨by cases s10 <;> trivial,rfl,?_⟩;show m9 5 8 9 _ _ [some (.fz (pD h w)),some (.fz (.str R.word)),some (.fz (.str (wy ls))),some (.fz (.int c)),some (.fz (.int e)),some (.fz (.adr p)),l,fo s7,fo s8,fo s9,some (.fz (.int (0 + (k:Int)))),fo s11] _;unfold m9;rw[sD];walk_at "m1";rw[Int.toNat_natCast];refine⟨by omega,by omega,small (by rw[bq];omega),bL (fun m ys Γc=>ys=(List.range m).map (fun y=>D.bl (en xss y k))/\∃ s,Γc=[fo s,some (.fz (rD (mkR H W (iC R xss c k 0)))),some (.fz (.int (0 + (k:Int))))]) ⟨rfl,none,rfl⟩ ?_ ?_⟩
  ·rintro m d ys Γc hd hm ⟨rfl,s,rfl⟩;obtain⟨lm,rfl⟩:=bP hd;walk_at "m1";refine cq.mpr ⟨tl ((List.range W).map (iC R xss c k 0 m)),b9 (by omega) (by rw[List.getElem?_map,show (0 + (m:Int)).toNat=m by omega,Ap (by omega)];rfl),?_⟩;walk_at "m1";refine cq.mpr ⟨.bl (iC R xss c k 0 m k),b9 (by omega) (by rw[List.getElem?_map,List.getElem?_map,show (0 + (k:Int)).toNat=k by omega,List.getElem?_range (by omega)];rfl),?_⟩;exact⟨by rw[show iC R xss c k 0 m k=en xss m k by unfold iC;rw[if_neg (by omega)]];exact snoc rfl,some _,rfl⟩
  rintro ys Γc hm ⟨rfl,s,rfl⟩;rw[bq,vI,show rb (fun y=>en xss y k) c=(bV xss k).take c from Bb sz lc];walk_at "m1";have cl:((bV xss k).take c).length=c:=by rw[List.length_take,C5];omega
  refine⟨R,(bV xss k).take c,rfl,by omega,by omega,?_⟩;refine⟨_,_,rfl,by show 8 < 12;decide,by show 9 < 12;decide,?_⟩;show yP 5 _ _ _ _ [some (.fz (pD h w)),some (.fz (.str R.word)),some (.fz (.str (wy ls))),some (.fz (.int c)),some (.fz (.int e)),some (.fz (.adr p)),l,fo s7,some (.fz (tl (R.s1 ((bV xss k).take c)))),some (.fz (tl (R.s2 ((bV xss k).take c)))),some (.fz (.int (0 + (k:Int)))),fo s11] _;rw[lT];walk_at "m1";have sl:=BK (R:=R) (bs:=(bV xss k).take c);rw[cl] at sl;rw[<- List.map_append,show R.s1 ((bV xss k).take c)++R.s2 ((bV xss k).take c)=spl R ((bV xss k).take c) from rfl];have l1:=kI R ((bV xss k).take c);have l2:=kH R ((bV xss k).take c);refine⟨bY (by rw[lM0,lM0];omega),lS (fun j Γ yss=>j<=c/\yss=mkR H W (iC R xss c k j)/\∃ s7 s11,Γ=[some (.fz (pD h w)),some (.fz (.str R.word)),some (.fz (.str (wy ls))),some (.fz (.int c)),some (.fz (.int e)),some (.fz (.adr p)),l,fo s7,some (.fz (tl (R.s1 ((bV xss k).take c)))),some (.fz (tl (R.s2 ((bV xss k).take c)))),some (.fz (.int (0 + (k:Int)))),fo s11]) ⟨Nat.zero_le _,rfl,s7,s11,rfl⟩ ?_ ?_⟩
  ·rintro j d Γ yss hd ⟨hj,rfl,s7,s11,rfl⟩;obtain⟨lj,rfl⟩:=rX hd;rw[sl] at lj;walk_at "m1";refine⟨j,k,_,_,rfl,by rw[Int.zero_add];rfl,rfl,Ap (by omega),by simp;omega,lj,Cc (by omega) lj,some _,some _,rfl⟩
  ·rintro Γ yss ⟨hj,rfl,s7,s11,rfl⟩;rw[mX,sl,zU (by omega)];exact⟨lt,rfl,s7,some _,some _,some _,s11,rfl⟩
 ·rintro Γ yss ⟨hk,rfl,s7,s8,s9,s10,s11,rfl⟩;rw[bq,Int.toNat_natCast,Cd le];exact q _ _ _ _ _
theorem AU:eJ []:=fun s h=>nomatch h
theorem mU {d:D} {Γ:G} (h:eJ Γ):eJ (some (.fz d)::Γ):=fun s hs=>by
 rcases List.mem_cons.mp hs with e | e
 ·cases e;exact⟨d,rfl⟩
 ·exact h s e
theorem u9 {Γ:G} (h:eJ Γ):eJ (none::Γ):=fun s hs=>by
 rcases List.mem_cons.mp hs with e | e
 ·cases e
 ·exact h s e
theorem AS {o:Option D} {Γ:G} (h:eJ Γ):eJ (fo o::Γ):=by
 cases o
 ·exact u9 h
 ·exact mU h
def CZ:TNB:=fun k=>sY 5 (yd 4 (cJ ix3 (bof (CJ (dz (cJ (i2 BA fun i j=>D.int (i / j)) (bof (cJ t_ (bor 4) (bof (t3C (D.int 1))))) (bof (t3C (D.int 2)))) (dz (iO 4) pP)))) (bof (qo AD (nL (bof (cJ (vd 20 false) (bor 6) (bof (t3C (D.str (Str.ofString "p")))))) uT)))))
 (sY 5 (yd 3 (cJ ix3 (bof (CJ (dz (cJ (i2 BA fun i j=>D.int (i / j)) (bof (cJ t_ (bor 3) (bof (t3C (D.int 1))))) (bof (t3C (D.int 2)))) (dz (iO 3) pP)))) (bof (qo AD (nL (bof (cJ (vd 20 false) (bor 6) (bof (t3C (D.str (Str.ofString "r")))))) uT))))) k)
theorem A4 {R:Rl} {h w:Int} {ls:List Lt} {c e c' e':Nat} {p:Addr} {l:Lt} {s7 s8 s9 s10 s11:Option D} {xss:NB} {kk:G->NB->Prop} (hc:(c':Int)=nh l c) (he:(e':Int)=nw l e)
  (q:kk (GM R h w ls c' e' p (some (.fz (.str l.s))) s7 s8 s9 s10 s11) xss):CZ kk (GM R h w ls c e p (some (.fz (.str l.s))) s7 s8 s9 s10 s11) xss:=by
 have al:∀ {x y:Int},eJ [some (Sl.fz (pD h w)),some (.fz (.str R.word)),some (.fz (.str (wy ls))),some (.fz (.int x)),some (.fz (.int y)),some (.fz (.adr p)),some (.fz (.str l.s)),fo s7,fo s8,fo s9,fo s10,fo s11]:=mU (mU (mU (mU (mU (mU (mU (AS (AS (AS (AS (AS AU)))))))))));unfold GM at q ⊢;rw[hc,he] at q;unfold CZ sY;cases l
 all_goals (walk_at "m1")
 all_goals exact⟨⟨by decide,by decide⟩,z2,al,⟨by decide,by decide⟩,z2,al,q⟩
theorem Gn {R:Rl} {h w:Int} {ls:List Lt} {c e:Nat} {p:Addr} {l:Lt} {s7 s8 s9 s10 s11:Option D} {xss:NB} {n3:TNB} {kk:G->NB->Prop} (h1:l≠.p->n3 kk (GM R h w ls c e p (some (.fz (.str l.s))) s7 s8 s9 s10 s11) xss) (h2:l=.p->kk (GM R h w ls c e p (some (.fz (.str l.s))) s7 s8 s9 s10 s11) xss) :
  ifB (tst (cJ (vd 20 true) (bor 6) (bof (t3C (D.str (Str.ofString "p")))))) n3 pQ kk (GM R h w ls c e p (some (.fz (.str l.s))) s7 s8 s9 s10 s11) xss:=by
 unfold ifB pQ;unfold GM at h1 h2 ⊢;cases l
 all_goals (walk_at "m1")
 all_goals first | exact h1 (by decide) | exact h2 rfl
theorem Gm {R:Rl} {h w:Int} {ls:List Lt} {c e:Nat} {p:Addr} {l:Lt} {s7 s8 s9 s10 s11:Option D} {xss:NB} {n3:TNB} {kk:G->NB->Prop} (h1:l≠.r->n3 kk (GM R h w ls c e p (some (.fz (.str l.s))) s7 s8 s9 s10 s11) xss) (h2:l=.r->kk (GM R h w ls c e p (some (.fz (.str l.s))) s7 s8 s9 s10 s11) xss) :
  ifB (tst (cJ (vd 20 true) (bor 6) (bof (t3C (D.str (Str.ofString "r")))))) n3 pQ kk (GM R h w ls c e p (some (.fz (.str l.s))) s7 s8 s9 s10 s11) xss:=by
 unfold ifB pQ;unfold GM at h1 h2 ⊢;cases l
 all_goals (walk_at "m1")
 all_goals first | exact h1 (by decide) | exact h2 rfl
def Aw:S3:=fun Γ Q=>∃ (R:Rl) (h w:Int) (ls:List Lt),Γ=[some (.fz (pD h w)),some (.fz (.str R.word)),some (.fz (.str (wy ls)))]/\Pl h w ls/\Q (.rws (gw (ft R h w ls (gq h w)))) Γ
theorem qK (T:Txt w K mg a):aM P w K mg base CX0 2 a.md a.kh ["_law_size_here","_law_word","_law_way_here"] (sp3 K 3 Aw):=by
 refine ok3 T.eN.F aI (hbody:=fun cdv A outer s H E hr=>⟨_,_,(ai (eV (is:=[3,4]) (by rfl) (p3v 0) (au (aA (i:=3) aI.nd rfl (Or.inl rfl)) (au (aA (i:=4) aI.nd rfl (Or.inr rfl)) br)) rfl)
   (B4 5 (aH (i:=5) aI.nd rfl (Or.inr rfl) (uH rfl (bI (by rfl) T.z_range (aa (p3v 3) ak)) cH (fun _ _ _ _ _=>(aP (i:=0) cH.nd rfl (Or.inl rfl))) (fun _ _ _ _ _=>(lH (P3.opd (bw (aa fJ ak))) (bv 1))))) (uH rfl (bI (by rfl) T.z_range (aa (p3v 3) ak)) cH (fun _ _ _ _ _=>(aP (i:=0) cH.nd rfl (Or.inl rfl))) (fun _ _ _ _ _=>(lH (P3.opd (bw (aa fJ ak))) (bv 1)))) (so PassesOwn.never rfl (wj (p3v 2)) (aP (i:=6) aI.nd rfl (Or.inl rfl))
   (kW (Ds (aO (wI (by rfl) hr) (bv 6) (P3.opd a_) (bj _)) (mv (so PassesOwn.never rfl (bI (by rfl) T.z_range (aa (p3v 3) ak)) (aP (i:=7) aI.nd rfl (Or.inl rfl))
   (kW (y0 (j:=8) (l:=9) (by decide) (by decide) (by rfl) (aD (by rfl) (jd T) hr.dn (by rfl) T.bS.m T.bS.F.kp T.bS.b (ae (P3.opd (p3v 1)) (ae (P3.opd (dZ (by rfl) (P3.opd (aS (by rfl) (bv 5) (bv 7) (fun _ _=>rfl))) bK (ba (bv 4)))) aj))) (au (aA (i:=8) aI.nd rfl (Or.inl rfl)) (au (aA (i:=9) aI.nd rfl (Or.inl rfl)) br)) rfl)
   (mv (BC (bv 5) (bv 7) (aL (P3.opd (aL (bv 8) (bv 9))) (P3.opd (dZ (by rfl) (P3.opd (aS (by rfl) (bv 5) (bv 7) (fun _ _=>rfl))) (ba (bv 4)) bK)))))))) y3)
   (kW (Ds (aO (wI (by rfl) hr) (bv 6) (P3.opd a_) (bj _)) (mv (so PassesOwn.never rfl (bI (by rfl) T.z_range (aa (p3v 4) ak)) (aP (i:=10) aI.nd rfl (Or.inr rfl))
   (kW (y0 (j:=8) (l:=9) (by decide) (by decide) (by rfl) (aD (by rfl) (jd T) hr.dn (by rfl) T.bS.m T.bS.F.kp T.bS.b (ae (P3.opd (p3v 1)) (ae (P3.opd (dP rfl (bI (by rfl) T.z_range (aa (p3v 3) ak)) gK (fun _ _ _ _ _=>(aP (i:=0) gK.nd rfl (Or.inl rfl))) (fun _ _ _ _ _=>(aS (by rfl) (P3.opd (aS (by rfl) (bv 1) (bv 0) (fun _ _=>rfl))) (bv 2) (fun _ _=>rfl))))) aj))) (au (aA (i:=8) aI.nd rfl (Or.inl rfl)) (au (aA (i:=9) aI.nd rfl (Or.inl rfl)) br)) rfl)
   (mv (so PassesOwn.never rfl (xA (by rfl) T.z_enumerate (aa (aL (bv 8) (bv 9)) ak)) (gj (is:=[7,11]) (by rfl) (au (aA (i:=7) aI.nd rfl (Or.inl rfl)) (au (aA (i:=11) aI.nd rfl (Or.inl rfl)) br)) rfl)
   (mv (BD (by decide) (aS (by rfl) (bv 5) (bv 7) (fun _ _=>rfl)) (bv 10) (p3v 11)))))))) y3)
   (kW (uc (aH (i:=4) aI.nd rfl (Or.inr rfl) (aS (by rfl) (P3.opd (bw (aa (cG (P3.opd (aL (bv 4) (P3.opd ag))) (P3.opd ag)) (aa (p3v 4) ak)))) (P3.opd (gz xS (by rfl) T.z_int (by decide +kernel) (ae (P3.opd (i_ (cW (by rfl) hr) (bv 6) (P3.opd a_) (bj _))) aj))) (fun _ _=>rfl))))
   (mv (uc (aH (i:=3) aI.nd rfl (Or.inl rfl) (aS (by rfl) (P3.opd (bw (aa (cG (P3.opd (aL (bv 3) (P3.opd ag))) (P3.opd ag)) (aa (p3v 3) ak)))) (P3.opd (gz xS (by rfl) T.z_int (by decide +kernel) (ae (P3.opd (i_ (cW (by rfl) hr) (bv 6) (P3.opd a_) (bj _))) aj))) (fun _ _=>rfl))))))))) (p3v 5))),fun Γa Q h hl=>?_⟩)
 obtain⟨R,h,w,ls,rfl,p,q⟩:=h;have hls:=p.len;obtain⟨s1,s2,s3,s4,s5⟩:=p.sz;walk_at "m1";unfold DK;walk_at "m1";refine⟨by omega,by omega,small (by rw[bq];omega),yQ (fun k ys Γc=>ys=gw (List.replicate k (List.replicate w.toNat true))/\∃ s,Γc=[fo s,some (.fz (.int w))]) ⟨rfl,none,rfl⟩ ?_ ?_⟩
 ·rintro k d ys Γc hd hk ⟨rfl,s,rfl⟩;walk_at "m1";rw[DE];refine⟨z1,by omega,by omega,bY (by omega),?_,some _,rfl⟩;rw[List.replicate_succ'];unfold gw;rw[List.map_append];rfl
 rintro ys Γc hk ⟨rfl,s,rfl⟩;walk_at "m1";refine⟨mU (mU (mU (mU (mU (u9 (u9 (u9 (u9 (u9 (u9 (u9 AU))))))))))),gq h w,by rw[bq];rfl,fun p0=>?_⟩;rw[lT];walk_at "m1";refine⟨vw ls,lS (fun k Γ yss=>k<=ls.length/\yss=stK R h w ls (gq h w) k/\∃ s6 s7 s8 s9 s10 s11,Γ=GM R h w ls (cN h w ls k).1 (cN h w ls k).2 p0 (fo s6) s7 s8 s9 s10 s11) ⟨Nat.zero_le _,rfl,none,none,none,none,none,none,?_⟩ ?_ ?_⟩
 ·have e:=(p.cn (Nat.zero_le _)).1;rw[mh] at e;have e1:h=((cN h w ls 0).1:Int):=congrArg Prod.fst e;have e2:w=((cN h w ls 0).2:Int):=congrArg Prod.snd e;unfold GM;rw[<- e1,<- e2];rfl
 ·rintro k d Γ yss hd ⟨hk,rfl,s6,s7,s8,s9,s10,s11,rfl⟩;rw[gu] at hd;obtain⟨l,hl,rfl⟩:=tL hd;have lt:=gi hl;obtain⟨e,c1,c2,c3,c4⟩:=p.cn (k:=k) hk;obtain⟨e',_,_,_,_⟩:=p.cn (k:=k + 1) lt;have st:=gG (h:=h) (w:=w) hl;rw[e,e'] at st;have hc:((cN h w ls (k + 1)).1:Int)=nh l (cN h w ls k).1:=congrArg Prod.fst st;have he:((cN h w ls (k + 1)).2:Int)=nw l (cN h w ls k).2:=congrArg Prod.snd st;have sk:=oX (R:=R) p (t9 h w) hk;have eg:ls.getD k .r=l:=by simp [List.getD,hl]
  have nx:stK R h w ls (gq h w) (k + 1)=lg R h.toNat w.toNat l (cN h w ls k).1 (cN h w ls k).2 (stK R h w ls (gq h w) k):=by
   show lg R h.toNat w.toNat (ls.getD k .r) _ _ _=_;rw[eg]
  generalize stK R h w ls (gq h w) k=xss at sk nx ⊢;refine⟨by cases s6 <;> trivial,rfl,?_⟩;have fin:∀ s7 s8 s9 s10 s11,CZ (fun Γ yss=>k + 1<=ls.length/\yss=stK R h w ls (gq h w) (k + 1)/\∃ s6 s7 s8 s9 s10 s11,Γ=GM R h w ls (cN h w ls (k + 1)).1 (cN h w ls (k + 1)).2 p0 (fo s6) s7 s8 s9 s10 s11) (GM R h w ls (cN h w ls k).1 (cN h w ls k).2 p0 (some (.fz (.str l.s))) s7 s8 s9 s10 s11) (lg R h.toNat w.toNat l (cN h w ls k).1 (cN h w ls k).2 xss):=fun s7 s8 s9 s10 s11=>A4 hc he ⟨lt,nx.symm,some _,s7,s8,s9,s10,s11,rfl⟩
  clear nx hc he e e' st
  generalize (cN h w ls k).1=c at c1 c3 fin ⊢;generalize (cN h w ls k).2=e at c2 c4 fin ⊢;show ifB _ zy pQ (ifB _ Fe pQ (CZ _)) (GM R h w ls c e p0 (some (.fz (.str l.s))) s7 s8 s9 s10 s11) xss;have h64:h.toNat<=64:=by omega
  have w64:w.toNat<=64:=by omega
  cases l
  ·exact Gn (fun _=>rz sk w64 h64 c1 c2 c4 fun s7 s8 s9=>Gm (fun z=>absurd rfl z) fun _=>fin _ _ _ _ _) fun z=>nomatch z
  ·exact Gn (fun z=>absurd rfl z) fun _=>Gm (fun _=>uC sk w64 h64 c1 c2 c3 fun s7 s8 s9 s10 s11=>fin _ _ _ _ _) fun z=>nomatch z
  ·exact Gn (fun _=>rz sk w64 h64 c1 c2 c4 fun s7 s8 s9=>Gm (fun _=>uC (d_ sk c2) w64 h64 c1 c2 c3 fun s7 s8 s9 s10 s11=>fin _ _ _ _ _) fun z=>nomatch z) fun z=>nomatch z
 ·rintro Γ yss ⟨hk,rfl,s6,s7,s8,s9,s10,s11,rfl⟩;rw[gu,lM0];exact q
abbrev lpD (t b l r:Int):D:=.tup [.int t,.int b,.int l,.int r]
def Pt.q (p:Pt):D:=lpD p.t (p.t + p.hh) p.l (p.l + p.ww)
def dj (d:D):Bool:=match d with
 | .tup [.int a,.int b,.int c,.int e]=>decide (a < b) && decide (c < e)
 | _=>false
def hV (h w:Int) (ls:List Lt) (k:Nat):List Pt:=((List.range k).map fun i=>pat h w ls (k - 1 - i)).flatten
theorem fW {h w:Int} {ls:List Lt} {k:Nat}:hV h w ls (k + 1)=pat h w ls k++hV h w ls k:=by
 unfold hV;rw[List.range_succ_eq_map,List.map_cons,List.flatten_cons,List.map_map]
 congr 2
 refine List.map_congr_left fun i hi=>?_;show pat h w ls (k + 1 - 1 - (i + 1))=_
 congr 1;omega
theorem kL {h w:Int} {ls:List Lt}:∀ k:Nat,(hV h w ls k).length<=3 * k
 | 0=>Nat.le_refl _
 | k + 1=>by
  rw[fW,List.length_append];have:=kL (h:=h) (w:=w) (ls:=ls) k;have:=ox (h:=h) (w:=w) (ls:=ls) (k:=k);omega
def Av:S3:=fun Γ Q=>∃ (h w:Int) (ls:List Lt),Γ=[some (.fz (pD h w)),some (.fz (.str (wy ls)))]/\Pl h w ls/\Q (.fr (.lst (ord h w ls))) Γ
theorem AB {h w:Int} {ls:List Lt} {k:Nat} {l:Lt} (p:Pl h w ls) (hl:ls[k]?=some l) {H W:Int} (hc:cat h w ls k=(H,W)) :
  [lpD 0 (nh l H) (nw l W) W,lpD (nh l H) H 0 (nw l W),lpD (nh l H) H (nw l W) W].filter dj=(pat h w ls k).map Pt.q:=by
 have can:=oJ p.good hl;obtain⟨a1,a2,_,_⟩:=dU (k:=k) p.good p.sz.h1 p.sz.w1 (Nat.le_of_lt (gi hl));have st:=gG (h:=h) (w:=w) hl;rw[vP hl];rw[hc] at can a1 a2 st;obtain⟨c1,c2⟩:=can;dsimp only at c1 c2 a1 a2 st;cases l
 ·have:=c1 (by decide);have e1:dj (lpD 0 (nh .r H) (nw .r W) W)=true:=by show (decide (0 < H) && decide ((W + 1) / 2 < W))=true;rw[decide_eq_true (by omega),decide_eq_true (by omega)];rfl
  have e2:dj (lpD (nh .r H) H 0 (nw .r W))=false:=by show (decide (H < H) && _)=false;rw[decide_eq_false (by omega)];rfl
  have e3:dj (lpD (nh .r H) H (nw .r W) W)=false:=by show (decide (H < H) && _)=false;rw[decide_eq_false (by omega)];rfl
  rw[List.filter_cons_of_pos e1,List.filter_cons_of_neg (by rw[e2];decide),List.filter_cons_of_neg (by rw[e3];decide),List.filter_nil];unfold qG;rw[hc,st,List.map_cons,List.map_nil];unfold Pt.q;dsimp only;rw[Int.zero_add,show nw .r W + (W - nw .r W)=W by omega]
 ·have:=c2 (by decide);have e1:dj (lpD 0 (nh .p H) (nw .p W) W)=false:=by show (_ && decide (W < W))=false;rw[decide_eq_false (show ¬ W < W by omega),Bool.and_false]
  have e2:dj (lpD (nh .p H) H 0 (nw .p W))=true:=by show (decide ((H + 1) / 2 < H) && decide (0 < W))=true;rw[decide_eq_true (by omega),decide_eq_true (by omega)];rfl
  have e3:dj (lpD (nh .p H) H (nw .p W) W)=false:=by show (_ && decide (W < W))=false;rw[decide_eq_false (show ¬ W < W by omega),Bool.and_false]
  rw[List.filter_cons_of_neg (by rw[e1];decide),List.filter_cons_of_pos e2,List.filter_cons_of_neg (by rw[e3];decide),List.filter_nil];unfold qG;rw[hc,st,List.map_cons,List.map_nil];unfold Pt.q;dsimp only;rw[Int.zero_add,show nh .p H + (H - nh .p H)=H by omega]
 ·have:=c1 (by decide);have:=c2 (by decide);have e1:dj (lpD 0 (nh .b H) (nw .b W) W)=true:=by show (decide (0 < (H + 1) / 2) && decide ((W + 1) / 2 < W))=true;rw[decide_eq_true (by omega),decide_eq_true (by omega)];rfl
  have e2:dj (lpD (nh .b H) H 0 (nw .b W))=true:=by show (decide ((H + 1) / 2 < H) && decide (0 < (W + 1) / 2))=true;rw[decide_eq_true (by omega),decide_eq_true (by omega)];rfl
  have e3:dj (lpD (nh .b H) H (nw .b W) W)=true:=by show (decide ((H + 1) / 2 < H) && decide ((W + 1) / 2 < W))=true;rw[decide_eq_true (by omega),decide_eq_true (by omega)];rfl
  rw[List.filter_cons_of_pos e1,List.filter_cons_of_pos e2,List.filter_cons_of_pos e3,List.filter_nil];unfold qG;rw[hc,st,List.map_cons,List.map_cons,List.map_cons,List.map_nil];unfold Pt.q;dsimp only;rw[Int.zero_add,Int.zero_add,show nw .b W + (W - nw .b W)=W by omega,show nh .b H + (H - nh .b H)=H by omega]
theorem qJ (T:Txt w K mg a):aM P w K mg base CX0 1 a.ma a.kg ["_law_size_here","_law_way_here"] (sp3 K 2 Av):=by
 refine ok3 T.eM.F aG (hbody:=fun cdv A outer s H E hr=>⟨_,_,(ai (eV (is:=[2,3]) (by rfl) (p3v 0) (au (aA (i:=2) aG.nd rfl (Or.inl rfl)) (au (aA (i:=3) aG.nd rfl (Or.inl rfl)) br)) rfl)
   (ai (aH (i:=4) aG.nd rfl (Or.inl rfl) (bw ak))
   (ai (fF PassesOwn.never rfl (wj (p3v 1)) (aP (i:=5) aG.nd rfl (Or.inl rfl))
   (ai (aH (i:=6) aG.nd rfl (Or.inl rfl) (uG (aO (cW (by rfl) hr) (bv 5) (P3.opd a_) (bj _)) (p3v 2) (cG (P3.opd (aL (bv 2) (P3.opd ag))) (P3.opd ag))))
   (ai (aH (i:=7) aG.nd rfl (Or.inl rfl) (uG (aO (cW (by rfl) hr) (bv 5) (P3.opd a_) (bj _)) (p3v 3) (cG (P3.opd (aL (bv 3) (P3.opd ag))) (P3.opd ag))))
   (ai (aH (i:=8) aG.nd rfl (Or.inl rfl) (bw (aa (bC (aa ag (aa (p3v 6) (aa (p3v 7) (aa (p3v 3) ak))))) (aa (bC (aa (p3v 6) (aa (p3v 2) (aa ag (aa (p3v 7) ak))))) (aa (bC (aa (p3v 6) (aa (p3v 2) (aa (p3v 7) (aa (p3v 3) ak))))) ak)))))
   (ai (aH (i:=4) aG.nd rfl (Or.inl rfl) (aL (P3.opd (pI rfl (cu (by rfl) (p3v 8)) gI (fun _ _ _ _ _=>(aP (i:=0) gI.nd rfl (Or.inl rfl))) (fun _ _ _ _ _=>(P3W.pt (oz (aO r8 (P3.opd (aS (by rfl) (bv 0) (P3.opd ag) (fun _ _=>rfl))) (P3.opd (aS (by rfl) (bv 0) (P3.opd ag) (fun _ _=>rfl))) (bj _)) (lG (aO r8 (P3.opd (aS (by rfl) (bv 0) (P3.opd ag) (fun _ _=>rfl))) (P3.opd (aS (by rfl) (bv 0) (P3.opd ag) (fun _ _=>rfl))) (bj _)))))) (fun _ _ _ _ _=>(p3v 0)))) (bv 4)))
   (aq (zv (i:=2) (j:=3) rfl aG.nd rfl rfl (by decide) (by rfl) (by rfl) (aa (p3v 6) (aa (p3v 7) ak)) (by rfl))))))))
   (ai (aH (i:=9) aG.nd rfl (Or.inl rfl) (bw ak))
   (ai (fF PassesOwn.never rfl (cu (by rfl) (aL (P3.opd (bw (aa (bC (aa ag (aa (p3v 2) (aa ag (aa (p3v 3) ak))))) ak))) (bv 4))) (gj (is:=[10,11,12,7]) (by rfl) (au (aA (i:=10) aG.nd rfl (Or.inl rfl)) (au (aA (i:=11) aG.nd rfl (Or.inl rfl)) (au (aA (i:=12) aG.nd rfl (Or.inl rfl)) (au (aA (i:=7) aG.nd rfl (Or.inl rfl)) br)))) rfl)
   (aq (fF PassesOwn.never rfl (jQ (by rfl) T.z_range (aa (p3v 10) (aa (p3v 11) ak))) (aP (i:=13) aG.nd rfl (Or.inr rfl))
   (aq (g8 (rF 9 (by rfl) (bv 9) (P3.opd (dP rfl (jQ (by rfl) T.z_range (aa (p3v 12) (aa (p3v 7) ak))) gJ (fun _ _ _ _ _=>(aP (i:=0) gJ.nd rfl (Or.inl rfl))) (fun _ _ _ _ _=>(bC (aa (p3v 1) (aa (p3v 0) ak))))))))))))
   (aq (aF (pE 9)))))))),fun Γa Q h hl=>?_⟩)
 obtain⟨h,w,ls,rfl,p,q⟩:=h;have hls:=p.len;obtain⟨s1,s2,s3,s4,s5⟩:=p.sz;walk_at "m1";refine⟨z0,vw ls,cB (fun k Γ=>k<=ls.length/\∃ s5 s6 s7 s8,Γ=[some (.fz (pD h w)),some (.fz (.str (wy ls))),some (.fz (.int (cat h w ls k).1)),some (.fz (.int (cat h w ls k).2)),some (.ow (.lst ((hV h w ls k).map Pt.q))),fo s5,fo s6,fo s7,fo s8,none,none,none,none,none]) ⟨Nat.zero_le _,none,none,none,none,by rw[mh];rfl⟩ ?_ ?_⟩
 ·rintro k d Γ hd ⟨hk,s5,s6,s7,s8,rfl⟩;rw[gu] at hd;obtain⟨l,hl,rfl⟩:=tL hd;have lt:=gi hl;have st:=gG (h:=h) (w:=w) hl;obtain⟨H,W,hc⟩:∃ H W,cat h w ls k=(H,W):=⟨_,_,rfl⟩;rw[hc] at st;have kp:=AB p hl hc;rw[hc];unfold if3;have pk:=kL (h:=h) (w:=w) (ls:=ls) k;have pl:=ox (h:=h) (w:=w) (ls:=ls) (k:=k);have lp:∀ {l:Lt},∀ d∈[lpD 0 (nh l H) (nw l W) W,lpD (nh l H) H 0 (nw l W),lpD (nh l H) H (nw l W) W],∃ a b c e,d=lpD a b c e:=fun {l} d hd=>by
   simp only[List.mem_cons,List.not_mem_nil,or_false] at hd;rcases hd with rfl | rfl | rfl <;> exact⟨_,_,_,_,rfl⟩
  have lp:=lp (l:=l);generalize hx:[lpD 0 (nh l H) (nw l W) W,lpD (nh l H) H 0 (nw l W),lpD (nh l H) H (nw l W) W]=xs at kp lp;cases l
  ·walk_at "m1";rw[show [D.tup [.int 0,.int H,.int ((W + 1) / 2),.int W],.tup [.int H,.int H,.int 0,.int ((W + 1) / 2)],.tup [.int H,.int H,.int ((W + 1) / 2),.int W]]=xs from hx];refine⟨⟨by decide,by decide⟩,z4,z4,z4,z3,dE (fun j ys Γc=>ys=(xs.take j).filter dj/\∃ s,Γc=[fo s]) ⟨rfl,none,rfl⟩ ?_ ?_⟩
   ·rintro j d ys Γc hd ⟨rfl,s,rfl⟩;obtain⟨a',b',c',e',rfl⟩:=lp d (List.mem_of_getElem? hd);have fl:=List.length_filter_le dj (xs.take j);rw[List.length_take,show xs.length=3 by rw[<- hx];rfl] at fl;have kd:dj (lpD a' b' c' e')=(decide (a' < b') && decide (c' < e')):=rfl;walk_at "m1";refine vj (fun e1=>?_) (fun e1=>?_)
    ·rw[show decide (a' < b')=true from e1] at kd;walk_at "m1";cases e2:qS c' e'
     ·rw[show decide (c' < e')=false from e2] at kd;exact⟨by rw[take_snoc hd,List.filter_append,List.filter_cons,kd];simp,some _,rfl⟩
     ·rw[show decide (c' < e')=true from e2] at kd;exact⟨small (by omega),by rw[take_snoc hd,List.filter_append,List.filter_cons,kd];rfl,some _,rfl⟩
    ·rw[show decide (a' < b')=false from e1] at kd;walk_at "m1";exact⟨by rw[take_snoc hd,List.filter_append,List.filter_cons,kd];simp,some _,rfl⟩
   ·rintro ys Γc ⟨rfl,s,rfl⟩;rw[show xs.take xs.length=xs from List.take_length,kp];walk_at "m1";rw[<- List.map_append,<- fW];exact⟨iP (by rw[lM0];omega),bY (by rw[lM0,lM0];omega),lt,some _,some _,some _,some _,by rw[st];rfl⟩
  ·walk_at "m1";rw[show [D.tup [.int 0,.int ((H + 1) / 2),.int W,.int W],.tup [.int ((H + 1) / 2),.int H,.int 0,.int W],.tup [.int ((H + 1) / 2),.int H,.int W,.int W]]=xs from hx];refine⟨⟨by decide,by decide⟩,z4,z4,z4,z3,dE (fun j ys Γc=>ys=(xs.take j).filter dj/\∃ s,Γc=[fo s]) ⟨rfl,none,rfl⟩ ?_ ?_⟩
   ·rintro j d ys Γc hd ⟨rfl,s,rfl⟩;obtain⟨a',b',c',e',rfl⟩:=lp d (List.mem_of_getElem? hd);have fl:=List.length_filter_le dj (xs.take j);rw[List.length_take,show xs.length=3 by rw[<- hx];rfl] at fl;have kd:dj (lpD a' b' c' e')=(decide (a' < b') && decide (c' < e')):=rfl;walk_at "m1";refine vj (fun e1=>?_) (fun e1=>?_)
    ·rw[show decide (a' < b')=true from e1] at kd;walk_at "m1";cases e2:qS c' e'
     ·rw[show decide (c' < e')=false from e2] at kd;exact⟨by rw[take_snoc hd,List.filter_append,List.filter_cons,kd];simp,some _,rfl⟩
     ·rw[show decide (c' < e')=true from e2] at kd;exact⟨small (by omega),by rw[take_snoc hd,List.filter_append,List.filter_cons,kd];rfl,some _,rfl⟩
    ·rw[show decide (a' < b')=false from e1] at kd;walk_at "m1";exact⟨by rw[take_snoc hd,List.filter_append,List.filter_cons,kd];simp,some _,rfl⟩
   ·rintro ys Γc ⟨rfl,s,rfl⟩;rw[show xs.take xs.length=xs from List.take_length,kp];walk_at "m1";rw[<- List.map_append,<- fW];exact⟨iP (by rw[lM0];omega),bY (by rw[lM0,lM0];omega),lt,some _,some _,some _,some _,by rw[st];rfl⟩
  ·walk_at "m1";rw[show [D.tup [.int 0,.int ((H + 1) / 2),.int ((W + 1) / 2),.int W],.tup [.int ((H + 1) / 2),.int H,.int 0,.int ((W + 1) / 2)],.tup [.int ((H + 1) / 2),.int H,.int ((W + 1) / 2),.int W]]=xs from hx];refine⟨⟨by decide,by decide⟩,⟨by decide,by decide⟩,z4,z4,z4,z3,dE (fun j ys Γc=>ys=(xs.take j).filter dj/\∃ s,Γc=[fo s]) ⟨rfl,none,rfl⟩ ?_ ?_⟩
   ·rintro j d ys Γc hd ⟨rfl,s,rfl⟩;obtain⟨a',b',c',e',rfl⟩:=lp d (List.mem_of_getElem? hd);have fl:=List.length_filter_le dj (xs.take j);rw[List.length_take,show xs.length=3 by rw[<- hx];rfl] at fl;have kd:dj (lpD a' b' c' e')=(decide (a' < b') && decide (c' < e')):=rfl;walk_at "m1";refine vj (fun e1=>?_) (fun e1=>?_)
    ·rw[show decide (a' < b')=true from e1] at kd;walk_at "m1";cases e2:qS c' e'
     ·rw[show decide (c' < e')=false from e2] at kd;exact⟨by rw[take_snoc hd,List.filter_append,List.filter_cons,kd];simp,some _,rfl⟩
     ·rw[show decide (c' < e')=true from e2] at kd;exact⟨small (by omega),by rw[take_snoc hd,List.filter_append,List.filter_cons,kd];rfl,some _,rfl⟩
    ·rw[show decide (a' < b')=false from e1] at kd;walk_at "m1";exact⟨by rw[take_snoc hd,List.filter_append,List.filter_cons,kd];simp,some _,rfl⟩
   ·rintro ys Γc ⟨rfl,s,rfl⟩;rw[show xs.take xs.length=xs from List.take_length,kp];walk_at "m1";rw[<- List.map_append,<- fW];exact⟨iP (by rw[lM0];omega),bY (by rw[lM0,lM0];omega),lt,some _,some _,some _,some _,by rw[st];rfl⟩
 ·rintro Γ ⟨hk,s5,s6,s7,s8,rfl⟩;rw[gu,lM0];walk_at "m1";have eP:D.tup [.int 0,.int (cat h w ls ls.length).1,.int 0,.int (cat h w ls ls.length).2]::(hV h w ls ls.length).map Pt.q=(pts h w ls).map Pt.q:=by
   unfold pts;rw[List.map_cons];unfold Pt.q hV;dsimp only;rw[Int.zero_add,Int.zero_add]
  rw[eP];have PB:∀ p'∈pts h w ls,PtB p':=fun p' hp=>(pw p.good p.sz p' hp).b p.good p.sz;have PL:=ou (h:=h) (w:=w) hls;have pk:=kL (h:=h) (w:=w) (ls:=ls) ls.length;refine⟨z0,z4,z1,bY (by rw[lM0];omega),cB (fun j Γ=>∃ s7 s10 s11 s12 s13,Γ=[some (.fz (pD h w)),some (.fz (.str (wy ls))),some (.fz (.int (cat h w ls ls.length).1)),some (.fz (.int (cat h w ls ls.length).2)),some (.ow (.lst ((hV h w ls ls.length).map Pt.q))),fo s5,fo s6,fo s7,fo s8,some (.ow (.lst (hZ ((pts h w ls).take j)))),fo s10,fo s11,fo s12,fo s13]) ⟨s7,none,none,none,none,rfl⟩ ?_ ?_⟩
  ·rintro j d Γ hd ⟨s7,s10,s11,s12,s13,rfl⟩;obtain⟨pt,hp,rfl⟩:=wM hd;have hm:pt∈pts h w ls:=List.mem_of_getElem? hp;obtain⟨t0,l0,h0,w0,t1,l1,h1,w1⟩:=PB pt hm;have o1:=ja (ps:=(pts h w ls).take j) fun q' hq=>PB q' (List.mem_of_mem_take hq);have o2:((pts h w ls).take j).length<=31:=by rw[List.length_take];omega
   rw[show pt.q=lpD pt.t (pt.t + pt.hh) pt.l (pt.l + pt.ww) from rfl];walk_at "m1";rw[show (pt.t + pt.hh - pt.t).toNat=pt.hh.toNat by omega];refine⟨by omega,by omega,by omega,by omega,cB (fun m Γ=>m<=64/\∃ s13,Γ=[some (.fz (pD h w)),some (.fz (.str (wy ls))),some (.fz (.int (cat h w ls ls.length).1)),some (.fz (.int (cat h w ls ls.length).2)),some (.ow (.lst ((hV h w ls ls.length).map Pt.q))),fo s5,fo s6,some (.fz (.int (pt.l + pt.ww))),fo s8,some (.ow (.lst (hZ ((pts h w ls).take j)++((List.range m).map fun y=>i7 pt.t pt.l pt.ww.toNat y).flatten))),some (.fz (.int pt.t)),some (.fz (.int (pt.t + pt.hh))),some (.fz (.int pt.l)),fo s13]) ⟨by omega,s13,by rw[List.range_zero,List.map_nil,List.flatten_nil,List.append_nil]⟩ ?_ ?_⟩
   ·rintro m d Γ hd2 ⟨hm64,s13,rfl⟩;obtain⟨lm,rfl⟩:=bP hd2;walk_at "m1";rw[show (pt.l + pt.ww - pt.l).toNat=pt.ww.toNat by omega];refine⟨by omega,by omega,by omega,by omega,small (by rw[bq];omega),bL (fun x ys Γc=>ys=i7 pt.t pt.l x m/\∃ s,Γc=[fo s,some (.fz (.int (pt.t + (m:Int))))]) ⟨rfl,none,rfl⟩ ?_ ?_⟩
    ·rintro x d ys Γc hd3 hx ⟨rfl,s,rfl⟩;obtain⟨lx,rfl⟩:=bP hd3;walk_at "m1";refine⟨z2,?_,some _,rfl⟩;unfold i7;rw[List.range_succ,List.map_append];rfl
    rintro ys Γc hx ⟨rfl,s,rfl⟩;rw[bq];walk_at "m1";have fl:=gC (f:=fun y=>i7 pt.t pt.l pt.ww.toNat y) (m:=pt.ww.toNat) (fun _=>fH) m;have fb:m * pt.ww.toNat<=64 * 64:=Nat.mul_le_mul (by omega) (by omega);refine⟨bY (by rw[List.length_append,fl,fH];omega),by omega,some (.int (pt.t + (m:Int))),?_⟩;rw[List.append_assoc,mV (f:=fun y=>i7 pt.t pt.l pt.ww.toNat y)];rfl
   ·rintro Γ ⟨hm64,s13,rfl⟩;rw[bq,show ((List.range pt.hh.toNat).map fun y=>i7 pt.t pt.l pt.ww.toNat y).flatten=pt.pl from rfl,rG,<- take_snoc hp];exact⟨some _,some _,some _,some _,s13,rfl⟩
  ·rintro Γ ⟨s7,s10,s11,s12,s13,rfl⟩;rw[lM0,List.take_length];walk_at "m1";exact q
theorem HM {h w:Int} {ls:List Lt} {q:Pt} (p:Pl h w ls) (o:Bx h w ls q):q.pl.length<=512:=by
 obtain⟨_,_,c1,c2⟩:=dU (k:=q.s) p.good p.sz.h1 p.sz.w1 o.s;have h3:=o.ht;have h4:=o.wl;have h5:=o.t0;have h6:=o.l0;have h7:=o.h1;have h8:=o.w1;obtain⟨s1,s2,s3,s4,s5⟩:=p.sz;unfold Pt.pl plc;rw[gC (m:=q.ww.toNat) (fun _=>fH)];have e1:q.hh.toNat * q.ww.toNat<=h.toNat * w.toNat:=Nat.mul_le_mul (by omega) (by omega);have e2:((h.toNat * w.toNat:Nat):Int)<=512:=by rw[Int.natCast_mul,Int.toNat_of_nonneg (by omega),Int.toNat_of_nonneg (by omega)];exact s5
 omega
theorem xk:∀ {ps:List Pt},(∀ p∈ps,p.pl.length<=512)->(hZ ps).length<=512 * ps.length
 | [],_=>by simp [hZ]
 | p::ps,hb=>by
  have e:hZ (p::ps)=p.pl++hZ ps:=by simp [hZ]
  have:=xk (ps:=ps) fun q hq=>hb q (List.mem_cons_of_mem _ hq);have:=hb p List.mem_cons_self;rw[e,List.length_append,List.length_cons];omega
theorem Al {h w:Int} {ls:List Lt} (p:Pl h w ls):(ord h w ls).length<=15872:=by
 have l1:=xk (ps:=pts h w ls) fun q hq=>HM p (pw p.good p.sz q hq);have l2:=ou (h:=h) (w:=w) p.len;unfold ord;omega
theorem Hv {y x:Nat} (hy:y < 64) (hx:x < 64):Sh (2 * 102 + 3) 2 (pD y x):=.tup (fun d hd=>by
 simp only[List.mem_cons,List.not_mem_nil,or_false] at hd;rcases hd with rfl | rfl
 ·exact .int (by omega)
 ·exact .int (by omega)) (Nat.le_refl 2)
theorem AE {h w:Int} {ls:List Lt} (p:Pl h w ls) (f:D->Bool):okR (.lst ((ord h w ls).filter f)):=by
 obtain⟨s1,s2,s3,s4,s5⟩:=p.sz;refine .inl ⟨.inl rfl,.up (.lst (n:=2 * 102 + 3) (k:=2) (l:=15872) (fun d hd=>?_) ?_) (by decide) (by decide)⟩
 ·obtain⟨y,x,ly,lx,rfl⟩:=tw p (List.mem_filter.mp hd |>.1);exact Hv (by omega) (by omega)
 ·have:=List.length_filter_le f (ord h w ls);have:=Al p;omega
theorem S_e:Str.ofString ""=wy []:=by decide +kernel
theorem oG:Pl 2 1 []:=⟨⟨by decide,by decide,by decide,by decide,by decide⟩,trivial,by decide⟩
theorem xv:wg .lean 2 1 []=[pD 0 0,pD 1 0]:=by
 have e:ord 2 1 []=[pD 0 0,pD 1 0]:=rfl;unfold wg;rw[e];rfl
theorem xu:okR (.lst [pD 0 0,pD 1 0]):=by
 have:=AE oG (mkD (ft .lean 2 1 [] (gq 2 1)));rw[show (ord 2 1 []).filter (mkD (ft .lean 2 1 [] (gq 2 1)))=[pD 0 0,pD 1 0] from xv] at this;exact this
theorem AV {k:Nat} {d:D} (h:[D.str (Str.ofString "sum"),.str (Str.ofString "half"),.str (Str.ofString "guess"),.str (Str.ofString "lean")][k]?=some d):∃ R:Rl,d=.str R.word:=by
 have m:=List.mem_of_getElem? h;simp only[List.mem_cons,List.not_mem_nil,or_false] at m;rcases m with rfl | rfl | rfl | rfl
 ·exact⟨.sum,rfl⟩
 ·exact⟨.half,rfl⟩
 ·exact⟨.guess,rfl⟩
 ·exact⟨.lean,rfl⟩
set_option maxHeartbeats 8000000 in
theorem Cz (T:Txt w K mg a) (M:kT base a.dW qL):aM P w K mg base CX0 11 a.A0 a.wq ["_law_script"] (sp3 K 1 (DP 63)):=by
 refine ok3 T.Hc.F eu (hbody:=fun cdv A outer s H E hr=>⟨_,_,(ai (fF PassesOwn.never rfl (bI (by rfl) T.z_range (aa (a8 (Ek rfl) (by rfl) T.z_max (by decide +kernel) (ae (P3.opd ag) (ae (P3.opd (a8 (Ej rfl) (by rfl) T.z_min (by decide +kernel) (ae (P3.opd (a8 (mi (by rfl)) (by rfl) T.z_len (by decide +kernel) (ae (bv 0) aj))) (ae (P3.opd ag) aj)))) aj))) ak)) (aP (i:=1) eu.nd rfl (Or.inl rfl))
   (ai (aH (i:=2) eu.nd rfl (Or.inl rfl) (aD (by rfl) (uO T) hr.dn (by rfl) T.gR.m T.gR.F.kp T.gR.b (ae (P3.opd (aD (by rfl) (tJ T) hr.dn (by rfl) T.fU.m T.fU.F.kp T.fU.b (ae (P3.opd (p3v 0)) (ae (P3.opd (p3v 1)) aj)))) aj)))
   (ai (aH (i:=3) eu.nd rfl (Or.inl rfl) (aD (by rfl) (tI T) hr.dn (by rfl) T.fR.m T.fR.F.kp T.fR.b (ae (bv 2) aj)))
   (ai (aH (i:=4) eu.nd rfl (Or.inl rfl) (aD (by rfl) (uN T) hr.dn (by rfl) T.gQ.m T.gQ.F.kp T.gQ.b (ae (bv 2) (ae (P3.opd (p3v 3)) aj))))
   (ai (aH (i:=5) eu.nd rfl (Or.inl rfl) (pG (aD (by rfl) (qJ T) hr.dn (by rfl) T.eM.m T.eM.F.kp T.eM.b (ae (P3.opd (p3v 3)) (ae (P3.opd (p3v 4)) aj)))))
   (aq (fF PassesOwn.never rfl (cu (by rfl) (bw (aa a_ (aa a_ (aa a_ (aa a_ ak)))))) (aP (i:=6) eu.nd rfl (Or.inl rfl))
   (ai (aH (i:=7) eu.nd rfl (Or.inr rfl) (pG (aD (by rfl) (qK T) hr.dn (by rfl) T.eN.m T.eN.F.kp T.eN.b (ae (P3.opd (p3v 3)) (ae (P3.opd (p3v 6)) (ae (P3.opd (p3v 4)) aj))))))
   (ai (aH (i:=8) eu.nd rfl (Or.inl rfl) (a8 (oM (by rfl) hr) (by rfl) T.z_repr (by decide +kernel) (ae (P3.opd (pI rfl (cu (by rfl) (p3v 5)) r9 (fun _ _ _ _ _=>(aP (i:=0) r9.nd rfl (Or.inl rfl))) (fun _ _ _ _ _=>(dM (aS (by rfl) (P3.opd (aS (by rfl) (bv 1) (P3.opd (aS (by rfl) (bv 0) (P3.opd ag) (fun _ _=>rfl))) (fun _ _=>rfl))) (P3.opd (aS (by rfl) (bv 0) (P3.opd ag) (fun _ _=>rfl))) (fun _ _=>rfl)))) (fun _ _ _ _ _=>(p3v 0)))) aj)))
   (ai (aH (i:=9) eu.nd rfl (Or.inl rfl) (pG (xj T.mk_Plan (gA T) hr.dn (by rfl) T.xo T.ej.b (aa (aS (by rfl) (bv 3) (P3.opd ag) (fun _ _=>rfl)) (aa (aS (by rfl) (bv 3) (P3.opd ag) (fun _ _=>rfl)) (aa (p3v 6) (aa (p3v 4) ak)))))))
   (aq (fF PassesOwn.never rfl (bI (by rfl) T.z_range (aa ag ak)) (aP (i:=10) eu.nd rfl (Or.inl rfl))
   (ai (aH (i:=11) eu.nd rfl (Or.inl rfl) (aD (by rfl) (uM T M) hr.dn (by rfl) T.gP.m T.gP.F.kp T.gP.b (ae (P3.opd (p3v 9)) aj)))
   (ai (cp (aO (wI (by rfl) hr) (P3.opd (a8 (oM (by rfl) hr) (by rfl) T.z_repr (by decide +kernel) (ae (bv 11) aj))) (bv 8) (bj _)) (aq (aF fJ)) bE)
   (aq (g8 (Ag 11 (by rfl) (bv 11))))))))))))))))))
   (aq (aF (i_ (cW (by rfl) hr) (P3.opd (a8 (oM (by rfl) hr) (by rfl) T.z_repr (by decide +kernel) (ae (P3.opd (aD (by rfl) (uM T M) hr.dn (by rfl) T.gP.m T.gP.F.kp T.gP.b (ae (P3.opd (xj T.mk_Plan (gA T) hr.dn (by rfl) T.xo T.ej.b (aa ag (aa ag (aa a_ (aa a_ ak)))))) aj))) aj))) (P3.opd (a8 (oM (by rfl) hr) (by rfl) T.z_repr (by decide +kernel) (ae (P3.opd (bw (aa (bC (aa ag (aa ag ak))) (aa (bC (aa ag (aa ag ak))) ak)))) aj))) (bj _))))),fun Γa Q h hl=>?_⟩)
 obtain⟨ns,rfl,hn,q⟩:=h;walk_at "m1";have m1:fmax 2 (fmin (ns.length:Int) 10)<=10:=by unfold fmax fmin;split <;> split <;> omega
 have m2:2<=fmax 2 (fmin (ns.length:Int) 10):=by unfold fmax fmin;split <;> split <;> omega
 refine⟨by omega,by omega,cB (fun k Γ=>∃ s1 s2 s3 s4 s5 s6 s7 s8 s9 s10 s11,Γ=[some (.fz (.scr ns)),fo s1,fw s2,fo s3,fo s4,fo s5,fo s6,fo s7,fo s8,fo s9,fo s10,fw s11]) ⟨none,none,none,none,none,none,none,none,none,none,none,rfl⟩ ?_ ?_⟩
 ·rintro k0 x Γ hd ⟨s1,s2,s3,s4,s5,s6,s7,s8,s9,s10,s11,rfl⟩;obtain⟨lk,rfl⟩:=bP hd;walk_at "m1";refine⟨ns,_,rfl,by omega,fun r0=>?_⟩;walk_at "m1";refine⟨_,rfl,fun d0 b0=>?_⟩;walk_at "m1";refine⟨_,rfl,b0,fun h w d1 sz b1=>?_⟩;walk_at "m1";refine⟨d1,_,_,rfl,sz,b1,fun ls d2 p=>?_⟩;walk_at "m1";refine⟨_,_,_,rfl,p,?_⟩;walk_at "m1";generalize Option.map (fun d=>d) (Option.map (fun d=>d) s11)=s11;have sS:∀ R,Sz h.toNat w.toNat (ft R h w ls (gq h w)):=fun R=>oX (R:=R) p (t9 h w) (Nat.le_refl ls.length);refine⟨z4,cB (fun k Γ=>∃ s6 s7 s8 s9 s10 s11,Γ=[some (.fz (.scr ns)),some (.fz (.int (0 + (k0:Int)))),some (.ow d2),some (.fz (pD h w)),some (.fz (.str (wy ls))),some (.fz (.lst (ord h w ls))),fo s6,fo s7,fo s8,fo s9,fo s10,fw s11]) ⟨s6,s7,s8,s9,s10,s11,rfl⟩ ?_ ?_⟩
  ·rintro k1 x Γ hd1 ⟨s6,s7,s8,s9,s10,s11,rfl⟩;obtain⟨R,rfl⟩:=AV hd1;walk_at "m1";refine⟨R,_,_,ls,rfl,p,?_⟩;have sR:=sS R;have eI:wg R h w ls=(ord h w ls).filter (mkD (ft R h w ls (gq h w))):=rfl;generalize ft R h w ls (gq h w)=S at sR eI ⊢;have iok:=AE p (mkD S);rw[<- eI] at iok;walk_at "m1";rw[show (gw S).map D.lst=S.map tl by unfold gw;rw[List.map_map];rfl];refine dE (fun k ys Γc=>ys=((ord h w ls).take k).filter (mkD S)/\∃ s,Γc=[fo s,some (.fz (rD S))]) ⟨rfl,none,rfl⟩ ?_ ?_
   ·rintro k d ys Γc hd ⟨rfl,s,rfl⟩;obtain⟨y,x,ly,lx,rfl⟩:=tw p (List.mem_of_getElem? hd);have hr:S[y]?=some (S.getD y []):=by
     have:=sR.hh;rw[gE0 (by omega)];simp [List.getD,show y < S.length by omega]
    have lr:=sR.ww _ (List.mem_of_getElem? hr);have ol:=Al p;walk_at "m1";refine cq.mpr ⟨tl (S.getD y []),b9 (by omega) (by rw[List.getElem?_map,Int.toNat_natCast,hr];rfl),?_⟩;walk_at "m1";refine cq.mpr ⟨_,m5 (by omega) (by omega),?_⟩;rw[Int.toNat_natCast];have em:mkD S (pD y x)=gb (S.getD y []) x:=rfl;cases e:gb (S.getD y []) x
    ·walk_at "m1";exact⟨by rw[take_snoc hd,List.filter_append,List.filter_cons,em,e];simp,some _,rfl⟩
    ·walk_at "m1";exact⟨iP (by have:=List.length_filter_le (mkD S) ((ord h w ls).take k);rw[List.length_take] at this;omega),by rw[take_snoc hd,List.filter_append,List.filter_cons,em,e];rfl,some _,rfl⟩
   rintro ys Γc ⟨rfl,s,rfl⟩;rw[List.take_length,<- eI];walk_at "m1";generalize Option.map (fun d=>d) s11=s11;have il:(wg R h w ls).length<=15872:=by
    have:=List.length_filter_le (mkD S) (ord h w ls);have:=Al p;rw[eI];omega
   refine⟨iP (by omega),iok,R,h,w,ls,rfl,p.sz,p.good,p.len,?_⟩;walk_at "m1";refine⟨by omega,by omega,cB (fun k Γ=>∃ s10 s11,Γ=[some (.fz (.scr ns)),some (.fz (.int (0 + (k0:Int)))),some (.ow d2),some (.fz (pD h w)),some (.fz (.str (wy ls))),some (.fz (.lst (ord h w ls))),some (.fz (.str R.word)),some (.fz (.lst (S.map tl))),some (.fz (.str (rpr (.lst (wg R h w ls))))),some (.fz (plD a R h w ls)),fo s10,fw s11]) ⟨s10,s11,rfl⟩ ?_ ?_⟩
   ·rintro k2 x Γ hd2 ⟨s10,s11,rfl⟩;walk_at "m1";refine⟨R,h,w,ls,rfl,p,?_⟩;walk_at "m1";refine⟨iok,?_⟩;walk_at "m1";exact⟨some _,some (.lst []),rfl⟩
   ·rintro Γ ⟨s10,s11,rfl⟩;exact⟨some _,some _,some _,some _,s10,s11,rfl⟩
  ·rintro Γ ⟨s6,s7,s8,s9,s10,s11,rfl⟩;exact⟨some _,some _,some _,some _,some _,s6,s7,s8,s9,s10,s11,rfl⟩
 ·rintro Γ ⟨s1,s2,s3,s4,s5,s6,s7,s8,s9,s10,s11,rfl⟩;rw[S_e];walk_at "m1";refine⟨.lean,2,1,[],rfl,oG.sz,oG.good,by decide,?_⟩;walk_at "m1";refine⟨.lean,2,1,[],rfl,oG,?_⟩;rw[xv];walk_at "m1";exact⟨xu,z2,z2,z2,xu,q _⟩
def sA (K:Fg0):Sp:=fun vs H Q _=>∃ (p:Addr) (ns:Li),vs=[.ref p]/\SqL K H p (ns.map V.int)/\ns.length<=63/\∀ H',Q (.bl true) H'
theorem FJ (T:Txt w K mg a) (M:kT base a.dW qL):aM P w K mg base CX0 11 a.A0 a.wq ["_law_script"] (sA K):=FV (Cz T M)
local macro_rules | `(tactic| walk_at "bn")=>`(tactic| (intro _ _ _ _ _ _ us hl;first | (have h:=ln0 hl;subst h;rfl) | (obtain⟨_,h⟩:=ln1 hl;subst h;rfl) | (obtain⟨_,_,h⟩:=ln2 hl;subst h;rfl) | (obtain⟨_,_,_,h⟩:=ln3 hl;subst h;rfl) | (obtain⟨_,_,_,_,h⟩:=ln4 hl;subst h;rfl) | (obtain⟨_,_,_,_,_,h⟩:=ln5 hl;subst h;rfl)))
theorem all_mk {l:PySem.W.OpenLaw} {w:World} {K:Fg0} {h:Heap} {mg:SV} {fa:Addr} (X:K.In h) (G:h.Ns mainGlobals mg) (hfa:mg "law"=some (.ref fa))
  {aW:Addr}
  {bg:Addr}
  {aV:Addr}
  {aK:Addr}
  {cm:Addr}
  {aR:Addr} {od_ALONG_PILLARS:Option Addr} {nn_ALONG_PILLARS:Nat} {sl_ALONG_PILLARS:Array (Option Value)} {tk_ALONG_PILLARS_0:Tok} {tk_ALONG_PILLARS_1:Tok}
  {bp:Addr} {od_ALONG_ROWS:Option Addr} {nn_ALONG_ROWS:Nat} {sl_ALONG_ROWS:Array (Option Value)} {tk_ALONG_ROWS_0:Tok} {tk_ALONG_ROWS_1:Tok}
  {eQ:Addr} {es_MARKS:Array DictEntry} {nd_MARKS:Nat}
  {f0 f1 f2 f3 f4 f5 f6 f7 f8 f9 f10 f11 f12 f13 f14 f15 f16 f17 f18 f19 f20 f21 f22 f23 f24 f25 f26 f27 f28 f29 f30 f31 f32 f33 f34 f35 f36 f37 f38 f39 f40 f41 f42:Addr} {d0 d1 d2 d3 d4 d5 d6 d7 d8 d9 d10 d11 d12 d13 d14 d15 d16 d17 d18 d19 d20 d21 d22 d23 d24 d25 d26 d27 d28 d29 d30 d31 d32 d34 d35 d36 d37 d38 d39 d40 d41 d42:FuncData}
  {od33 an33:Option Addr} {sl33:Array (Option Value)} {oc33 kV33 dc33 pm33 ct33:Value}
  {eY dW:Addr}
  {t_MOST_PLACES:Tok}
  {t_MOST_SIDE:Tok}
  (aC_Guessed:PySem.W.nsIn K mainGlobals "Guessed"=some (some (.ref aW)))
  (pg_Guessed:PySem.W.plainGet K aW Str.empty=true)
  (hd_Guessed:PySem.W.hasDictIn K aW=true)
  (po_Guessed:PySem.W.plainOver K aW=true)
  (sa_Guessed:PySem.W.findIn K (.ref aW) "__setattr__"=some (some (.builtin "object.__setattr__")))
  (mk_Guessed:PySem.W.makesIn K aW=true)
  (kc_Guessed:PySem.W.keepIn K (.ref aW)=true)
  (in_Guessed:PySem.W.findIn K (.ref aW) "__init__"=some (some (.builtin "object.__init__")))
  (aC_Halves:PySem.W.nsIn K mainGlobals "Halves"=some (some (.ref bg)))
  (pg_Halves:PySem.W.plainGet K bg Str.empty=true)
  (hd_Halves:PySem.W.hasDictIn K bg=true)
  (po_Halves:PySem.W.plainOver K bg=true)
  (sa_Halves:PySem.W.findIn K (.ref bg) "__setattr__"=some (some (.builtin "object.__setattr__")))
  (mk_Halves:PySem.W.makesIn K bg=true)
  (kc_Halves:PySem.W.keepIn K (.ref bg)=true)
  (in_Halves:PySem.W.findIn K (.ref bg) "__init__"=some (some (.builtin "object.__init__")))
  (aC_Leaning:PySem.W.nsIn K mainGlobals "Leaning"=some (some (.ref aV)))
  (pg_Leaning:PySem.W.plainGet K aV Str.empty=true)
  (hd_Leaning:PySem.W.hasDictIn K aV=true)
  (po_Leaning:PySem.W.plainOver K aV=true)
  (sa_Leaning:PySem.W.findIn K (.ref aV) "__setattr__"=some (some (.builtin "object.__setattr__")))
  (mk_Leaning:PySem.W.makesIn K aV=true)
  (kc_Leaning:PySem.W.keepIn K (.ref aV)=true)
  (in_Leaning:PySem.W.findIn K (.ref aV) "__init__"=some (some (.builtin "object.__init__")))
  (aC_Plan:PySem.W.nsIn K mainGlobals "Plan"=some (some (.ref aK)))
  (pg_Plan:PySem.W.plainGet K aK Str.empty=true)
  (hd_Plan:PySem.W.hasDictIn K aK=true)
  (po_Plan:PySem.W.plainOver K aK=true)
  (sa_Plan:PySem.W.findIn K (.ref aK) "__setattr__"=some (some (.builtin "object.__setattr__")))
  (mk_Plan:PySem.W.makesIn K aK=true)
  (kc_Plan:PySem.W.keepIn K (.ref aK)=true)
  (aC_Sums:PySem.W.nsIn K mainGlobals "Sums"=some (some (.ref cm)))
  (pg_Sums:PySem.W.plainGet K cm Str.empty=true)
  (hd_Sums:PySem.W.hasDictIn K cm=true)
  (po_Sums:PySem.W.plainOver K cm=true)
  (sa_Sums:PySem.W.findIn K (.ref cm) "__setattr__"=some (some (.builtin "object.__setattr__")))
  (mk_Sums:PySem.W.makesIn K cm=true)
  (kc_Sums:PySem.W.keepIn K (.ref cm)=true)
  (in_Sums:PySem.W.findIn K (.ref cm) "__init__"=some (some (.builtin "object.__init__")))
  (n_Plan_chosen:PySem.W.findIn K (.ref aK) "chosen"=some none)
  (n_Plan_corners:PySem.W.findIn K (.ref aK) "corners"=some none)
  (n_Plan_letters:PySem.W.findIn K (.ref aK) "letters"=some none)
  (q_ALONG_PILLARS:PySem.W.nsIn K mainGlobals "ALONG_PILLARS"=some (some (.ref aR)))
  (lk_ALONG_PILLARS:K.lookup aR=some ⟨.type "tuple",od_ALONG_PILLARS,.seq #[.str (Str.ofString "p") tk_ALONG_PILLARS_0,.str (Str.ofString "b") tk_ALONG_PILLARS_1] nn_ALONG_PILLARS,sl_ALONG_PILLARS⟩)
  (q_ALONG_ROWS:PySem.W.nsIn K mainGlobals "ALONG_ROWS"=some (some (.ref bp)))
  (lk_ALONG_ROWS:K.lookup bp=some ⟨.type "tuple",od_ALONG_ROWS,.seq #[.str (Str.ofString "r") tk_ALONG_ROWS_0,.str (Str.ofString "b") tk_ALONG_ROWS_1] nn_ALONG_ROWS,sl_ALONG_ROWS⟩)
  (q_MARKS:PySem.W.nsIn K mainGlobals "MARKS"=some (some (.ref eQ)))
  (lk_MARKS:K.lookup eQ=some ⟨.type "dict",none,.dict es_MARKS nd_MARKS,#[]⟩)
  (kk_MARKS:PySem.W.KeysLit w.params es_MARKS.toList)
  (it_MARKS_sum:PySem.W.nsIn K eQ "sum"=some (some (.ref f29)))
  (it_MARKS_half:PySem.W.nsIn K eQ "half"=some (some (.ref f29)))
  (it_MARKS_guess:PySem.W.nsIn K eQ "guess"=some (some (.ref f30)))
  (it_MARKS_lean:PySem.W.nsIn K eQ "lean"=some (some (.ref f31)))
  (y_bs:PySem.W.kitOne K (.type "bool") (.type "str")=some false)
  (y_is:PySem.W.kitOne K (.type "int") (.type "str")=some false)
  (y_ns:PySem.W.kitOne K (.type "NoneType") (.type "str")=some false)
  (y_ss:PySem.W.kitOne K (.type "str") (.type "str")=some true)
  (y_ls:PySem.W.kitOne K (.type "list") (.type "str")=some false)
  (y_ts:PySem.W.kitOne K (.type "tuple") (.type "str")=some false)
  (y_ds:PySem.W.kitOne K (.type "dict") (.type "str")=some false)
  (F0:FN K "is_whole" "is_whole" kD f0 d0)
  (F1:FN K "is_size" "is_size" mE f1 d1)
  (F2:FN K "pairs_of" "pairs_of" kB f2 d2)
  (F3:FM K cm "word" "Sums.word" iW f3 d3)
  (F4:FM K bg "word" "Halves.word" gf f4 d4)
  (F5:FM K aW "word" "Guessed.word" fB f5 d5)
  (F6:FM K aV "word" "Leaning.word" fA f6 d6)
  (F7:FN K "all_rules" "all_rules" iS f7 d7)
  (F8:FN K "rule_of" "rule_of" mD f8 d8)
  (F9:FN K "can_halve" "can_halve" iR f9 d9)
  (F10:FN K "corners_of" "corners_of" gW f10 d10)
  (F11:FN K "places_of" "places_of" fV f11 d11)
  (F12:FM K aK "__init__" "Plan.__init__" eA f12 d12)
  (F13:FM K aK "height" "Plan.height" f_ f13 d13)
  (F14:FM K aK "width" "Plan.width" gX f14 d14)
  (F15:FM K aK "rule" "Plan.rule" iX f15 d15)
  (F16:FM K aK "way" "Plan.way" kG f16 d16)
  (F17:FM K aK "steps" "Plan.steps" gY f17 d17)
  (F18:FM K aK "corner" "Plan.corner" gc f18 d18)
  (F19:FM K aK "parts" "Plan.parts" gZ f19 d19)
  (F20:FM K aK "parts_of_step" "Plan.parts_of_step" cA f20 d20)
  (F21:FM K aK "order" "Plan.order" eU f21 d21)
  (F22:FN K "turned" "turned" lC f22 d22)
  (F23:FN K "halve_row" "halve_row" iQ f23 d23)
  (F24:FN K "halve_rows" "halve_rows" eS f24 d24)
  (F25:FN K "step_forth" "step_forth" gU f25 d25)
  (F26:FN K "steps_forth" "steps_forth" fZ f26 d26)
  (F27:FN K "has" "has" zu f27 d27)
  (F28:FN K "paired_sums" "paired_sums" dJ f28 d28)
  (F29:FN K "paired_marks" "paired_marks" da f29 d29)
  (F30:FN K "guessed_marks" "guessed_marks" cc f30 d30)
  (F31:FN K "leaning_marks" "leaning_marks" cP f31 d31)
  (F32:FN K "marks_of" "marks_of" kC f32 d32)
  (a33:PySem.W.nsIn K mainGlobals "inner"=some (some (.ref f33)))
  (l33:K.lookup f33=some ⟨oc33,od33,.func (PySem.W.fnOf "inner" "inner" (e_ cF) (cT cF) (ah cF) .none kV33 dc33 pm33 an33 (.ref eY) ct33),sl33⟩)
  (c33:PySem.W.codeIn K (.ref eY) "inner"=true)
  (k33:PySem.W.keepIn K (.ref f33)=true)
  (k_hd_inner:PySem.W.codeHdIn K eY dW=true)
  (k_kp_inner:K.lookup dW=none)
  (F34:FN K "_law_cell" "_law_cell" iV f34 d34)
  (F35:FN K "_law_box" "_law_box" kF f35 d35)
  (F36:FN K "_law_take" "_law_take" iT f36 d36)
  (F37:FN K "_law_size" "_law_size" iU f37 d37)
  (F38:FN K "_law_way" "_law_way" kE f38 d38)
  (F39:FN K "_law_marked" "_law_marked" bU f39 d39)
  (F40:FN K "_law_marks" "_law_marks" df f40 d40)
  (F41:FN K "_law_order" "_law_order" de f41 d41)
  (F42:FN K "law" "law" w4 f42 d42)
  (q_MOST_PLACES:PySem.W.nsIn K mainGlobals "MOST_PLACES"=some (some (.int 512 t_MOST_PLACES)))
  (q_MOST_SIDE:PySem.W.nsIn K mainGlobals "MOST_SIDE"=some (some (.int 64 t_MOST_SIDE)))
  (z_bool:PySem.W.nsIn K mainGlobals "bool"=some none)
  (z_enumerate:PySem.W.nsIn K mainGlobals "enumerate"=some none)
  (z_int:PySem.W.nsIn K mainGlobals "int"=some none)
  (z_isinstance:PySem.W.nsIn K mainGlobals "isinstance"=some none)
  (z_len:PySem.W.nsIn K mainGlobals "len"=some none)
  (z_list:PySem.W.nsIn K mainGlobals "list"=some none)
  (z_max:PySem.W.nsIn K mainGlobals "max"=some none)
  (z_min:PySem.W.nsIn K mainGlobals "min"=some none)
  (z_range:PySem.W.nsIn K mainGlobals "range"=some none)
  (z_repr:PySem.W.nsIn K mainGlobals "repr"=some none)
  (z_reversed:PySem.W.nsIn K mainGlobals "reversed"=some none)
  (z_str:PySem.W.nsIn K mainGlobals "str"=some none)
  (z_tuple:PySem.W.nsIn K mainGlobals "tuple"=some none)
  (z_zip:PySem.W.nsIn K mainGlobals "zip"=some none)
  (y_bb:PySem.W.kitOne K (.type "bool") (.type "bool")=some true)
  (y_bi:PySem.W.kitOne K (.type "bool") (.type "int")=some true)
  (y_bl:PySem.W.kitOne K (.type "bool") (.type "list")=some false)
  (y_bt:PySem.W.kitOne K (.type "bool") (.type "tuple")=some false)
  (y_ib:PySem.W.kitOne K (.type "int") (.type "bool")=some false)
  (y_ii:PySem.W.kitOne K (.type "int") (.type "int")=some true)
  (y_il:PySem.W.kitOne K (.type "int") (.type "list")=some false)
  (y_it:PySem.W.kitOne K (.type "int") (.type "tuple")=some false)
  (y_nb:PySem.W.kitOne K (.type "NoneType") (.type "bool")=some false)
  (y_ni:PySem.W.kitOne K (.type "NoneType") (.type "int")=some false)
  (y_nl:PySem.W.kitOne K (.type "NoneType") (.type "list")=some false)
  (y_nt:PySem.W.kitOne K (.type "NoneType") (.type "tuple")=some false)
  (y_sb:PySem.W.kitOne K (.type "str") (.type "bool")=some false)
  (y_si:PySem.W.kitOne K (.type "str") (.type "int")=some false)
  (y_sl:PySem.W.kitOne K (.type "str") (.type "list")=some false)
  (y_st:PySem.W.kitOne K (.type "str") (.type "tuple")=some false)
  (y_lb:PySem.W.kitOne K (.type "list") (.type "bool")=some false)
  (y_li:PySem.W.kitOne K (.type "list") (.type "int")=some false)
  (y_ll:PySem.W.kitOne K (.type "list") (.type "list")=some true)
  (y_lt:PySem.W.kitOne K (.type "list") (.type "tuple")=some false)
  (y_tb:PySem.W.kitOne K (.type "tuple") (.type "bool")=some false)
  (y_ti:PySem.W.kitOne K (.type "tuple") (.type "int")=some false)
  (y_tl:PySem.W.kitOne K (.type "tuple") (.type "list")=some false)
  (y_tt:PySem.W.kitOne K (.type "tuple") (.type "tuple")=some true)
  (y_db:PySem.W.kitOne K (.type "dict") (.type "bool")=some false)
  (y_di:PySem.W.kitOne K (.type "dict") (.type "int")=some false)
  (y_dl:PySem.W.kitOne K (.type "dict") (.type "list")=some false)
  (y_dt:PySem.W.kitOne K (.type "dict") (.type "tuple")=some false) :
  ∃ (fd:FuncData) (tabs:List (Addr×Str)),(∀ (s:Shared) (v:Value),BindsTo s fd ⟨[v],[]⟩ [("_law_script",v)])/\(∀ p∈tabs,p.1∈([dW]:La)/\K.lookup p.1=none/\∃ c,PySem.W.CodeHd h c p.1)/\∀ base:Heap,K.In base->base.Ns mainGlobals mg->(∀ P q,tabs.lookup P=some q->kT base P q)->aM l.prog w K mg base CX0 11 fa fd ["_law_script"] (sA K):=by
 have e:=hfa.symm.trans (PySem.W.mg_of X G F42.n);cases e;obtain⟨oc,od,kV,dc,pm,an,cd,ct,sl,rfl,lk,hc⟩:=F42.F.ex;have T:Txt w K mg ⟨aR,bp,eQ,aW,bg,aV,aK,cm,f0,d0,f1,d1,f2,d2,f3,d3,f4,d4,f5,d5,f6,d6,f7,d7,f8,d8,f9,d9,f10,d10,f11,d11,f12,d12,f13,d13,f14,d14,f15,d15,f16,d16,f17,d17,f18,d18,f19,d19,f20,d20,f21,d21,f22,d22,f23,d23,f24,d24,f25,d25,f26,d26,f27,d27,f28,d28,f29,d29,f30,d30,f31,d31,f32,d32,f33,PySem.W.fnOf "inner" "inner" (e_ cF) (cT cF) (ah cF) .none kV33 dc33 pm33 an33 (.ref eY) ct33,f34,d34,f35,d35,f36,d36,f37,d37,f38,d38,f39,d39,f40,d40,f41,d41,fa,_,eY,dW⟩:=⟨⟨pg_Guessed,hd_Guessed,po_Guessed,sa_Guessed⟩,
  PySem.W.mg_of X G aC_Guessed,
  ⟨mk_Guessed,in_Guessed,kc_Guessed⟩,
  ⟨pg_Halves,hd_Halves,po_Halves,sa_Halves⟩,
  PySem.W.mg_of X G aC_Halves,
  ⟨mk_Halves,in_Halves,kc_Halves⟩,
  ⟨pg_Leaning,hd_Leaning,po_Leaning,sa_Leaning⟩,
  PySem.W.mg_of X G aC_Leaning,
  ⟨mk_Leaning,in_Leaning,kc_Leaning⟩,
  ⟨pg_Plan,hd_Plan,po_Plan,sa_Plan⟩,
  PySem.W.mg_of X G aC_Plan,
  ⟨pg_Sums,hd_Sums,po_Sums,sa_Sums⟩,
  PySem.W.mg_of X G aC_Sums,
  ⟨mk_Sums,in_Sums,kc_Sums⟩,
  n_Plan_chosen,
  n_Plan_corners,
  n_Plan_letters,
  ⟨PySem.W.mg_of X G q_ALONG_PILLARS,fun F=>.inr ⟨_,_,_,lk_ALONG_PILLARS,rfl,rfl,z2,.cons ⟨_,rfl⟩ (.cons ⟨_,rfl⟩ (.nil))⟩⟩,
  ⟨PySem.W.mg_of X G q_ALONG_ROWS,fun F=>.inr ⟨_,_,_,lk_ALONG_ROWS,rfl,rfl,z2,.cons ⟨_,rfl⟩ (.cons ⟨_,rfl⟩ (.nil))⟩⟩,
  ⟨PySem.W.mg_of X G q_MARKS,⟨_,_,lk_MARKS,kk_MARKS⟩,it_MARKS_sum,it_MARKS_half,it_MARKS_guess,it_MARKS_lean,trivial⟩,
  ⟨y_bs,y_is,y_ns,y_ss,y_ls,y_ts,y_ds⟩,
  fx X G F0 (by walk_at "bn"),
  fx X G F1 (by walk_at "bn"),
  fx X G F2 (by walk_at "bn"),
  fy F3 (by walk_at "bn"),
  fy F4 (by walk_at "bn"),
  fy F5 (by walk_at "bn"),
  fy F6 (by walk_at "bn"),
  fx X G F7 (by walk_at "bn"),
  fx X G F8 (by walk_at "bn"),
  fx X G F9 (by walk_at "bn"),
  fx X G F10 (by walk_at "bn"),
  fx X G F11 (by walk_at "bn"),
  fy F12 (by walk_at "bn"),
  fy F13 (by walk_at "bn"),
  fy F14 (by walk_at "bn"),
  fy F15 (by walk_at "bn"),
  fy F16 (by walk_at "bn"),
  fy F17 (by walk_at "bn"),
  fy F18 (by walk_at "bn"),
  fy F19 (by walk_at "bn"),
  fy F20 (by walk_at "bn"),
  fy F21 (by walk_at "bn"),
  fx X G F22 (by walk_at "bn"),
  fx X G F23 (by walk_at "bn"),
  fx X G F24 (by walk_at "bn"),
  fx X G F25 (by walk_at "bn"),
  fx X G F26 (by walk_at "bn"),
  fx X G F27 (by walk_at "bn"),
  fx X G F28 (by walk_at "bn"),
  fx X G F29 (by walk_at "bn"),
  fx X G F30 (by walk_at "bn"),
  fx X G F31 (by walk_at "bn"),
  fx X G F32 (by walk_at "bn"),
  ⟨(tP (st:=cF) l33 c33 k33),(tP (st:=cF) l33 c33 k33).binds (by walk_at "bn"),PySem.W.mg_of X G a33⟩,
  rfl,
  k_hd_inner,
  fx X G F34 (by walk_at "bn"),
  fx X G F35 (by walk_at "bn"),
  fx X G F36 (by walk_at "bn"),
  fx X G F37 (by walk_at "bn"),
  fx X G F38 (by walk_at "bn"),
  fx X G F39 (by walk_at "bn"),
  fx X G F40 (by walk_at "bn"),
  fx X G F41 (by walk_at "bn"),
  fx X G F42 (by walk_at "bn"),
  ⟨mk_Plan,F12.m,F12.i,kc_Plan⟩,
  F5.me,
  F4.me,
  F6.me,
  F13.me,
  F14.me,
  F15.me,
  F16.me,
  F17.me,
  F18.me,
  F19.me,
  F20.me,
  F21.me,
  F3.me,
  ⟨_,PySem.W.mg_of X G q_MOST_PLACES⟩,
  ⟨_,PySem.W.mg_of X G q_MOST_SIDE⟩,
  PySem.W.mg_none_of X G z_bool,
  PySem.W.mg_none_of X G z_enumerate,
  PySem.W.mg_none_of X G z_int,
  PySem.W.mg_none_of X G z_isinstance,
  PySem.W.mg_none_of X G z_len,
  PySem.W.mg_none_of X G z_list,
  PySem.W.mg_none_of X G z_max,
  PySem.W.mg_none_of X G z_min,
  PySem.W.mg_none_of X G z_range,
  PySem.W.mg_none_of X G z_repr,
  PySem.W.mg_none_of X G z_reversed,
  PySem.W.mg_none_of X G z_str,
  PySem.W.mg_none_of X G z_tuple,
  PySem.W.mg_none_of X G z_zip,
  ⟨y_bb,y_bi,y_bl,y_bt,y_ib,y_ii,y_il,y_it,y_nb,y_ni,y_nl,y_nt,y_sb,y_si,y_sl,y_st,y_lb,y_li,y_ll,y_lt,y_tb,y_ti,y_tl,y_tt,y_db,y_di,y_dl,y_dt⟩⟩
 exact⟨_,[(dW,Str.ofString "inner.<locals>.<lambda>")],fun s v=>.of_eq rfl,fun p hp=>(by cases hp with | head=>exact⟨.head _,k_kp_inner,_,PySem.W.codeHd_of_K X k_hd_inner⟩ | tail _ z=>nomatch z),fun base _ _ hM=>FJ T (hM _ _ (by rw[List.lookup_cons,beq_self_eq_true]))⟩
theorem walk {l:PySem.W.OpenLaw} {q:Program} {loose:Ls} {XP:(SV)->Heap->Prop} {YP:World->Heap->Prop} {d:DefRec} {K:Params->Fg0} {ts:La} (hn:l.most=some 63) (hdf:d.params.defaults=[])
  (hY:∀ (w:World) (h:Heap),YP w h->(K w.params).In h/\∀ P∈ts,h.get? P=some (PySem.W.tabObj #[]))
  (F:∀ (w:World) (mg:SV) (fa:Addr) (h:Heap),(K w.params).In h->h.Ns mainGlobals mg->mg d.name=some (.ref fa)->
   ∃ (fd:FuncData) (tabs:List (Addr×Str)),(∀ (s:Shared) (u:Value),BindsTo s fd ⟨[u],[]⟩ [("_law_script",u)])/\(∀ p∈tabs,p.1∈ts/\(K w.params).lookup p.1=none/\∃ c,PySem.W.CodeHd h c p.1)/\
    ∀ base:Heap,(K w.params).In base->base.Ns mainGlobals mg->(∀ P q,tabs.lookup P=some q->kT base P q)->aM l.prog w (K w.params) mg base CX0 11 fa fd ["_law_script"] (sA (K w.params))) :
  PySem.W.WalkO q loose XP YP l.row.toRowW d [] (fun f vs=>PySem.call f vs):=
 L2.y4 (n:=63) (k:=11) (x:="_law_script") (CX:=fun _=>CX0) (sp:=sA) hn (by decide) hdf ⟨rfl,by decide,by decide,rfl⟩ hY F (fun _ _ a ns hl _ hS=>⟨a,ns,rfl,hS,hl,fun _=>rfl⟩) fun _ _ _ _ _ z=>z
end
end K74
local macro_rules | `(tactic| walk_at "fk")=>`(tactic| first | (refine' L2.FN.mk ?k1 ?k2;(case k1=>k_is);(case k2=>refine' L2.tP ?k3 ?k4 ?k5;(case k3=>k_is);(case k4=>k_is);(case k5=>k_is))) | (refine' L2.FM.mk ?k1 ?k6 ?k2;(case k1=>k_is);(case k6=>k_is);(case k2=>refine' L2.tP ?k3 ?k4 ?k5;(case k3=>k_is);(case k4=>k_is);(case k5=>k_is))))
set_option genInjectivity false in
set_option genSizeOf false in
structure PySem.W.Fast:Prop where
 (tw14605535557911851482 tw11054473992871023635 tw6184756042255790464 tw18112980263428806932 tw17189304438035724042 tw9811194239400500576 tw12675246382162775864 tw2026425584700349323 tw2855833398760332185 tw11000962610367823227 tw11545118545122591757 tw17154893237959513143 tw18352106741418805029 tw16776623459020929067 tw1437301829150316903 tw15943916995385524670 tw5197047183238764014 tw8463752911192139982 tw7470348588426150546 tw15936414301143217298 tw12368900081308485005 tw12497160270889047039 tw17839592426739245475 tw5581494013262535300 tw2422199936393214175 tw2736742154109988507 tw2055260269573382262 tw9570554274940914441 tw10501084525548737378 tw1118662761073990595 tw11437539264263319593 tw704423484299685353 tw16140915628327295480 tw15400586696878216398 tw12469829699964241314 tw1793816108715692400 tw919553583183514495 tw5063015223347518426 tw10341684774501195996 tw18439615847458126321 tw2527101702944757796 tw4502621954373360294 tw13424432429686909882 tw13995595871126152762 tw8490202517761630696 tw14713890714915114594 tw5193570958684879692 tw16011698130173190165 tw3579208070317847900 tw2131638998471898923 tw4581414790646337919 tw12473291373018020118 tw4052159542675675106 tw10796267433427055411 tw7775900284777100490 tw8263802653504685245 tw7635223399086536474 tw7532732870225811572 tw16328936347212612378 tw2800294991909599450 tw15697514382119404713 tw5367365569120076375 tw3176527001327120651 tw1211185538461502662 tw12429901534187099129 tw2164525552595937410 tw13108584532528148394 tw9184653462581742001 tw1318436043756038452 tw7949250638933064321 tw6517670358045521661 tw13684153583831153717 tw9192919214692611307 tw10185096412517772757 tw1020466745816250923 tw18354962132586549889 tw17012025749982712980 tw7836984004166002037 tw12677827458701026294 tw14067187443951808171 tw5494261745225477314 tw4775069209494736103 tw15012754748076274818 tw16894105918927876498 tw7891921071771770357 tw14769577195418192016 tw17298550697659272706 tw6756805228802668947 tw13997762975481692332 tw6475609099772162987 tw2715891227465180757 tw697613701801620 tw12352993073208087056 tw3359241966267459641 tw15465002466343243492 tw2442419993331423364 tw15254469197901844182 tw11952974134387154893 tw8509036974875351893 tw16852089313866183510 tw6152418747489737775 tw8543187074274394076 tw3600056704989594577 tw12996975712910055600 tw17291227468653526231 tw3855902455440685311 tw15519146835284394511 tw10350507997428555376 tw798407729646826823 tw18262096282500929301 tw7869250991041128720 tw14960345563110900952 tw6071682582838743287 tw2693753329932227204 tw14320919278328014462 tw3132255438043949396 tw5004685903729258537 tw17807004579335266366 tw864620142520738528 tw7210043007261439027 tw8269950823334121825 tw11306990138951390989 tw15058174375137388809 tw16841984967101142458 tw13120479040593992105 tw16979473321867340234 tw3713783246250854270 tw810704773131621528 tw17751824933860012565 tw4737711957108393620 tw1318501273954719814 tw2675556482942192809 tw12368686777711329449 tw1324795562292255338 tw5982899919080811006 tw652612969479776862 tw602459866252915791 tw11719959347196446629 tw2503862212703983502 tw12986216015365300035 tw10504658166330197904 tw15728560806780723709 tw15058714407571253303 tw17634465399094787281 tw9367530667008718510 tw2480235950834905219 tw14097212784270260334 tw13776044212162885024 tw16873538763913233609 tw2501068859674606987 tw10593794417210012691 tw17749939666305838815 tw2609984997849939639 tw16110939431539537485 tw14902608667714398046 tw13929472492336006822 tw16208753644363409111 tw17892046520711260171 tw7076346573993932607 tw16988358078001693519 tw6482156463491250449 tw7644501241857069850 tw14041642966426282572 tw9856904199492578722 tw9291804612368868789 tw11372791077429292403 tw5168958116977786837 tw6397777241456135054 tw11920675737488834648 tw10088430370704202807 tw464265993449790160 tw13006522587954968340 tw1911528071215886645 tw1949327100153301143 tw17615319495961186941 tw3459678605678076689 tw12319180911319027761 tw16274072534130233724 tw9748626009293141791 tw12115006564782159279 tw9706342097166462662 tw8457919489755069293 tw15803818679833177745 tw17900354491774008079 tw12345705572413315758 tw13431734600511780863 tw14565589056666441994 tw3281829741688355040 tw5675876054408762362 tw16529537380832719247 tw4598737548550869763 tw12172662364502067762 tw8482813670791276296 tw12241410775388130396 tw15702381853334826401 tw10855399177249236872 tw17991964818280787680 tw3751184665069768872 tw9700417474036328705 tw5349605745621784698 tw582033994076872945 tw13625049743161846113 tw16041485849187355683 tw14046376417880349548 tw14478745190013555933 tw18263697616108524909 tw7716741312577100751 tw16603927121259133449 tw5005476018987569377 tw18052491139690742325 tw10605697110862682424 tw12895449096926205344 tw3658956857283080105 tw9626135805379545183 tw2408449981725924155 tw1318880940746505284 tw12777808907560558581 tw2318273346287010864 tw8856489951965529235 tw14915377132000685651 tw6034720632130584096 tw3517747910138865799 tw16366035228410399028 tw5133749571008898692 tw14358610336545431656 tw7948260715111920255 tw6501252697772276353 tw16576580862308815610 tw18300636165595238786 tw17089845059937070485 tw1691023561032677282 tw10620480334600654137 tw15209833261084375844 tw7588625814855140522 tw13058212481538812594 tw126143374331828004 tw17341811070164460283 tw2909091758674912234 tw7503175657911812381 tw121009844230537223 tw11419263160908315222 tw13290268234125333297 tw17596624435266399393 tw5939263304477196878 tw12224054606064206407 tw6834305278963817390 tw8243679945504580913 tw3212921808882985720 tw981997686276176840 tw17119644306025298073 tw8068557032230013856 tw1412870682464317622 tw17801023780076298055 tw6536632040911241692 tw13299017730885531924 tw11802908431093487118 tw11236594929521184350 tw7533366650176646091 tw3990467021264672454 tw7690668837641532265 tw7458776047276853669 tw4750584477692978163 tw15687952758169084410 tw13081061080775649624 tw63582032241135554 tw17898696349963305796 tw8326743620021943822 tw13450843939521565431 tw13807668171583661473 tw9421311242239267204 tw17081669130832705878 tw1427540140606798079 tw10303491627149644544 tw5820653672186218391 tw12446100745268499494 tw15165457085051069861 tw12572628577553826420 tw2460551200474079753 tw17040478239476177959 tw17132001444059532528 tw18311043747554985934 tw13779891311764453845 tw14975041495225236426 tw6148950361770973217 tw9056838820099269611 tw17825004721119189946 tw10105078712936734166 tw14775746338186371232 tw9984848320242055147 tw915500751183814857 tw16179921127579098766 tw7981669272032550100 tw6256510554650600512 tw18402963720309881932 tw7952084008059581819 tw15541316889907875520 tw2676157502100269368 tw11147776692443540736 tw5732336325330878869 tw10123998049249933705 tw9306419796345390320 tw18307150953814455476 tw17703107197795180168 tw11283290991609822288 tw4910308287650804604 tw8647295904056793885 tw6405506346475404697 tw6786501421666601933 tw8034628216145554453 tw3170063398996814384 tw3013910460887592214 tw11709716864839009953 tw9347385784271312918 tw11860538566377522124 tw4768054853097018727 tw11383855955752167671 tw17528816392418226889 tw1095554786428487638 tw7914937693937673805 tw4721258380847520364 tw7471204419002884723 tw14509077396687750875 tw3606728230400278094 tw6252723247030962379 tw16481600895010085313 tw13308267642784893326 tw660191882524850836 tw4365985005195012315 tw4248999423088024591 tw12751067295425776144 tw5219676502387483793 tw125588336709257723 tw15710828299008040948 tw11268738103698940483 tw2493041293873077833 tw17716923066088898477 tw13920384453720074895 tw12350110837028471948 tw13386147882608000604 tw6749873838686412753 tw8866135271193649985 tw12205434837302636704 tw2441881631538255592 tw2046254035334665391 tw3398323655317496417 tw17682004687973536014 tw10784191029446141920 tw10244069172285501290 tw14880523693088852121 tw11485655360121032778 tw6357134494427468880 tw12079006711517425251 tw14322363340884848127 tw13160190592148637424 tw3623840797402966130 tw17168647659521814744 tw10294738863393918580 tw5318394060827918472 tw9023540448210314004 tw17337532800825332383 tw15890884365610953502 tw14500921828578195663 tw15584675754891751080 tw4084703805266839110 tw6766720714250021550 tw11907057233655184586 tw10600877469943811460 tw3121014207004875511 tw18054454557689185393 tw7785610528093288823 tw11634566237549647275 tw8217408709182649542 tw18253846628196550217 tw3328245499216031478 tw4818700584978074944 tw8462148669233980978 tw8475283906894229974 tw7097771821992864151 tw2685702130259006928 tw5755664532046899444 tw11646182024906994154 tw6261573698324064143 tw9941213327305726751 tw1564460004082701457 tw2928415402655731155 tw15644384447540170424 tw15632911660295090884 tw12365397644648876873 tw10750674307198901186 tw16937214499482707994 tw2831426668743342595 tw14005898396466343286 tw1007285947054091055 tw2246855918392939054 tw8335642690367288278 tw11480826792552469602 tw6176024463364715924 tw9613168798375320439 tw3596073212284063020 tw11303736094577926816 tw7241937169772057132 tw14043932266622458319 tw7649805296976326785 tw15639312561242414605 tw17946540913415277889 tw12544835310776757811 tw16134142036973003175 tw17583427972416101664 tw16113109514581033789 tw212453129801642661 tw3462449005544241620 tw602819572756773788 tw14367756490427128744 tw12883948597103060668 tw14633506263932269403 tw1305486584824782958 tw8101465362793160596 tw18382659092057808433 tw16829179272521019346 tw4111553226022646023 tw935536251423819992 tw1514153923453440772 tw18121741750176898087 tw9854352322576354636 tw10832792600094226531 tw17765517208749100483 tw1139892524760664424 tw17727813614436868492 tw13895463383560397562 tw12715143271384761969 tw2177334943832477400 tw1905276328033898673 tw891313291472930444 tw1529924577051602883 tw17223684857098473187 tw8577397784827354990 tw7456292619659151014 tw14684114072101207130 tw11711676163763420578 tw7707327686564133634 tw14711738036844212603 tw11949840597251120262 tw7169527402348260747 tw12900818372368347220 tw15675227848371830165 tw11274723678760123482 tw12794677171236050443 tw13298206045158259563 tw18200460632248689634 tw13028226265257053202 tw16330151818522785627 tw4916776606335058 tw2628658366362735608 tw18433707136652754498 tw972473414321175878 tw9603065173291743947 tw10648276475579924806 tw2647669191540600410 tw6092050156384113483 tw13493119127274033685 tw39020667799507856 tw11289704334258755213 tw4161860515651080358 tw13090676634591120808 tw10892876290969641936 tw13395872220758362694 tw3698880578458070806 tw453051784930924874 tw16404263580709842986 tw2315386905394802209 tw11210758749684968993 tw4967112994706950538 tw6954863952434532109 tw11277530409874798841 tw326445971385131936 tw204493249984372298 tw3101040784354712475 tw2663585656230060742 tw16303657576474370709 tw2287199418953568312 tw18024530624247155110 tw14790759231853228806 tw8419562619561301203 tw15511374191239528512 tw12988197075508564531 tw11143256274755629637 tw2763017875692549536 tw5951857622508503333 tw3037201865646562496 tw1521317515085752271 tw3651643946474887525 tw16788977757598433989 tw17361919600017652557 tw1989793807776584693 tw13431116802224098477 tw9454621580706222505 tw9267972759589188339 tw272274388620933609 tw6418683726191728345 tw12634965142893150587 tw16261148540580045231 tw18260541279658446313 tw16042439916111195621 tw17884506848649456223 tw8571556466610313535 tw6864460852709736261 tw969957578518571849 tw5676304474510954089 tw11610594184738579903 tw12521397664747000360 tw16535677035758063397 tw5343980594898217076 tw8393901222026086911 tw6721730475188583327 tw11936926936760067343 tw14279595974109731871 tw8121409829457810565 tw9631430569069276402 tw17710534170091003908 tw8728525606852771641 tw4864532698642455326 tw13257577334612074212 tw17047991604122049577 tw5051369731675990391 tw7786419123520783887 tw13091721833633854558 tw13455610464390445796 tw678106629007393508 tw2881345178368589886 tw4797849792984772728 tw11062845670604275707 tw568199932929356566 tw5864962830600441353 tw17416249492655645193 tw14924558411255770109 tw2407009653083860381 tw11639709304122464795 tw16716302319987502770 tw4444982421290305309 tw619705936302523889 tw274505380262669308 tw5816063219964267770 tw8790772952080725767 tw6977224528312683036 tw1154378452908255484 tw5710306998676925692 tw10540335842282167900 tw8743552668007695832 tw1239979272434709271 tw17106824587073489764 tw10336920295184698488 tw16071274606573406759 tw17650863978319882268 tw4599142588192465480 tw17120787437484766300 tw14771299348602251560:True)
open PySem PySem.W PyProof.Rows
set_option maxRecDepth 100000 in
set_option maxHeartbeats 0 in
theorem PySem.Challenge.cw_halvedpictures_k74_inner_places_holds : PySem.Challenge.rw_halvedpictures_k74_inner_places.Holds := by
 w_on;o_law;k_head;(case hw=>w_witness2)
 k_fill
 refine K74.walk (l:=PySem.Challenge.rw_halvedpictures_k74_inner_places) rfl rfl (fun w h Y=>⟨PySem.W.km_in_of Y,PySem.W.km_tabs_of Y⟩) ?F
 case F=>
  intro w mg fa h KX G hmg
  refine' K74.all_mk KX G hmg ?aC_Guessed ?pg_Guessed ?hd_Guessed ?po_Guessed ?sa_Guessed ?mk_Guessed ?kc_Guessed ?in_Guessed ?aC_Halves ?pg_Halves ?hd_Halves ?po_Halves ?sa_Halves ?mk_Halves ?kc_Halves ?in_Halves ?aC_Leaning ?pg_Leaning ?hd_Leaning ?po_Leaning ?sa_Leaning ?mk_Leaning ?kc_Leaning ?in_Leaning ?aC_Plan ?pg_Plan ?hd_Plan ?po_Plan ?sa_Plan ?mk_Plan ?kc_Plan ?aC_Sums ?pg_Sums ?hd_Sums ?po_Sums ?sa_Sums ?mk_Sums ?kc_Sums ?in_Sums ?n_Plan_chosen ?n_Plan_corners ?n_Plan_letters ?q_ALONG_PILLARS ?lk_ALONG_PILLARS ?q_ALONG_ROWS ?lk_ALONG_ROWS ?q_MARKS ?lk_MARKS ?kk_MARKS ?it_MARKS_sum ?it_MARKS_half ?it_MARKS_guess ?it_MARKS_lean ?y_bs ?y_is ?y_ns ?y_ss ?y_ls ?y_ts ?y_ds ?F0 ?F1 ?F2 ?F3 ?F4 ?F5 ?F6 ?F7 ?F8 ?F9 ?F10 ?F11 ?F12 ?F13 ?F14 ?F15 ?F16 ?F17 ?F18 ?F19 ?F20 ?F21 ?F22 ?F23 ?F24 ?F25 ?F26 ?F27 ?F28 ?F29 ?F30 ?F31 ?F32 ?a33 ?l33 ?c33 ?k33 ?k_hd_inner ?k_kp_inner ?F34 ?F35 ?F36 ?F37 ?F38 ?F39 ?F40 ?F41 ?F42 ?q_MOST_PLACES ?q_MOST_SIDE ?z_bool ?z_enumerate ?z_int ?z_isinstance ?z_len ?z_list ?z_max ?z_min ?z_range ?z_repr ?z_reversed ?z_str ?z_tuple ?z_zip ?y_bb ?y_bi ?y_bl ?y_bt ?y_ib ?y_ii ?y_il ?y_it ?y_nb ?y_ni ?y_nl ?y_nt ?y_sb ?y_si ?y_sl ?y_st ?y_lb ?y_li ?y_ll ?y_lt ?y_tb ?y_ti ?y_tl ?y_tt ?y_db ?y_di ?y_dl ?y_dt
  (case aC_Guessed | pg_Guessed | hd_Guessed | po_Guessed | sa_Guessed | mk_Guessed | kc_Guessed | in_Guessed | aC_Halves | pg_Halves | hd_Halves | po_Halves=>k_is)
  (case sa_Halves | mk_Halves | kc_Halves | in_Halves | aC_Leaning | pg_Leaning | hd_Leaning | po_Leaning | sa_Leaning | mk_Leaning | kc_Leaning | in_Leaning=>k_is)
  (case aC_Plan | pg_Plan | hd_Plan | po_Plan | sa_Plan | mk_Plan | kc_Plan | aC_Sums | pg_Sums | hd_Sums | po_Sums | sa_Sums=>k_is)
  (case mk_Sums | kc_Sums | in_Sums | n_Plan_chosen | n_Plan_corners | n_Plan_letters | q_ALONG_PILLARS | lk_ALONG_PILLARS | q_ALONG_ROWS | lk_ALONG_ROWS | q_MARKS | lk_MARKS=>k_is)
  (case kk_MARKS=>k_keys)
  (case it_MARKS_sum | it_MARKS_half | it_MARKS_guess | it_MARKS_lean=>k_is)
  (case y_bs | y_is | y_ns | y_ss | y_ls | y_ts | y_ds=>kit_is)
  (case F0 | F1 | F2 | F3 | F4 | F5 | F6 | F7 | F8 | F9 | F10 | F11=>walk_at "fk")
  (case F12 | F13 | F14 | F15 | F16 | F17 | F18 | F19 | F20 | F21 | F22 | F23=>walk_at "fk")
  (case F24 | F25 | F26 | F27 | F28 | F29 | F30 | F31 | F32=>walk_at "fk")
  (case a33 | l33 | c33 | k33=>k_is)
  (case k_hd_inner | k_kp_inner=>first | k_is | kernel_rfl)
  (case F34 | F35 | F36 | F37 | F38 | F39 | F40 | F41 | F42=>walk_at "fk")
  (case q_MOST_PLACES | q_MOST_SIDE | z_bool | z_enumerate | z_int | z_isinstance | z_len | z_list | z_max | z_min | z_range | z_repr=>k_is)
  (case z_reversed | z_str | z_tuple | z_zip=>k_is)
  (case y_bb | y_bi | y_bl | y_bt | y_ib | y_ii | y_il | y_it | y_nb | y_ni | y_nl | y_nt=>kit_is)
  (case y_sb | y_si | y_sl | y_st | y_lb | y_li | y_ll | y_lt | y_tb | y_ti | y_tl | y_tt=>kit_is)
  (case y_db | y_di | y_dl | y_dt=>kit_is)
